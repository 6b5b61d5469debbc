/- A message's bytes say which message it is. -/
import Derived.Test.YteloaidnfcmadaaStRdr
namespace Go.Proofs.Yteloaidnfcmadaa
set_option linter.unusedVariables false

/-- An attribute whose numbers fit. -/
structure AtOk (a : At) : Prop where
  t0 : 0 ≤ a.ty
  t1 : a.ty < 65536
  len : a.val.length < 65536
theorem be2_inj {x y : Int} (hx : 0 ≤ x ∧ x < 65536) (hy : 0 ≤ y ∧ y < 65536) (h : be2 x = be2 y) : x = y := by
  simp only [be2, List.cons.injEq, and_true] at h
  omega
theorem at_prefix {a a' : At} {x y : List Int} (ha : AtOk a) (ha' : AtOk a') (h : atBytes a ++ x = atBytes a' ++ y) : a = a' ∧ x = y := by
  have h1 := ha.len
  have h2 := ha'.len
  obtain ⟨ty, val⟩ := a
  obtain ⟨ty', val'⟩ := a'
  simp only [atBytes, be2, List.cons_append, List.nil_append, List.append_assoc, List.cons.injEq] at h
  obtain ⟨e1, e2, e3, e4, e5⟩ := h
  have ht : ty = ty' := by
    have b1 := ha.t0
    have b2 := ha.t1
    have b3 := ha'.t0
    have b4 := ha'.t1
    simp only at b1 b2 b3 b4
    omega
  have hl : val.length = val'.length := by
    simp only at h1 h2
    omega
  obtain ⟨v1, v2⟩ := List.append_inj e5 hl
  rw [hl] at v2
  exact ⟨by rw [ht, v1], List.append_cancel_left v2⟩
theorem at_len (a : At) : 4 ≤ (atBytes a).length := by rw [atBytes_length]; unfold atSize; omega
/-- What goes on as body L' and began with body L goes on with attributes. -/
theorem body_prefix {L L' : List At} {r : List Int} (h : ∀ a ∈ L, AtOk a) (h' : ∀ a ∈ L', AtOk a) (e : body L' = body L ++ r) : ∃ L2, L' = L ++ L2 ∧ body L2 = r ∧ ∀ a ∈ L2, AtOk a := by
  induction L generalizing L' with
  | nil => exact ⟨L', rfl, by simpa [body] using e, h'⟩
  | cons a l ih =>
    cases L' with
    | nil =>
      have := at_len a
      have h2 : (body ([] : List At)).length = (body (a :: l) ++ r).length := by rw [e]
      simp [body] at h2
      omega
    | cons a' l' =>
      simp only [body, List.append_assoc] at e
      obtain ⟨e1, e2⟩ := at_prefix (h' a' List.mem_cons_self) (h a List.mem_cons_self) e
      obtain ⟨L2, e3, e4, e5⟩ := ih (fun x hx => h x (List.mem_cons_of_mem _ hx)) (fun x hx => h' x (List.mem_cons_of_mem _ hx)) e2
      exact ⟨L2, by rw [e1, e3]; rfl, e4, e5⟩
theorem body_nil {L : List At} (h : body L = []) : L = [] := by
  cases L with
  | nil => rfl
  | cons a l =>
    have := at_len a
    have h2 : (body (a :: l)).length = 0 := by rw [h]; rfl
    rw [show body (a :: l) = atBytes a ++ body l from rfl, List.length_append] at h2
    omega
theorem body_inj {L L' : List At} (h : ∀ a ∈ L, AtOk a) (h' : ∀ a ∈ L', AtOk a) (e : body L = body L') : L = L' := by
  obtain ⟨L2, e1, e2, _⟩ := body_prefix h h' (r := []) (by rw [List.append_nil, e])
  rw [body_nil e2, List.append_nil] at e1
  exact e1.symm

/-- A message whose numbers fit. -/
structure Nice (m : Msg) : Prop where
  c0 : 0 ≤ m.cl
  c3 : m.cl ≤ 3
  m0 : 0 ≤ m.me
  m4 : m.me ≤ 4095
  id12 : m.id.length = 12
  ats : ∀ a ∈ m.at_, AtOk a
theorem nice_of {m : Msg} (hv : Valid m) (hf : Fine m) : Nice m := ⟨hv.c0, hv.c3, hv.m0, hv.m4, hf.id12, fun a ha => ⟨(hf.tys a ha).1, (hf.tys a ha).2, by have := hv.vals a ha; omega⟩⟩
theorem msg_inj {m m' : Msg} (h : Nice m) (h' : Nice m') (e : msgBytes m = msgBytes m') : m = m' := by
  obtain ⟨cl, me, id, at_⟩ := m
  obtain ⟨cl', me', id', at'⟩ := m'
  have k1 := kind_in cl me h.c0 h.c3 h.m0 h.m4
  have k2 := kind_in cl' me' h'.c0 h'.c3 h'.m0 h'.m4
  simp only [msgBytes] at e
  obtain ⟨e1, e2⟩ := List.append_inj e (by simp)
  have ek := be2_inj (by omega) (by omega) e1
  obtain ⟨_, e3⟩ := List.append_inj e2 (by simp)
  obtain ⟨_, e4⟩ := List.append_inj e3 (by simp)
  obtain ⟨e5, e6⟩ := List.append_inj e4 (by rw [h.id12, h'.id12])
  have hc : cl = cl' := by rw [← clOf_kind cl me h.c0 h.c3 h.m0 h.m4, ← clOf_kind cl' me' h'.c0 h'.c3 h'.m0 h'.m4, ek]
  have hm : me = me' := by rw [← meOf_kind cl me h.c0 h.c3 h.m0 h.m4, ← meOf_kind cl' me' h'.c0 h'.c3 h'.m0 h'.m4, ek]
  have ha : at_ = at' := body_inj h.ats h'.ats e6
  rw [hc, hm, ha]
  congr 1
/-- What of a message's bytes is behind the first 8. -/
theorem msg_cons (m : Msg) : msgBytes m = be2 (kindOf m.cl m.me) ++ (be2 (body m.at_).length ++ ([33, 18, 164, 66] ++ (m.id ++ body m.at_))) := rfl

/-- The bytes xs are the message m's, or no message's. -/
def Is (xs : List Int) (m : Msg) : Prop := Valid m ∧ Fine m ∧ msgBytes m = xs
def IsNone (xs : List Int) : Prop := ∀ m, ¬ Is xs m
theorem Is.same {xs : List Int} {m m' : Msg} (h : Is xs m) (h' : Is xs m') : m = m' := msg_inj (nice_of h.1 h.2.1) (nice_of h'.1 h'.2.1) (h.2.2.trans h'.2.2.symm)
end Go.Proofs.Yteloaidnfcmadaa
