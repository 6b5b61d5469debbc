/- A region that draws its order, whose loads are taken first although its LAST operations store into their cells: what is known of the world hangs on which operations have come up (T), and a load is known to come ahead of a store that waits for it. Nothing of the program. -/
import Derived.OrdersHeld
import Derived.WalkKit
import Derived.Lib.Hide
namespace Go.Proofs.Ytapbodiakkdfmaa
open Go Go.RowKit
set_option linter.unusedVariables false

section
variable {P : Program} {ops : Array Oper} {Q : Exit → Act → World → Prop} {md : Region.Mode} {T : Array Bool → World → Prop}

/-- Whatever order is picked from here on; T of what has come up and of the world holds behind each operation. -/
def wpLate (P : Program) (md : Region.Mode) (ops : Array Oper) (Q : Exit → Act → World → Prop) (T : Array Bool → World → Prop) : Nat → Array Bool → Act → World → Prop
  | 0, L, a, w => Region.ready md ops L = [] ∧ Q .normal a w
  | n + 1, L, a, w => (Region.ready md ops L = [] → Q .normal a w) ∧
    ∀ i ∈ Region.ready md ops L, wpOp P ops Q i (fun a' w' => T (L.setIfInBounds i true) w' ∧ wpLate P md ops Q T n (L.setIfInBounds i true) a' w') a w

theorem wpLate.any : ∀ (n : Nat) (L : Array Bool) (a : Act) (w : World), wpLate P md ops Q T n L a w → wpAny P md ops Q n L a w
  | 0, _, _, _, h => h
  | n + 1, _, _, _, h => ⟨h.1, fun i hi => wpOp_mono (fun _ _ k => wpLate.any n _ _ _ k.2) (h.2 i hi)⟩

/-- The worlds of which T is known while q has not come up. -/
def Ahead (T : Array Bool → World → Prop) (q : Nat) (w : World) : Prop := ∃ L : Array Bool, L.getD q true = false ∧ T L w

/-- Does q wait for i, directly? -/
def waits (md : Region.Mode) (ops : Array Oper) (q i : Nat) : Bool := (ops[q]?.map fun o => o.after.toList.any fun e => Region.binds md e && e.on == i) == some true
theorem waits_spec {q i : Nat} (h : waits md ops q i = true) : ∃ o, ops[q]? = some o ∧ ∃ e ∈ o.after, Region.binds md e = true ∧ e.on = i := by
  unfold waits at h
  cases ho : ops[q]? with
  | none => rw [ho] at h; simp at h
  | some o =>
    rw [ho] at h
    have h' : (o.after.toList.any fun e => Region.binds md e && e.on == i) = true := by simpa using h
    obtain ⟨e, he, h1⟩ := List.any_eq_true.1 h'
    rw [Bool.and_eq_true, beq_iff_eq] at h1
    exact ⟨o, rfl, e, by simpa using he, h1.1, h1.2⟩

/-- i may be taken first, if what it yields is known of all worlds ahead of q, and q waits for i. -/
theorem wpLate.first {i q : Nat} {oi : Oper} {v : Value} (hi : ops[i]? = some oi) (hs : ∀ (j : Nat) (o : Oper) cs b, ops[j]? = some o → o.op ≠ .select cs b)
    (hQ : ∀ c a w, Q (.panic c) (a.put oi.dst v) w → Q (.panic c) a w) (hw : waits md ops q i = true) (hT : ∀ L w, T (L.setIfInBounds i true) w ↔ T L w) :
    ∀ (n : Nat) (L : Array Bool) (a : Act) (w : World),
      (∀ j oj, ops[j]? = some oj → j ≠ i → L.getD j true = false → (∀ e ∈ oj.after, Region.binds md e = true → e.on ≠ i) → oi.apart ops oj = true) →
      i ∈ Region.ready md ops L → L.getD q true = false → YieldsIf P ops (Ahead T q) oi v a → T L w →
      wpLate P md ops Q T n (L.setIfInBounds i true) (a.put oi.dst v) w → wpLate P md ops Q T (n + 1) L a w := by
  obtain ⟨oq, hoq, eq, heq, hb, hon⟩ := waits_spec hw
  intro n
  induction n with
  | zero =>
    intro L a w _ hr hq hy hTw H
    refine ⟨fun h => (by rw [h] at hr; cases hr), fun j hj => ?_⟩
    by_cases hji : j = i
    · subst hji; exact hy.wpOp hi ⟨L, hq, hTw⟩ ⟨(hT L w).2 hTw, H⟩
    · have := ready_mono hj hji
      rw [H.1] at this
      cases this
  | succ n ih =>
    intro L a w hfree hr hq hy hTw H
    refine ⟨fun h => (by rw [h] at hr; cases hr), fun j hj => ?_⟩
    by_cases hji : j = i
    · subst hji; exact hy.wpOp hi ⟨L, hq, hTw⟩ ⟨(hT L w).2 hTw, H⟩
    · have h1 := H.2 j (ready_mono hj hji)
      obtain ⟨hjun, oj, hoj, hall⟩ := mem_ready.1 hj
      have hnot : ∀ e ∈ oj.after, Region.binds md e = true → e.on ≠ i := fun e he hb2 he2 => by
        have g1 := hall e he hb2
        have g0 := (mem_ready.1 hr).1
        rw [he2] at g1
        rcases Nat.lt_or_ge i L.size with h' | h'
        · simp [h'] at g0 g1; rw [g0] at g1; cases g1
        · simp [Array.getElem?_eq_none h'] at g1
      have hjq : j ≠ q := by
        rintro rfl
        rw [hoq] at hoj
        cases hoj
        exact hnot eq heq hb hon
      have h2 := wpOp_putIf hoj (hfree j oj hoj hji hjun hnot) (fun cs b => hs i oi cs b hi) (fun cs b => hs j oj cs b hoj) hQ hy h1
      refine wpOp_mono (fun a' w' h3 => ?_) h2
      rw [Array.setIfInBounds_comm _ _ (Ne.symm hji)] at h3
      have hT3 := (hT _ _).1 h3.2.1
      refine ⟨hT3, ih (L.setIfInBounds j true) a' w' (fun k ok hk hki hun hno => ?_) (ready_mono hr (Ne.symm hji)) (by rw [getD_set_ne true hjq]; exact hq) h3.1 hT3 h3.2.2⟩
      refine hfree k ok hk hki ?_ hno
      by_cases hjk : j = k
      · subst hjk; exact hjun
      · rw [getD_set_ne true hjk] at hun; exact hun

theorem wpLate.take {i q : Nat} {oi : Oper} {v : Value} {n : Nat} {L : Array Bool} {a : Act} {w : World} (hi : ops[i]? = some oi)
    (hs : Region.noSelect ops = true) (hf : Region.free md ops L i = true) (hr : (Region.ready md ops L).contains i = true) (hw : waits md ops q i = true) (hq : L.getD q true = false)
    (hQ : ∀ c a w, Q (.panic c) (a.put oi.dst v) w → Q (.panic c) a w) (hT : ∀ L w, T (L.setIfInBounds i true) w ↔ T L w) (hTw : T L w) (hy : YieldsIf P ops (Ahead T q) oi v a)
    (h : wpLate P md ops Q T n (L.setIfInBounds i true) (a.put oi.dst v) w) : wpLate P md ops Q T (n + 1) L a w :=
  wpLate.first hi (Region.noSelect_spec hs) hQ hw hT n L a w (Region.free_spec hi hf) (by simpa using hr) hq hy hTw h

/-- Each of rs comes up next. -/
def eachLate (P : Program) (md : Region.Mode) (ops : Array Oper) (Q : Exit → Act → World → Prop) (T : Array Bool → World → Prop) (n : Nat) (L : Array Bool) (a : Act) (w : World) (rs : List Nat) : Prop :=
  ∀ i ∈ rs, wpOp P ops Q i (fun a' w' => T (L.setIfInBounds i true) w' ∧ wpLate P md ops Q T n (L.setIfInBounds i true) a' w') a w
theorem eachLate.nil {n : Nat} {L : Array Bool} {a : Act} {w : World} : eachLate P md ops Q T n L a w [] := fun _ h => by cases h
theorem eachLate.cons {n : Nat} {L : Array Bool} {a : Act} {w : World} {i : Nat} {o : Oper} {rs : List Nat} (ho : ops[i]? = some o)
    (h : ∀ K' : Act → World → Prop, Hid (∀ a w, T (L.setIfInBounds i true) w → wpLate P md ops Q T n (L.setIfInBounds i true) a w → K' a w) → if Region.wanted o (yielded ops a.tmps) = true then Oper.wp P o a w K' Q else K' (a.put o.dst undef) w)
    (hs : eachLate P md ops Q T n L a w rs) : eachLate P md ops Q T n L a w (i :: rs) := fun j hj => by
  rcases List.mem_cons.1 hj with rfl | hj
  · exact wpOp_step ho (fun K' hK => h K' (Lib.hid fun a w h1 h2 => hK a w ⟨h1, h2⟩))
  · exact hs j hj
theorem wpLate.ready {rs : List Nat} {n : Nat} {L : Array Bool} {a : Act} {w : World} (hr : Region.ready md ops L = rs) (hne : rs ≠ []) (h : eachLate P md ops Q T n L a w rs) : wpLate P md ops Q T (n + 1) L a w :=
  ⟨fun h0 => absurd (hr ▸ h0) hne, hr ▸ h⟩
theorem wpLate.done {L : Array Bool} {a : Act} {w : World} (hr : Region.ready md ops L = []) (h : Q .normal a w) : ∀ n, wpLate P md ops Q T n L a w
  | 0 => ⟨hr, h⟩
  | _ + 1 => ⟨fun _ => h, by rw [hr]; simp⟩
theorem wp_region_late {id : Nat} {a : Act} {w : World} (T : Array Bool → World → Prop) (hm : P.follows .mixedOrders = true)
    (h : wpLate P .any ops Q T ops.size (Array.replicate ops.size false) a w.drew) : (Code.region id ops true).wp P Q a w :=
  wp_region_any hm (wpLate.any _ _ _ _ h)

/-- What holds all along, till q1 comes up, till q2 comes up. -/
def TillTwo (S0 S1 S2 : World → Prop) (q1 q2 : Nat) (L : Array Bool) (w : World) : Prop := S0 w ∧ (L.getD q1 true = false → S1 w) ∧ (L.getD q2 true = false → S2 w)
theorem TillTwo.set {S0 S1 S2 : World → Prop} {q1 q2 i : Nat} (h1 : i ≠ q1) (h2 : i ≠ q2) (L : Array Bool) (w : World) : TillTwo S0 S1 S2 q1 q2 (L.setIfInBounds i true) w ↔ TillTwo S0 S1 S2 q1 q2 L w := by
  unfold TillTwo
  rw [getD_set_ne true h1, getD_set_ne true h2]
theorem TillTwo.one {S0 S1 S2 : World → Prop} {q1 q2 : Nat} {w : World} (h : Ahead (TillTwo S0 S1 S2 q1 q2) q1 w) : S0 w ∧ S1 w := by
  obtain ⟨L, hL, h⟩ := h
  exact ⟨h.1, h.2.1 hL⟩
theorem TillTwo.two {S0 S1 S2 : World → Prop} {q1 q2 : Nat} {w : World} (h : Ahead (TillTwo S0 S1 S2 q1 q2) q2 w) : S0 w ∧ S2 w := by
  obtain ⟨L, hL, h⟩ := h
  exact ⟨h.1, h.2.2 hL⟩
theorem TillTwo.mk {S0 S1 S2 : World → Prop} {q1 q2 : Nat} {L : Array Bool} {w : World} (h0 : S0 w) (h1 : L.getD q1 true = true ∨ S1 w) (h2 : L.getD q2 true = true ∨ S2 w) : TillTwo S0 S1 S2 q1 q2 L w :=
  ⟨h0, fun e => h1.elim (fun e2 => by rw [e] at e2; cases e2) id, fun e => h2.elim (fun e2 => by rw [e] at e2; cases e2) id⟩
end

end Go.Proofs.Ytapbodiakkdfmaa
