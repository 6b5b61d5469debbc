/- What the document's Parse reads, on lists; what is known while it reads. -/
import Derived.Test.YteloaidnfcmadaaStBackP
namespace Go.Proofs.Yteloaidnfcmadaa
open Go.RowKit
set_option linter.unusedVariables false

/-- A message that its bytes' head says, by places. -/
theorem is_at {xs : List Int} {m : Msg} (hx : In256 xs) (h : Is xs m) : m.cl = clOf (xs.getD 0 0 * 256 + xs.getD 1 0) ∧ m.me = meOf (xs.getD 0 0 * 256 + xs.getD 1 0) ∧ m.id = (xs.drop 8).take 12 ∧ body m.at_ = xs.drop 20 := by
  obtain ⟨hv, hf, e⟩ := h
  have k1 := kind_in m.cl m.me hv.c0 hv.c3 hv.m0 hv.m4
  obtain ⟨a, b, e1, a0, a1, b0, b1, e2⟩ := be2_back (kindOf m.cl m.me) (by omega) (by omega)
  obtain ⟨c, d, e3⟩ : ∃ c d, be2 ((body m.at_).length : Int) = [c, d] := ⟨_, _, rfl⟩
  rw [msg_cons, e1, e3] at e
  have i12 := hf.id12
  subst e
  simp only [List.cons_append, List.nil_append, List.getD_cons_zero, List.getD_cons_succ, List.drop_succ_cons, List.drop_zero]
  refine ⟨by rw [← e2, clOf_kind _ _ hv.c0 hv.c3 hv.m0 hv.m4], by rw [← e2, meOf_kind _ _ hv.c0 hv.c3 hv.m0 hv.m4], ?_, ?_⟩
  · rw [← i12]; simp
  · rw [← i12]; simp
/-- What is read so far: all attributes that the bytes can be begin with L. -/
structure RSo (xs : List Int) (L : List At) (p : Nat) : Prop where
  ats : ∀ a ∈ L, AtOk a
  vals : ∀ a ∈ L, In256 a.val
  from20 : 20 ≤ p
  few : L.length * 4 + 20 ≤ p
  all : ∀ L', (∀ a ∈ L', AtOk a) → body L' = xs.drop 20 → ∃ L2, L' = L ++ L2 ∧ body L2 = xs.drop p ∧ ∀ a ∈ L2, AtOk a
theorem RSo.start (xs : List Int) : RSo xs [] 20 := ⟨(fun a ha => by cases ha), (fun a ha => by cases ha), Nat.le_refl _, Nat.le_refl _, fun L' h e => ⟨L', rfl, e, h⟩⟩
/-- The attribute at p. -/
def rTy (xs : List Int) (p : Nat) : Int := xs.getD p 0 * 256 + xs.getD (p + 1) 0
def rLen (xs : List Int) (p : Nat) : Nat := (xs.getD (p + 2) 0 * 256 + xs.getD (p + 3) 0).toNat
def rVal (xs : List Int) (p : Nat) : List Int := (xs.drop (p + 4)).take (rLen xs p)
theorem rLen_int {xs : List Int} (hx : In256 xs) (p : Nat) : ((rLen xs p : Nat) : Int) = xs.getD (p + 2) 0 * 256 + xs.getD (p + 3) 0 := by
  have := hx (p + 2)
  have := hx (p + 3)
  unfold rLen
  omega
theorem rLen_lt {xs : List Int} (hx : In256 xs) (p : Nat) : rLen xs p < 65536 := by
  have := rLen_int hx p
  have := hx (p + 2)
  have := hx (p + 3)
  omega
theorem rVal_length {xs : List Int} {p : Nat} (h : p + 4 + rLen xs p ≤ xs.length) : (rVal xs p).length = rLen xs p := by
  unfold rVal
  rw [List.length_take, List.length_drop]
  omega
/-- What the bytes at p say of an attribute that lies there. -/
theorem at_here {xs : List Int} {p : Nat} {a : At} {r : List Int} (hx : In256 xs) (ha : AtOk a) (e : atBytes a ++ r = xs.drop p) : a.ty = rTy xs p ∧ a.val.length = rLen xs p ∧ a.val = rVal xs p ∧ r = xs.drop (p + atSize a) ∧ p + atSize a ≤ xs.length := by
  have hg : ∀ i, (atBytes a ++ r).getD i 0 = xs.getD (p + i) 0 := fun i => by rw [e]; simp [List.getD]
  have hl := ha.len
  have t0 := ha.t0
  have t1 := ha.t1
  have hlen : (atBytes a ++ r).length = xs.length - p := by rw [e, List.length_drop]
  have hsz := atBytes_length a
  obtain ⟨ty, val⟩ := a
  simp only at hl t0 t1
  have g0 := hg 0
  have g1 := hg 1
  have g2 := hg 2
  have g3 := hg 3
  simp only [atBytes, be2, List.cons_append, List.nil_append, List.append_assoc, List.getD_cons_zero, List.getD_cons_succ] at g0 g1 g2 g3
  have n2 : val.length = rLen xs p := by
    have := rLen_int hx p
    omega
  refine ⟨?_, n2, ?_, ?_, ?_⟩
  · unfold rTy
    rw [Nat.add_zero] at g0
    show ty = _
    omega
  · unfold rVal
    have : (xs.drop (p + 4)) = val ++ (List.replicate (padN val.length) 0 ++ r) := by
      rw [← List.drop_drop, ← e]
      simp [atBytes, be2]
    rw [this, ← n2]
    simp
  · rw [← List.drop_drop, ← e, ← hsz]
    simp
  · have := at_len ⟨ty, val⟩
    rw [List.length_append, hsz] at hlen
    omega
theorem RSo.short {xs : List Int} {L : List At} {p : Nat} (hx : In256 xs) (h : RSo xs L p) (hp : p < xs.length) (hs : xs.length < p + 4 ∨ xs.length < p + 4 + rLen xs p) : IsNone xs := by
  intro m hm
  obtain ⟨_, _, _, eb⟩ := is_at hx hm
  obtain ⟨L2, _, e2, e3⟩ := h.all m.at_ (nice_of hm.1 hm.2.1).ats eb
  cases L2 with
  | nil =>
    have : (body ([] : List At)).length = xs.length - p := by rw [e2, List.length_drop]
    simp [body] at this
    omega
  | cons a r =>
    obtain ⟨_, h2, _, _, h5⟩ := at_here hx (e3 a List.mem_cons_self) e2
    have : 4 + rLen xs p ≤ atSize a := by unfold atSize; omega
    omega
theorem RSo.next {xs : List Int} {L : List At} {p : Nat} (hx : In256 xs) (h : RSo xs L p) (hp : p + 4 + rLen xs p ≤ xs.length) : RSo xs (L ++ [⟨rTy xs p, rVal xs p⟩]) (p + 4 + (rLen xs p + 3) / 4 * 4) := by
  have hl := rVal_length hp
  have hlt := rLen_lt hx p
  have a1 := hx p
  have a2 := hx (p + 1)
  refine ⟨?_, ?_, ?_, ?_, ?_⟩
  · intro a ha
    rcases List.mem_append.1 ha with ha | ha
    · exact h.ats a ha
    · simp at ha; subst ha
      exact ⟨by show 0 ≤ rTy xs p; unfold rTy; omega, by show rTy xs p < 65536; unfold rTy; omega, by show (rVal xs p).length < 65536; omega⟩
  · intro a ha
    rcases List.mem_append.1 ha with ha | ha
    · exact h.vals a ha
    · simp at ha; subst ha
      exact (hx.drop _).take _
  · have := h.from20; omega
  · have := h.few; simp; omega
  · intro L' hL' e
    obtain ⟨L2, e1, e2, e3⟩ := h.all L' hL' e
    cases L2 with
    | nil =>
      have : (body ([] : List At)).length = xs.length - p := by rw [e2, List.length_drop]
      simp [body] at this
      omega
    | cons a r =>
      obtain ⟨h1, h2, h3, h4, _⟩ := at_here hx (e3 a List.mem_cons_self) e2
      have ea : a = ⟨rTy xs p, rVal xs p⟩ := by
        obtain ⟨ty, val⟩ := a
        simp only at h1 h3
        rw [h1, h3]
      refine ⟨r, by rw [e1, ea, List.append_assoc]; rfl, ?_, fun b hb => e3 b (List.mem_cons_of_mem _ hb)⟩
      rw [h4]
      congr 1
      unfold atSize padN
      omega
/-- All is read: the one message that it may be. -/
theorem RSo.only {xs : List Int} {L : List At} {p : Nat} (hx : In256 xs) (h : RSo xs L p) (hp : xs.length ≤ p) {m : Msg} (hm : Is xs m) : m = ⟨clOf (xs.getD 0 0 * 256 + xs.getD 1 0), meOf (xs.getD 0 0 * 256 + xs.getD 1 0), (xs.drop 8).take 12, L⟩ := by
  obtain ⟨e1, e2, e3, eb⟩ := is_at hx hm
  obtain ⟨L2, e4, e5, _⟩ := h.all m.at_ (nice_of hm.1 hm.2.1).ats eb
  rw [List.drop_eq_nil_of_le hp] at e5
  rw [body_nil e5, List.append_nil] at e4
  obtain ⟨cl, me, id, at_⟩ := m
  simp only at e1 e2 e3 e4
  rw [e1, e2, e3, e4]
theorem RSo.fine {xs : List Int} {L : List At} {p : Nat} (hx : In256 xs) (h : RSo xs L p) (hl : 20 ≤ xs.length) (k : Int) : Fine ⟨clOf k, meOf k, (xs.drop 8).take 12, L⟩ :=
  ⟨by simp; omega, (hx.drop 8).take 12, fun a ha => ⟨(h.ats a ha).t0, (h.ats a ha).t1⟩, h.vals⟩

/-- What is known while attributes are read: the result's variable in block N, the message in the next. -/
structure Rp (w : World) (N : Nat) (cl me : Int) (id : List Int) (wr : World) (v : Value) (ps : List (Int × Value)) (L : List At) : Prop where
  res : Whole wr N 40 zM
  box : Whole wr (N + 1) 40 (mv cl me id v)
  row : Row2 57 wr (N + 2) v ps
  els : ElsO wr (N + 2) ps L
  below : Below N w wr
section
variable {w wr w' : World} {N : Nat} {cl me : Int} {id : List Int} {v v' : Value} {ps : List (Int × Value)} {L : List At}
theorem Rp.size (h : Rp w N cl me id wr v ps L) : N + 2 ≤ wr.heap.size := h.box.lt
theorem Rp.under (h : Rp w N cl me id wr v ps L) (hb : Below wr.heap.size wr w') : Rp w N cl me id w' v ps L :=
  ⟨h.res.under hb, h.box.under hb, h.row.under hb, h.els.on (Kept8.under hb), h.below.trans (hb.mono (by have := h.size; omega))⟩
theorem Rp.drew (h : Rp w N cl me id wr v ps L) : Rp w N cl me id wr.drew v ps L := h.under (Below.refl _ wr).drew
theorem Rp.alloc (h : Rp w N cl me id wr v ps L) (o : Obj) : Rp w N cl me id (wr.alloc o) v ps L := h.under ((Below.refl _ wr).alloc (Nat.le_refl _) o)
theorem Rp.c14 (h : Rp w N cl me id wr v ps L) (h12 : id.length = 12) : wr.cell? ⟨N + 1, 14, none⟩ = some v := by rw [h.box.cell]; exact mv_14 _ _ _ _ h12
/-- An attribute is appended and stored. -/
theorem Rp.grow (h : Rp w N cl me id wr v ps L) (h12 : id.length = 12) {a : At} {u : Value} (hr : Row2 57 w' (N + 2) v' (ps ++ [(a.ty, u)])) (hg : wr.grownBy w' v.ownBlock) (hu : Own8 wr (N + 2) u a.val) :
    Rp w N cl me id (w'.setCell ⟨N + 1, 14, none⟩ v') v' (ps ++ [(a.ty, u)]) (L ++ [a]) := by
  have hs := h.size
  have hb : Below (N + 2) wr w' := (Below.refl _ wr).grown hg hs (fun k hk => (h.row.lt hk).1)
  have hb2 : Below (N + 1) w' (w'.setCell ⟨N + 1, 14, none⟩ v') := (Below.refl (N + 1) w').setCell (p := ⟨N + 1, 14, none⟩) (Nat.le_refl _) _
  have hb3 : Below (N + 1) wr (w'.setCell ⟨N + 1, 14, none⟩ v') := (hb.mono (Nat.le_succ _)).trans hb2
  have hbox := h.box.below hb (Nat.lt_succ_self _)
  have hk : Kept8 wr (w'.setCell ⟨N + 1, 14, none⟩ v') := (h.row.kept (by decide) hg).trans (Kept8.put hbox (by decide) 14 v')
  refine ⟨h.res.below hb3 (by omega), ?_, ?_, (h.els.on hk).snoc (hu.keep8 hk), h.below.trans (hb3.mono (by omega))⟩
  · have := hbox.set 14 v'
    rwa [mv_set _ _ _ _ _ h12] at this
  · exact hr.keep fun g cs hw => hw.far (p := ⟨N + 1, 14, none⟩) (fun e => hw.ne hbox (by decide) e) _
end
/-- The bytes that came in, place by place. -/
theorem v8_at {w wr : World} {N c : Nat} {A : Option Addr} {n : Nat} {xs : List Int} (h : V8 w N (.slice A n c) xs) (hb : Below N w wr) (hn : 0 < n) : ∃ ad, A = some ad ∧ xs.length = n ∧ n ≤ c ∧ c ≤ maxLen ∧ ad.block < N ∧ ∀ i, i < n → wr.cell? (ad.add i) = some (.int .u8 (xs.getD i 0)) := by
  obtain ⟨A', c', e, h1, h2, h3, h4⟩ := h.below hb
  cases e
  obtain ⟨ad, e, hl, hc⟩ := h4.2 hn
  exact ⟨ad, e, rfl, h1, h2, hl, hc⟩
/-- A piece of bytes. -/
theorem cut_run {A : Addr} {n c lo hi : Nat} {x y : Int} (hx : x = lo) (hy : y = hi) (h1 : lo ≤ hi) (h2 : hi ≤ c) (w : World) :
    (Instr.slice 22 (.slice (some A) n c) (some (.int .i64 x)) (some (.int .i64 y)) none).run Try.prog w = .ok (.slice (if c = lo then some A else some (A.add lo)) (hi - lo) (c - lo)) w := by
  subst hx hy
  have ht := Try.underlying22
  have ht' : Try.prog.underlying 22 = some (.slice (Try.prog.elem 22)) := by simp [Program.elem, ht]
  have he : Try.prog.elem 22 = 5 := by simp [Program.elem, ht]
  rw [run_slice_lh w 22 _ _ _ ht' .i64 .i64 _ _ (by omega) (by omega) (by omega), he, Try.sizeU8]
  simp [Result.andThen, sliced]
theorem cut_bs {w : World} {B n c lo hi : Nat} {A : Addr} {xs : List Int} (h : Bs w B (some A) n xs) (h1 : lo ≤ hi) (h2 : hi ≤ n) (h3 : n ≤ c) : Bs w B (if c = lo then some A else some (A.add lo)) (hi - lo) ((xs.drop lo).take (hi - lo)) := by
  have h4 := h.cut (k := lo) (cap := c) (by omega) h3
  exact h4.head (k := hi - lo) (by omega)
theorem kind_i64 (a b : Int) (ha : 0 ≤ a ∧ a < 256) (hb : 0 ≤ b ∧ b < 256) : bits .or .i64 (a * 256) b = a * 256 + b := or64 (a * 256) b 8 256 (by decide) (by omega) (by omega) (by omega) (by omega) (by omega) (by omega)
theorem kind_u16 (a b : Int) (ha : 0 ≤ a ∧ a < 256) (hb : 0 ≤ b ∧ b < 256) : bits .or .u16 (a * 256) b = a * 256 + b := or16 (a * 256) b 8 256 (by decide) (by omega) (by omega) (by omega) (by omega) (by omega) (by omega)
/-- Bits of a kind, step by step. -/
structure KindSteps (k : Int) : Prop where
  a1 : bits .and .i64 (k / 16) 1 = k / 16 % 2
  a2 : bits .and .i64 (k / 256) 1 = k / 256 % 2
  a3 : IntKind.i64.wrap (k / 256 % 2 * 2) = k / 256 % 2 * 2
  a4 : bits .or .i64 (k / 16 % 2) (k / 256 % 2 * 2) = clOf k
  b1 : bits .and .i64 k 15 = k % 16
  b2 : bits .and .i64 (k / 32) 7 = k / 32 % 8
  b3 : IntKind.i64.wrap (k / 32 % 8 * 16) = k / 32 % 8 * 16
  b4 : bits .or .i64 (k % 16) (k / 32 % 8 * 16) = k % 16 + k / 32 % 8 * 16
  b5 : bits .and .i64 (k / 512) 31 = k / 512 % 32
  b6 : IntKind.i64.wrap (k / 512 % 32 * 128) = k / 512 % 32 * 128
  b7 : bits .or .i64 (k % 16 + k / 32 % 8 * 16) (k / 512 % 32 * 128) = meOf k
theorem kind_steps (k : Int) (h0 : 0 ≤ k) (h1 : k < 65536) : KindSteps k := by
  refine ⟨?_, ?_, ?_, ?_, ?_, ?_, ?_, ?_, ?_, ?_, ?_⟩
  · rw [and64 (k / 16) 1 0 1 (by decide) (by decide) (by omega) (by omega)]; omega
  · rw [and64 (k / 256) 1 0 1 (by decide) (by decide) (by omega) (by omega)]; omega
  · rw [IntKind.wrap_i64]; omega
  · rw [or64' (k / 256 % 2 * 2) (k / 16 % 2) 1 2 (by decide) (by omega) (by omega) (by omega) (by omega) (by omega) (by omega)]; rfl
  · rw [and64 k 4 0 15 (by decide) (by decide) (by omega) (by omega)]; omega
  · rw [and64 (k / 32) 3 0 7 (by decide) (by decide) (by omega) (by omega)]; omega
  · rw [IntKind.wrap_i64]; omega
  · rw [or64' (k / 32 % 8 * 16) (k % 16) 4 16 (by decide) (by omega) (by omega) (by omega) (by omega) (by omega) (by omega)]
  · rw [and64 (k / 512) 5 0 31 (by decide) (by decide) (by omega) (by omega)]; omega
  · rw [IntKind.wrap_i64]; omega
  · rw [or64' (k / 512 % 32 * 128) (k % 16 + k / 32 % 8 * 16) 7 128 (by decide) (by omega) (by omega) (by omega) (by omega) (by omega) (by omega)]; rfl
end Go.Proofs.Yteloaidnfcmadaa
