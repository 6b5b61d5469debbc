/- Extensions in memory: rows of them, read and made; a packet that came in by value. -/
import Derived.Test.YtapbodiakkdfmaaRpC
import Derived.Test.YtapbodiakkdfmaaRpB
import Derived.Test.YtapbodiakkdfmaaStRow
import Derived.Test.YtapbodiakkdfmaaStOursP
import Derived.Test.YtapbodiakkdfmaaOpenMsg
namespace Go.Proofs.Ytapbodiakkdfmaa
open Go.RowKit
set_option linter.unusedVariables false
set_option linter.unusedSimpArgs false

/-- The attributes L lie from A on, in blocks below B. -/
def AtX (w : World) (B : Nat) (A : Option Addr) (L : List At) : Prop :=
  0 < L.length → ∃ ad, A = some ad ∧ ad.block < B ∧ ∀ i, i < L.length → w.cell? (ad.add (i * 2)) = some (.int .i64 (L.getD i default).ty) ∧
    ∃ v, w.cell? ⟨(ad.add (i * 2)).block, (ad.add (i * 2)).off + 1, none⟩ = some v ∧ V8 w B v (L.getD i default).val

section
variable {w w' : World} {B : Nat} {A : Option Addr} {L : List At}
theorem AtX.below (h : AtX w B A L) (hb : Below B w w') : AtX w' B A L := fun hn => by
  obtain ⟨ad, h1, h2, h3⟩ := h hn
  refine ⟨ad, h1, h2, fun i hi => ?_⟩
  obtain ⟨h4, v, h5, h6⟩ := h3 i hi
  exact ⟨(hb.cell (p := ad.add (i * 2)) (by rw [add_block]; exact h2)).trans h4, v, (hb.cell (p := ⟨(ad.add (i * 2)).block, (ad.add (i * 2)).off + 1, none⟩) (by show (ad.add (i * 2)).block < B; rw [add_block]; exact h2)).trans h5, h6.below hb⟩
theorem AtX.more {B' : Nat} (h : AtX w B A L) (hB : B ≤ B') : AtX w B' A L := fun hn => by
  obtain ⟨ad, h1, h2, h3⟩ := h hn
  refine ⟨ad, h1, by omega, fun i hi => ?_⟩
  obtain ⟨h4, v, h5, h6⟩ := h3 i hi
  exact ⟨h4, v, h5, h6.more hB⟩
theorem AtX.nil (w : World) (B : Nat) (A : Option Addr) : AtX w B A [] := fun h => by simp at h
end

theorem AtX.at_ {w : World} {B : Nat} {A : Option Addr} {L : List At} (h : AtX w B A L) {i : Nat} (hi : i < L.length) : ∃ ad A' c', A = some ad ∧ ad.block < B ∧ w.cell? (ad.add (i * 2)) = some (.int .i64 (L.getD i default).ty) ∧
    w.cell? ⟨(ad.add (i * 2)).block, (ad.add (i * 2)).off + 1, none⟩ = some (.slice A' (L.getD i default).val.length c') ∧ (L.getD i default).val.length ≤ c' ∧ c' ≤ maxLen ∧ (A' = none → c' = 0) ∧ Bs w B A' (L.getD i default).val.length (L.getD i default).val := by
  obtain ⟨ad, h1, h2, h3⟩ := h (by omega)
  obtain ⟨h4, v, h5, A', c', rfl, h6, h7, h8, h9⟩ := h3 i hi
  exact ⟨ad, A', c', h1, h2, h4, h5, h6, h7, h8, h9⟩
theorem getD_memX {L : List At} {k : Nat} (hk : k < L.length) : L.getD k default ∈ L := by
  simp [List.getD, hk]
theorem Try.infoExt12 : (Try.prog.info? 48).map (fun i => (i.zero, i.size, i.bytes)) = some (some (.agg #[.int .i64 0, .slice none 0 0]), 2, 32) := by kernel_rfl
def xcells : List (Int × Value) → List Value
  | [] => []
  | p :: r => .int .i64 p.1 :: p.2 :: xcells r
theorem xcells_append (a b : List (Int × Value)) : xcells (a ++ b) = xcells a ++ xcells b := by
  induction a with
  | nil => rfl
  | cons p r ih => simp [xcells, ih]
@[simp] theorem xcells_length (a : List (Int × Value)) : (xcells a).length = a.length * 2 := by
  induction a with
  | nil => rfl
  | cons p r ih => simp [xcells, ih]; omega
theorem xcells_at (a : List (Int × Value)) (i : Nat) (hi : i < a.length) : (xcells a)[i * 2]? = some (.int .i64 (a.getD i (0, undef)).1) ∧ (xcells a)[i * 2 + 1]? = some (a.getD i (0, undef)).2 := by
  induction a generalizing i with
  | nil => simp at hi
  | cons p r ih =>
    cases i with
    | zero => exact ⟨rfl, rfl⟩
    | succ i =>
      have h := ih i (by simpa using hi)
      have e1 : (i + 1) * 2 = i * 2 + 1 + 1 := by omega
      refine ⟨?_, ?_⟩
      · rw [e1]; simpa [xcells] using h.1
      · rw [show (i + 1) * 2 + 1 = i * 2 + 1 + 1 + 1 by omega]; simpa [xcells] using h.2

/-- The slice v is a row of the call's own of attributes. -/
def RowX (e : TypeId) (w : World) (base : Nat) (v : Value) (ps : List (Int × Value)) : Prop := w.ownsRow base e 2 v ps.length (xcells ps)

section
variable {w w' w2 : World} {e : TypeId} {base : Nat} {v : Value} {ps : List (Int × Value)} {xs : List Int}
theorem RowX.whole (h : RowX e w base v ps) {g : Nat} (hg : v.ownBlock = some g) : ∃ cs, Whole w g e cs := by
  rcases h.2 with ⟨rfl, _⟩ | ⟨g', cap, cur, rfl, _, h3, _⟩
  · cases hg
  · have : g' = g := by simpa [Value.ownBlock] using hg
    subst this
    exact ⟨cur, h3⟩
theorem RowX.kept (h : RowX e w base v ps) (he : e ≠ 5) (hg : w.grownBy w' v.ownBlock) : Kept8 w w' := fun g cs hw => hw.grown hg (fun e2 => by
  obtain ⟨cs2, h2⟩ := h.whole e2.symm
  exact (h2.ne hw he) rfl)
theorem RowX.far (h : RowX e w base v ps) {g : Nat} {t : TypeId} {cs : Array Value} (hg : Whole w g t cs) (he : e ≠ t) : v.ownBlock ≠ some g := fun e2 => by
  obtain ⟨cs2, h2⟩ := h.whole e2
  exact (h2.ne hg he) rfl
theorem RowX.alloc (h : RowX e w base v ps) (o : Obj) : RowX e (w.alloc o) base v ps := World.ownsRow.alloc h o
theorem RowX.drew (h : RowX e w base v ps) : RowX e w.drew base v ps := h
theorem RowX.nil (e : TypeId) (w : World) (base : Nat) : RowX e w base (.slice none 0 0) [] := World.ownsRow_nil w base e 2
theorem RowX.lt (h : RowX e w base v ps) {k : Nat} (hk : v.ownBlock = some k) : base ≤ k ∧ k < w.heap.size := World.ownsRow.lt h k hk
theorem RowX.keep (h : RowX e w base v ps) (hk : ∀ g cs, Whole w g e cs → Whole w' g e cs) : RowX e w' base v ps := by
  refine ⟨h.1, ?_⟩
  rcases h.2 with h0 | ⟨g, cap, cur, h1, h2, h3, h4⟩
  · exact .inl h0
  · exact .inr ⟨g, cap, cur, h1, h2, hk g cur h3, h4⟩
theorem RowX.under (h : RowX e w base v ps) (hb : Below w.heap.size w w') : RowX e w' base v ps := h.keep fun g cs hg => hg.under hb
theorem RowX.form (h : RowX e w base v ps) : ∃ A c, v = .slice A ps.length c ∧ ps.length ≤ c ∧ c ≤ maxLen ∧ (A = none → c = 0) := by
  rcases h.2 with ⟨rfl, h0⟩ | ⟨g, cap, cur, rfl, h2, h3, h4, h5, _⟩
  · exact ⟨none, 0, by rw [h0], by omega, Nat.zero_le _, fun _ => rfl⟩
  · exact ⟨_, cap, rfl, h4, h5, fun e => by cases e⟩
end
/-- The row reads as a message's attributes. -/
theorem RowX.ats {e : TypeId} {w : World} {base N : Nat} {A : Option Addr} {n c : Nat} {ps : List (Int × Value)} {L : List At} (h : RowX e w base (.slice A n c) ps) (hl : Els w N ps L) (hN : N ≤ w.heap.size) : AtX w w.heap.size A L := by
  intro hn
  rcases h.2 with ⟨hv, h0⟩ | ⟨g, cap, cur, hv, h2, h3, h4⟩
  · have := hl.1; omega
  · cases hv
    refine ⟨_, rfl, (Array.getElem?_eq_some_iff.1 h3).1, fun i hi => ?_⟩
    have hip : i < ps.length := by rw [hl.1]; exact hi
    have hc := xcells_at ps i hip
    have c0 := World.ownsRow.cells (g := g) h rfl _ _ hc.1
    have c1 := World.ownsRow.cells (g := g) h rfl _ _ hc.2
    obtain ⟨e1, e2⟩ := hl.2 i hip
    rw [e1] at c0
    rw [Addr.add_lit] at c0 c1
    refine ⟨by rw [Addr.add_lit]; exact c0, _, ?_, e2.v8 hN⟩
    rw [Addr.add_lit]
    simpa [Nat.add_assoc] using c1

/-- One attribute is appended. -/
theorem run_appendX {e T : TypeId} {z : Value} (ty : TypeId) (hT : Try.prog.underlying T = some (.slice e)) (hi : (Try.prog.info? e).map (fun i => (i.zero, i.size, i.bytes)) = some (some z, 2, 32)) (hz : z.cells.size = 2) {w : World} {base : Nat} {v : Value} {ps : List (Int × Value)} (hown : RowX e w base v ps) {g c : Nat} {x : Int} {u : Value}
    (hg : Whole w g e #[.int .i64 x, u]) (hu : u.oneCell' = true) (h63 : ps.length + 1 ≤ 4398046511103) (hbase : base ≤ w.heap.size) :
    ∃ v' w', (Builtin.append_ #[T, T] ty #[v, .slice (some ⟨g, 0, none⟩) 1 c]).run Try.prog w = .ok v' w' ∧ RowX e w' base v' (ps ++ [(x, u)]) ∧ w.grownBy w' v.ownBlock ∧ (v'.ownBlock = v.ownBlock ∨ v'.ownBlock = some w.heap.size) := by
  obtain ⟨i0, hi0, hz0, hz1, hz2⟩ := info_parts hi
  obtain ⟨v', w', hrun, h2, h3, _, h5⟩ := run_append_own_at (P := Try.prog) w base T ty e i0 z 2 32 hT hi0 hz0 hz1 hz2 hz (by decide) v ps.length (xcells ps) hown ⟨g, 0, none⟩ 1 c [.int .i64 x, u] (by simp)
    (fun j y hj => by
      rw [Addr.add_lit, Nat.zero_add, hg.cell]
      simpa using hj)
    (fun y hy => by
      simp only [List.mem_cons, List.not_mem_nil, or_false] at hy
      rcases hy with rfl | rfl
      · rfl
      · exact hu) (by unfold maxLen; omega) (by omega) hbase
  refine ⟨v', w', hrun, ?_, h3, h5⟩
  unfold RowX
  rw [xcells_append, List.length_append]
  exact h2
theorem wp_appendX {o : Oper} {a : Act} {K : Act → World → Prop} {Q : Exit → Act → World → Prop} {e T : TypeId} {z : Value} (s y : Operand) (ho : o.op = .call { callee := .builtin .append, args := #[s, y], argTypes := #[T, T] })
    (hT : Try.prog.underlying T = some (.slice e)) (hi : (Try.prog.info? e).map (fun i => (i.zero, i.size, i.bytes)) = some (some z, 2, 32)) (hz : z.cells.size = 2) {w : World} {base : Nat} {v : Value} {ps : List (Int × Value)} (hs : a.eval s = v) (hown : RowX e w base v ps) {g c : Nat} {x : Int} {u : Value} (hy : a.eval y = .slice (some ⟨g, 0, none⟩) 1 c)
    (hg : Whole w g e #[.int .i64 x, u]) (hu : u.oneCell' = true) (h63 : ps.length + 1 ≤ 4398046511103) (hbase : base ≤ w.heap.size)
    (h : ∀ v' w', RowX e w' base v' (ps ++ [(x, u)]) → w.grownBy w' v.ownBlock → (v'.ownBlock = v.ownBlock ∨ v'.ownBlock = some w.heap.size) → K (a.put o.dst v') w') : o.wp Try.prog a w K Q := by
  obtain ⟨v', w', hrun, h2, h3, h4⟩ := run_appendX o.type hT hi hz hown (c := c) hg hu h63 hbase
  unfold Oper.wp execOp
  simp only [ho, resolve, invoke, builtin, Sem.run_bind, Sem.run_pure, Result.andThen_ok, List.map_toArray, List.map_cons, List.map_nil, hs, hy, hrun]
  exact h v' w' h2 h3 h4
end Go.Proofs.Ytapbodiakkdfmaa

namespace Go.Proofs.Ytapbodiakkdfmaa
open Go.RowKit Go.ChangeShapes Go.WideShapes Go.ChangeAt Go.Deep
set_option linter.unusedVariables false

theorem Try.bytesExt12 : Try.prog.bytesOf 50 = 32 := by kernel_rfl
theorem Try.bytesU32 : Try.prog.bytesOf 24 = 4 := by kernel_rfl
theorem Try.cellsPk : Try.prog.cellsOf 28 = 9 := by kernel_rfl
section
variable {H : Type} {P : Program}
theorem weights_mem_all {e : TypeId} {ds : List (DataW H)} {d : DataW H} (h : d ∈ ds) : ∀ n ∈ d.weights P e, n ∈ DataW.weightsAll P e ds := by
  induction ds with
  | nil => cases h
  | cons d0 r ih =>
    intro n hn
    simp only [DataW.weightsAll, List.mem_append]
    rcases List.mem_cons.1 h with rfl | h
    · exact .inl hn
    · exact .inr (ih h n hn)
end
theorem add_next (a : Addr) (n k : Nat) (hk : k ≠ 0) : a.add (n + k) = ⟨(a.add n).block, (a.add n).off + k, none⟩ := by
  unfold Addr.add
  rw [if_neg (by omega)]
  split
  · next h => subst h; simp
  · simp [Nat.add_assoc]
theorem choose_at12 {α : Type} [Inhabited α] {n : Nat} {R : Nat → α → Prop} (h : ∀ i, i < n → ∃ a, R i a) : ∃ f : Nat → α, ∀ i, i < n → R i (f i) := by
  classical
  exact ⟨fun i => if hi : i < n then Classical.choose (h i hi) else default, fun i hi => by
    simp only [hi, dif_pos]
    exact Classical.choose_spec (h i hi)⟩
section
variable {H : Type} {enc : TypeId × Value → H} {W : World} {base : Nat} {sp : Nat → Bool} {held : Bool}
theorem open_exts12 {fuel : Nat} {A : Option Addr} {n c : Nat} {x : DataW H × List MemPlace} (h : DataW.trod enc Try.prog W base sp held fuel 26 [.slice A n c] = some x) (hw : ∀ k ∈ x.1.weights Try.prog 26, k ≤ 140737488351232) :
    ∃ L : List At, L.length = n ∧ n ≤ c ∧ c ≤ maxLen ∧ (A = none → c = 0) ∧ AtX W W.heap.size A L ∧ (∀ a ∈ L, True) ∧ (∀ a ∈ L, ∀ i, 0 ≤ a.val.getD i 0 ∧ a.val.getD i 0 < 256) ∧ (∀ a ∈ L, a.val.length ≤ 140737488351232) ∧ n ≤ 4398046511102 := by
  rcases open_slice_fields Try.underlying26 Try.underlying50 (by kernel_rfl) (by kernel_rfl) h with ⟨hcs, _⟩ | ⟨ad, l, cap, m, D, Pl, hcs, _, hl, hm, hmm, hx, hf⟩
  · simp at hcs
    obtain ⟨rfl, rfl, rfl⟩ := hcs
    exact ⟨[], rfl, Nat.le_refl _, Nat.zero_le _, fun _ => rfl, AtX.nil _ _ _, fun a ha => by simp at ha, fun a ha => by simp at ha, fun a ha => by simp at ha, by omega⟩
  · simp at hcs
    obtain ⟨rfl, rfl, rfl⟩ := hcs
    have hlm : n ≤ m := by rw [hmm]; split <;> omega
    have each : ∀ i, i < n → ∃ a : At, True ∧ (∀ j, 0 ≤ a.val.getD j 0 ∧ a.val.getD j 0 < 256) ∧ a.val.length ≤ 140737488351232 ∧ W.cell? (ad.add (i * 2)) = some (.int .i64 a.ty) ∧
        ∃ v, W.cell? ⟨(ad.add (i * 2)).block, (ad.add (i * 2)).off + 1, none⟩ = some v ∧ V8 W W.heap.size v a.val := by
      intro i hi
      obtain ⟨ys, n', hD, _, hyl, hj⟩ := hf i (by omega)
      obtain ⟨v0, y0, c0, g0, t0⟩ := hj 0 _ rfl
      obtain ⟨v1, y1, c1, g1, t1⟩ := hj 1 _ rfl
      obtain ⟨k0, e0, _, f0⟩ := DataW.trod_int Try.underlying3 t0
      simp at e0
      subst e0
      have hwy : ∀ k ∈ y1.1.weights Try.prog 22, k ≤ 140737488351232 := by
        intro k hk
        refine hw k ?_
        rw [hx]
        simp only [DataW.weights, Try.underlying26, List.mem_cons, List.mem_append]
        refine .inr (.inl (weights_mem_all (d := D i) (List.mem_map.2 ⟨i, List.mem_range.2 hi, rfl⟩) k ?_))
        rw [hD]
        simp only [DataW.weights, Try.underlying50]
        exact DataW.weights_mem_each (j := 1) rfl (by rw [List.getElem?_map, g1]; rfl) k hk
      obtain ⟨xs, hv, hr, hxl⟩ := open_bytes t1 hwy
      refine ⟨⟨k0, xs⟩, ?_, hr, hxl, c0, v1, ?_, hv⟩
      · trivial
      · rw [← add_next _ _ 1 (by decide)]; exact c1
    obtain ⟨f, hff⟩ := choose_at12 each
    have hget : ∀ i, i < n → ((List.range n).map f).getD i default = f i := by
      intro i hi
      simp [List.getD, hi]
    have hmem : ∀ a ∈ (List.range n).map f, ∃ i, i < n ∧ a = f i := by
      intro a ha
      obtain ⟨i, hi, rfl⟩ := List.mem_map.1 ha
      exact ⟨i, List.mem_range.1 hi, rfl⟩
    refine ⟨(List.range n).map f, by simp, hl, hm, (fun e => by cases e), ?_, ?_, ?_, ?_, ?_⟩
    · intro hn
      simp only [List.length_map, List.length_range] at hn
      refine ⟨ad, rfl, ?_, fun i hi => ?_⟩
      · have := block_lt_of_cell (hff 0 hn).2.2.2.1
        rwa [add_block] at this
      · simp only [List.length_map, List.length_range] at hi
        rw [hget i hi]
        exact ⟨(hff i hi).2.2.2.1, (hff i hi).2.2.2.2⟩
    · intro a ha
      obtain ⟨i, hi, rfl⟩ := hmem a ha
      exact (hff i hi).1
    · intro a ha
      obtain ⟨i, hi, rfl⟩ := hmem a ha
      exact (hff i hi).2.1
    · intro a ha
      obtain ⟨i, hi, rfl⟩ := hmem a ha
      exact (hff i hi).2.2.1
    · have := hw ((n + (m - n)) * Try.prog.bytesOf 50) (by
        rw [hx]
        simp only [DataW.weights, Try.underlying26, List.mem_cons]
        refine .inl ?_
        simp)
      rw [Try.bytesExt12] at this
      omega

end
end Go.Proofs.Ytapbodiakkdfmaa
