/- Rows of attributes that the call makes and appends to. -/
import Derived.Test.YtapbodiakkdfmaaStJoin
import Derived.Test.YtapbodiakkdfmaaLate
namespace Go.Proofs.Ytapbodiakkdfmaa
open Go.RowKit
set_option linter.unusedVariables false

def acells : List (Int × Value) → List Value
  | [] => []
  | p :: r => .int .u16 p.1 :: p.2 :: acells r
theorem acells_append (a b : List (Int × Value)) : acells (a ++ b) = acells a ++ acells b := by
  induction a with
  | nil => rfl
  | cons p r ih => simp [acells, ih]
@[simp] theorem acells_length (a : List (Int × Value)) : (acells a).length = a.length * 2 := by
  induction a with
  | nil => rfl
  | cons p r ih => simp [acells, ih]; omega
theorem acells_at (a : List (Int × Value)) (i : Nat) (hi : i < a.length) : (acells a)[i * 2]? = some (.int .u16 (a.getD i (0, undef)).1) ∧ (acells a)[i * 2 + 1]? = some (a.getD i (0, undef)).2 := by
  induction a generalizing i with
  | nil => simp at hi
  | cons p r ih =>
    cases i with
    | zero => exact ⟨rfl, rfl⟩
    | succ i =>
      have h := ih i (by simpa using hi)
      have e1 : (i + 1) * 2 = i * 2 + 1 + 1 := by omega
      refine ⟨?_, ?_⟩
      · rw [e1]; simpa [acells] using h.1
      · rw [show (i + 1) * 2 + 1 = i * 2 + 1 + 1 + 1 by omega]; simpa [acells] using h.2

/-- The slice v is a row of the call's own of attributes. -/
def Row2 (e : TypeId) (w : World) (base : Nat) (v : Value) (ps : List (Int × Value)) : Prop := w.ownsRow base e 2 v ps.length (acells ps)

/-- Rows of bytes are kept. -/
def Kept8 (w w' : World) : Prop := ∀ g cs, Whole w g 5 cs → Whole w' g 5 cs
section
variable {w w' w2 : World} {e : TypeId} {base : Nat} {v : Value} {ps : List (Int × Value)} {xs : List Int}
theorem Kept8.refl (w : World) : Kept8 w w := fun _ _ h => h
theorem Kept8.trans (h : Kept8 w w') (k : Kept8 w' w2) : Kept8 w w2 := fun g cs hg => k g cs (h g cs hg)
theorem Kept8.alloc (h : Kept8 w w') (o : Obj) : Kept8 w (w'.alloc o) := fun g cs hg => (h g cs hg).alloc o
theorem Kept8.drew (h : Kept8 w w') : Kept8 w w'.drew := h
theorem Kept8.under (hb : Below w.heap.size w w') : Kept8 w w' := fun g cs hg => hg.under hb
theorem Kept8.put {g : Nat} {t : TypeId} {cs : Array Value} (h : Whole w g t cs) (ht : t ≠ 5) (i : Nat) (u : Value) : Kept8 w (w.setCell ⟨g, i, none⟩ u) := fun g' cs' hg => hg.far (p := ⟨g, i, none⟩) (fun e => (h.ne hg ht e.symm).elim) u
theorem Kept8.row {g : Nat} {t : TypeId} {cs : Array Value} (h : Whole w g t cs) (ht : t ≠ 5) (cs2 : Array Value) : Kept8 w (w.setRow g cs2) := fun g' cs' hg => hg.farRow (fun e => (h.ne hg ht e.symm).elim) cs2
theorem Row2.whole (h : Row2 e w base v ps) {g : Nat} (hg : v.ownBlock = some g) : ∃ cs, Whole w g e cs := by
  rcases h.2 with ⟨rfl, _⟩ | ⟨g', cap, cur, rfl, _, h3, _⟩
  · cases hg
  · have : g' = g := by simpa [Value.ownBlock] using hg
    subst this
    exact ⟨cur, h3⟩
theorem Row2.kept (h : Row2 e w base v ps) (he : e ≠ 5) (hg : w.grownBy w' v.ownBlock) : Kept8 w w' := fun g cs hw => hw.grown hg (fun e2 => by
  obtain ⟨cs2, h2⟩ := h.whole e2.symm
  exact (h2.ne hw he) rfl)
theorem Row2.far (h : Row2 e w base v ps) {g : Nat} {t : TypeId} {cs : Array Value} (hg : Whole w g t cs) (he : e ≠ t) : v.ownBlock ≠ some g := fun e2 => by
  obtain ⟨cs2, h2⟩ := h.whole e2
  exact (h2.ne hg he) rfl
theorem Row2.alloc (h : Row2 e w base v ps) (o : Obj) : Row2 e (w.alloc o) base v ps := World.ownsRow.alloc h o
theorem Row2.drew (h : Row2 e w base v ps) : Row2 e w.drew base v ps := h
theorem Row2.nil (e : TypeId) (w : World) (base : Nat) : Row2 e w base (.slice none 0 0) [] := World.ownsRow_nil w base e 2
theorem Row2.lt (h : Row2 e w base v ps) {k : Nat} (hk : v.ownBlock = some k) : base ≤ k ∧ k < w.heap.size := World.ownsRow.lt h k hk
theorem Row2.keep (h : Row2 e w base v ps) (hk : ∀ g cs, Whole w g e cs → Whole w' g e cs) : Row2 e w' base v ps := by
  refine ⟨h.1, ?_⟩
  rcases h.2 with h0 | ⟨g, cap, cur, h1, h2, h3, h4⟩
  · exact .inl h0
  · exact .inr ⟨g, cap, cur, h1, h2, hk g cur h3, h4⟩
theorem Row2.under (h : Row2 e w base v ps) (hb : Below w.heap.size w w') : Row2 e w' base v ps := h.keep fun g cs hg => hg.under hb
theorem Row2.form (h : Row2 e w base v ps) : ∃ A c, v = .slice A ps.length c ∧ ps.length ≤ c ∧ c ≤ maxLen ∧ (A = none → c = 0) := by
  rcases h.2 with ⟨rfl, h0⟩ | ⟨g, cap, cur, rfl, h2, h3, h4, h5, _⟩
  · exact ⟨none, 0, by rw [h0], by omega, Nat.zero_le _, fun _ => rfl⟩
  · exact ⟨_, cap, rfl, h4, h5, fun e => by cases e⟩
theorem Own8.keep8 (h : Own8 w base v xs) (hk : Kept8 w w') : Own8 w' base v xs := by
  refine ⟨h.1, ?_⟩
  rcases h.2 with h0 | ⟨g, cap, cur, h1, h2, h3, h4⟩
  · exact .inl h0
  · exact .inr ⟨g, cap, cur, h1, h2, hk g cur h3, h4⟩
end

/-- A value that lies below N, or in a row of bytes of its own. -/
def EV (w : World) (N : Nat) (v : Value) (xs : List Int) : Prop := V8 w N v xs ∨ Own8 w N v xs
theorem EV.on {w w' : World} {N : Nat} {v : Value} {xs : List Int} (h : EV w N v xs) (hb : Below N w w') (hk : Kept8 w w') : EV w' N v xs := by
  rcases h with h | h
  · exact .inl (h.below hb)
  · exact .inr (h.keep8 hk)
theorem EV.v8 {w : World} {N : Nat} {v : Value} {xs : List Int} (h : EV w N v xs) (hN : N ≤ w.heap.size) : V8 w w.heap.size v xs := by
  rcases h with h | h
  · exact h.more hN
  · exact h.v8
theorem EV.one {w : World} {N : Nat} {v : Value} {xs : List Int} (h : EV w N v xs) : v.oneCell' = true := by
  rcases h with h | h
  · exact h.one
  · exact h.v8.one
/-- The pairs ps read as the attributes L. -/
def Els (w : World) (N : Nat) (ps : List (Int × Value)) (L : List At) : Prop := ps.length = L.length ∧ ∀ i, i < ps.length → (ps.getD i (0, undef)).1 = (L.getD i default).ty ∧ EV w N (ps.getD i (0, undef)).2 (L.getD i default).val
theorem Els.on {w w' : World} {N : Nat} {ps : List (Int × Value)} {L : List At} (h : Els w N ps L) (hb : Below N w w') (hk : Kept8 w w') : Els w' N ps L := ⟨h.1, fun i hi => ⟨(h.2 i hi).1, (h.2 i hi).2.on hb hk⟩⟩
theorem Els.nil (w : World) (N : Nat) : Els w N [] [] := ⟨rfl, fun i hi => by simp at hi⟩
theorem Els.snoc {w : World} {N : Nat} {ps : List (Int × Value)} {L : List At} (h : Els w N ps L) {v : Value} {a : At} (hv : EV w N v a.val) : Els w N (ps ++ [(a.ty, v)]) (L ++ [a]) := by
  have hl := h.1
  refine ⟨by simp [hl], fun i hi => ?_⟩
  simp only [List.length_append, List.length_cons, List.length_nil] at hi
  by_cases hil : i < ps.length
  · have e1 : (ps ++ [(a.ty, v)]).getD i (0, undef) = ps.getD i (0, undef) := by simp [List.getD, List.getElem?_append_left hil]
    have e2 : (L ++ [a]).getD i default = L.getD i default := by simp [List.getD, List.getElem?_append_left (show i < L.length by omega)]
    rw [e1, e2]
    exact h.2 i hil
  · obtain rfl : i = ps.length := by omega
    have e1 : (ps ++ [(a.ty, v)]).getD ps.length (0, undef) = (a.ty, v) := by simp [List.getD]
    have e2 : (L ++ [a]).getD ps.length default = a := by simp [List.getD, hl]
    rw [e1, e2]
    exact ⟨rfl, hv⟩
/-- The row reads as a message's attributes. -/
theorem Row2.ats {e : TypeId} {w : World} {base N : Nat} {A : Option Addr} {n c : Nat} {ps : List (Int × Value)} {L : List At} (h : Row2 e w base (.slice A n c) ps) (hl : Els w N ps L) (hN : N ≤ w.heap.size) : Ats w w.heap.size A L := by
  intro hn
  rcases h.2 with ⟨hv, h0⟩ | ⟨g, cap, cur, hv, h2, h3, h4⟩
  · have := hl.1; omega
  · cases hv
    refine ⟨_, rfl, (Array.getElem?_eq_some_iff.1 h3).1, fun i hi => ?_⟩
    have hip : i < ps.length := by rw [hl.1]; exact hi
    have hc := acells_at ps i hip
    have c0 := World.ownsRow.cells (g := g) h rfl _ _ hc.1
    have c1 := World.ownsRow.cells (g := g) h rfl _ _ hc.2
    obtain ⟨e1, e2⟩ := hl.2 i hip
    rw [e1] at c0
    rw [Addr.add_lit] at c0 c1
    refine ⟨by rw [Addr.add_lit]; exact c0, _, ?_, e2.v8 hN⟩
    rw [Addr.add_lit]
    simpa [Nat.add_assoc] using c1

/-- One attribute is appended. -/
theorem run_append2 {e T : TypeId} {z : Value} (ty : TypeId) (hT : Try.prog.underlying T = some (.slice e)) (hi : (Try.prog.info? e).map (fun i => (i.zero, i.size, i.bytes)) = some (some z, 2, 32)) (hz : z.cells.size = 2) {w : World} {base : Nat} {v : Value} {ps : List (Int × Value)} (hown : Row2 e w base v ps) {g c : Nat} {x : Int} {u : Value}
    (hg : Whole w g e #[.int .u16 x, u]) (hu : u.oneCell' = true) (h63 : ps.length + 1 ≤ 4398046511103) (hbase : base ≤ w.heap.size) :
    ∃ v' w', (Builtin.append_ #[T, T] ty #[v, .slice (some ⟨g, 0, none⟩) 1 c]).run Try.prog w = .ok v' w' ∧ Row2 e w' base v' (ps ++ [(x, u)]) ∧ w.grownBy w' v.ownBlock ∧ (v'.ownBlock = v.ownBlock ∨ v'.ownBlock = some w.heap.size) := by
  obtain ⟨i0, hi0, hz0, hz1, hz2⟩ := info_parts hi
  obtain ⟨v', w', hrun, h2, h3, _, h5⟩ := run_append_own_at (P := Try.prog) w base T ty e i0 z 2 32 hT hi0 hz0 hz1 hz2 hz (by decide) v ps.length (acells ps) hown ⟨g, 0, none⟩ 1 c [.int .u16 x, u] (by simp)
    (fun j y hj => by
      rw [Addr.add_lit, Nat.zero_add, hg.cell]
      simpa using hj)
    (fun y hy => by
      simp only [List.mem_cons, List.not_mem_nil, or_false] at hy
      rcases hy with rfl | rfl
      · rfl
      · exact hu) (by unfold maxLen; omega) (by omega) hbase
  refine ⟨v', w', hrun, ?_, h3, h5⟩
  unfold Row2
  rw [acells_append, List.length_append]
  exact h2
theorem wp_append2 {o : Oper} {a : Act} {K : Act → World → Prop} {Q : Exit → Act → World → Prop} {e T : TypeId} {z : Value} (s y : Operand) (ho : o.op = .call { callee := .builtin .append, args := #[s, y], argTypes := #[T, T] })
    (hT : Try.prog.underlying T = some (.slice e)) (hi : (Try.prog.info? e).map (fun i => (i.zero, i.size, i.bytes)) = some (some z, 2, 32)) (hz : z.cells.size = 2) {w : World} {base : Nat} {v : Value} {ps : List (Int × Value)} (hs : a.eval s = v) (hown : Row2 e w base v ps) {g c : Nat} {x : Int} {u : Value} (hy : a.eval y = .slice (some ⟨g, 0, none⟩) 1 c)
    (hg : Whole w g e #[.int .u16 x, u]) (hu : u.oneCell' = true) (h63 : ps.length + 1 ≤ 4398046511103) (hbase : base ≤ w.heap.size)
    (h : ∀ v' w', Row2 e w' base v' (ps ++ [(x, u)]) → w.grownBy w' v.ownBlock → (v'.ownBlock = v.ownBlock ∨ v'.ownBlock = some w.heap.size) → K (a.put o.dst v') w') : o.wp Try.prog a w K Q := by
  obtain ⟨v', w', hrun, h2, h3, h4⟩ := run_append2 o.type hT hi hz hown (c := c) hg hu h63 hbase
  unfold Oper.wp execOp
  simp only [ho, resolve, invoke, builtin, Sem.run_bind, Sem.run_pure, Result.andThen_ok, List.map_toArray, List.map_cons, List.map_nil, hs, hy, hrun]
  exact h v' w' h2 h3 h4
theorem wp_append8 {w : World} {o : Oper} {a : Act} {K : Act → World → Prop} {Q : Exit → Act → World → Prop} (s x : Operand)
    (ho : o.op = .call { callee := .builtin .append, args := #[s, x], argTypes := #[22, 22] }) {base : Nat} {v : Value} {xs : List Int} (hs : a.eval s = v) (hown : Own8 w base v xs) {B : Nat} {A : Option Addr} {m c : Nat} {ys : List Int} (hx : a.eval x = .slice A m c) (hr : Bs w B A m ys) (hA : A = none → c = 0)
    (h63 : xs.length + m ≤ 140737488355328) (hbase : base ≤ w.heap.size)
    (h : ∀ v' w', Own8 w' base v' (xs ++ ys) → w.grownBy w' v.ownBlock → (v'.ownBlock = v.ownBlock ∨ v'.ownBlock = some w.heap.size) → K (a.put o.dst v') w') : o.wp Try.prog a w K Q := by
  obtain ⟨v', w', hrun, h2, h3, h4⟩ := run_append8 o.type hown hr hA h63 hbase
  unfold Oper.wp execOp
  simp only [ho, resolve, invoke, builtin, Sem.run_bind, Sem.run_pure, Result.andThen_ok, List.map_toArray, List.map_cons, List.map_nil, hs, hx, hrun]
  exact h v' w' h2 h3 h4
theorem step_of {ops : Array Oper} {o : Oper} {a : Act} {w : World} {K : Act → World → Prop} {Q : Exit → Act → World → Prop} {E : Prop} (hgd : o.guard = none) (h : o.wp Try.prog a w K Q) : if Region.wanted o (yielded ops a.tmps) = true then Oper.wp Try.prog o a w K Q else E := by
  have hw : Region.wanted o (yielded ops a.tmps) = true := by simp [Region.wanted, hgd]
  rw [if_pos hw]
  exact h

/-- What holds all along, and till q comes up. -/
def TillOne (S0 S1 : World → Prop) (q : Nat) (L : Array Bool) (w : World) : Prop := S0 w ∧ (L.getD q true = false → S1 w)
theorem TillOne.set {S0 S1 : World → Prop} {q i : Nat} (h : i ≠ q) (L : Array Bool) (w : World) : TillOne S0 S1 q (L.setIfInBounds i true) w ↔ TillOne S0 S1 q L w := by
  unfold TillOne
  rw [getD_set_ne true h]
theorem TillOne.get {S0 S1 : World → Prop} {q : Nat} {w : World} (h : Ahead (TillOne S0 S1 q) q w) : S0 w ∧ S1 w := by
  obtain ⟨L, hL, h⟩ := h
  exact ⟨h.1, h.2 hL⟩
theorem TillOne.mk {S0 S1 : World → Prop} {q : Nat} {L : Array Bool} {w : World} (h0 : S0 w) (h1 : S1 w) : TillOne S0 S1 q L w := ⟨h0, fun _ => h1⟩
theorem TillOne.past {S0 S1 : World → Prop} {q : Nat} {L : Array Bool} {w : World} (h0 : S0 w) (h1 : L.getD q true = true) : TillOne S0 S1 q L w := ⟨h0, fun e => by rw [h1] at e; cases e⟩
end Go.Proofs.Ytapbodiakkdfmaa
