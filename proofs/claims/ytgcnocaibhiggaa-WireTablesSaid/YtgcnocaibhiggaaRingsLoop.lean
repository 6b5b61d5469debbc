/- What the law WireRings's last loop leans on: what its body and its iterator leave as it is. -/
import Derived.Test.YtgcnocaibhiggaaRingsInv
namespace Go.Proofs.Ytgcnocaibhiggaa
open Go.RowKit Go.Shelf
set_option linter.unusedVariables false

/-- A block of cells is none that holds anything else. -/
theorem Whole.grownOther {W W' : World} {g : Nat} {t : TypeId} {cs : Array Value} {row : Option Nat} (h : Whole W g t cs) (hg : W.grownBy W' row) (hr : ∀ r, row = some r → ∃ o : Obj, W.heap[r]? = some o ∧ o.isCells = false) : Whole W' g t cs :=
  h.grown hg (fun e => by
    obtain ⟨o, ho, hc⟩ := hr g e.symm
    have h' : W.heap[g]? = some (Obj.cells cs t (0, 0)) := h
    rw [h'] at ho
    cases ho
    cases hc)

theorem Sl.grownOther {W W' : World} {e : TypeId} {v : Value} {xs : List Value} {ob row : Option Nat} (h : Sl W e v xs ob) (hg : W.grownBy W' row) (hr : ∀ r, row = some r → ∃ o : Obj, W.heap[r]? = some o ∧ o.isCells = false) : Sl W' e v xs ob :=
  h.keep fun g cs _ hw => hw.grownOther hg hr

section
variable {w W W' : World} {b wb k : Nat} {m stop : Int} {v wv : Value} {ob wob : Option Nat} {xs L : List Int}

theorem RInv.grown {row : Option Nat} (h : RInv w b wb m stop W v ob k xs wv wob L) (hg : W.grownBy W' row) (hr : ∀ r, row = some r → w.heap.size ≤ r ∧ ∃ o : Obj, W.heap[r]? = some o ∧ o.isCells = false) :
    RInv w b wb m stop W' v ob k xs wv wob L :=
  have hr' := fun r e => (hr r e).2
  ⟨⟨h.ring.1.grownOther hg hr', h.ring.2.grownOther hg hr'⟩, h.box.grownOther hg hr', h.list.grownOther hg hr', h.apart, h.stop.grownOther hg hr', h.res.grownOther hg hr', h.below.grown hg h.below.size (fun k e => (hr k e).1), h.obIn, h.wobIn, h.bIn, h.wbIn⟩

theorem RInv.under (h : RInv w b wb m stop W v ob k xs wv wob L) (hb : Below W.heap.size W W') : RInv w b wb m stop W' v ob k xs wv wob L :=
  h.grown (below_grown hb) (fun r e => by cases e)

/-- A store into a block that is none of those. -/
theorem RInv.far (h : RInv w b wb m stop W v ob k xs wv wob L) {p : Addr} (hp : w.heap.size ≤ p.block) (h1 : p.block ≠ b) (h2 : p.block ≠ wb) (h3 : p.block ≠ w.heap.size) (h4 : p.block ≠ w.heap.size + 1) (h5 : ob ≠ some p.block) (h6 : wob ≠ some p.block) (u : Value) :
    RInv w b wb m stop (W.setCell p u) v ob k xs wv wob L :=
  ⟨⟨h.ring.1.far (Ne.symm h1) u, h.ring.2.far h5 u⟩, h.box.far (Ne.symm h2) u, h.list.far h6 u, h.apart, h.stop.far (Ne.symm h3) u, h.res.far (Ne.symm h4) u, h.below.setCell hp u, h.obIn, h.wobIn, h.bIn, h.wbIn⟩
end

/-- Safe: whatever was made since the loop began. -/
def SafeFrom (B : Nat) : World → Nat → Prop := fun _ g => B ≤ g

theorem kpFrom_set (B : Nat) (W : World) {p : Addr} (hp : p.block < B) (u : Value) : KpS (SafeFrom B) W (W.setCell p u) := fun g cs t fr hs hg =>
  ⟨(Below.heap_setCell W p u g (by
    have hs' : B ≤ g := hs
    omega)).trans hg, hs⟩
theorem kpS_put {Safe : World → Nat → Prop} (hst : ∀ W g l o', Safe W g → Safe (World.putObj W l o') g) (W : World) (l : Nat) (o o' : Obj) (hl : W.heap[l]? = some o) (hc : o.isCells = false) : KpS Safe W (W.putObj l o') := fun g cs t fr hs hg =>
  ⟨(World.putObj_heap_other (by
    intro e
    subst e
    rw [hg] at hl
    cases hl
    cases hc)).trans hg, hst W g l o' hs⟩

/-- What came is the first of f 0, f 1, .. -/
def IsFirsts {α : Type} (f : Nat → α) (pre : List α) : Prop := pre = firsts f pre.length
theorem IsFirsts.next {α : Type} {f : Nat → α} {pre : List α} (h : IsFirsts f pre) : IsFirsts f (pre ++ [f pre.length]) := by
  unfold IsFirsts
  rw [List.length_append, List.length_singleton, firsts_succ]
  congr 1
theorem isFirsts_of {α : Type} {f : Nat → α} {pre : List α} {j : Nat} (h : pre = firsts f j) : IsFirsts f pre := by
  subst h
  unfold IsFirsts
  rw [firsts_length]
theorem not_firsts {α : Type} {f : Nat → α} {pre : List α} {x : α} (h : x ≠ f pre.length) : ¬ IsFirsts f (pre ++ [x]) := by
  intro hh
  unfold IsFirsts at hh
  rw [List.length_append, List.length_singleton, firsts_succ] at hh
  have := List.append_inj_right' hh rfl
  simp at this
  exact h this

/-- A law's end behind a range over a function: the result's cell holds true; the one mark is taken up. -/
theorem marks_end (n : Nat) (fn : Func) (t : Tmp) (hres : fn.results = #[ResultVar.cell t 4]) {w W : World} {D rb : Nat} {old : Value} (hB : Below w.heap.size w W) (hrc : W.cell? ⟨rb, 0, none⟩ = some old)
    (hK : W.heap[D]? = some (.deferred (some []))) (hD : w.heap.size ≤ D) (hrb : w.heap.size ≤ rb) (tmps : Array Value) (ht : tmps.getD t undef = .pointer (some ⟨rb, 0, none⟩)) :
    postM n Try.prog fn (fun e w' => e = .returned (.bool true) ∧ Below w.heap.size w w') .ret { tmps := tmps, defers := [{ target := .collected D, args := #[] }] } (W.setCell ⟨rb, 0, none⟩ (.bool true)) := by
  have hK' := (KeepsOthers.setCell W ⟨rb, 0, none⟩ (.bool true)).same D _ hK rfl
  refine ⟨by simp, .inl ⟨_, _, rfl, run_takeDeferred hK', ?_⟩⟩
  have hc5 := cell_kept (World.cell?_setCell_same' W ⟨rb, 0, none⟩ (.bool true) (by rw [hrc]; rfl)) (grownBy_putObj' _ D (.deferred none)) (fun r e => by cases e; exact ⟨_, hK', rfl⟩)
  refine ⟨.bool true, ?_, rfl, (hB.setCell (p := ⟨rb, 0, none⟩) hrb _).trans (belowK_b (w := w) (Nat.le_refl _) _ D _ _ hD hK' rfl rfl)⟩
  have ht' : tmps[t]?.getD undef = .pointer (some ⟨rb, 0, none⟩) := by simpa using ht
  simp [results, hres, go_sem, ht', hc5]

end Go.Proofs.Ytgcnocaibhiggaa
