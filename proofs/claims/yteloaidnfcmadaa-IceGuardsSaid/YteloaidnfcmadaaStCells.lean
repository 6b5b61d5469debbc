/- Whole blocks as ranges of cells. -/
import Derived.Test.YteloaidnfcmadaaStOursP
namespace Go.Proofs.Yteloaidnfcmadaa
open Go.RowKit
set_option linter.unusedVariables false

theorem Whole.range {w : World} {g : Nat} {t : TypeId} {cs : List Value} (h : Whole w g t cs.toArray) : w.rangeAt g 0 cs := fun j v hv => by
  rw [Nat.zero_add, h.cell, List.getElem?_toArray, hv]
theorem Whole.there {w : World} {g : Nat} {t : TypeId} {cs : Array Value} {n : Nat} (h : Whole w g t cs) (hn : cs.size = n) : w.there g 0 n := fun j hj => by
  rw [Nat.zero_add]
  refine ⟨?_, h.frz j⟩
  rw [h.cell, Array.getElem?_eq_getElem (by omega)]
  rfl
theorem Whole.cells {g : Nat} {t : TypeId} : ∀ (vs : List Value) (o : Nat) (w : World) (old : List Value), Whole w g t old.toArray → o + vs.length ≤ old.length → Whole (w.setCells g o vs) g t (old.take o ++ (vs ++ old.drop (o + vs.length))).toArray
  | [], o, w, old, h, _ => by simpa [World.setCells] using h
  | v :: r, o, w, old, h, hl => by
    have hl' : o + (r.length + 1) ≤ old.length := hl
    have h1 : Whole (w.setCell ⟨g, o, none⟩ v) g t (old.set o v).toArray := by
      have := h.set o v
      rw [List.setIfInBounds_toArray] at this
      exact this
    have h2 := Whole.cells r (o + 1) _ (old.set o v) h1 (by rw [List.length_set]; omega)
    have e : (old.set o v).take (o + 1) ++ (r ++ (old.set o v).drop (o + 1 + r.length)) = old.take o ++ (v :: r ++ old.drop (o + (v :: r).length)) := by
      have e1 : (old.set o v).take (o + 1) = old.take o ++ [v] := by
        rw [List.take_set, List.take_succ_eq_append_getElem (by omega), List.set_append_right _ _ (by rw [List.length_take]; omega)]
        have : min o old.length = o := by omega
        simp [this]
      have e2 : (old.set o v).drop (o + 1 + r.length) = old.drop (o + (v :: r).length) := by
        rw [List.drop_set, if_pos (by omega)]
        congr 1
        simp
        omega
      rw [e1, e2]
      simp
    rw [e] at h2
    exact h2
theorem Whole.cellsAll {w : World} {g : Nat} {t : TypeId} {old : Array Value} (h : Whole w g t old) (cs : List Value) (hl : cs.length = old.size) : Whole (w.setCells g 0 cs) g t cs.toArray := by
  obtain ⟨old⟩ := old
  have hl' : cs.length = old.length := by simpa using hl
  have := Whole.cells cs 0 w old h (by omega)
  rw [Nat.zero_add, List.take_zero, List.nil_append, List.drop_of_length_le (by omega), List.append_nil] at this
  exact this
theorem below_cells {B : Nat} {a : World} {g : Nat} (hg : B ≤ g) : ∀ (vs : List Value) (o : Nat) (w : World), Below B a w → Below B a (w.setCells g o vs)
  | [], _, _, h => h
  | v :: r, o, w, h => below_cells hg r (o + 1) _ (h.setCell (p := ⟨g, o, none⟩) hg v)
end Go.Proofs.Yteloaidnfcmadaa
