import Derived.Test.YtbbedhecfipdjaaGreatDoorPkDescPrintsA12
namespace Go.Proofs.YtbbedhecfipdjaaGreatDoor
open Go.RowKit Go.Shelf
set_option linter.unusedVariables false
set_option linter.unusedSimpArgs false
theorem EnvR.low {w w' : World} {B : Nat} (h : EnvR w) (hb : Below B w w') (hB : 7 ≤ B) : EnvR w' := by
 obtain ⟨e1, h1, k1⟩ := h.syn
 obtain ⟨e2, h2, k2⟩ := h.rng
 exact ⟨h.env.low hb hB, ⟨e1, (hb.cell (p := ⟨4, 0, Option.none⟩) (Nat.lt_of_lt_of_le (show 4 < 7 by decide) hB)).trans h1, k1⟩, ⟨e2, (hb.cell (p := ⟨5, 0, Option.none⟩) (Nat.lt_of_lt_of_le (show 5 < 7 by decide) hB)).trans h2, k2⟩⟩
theorem MW.zero {base bm : Nat} {W : World} (h : Whole W bm 28 zeroM) (hb : base ≤ bm) : MW base bm 0 W MediaS.zero [] (.slice none 0 0) (.slice none 0 0) (.slice none 0 0) (.slice none 0 0) (.slice none 0 0) :=
 ⟨rfl, h, Own.nil _ _ _ _, (fun c hc => by cases hc), Own.nil _ _ _ _, Own.nil _ _ _ _, Own.nil _ _ _ _, Own.nil _ _ _ _, (by simp), hb,
  ⟨by decide, (fun c hc => by cases hc), (fun c hc => by cases hc), (fun c hc => by cases hc), (fun c hc => by cases hc), ⟨(fun c hc => by cases hc), (fun c hc => by cases hc)⟩, by decide⟩,
  (by simp [MediaS.zero])⟩
attribute [local go_sem] Oper.semAt_some
end Go.Proofs.YtbbedhecfipdjaaGreatDoor
