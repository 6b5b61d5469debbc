import Derived.Test.YtdhlifjiclighaaGreatPkJudgeMadeA03
namespace Go.Proofs.YtdhlifjiclighaaGreat
open Go.RowKit
set_option linter.unusedVariables false
set_option linter.unusedSimpArgs false
theorem drop_at {α : Type} [Inhabited α] {L : List α} {k : Nat} (hk : k < L.length) : L.drop k = L.getD k default :: L.drop (k + 1) := by
 rw [List.drop_eq_getElem_cons hk]
 simp [List.getD, hk]
end Go.Proofs.YtdhlifjiclighaaGreat
