import Derived.Test.YtdhlifjiclighaaGreatPkJudgeMadeA12
import Derived.Test.YtdhlifjiclighaaGreatPkJudgeMadeA06
namespace Go.Proofs.YtdhlifjiclighaaGreat
open Go.RowKit
set_option linter.unusedVariables false
set_option linter.unusedSimpArgs false
theorem taken_next {A : List MediaS} {i : Nat} {m : MediaS} (h : A[i]? = some m) : takenMids (A.take (i + 1)) = if tookT m = true then takenMids (A.take i) ++ [m.mid] else takenMids (A.take i) := by
 unfold takenMids
 rw [List.take_add_one, h, List.filter_append]
 by_cases ht : tookT m = true
 · rw [if_pos ht]
   simp [ht]
 · rw [if_neg ht]
   simp [ht]
theorem taken_le (A : List MediaS) : (takenMids A).length ≤ A.length := by
 unfold takenMids
 rw [List.length_map]
 exact List.length_filter_le _ _
end Go.Proofs.YtdhlifjiclighaaGreat
