import Derived.Test.YtbbedhecfipdjaaGreatDoorPkDescPrintsA06
import Derived.RangeFuncNested
import Derived.RangeFuncBound
import Derived.RangeFuncCalls
import Derived.RangeFuncLeaves
import Derived.Shelf.Abstract
import Derived.OwnWalkIn
import Derived.TacticsInMore
import Derived.LoopNIn
import Derived.LoopIn
import Derived.Deep.DeepMust
namespace Go.Proofs.YtbbedhecfipdjaaGreatDoor
open Go.RowKit Go.Shelf
set_option linter.unusedVariables false
set_option linter.unusedSimpArgs false
structure Books (K : Nat) (r : Loop) (W : World) : Prop where
 loop : W.heap[K + 1]? = some (.loop r)
 late : W.heap[K]? = some (.deferred (some []))
theorem Books.keeps {K : Nat} {r : Loop} {W W' : World} (h : Books K r W) (k : KeepsFrom K W W') : Books K r W' := ⟨k.same _ _ (by omega) h.loop rfl, k.same _ _ (Nat.le_refl _) h.late rfl⟩
theorem Books.under {K : Nat} {r : Loop} {W W' : World} (h : Books K r W) (k : Below W.heap.size W W') : Books K r W' := h.keeps ((others_under k).from K)
end Go.Proofs.YtbbedhecfipdjaaGreatDoor
