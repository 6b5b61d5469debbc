/- The document's Join: pieces, one behind the other. -/
import Derived.Test.YtapbodiakkdfmaaStWrite
namespace Go.Proofs.Ytapbodiakkdfmaa
open Go.RowKit
set_option linter.unusedVariables false

/-- The slices vs read as the pieces ps. -/
def Pieces (w : World) (B : Nat) (vs : List Value) (ps : List (List Int)) : Prop := vs.length = ps.length ∧ ∀ i, i < vs.length → V8 w B (vs.getD i undef) (ps.getD i [])
theorem Pieces.below {w w' : World} {B : Nat} {vs : List Value} {ps : List (List Int)} (h : Pieces w B vs ps) (hb : Below B w w') : Pieces w' B vs ps := ⟨h.1, fun i hi => (h.2 i hi).below hb⟩
theorem Pieces.nil (w : World) (B : Nat) : Pieces w B [] [] := ⟨rfl, fun i hi => by simp at hi⟩
theorem Pieces.cons {w : World} {B : Nat} {v : Value} {p : List Int} {vs : List Value} {ps : List (List Int)} (h : V8 w B v p) (hr : Pieces w B vs ps) : Pieces w B (v :: vs) (p :: ps) :=
  ⟨by simp [hr.1], fun i hi => by
    cases i with
    | zero => exact h
    | succ i => exact hr.2 i (by simpa using hi)⟩
end Go.Proofs.Ytapbodiakkdfmaa
