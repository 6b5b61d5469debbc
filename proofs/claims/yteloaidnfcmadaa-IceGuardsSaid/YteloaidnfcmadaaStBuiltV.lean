/- What a Build answers, as one value for both. -/
import Derived.Test.YteloaidnfcmadaaStRow
namespace Go.Proofs.Yteloaidnfcmadaa
open Go.RowKit
set_option linter.unusedVariables false

def BuiltV (w w' : World) (m : Msg) (v : Value) (e : Int) : Prop := (Valid m ∧ e = 0 ∧ Own8 w' w.heap.size v (msgBytes m)) ∨ (¬ Valid m ∧ e = 1 ∧ v = .slice none 0 0)
theorem build_v (M : Array Value) (m : Msg) (A : Option Addr) (c : Nat) (w : World) (h : MsgV w w.heap.size M m A c) :
    Calls Try.prog 24 #[.agg M] w fun e w' => ∃ v x, e = .returned (.tuple #[v, .int .i64 x]) ∧ BuiltV w w' m v x ∧ Below w.heap.size w w' :=
  (build_any M m A c w h).mono fun e w' ⟨hr, hb⟩ => by
    rcases hr with ⟨a1, v, a2, a3, -⟩ | ⟨a1, a2⟩
    · exact ⟨v, 0, a2, .inl ⟨a1, rfl, a3⟩, hb⟩
    · exact ⟨_, 1, a2, .inr ⟨a1, rfl, rfl⟩, hb⟩
theorem rbuild_v (M : Array Value) (m : Msg) (A : Option Addr) (c : Nat) (w : World) (h : MsgV w w.heap.size M m A c) (hf : Fine m) :
    Calls Try.prog 18 #[.agg M] w fun e w' => ∃ v x, e = .returned (.tuple #[v, .int .i64 x]) ∧ BuiltV w w' m v x ∧ Below w.heap.size w w' :=
  (rbuild_any M m A c w h hf).mono fun e w' ⟨hr, hb⟩ => by
    rcases hr with ⟨a1, v, a2, a3⟩ | ⟨a1, a2⟩
    · exact ⟨v, 0, a2, .inl ⟨a1, rfl, a3⟩, hb⟩
    · exact ⟨_, 1, a2, .inr ⟨a1, rfl, rfl⟩, hb⟩
end Go.Proofs.Yteloaidnfcmadaa
