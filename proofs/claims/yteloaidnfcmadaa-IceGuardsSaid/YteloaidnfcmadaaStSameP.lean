/- Comparing arrays of twelve bytes; a guarded load of a part. -/
import Derived.Test.YteloaidnfcmadaaStOursP
import Derived.Test.YteloaidnfcmadaaBase
namespace Go.Proofs.Yteloaidnfcmadaa
open Go.RowKit
set_option linter.unusedVariables false
theorem same12 (L : List Int) (hL : L.length = 12) (w : World) : (Op.equalIn 10000 37 (.agg (arr .u8 L)) (.agg (arr .u8 L))).run Try.prog w = .ok true w :=
  run_equalIn_same 9998 37 5 12 Try.underlying37 Try.underlying5 Try.sizeU8 L hL w
theorem Try.guard37 : Try.prog.eqGuardType Try.prog.depth 37 = false := by kernel_rfl

theorem wpList_load_midG {ops : Array Oper} {rest : List Oper} {op : Oper} {a : Act} {w : World} {Q : Exit → Act → World → Prop} (hw : Region.wanted op (yielded ops a.tmps) = true) (ty : TypeId) (x : Operand) (ho : op.op = .load ty x)
    (b o : Nat) (hx : a.eval x = .pointer (some ⟨b, o, none⟩)) (cs : List Value) (d : TypeDesc) (hc : w.rangeAt b o cs)
    (hu : Try.prog.underlying ty = some d) (hd : d.isRow = true) (hi : (Try.prog.info? ty).map (·.size) = some cs.length)
    (h : wpList Try.prog ops Q rest (a.put op.dst (.agg cs.toArray)) w) : wpList Try.prog ops Q (op :: rest) a w :=
  wpList_step fun K hK => by rw [if_pos hw]; exact wp_load_mid ty x ho b o hx cs d hc hu hd hi (hK _ _ h)
theorem choose_at {α : Type} [Inhabited α] {n : Nat} {P : Nat → α → Prop} (h : ∀ i, i < n → ∃ a, P i a) : ∃ f : Nat → α, ∀ i, i < n → P i (f i) := by
  refine ⟨fun i => if hi : i < n then Classical.choose (h i hi) else default, fun i hi => ?_⟩
  simp only [hi, dite_true]
  exact Classical.choose_spec (h i hi)
end Go.Proofs.Yteloaidnfcmadaa
