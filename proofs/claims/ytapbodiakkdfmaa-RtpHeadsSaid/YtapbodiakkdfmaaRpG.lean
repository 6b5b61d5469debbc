/- The statements' first question (awake) is answered with yes. -/
import Derived.Test.YtapbodiakkdfmaaRpB
import Derived.Test.YtapbodiakkdfmaaStAwake
namespace Go.Proofs.Ytapbodiakkdfmaa
open Go.RowKit
set_option linter.unusedVariables false

theorem build_pk1 (w : World) : (Instr.build 37 #[(8, .int .i64 1)]).run Try.prog w = .ok (.agg (pk false 0 0 0 0 (.slice none 0 0) (.slice none 0 0) (.slice none 0 0) 1)) w := run_build w 37 _ _ (by kernel_rfl)
theorem flatB_one : flatB false 0 [] 1 = [160, 0, 0, 0, 0, 0, 0, 0, 0, 0, 0, 0, 1] := by decide

set_option maxHeartbeats 800000 in
set_option maxRecDepth 100000 in
theorem awake12_yes (w : World) : Calls Try.prog 5 #[] w fun e w' => e = .returned (.bool true) ∧ Below w.heap.size w w' := by
  have HB : Hid (Calls Try.prog 11 #[.agg (pk false 0 0 0 0 (.slice none 0 0) (.slice none 0 0) (.slice none 0 0) 1)] w fun e w' => ∃ v, e = .returned (.tuple #[v, .int .i64 0]) ∧ Own8 w' w.heap.size v (flatB false 0 [] 1) ∧ Below w.heap.size w w') :=
    Lib.hid (build_flat false 0 none 0 1 [] (by decide) (by decide) (by decide) (by decide) (by decide) w ⟨rfl, fun h => by simp at h⟩ (fun _ => rfl))
  have HBO := Lib.hid (fun W => build_pk1 W)
  obtain ⟨Z, hZ⟩ : ∃ Z, pk false 0 0 0 0 (.slice none 0 0) (.slice none 0 0) (.slice none 0 0) 1 = Z := ⟨_, rfl⟩
  rw [hZ] at HB
  simp only [hZ] at HBO
  clear hZ
  go_enter Try.func5, Try.ntmps5
  go_upto_region 2 with (first
    | (refine wpList_build1 rfl 37 8 (.const (.int .i64 1)) rfl (u := .int .i64 1) (v := .agg Z) rfl (HBO.out _) ?_)
    | (go_at_call 11; (with_reducible refine HB.out.mono ?_); rintro e w1 ⟨v, rfl, ho, hb1⟩))
  rw [flatB_one] at ho
  obtain ⟨g, c, rfl, -, -, hc0, -⟩ := ho.at_ (i := 0) (by decide)
  obtain ⟨g', c', e, -, -, hc12, -⟩ := ho.at_ (i := 12) (by decide)
  cases e
  have d0 : w1.cell? ⟨g, 0, none⟩ = some (.int .u8 160) := hc0
  have d12 : w1.cell? ⟨g, 12, none⟩ = some (.int .u8 1) := hc12
  have HBB := Lib.hid hb1
  clear hc0 hc12 ho hb1
  go_wp2
  go_ret
  exact ⟨rfl, HBB.out⟩
end Go.Proofs.Ytapbodiakkdfmaa
