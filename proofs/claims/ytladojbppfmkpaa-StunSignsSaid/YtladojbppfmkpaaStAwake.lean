/- The statements' first question (awake) is answered with yes. -/
import Derived.Test.YtladojbppfmkpaaStOurs
namespace Go.Proofs.Ytladojbppfmkpaa
open Go.RowKit
set_option linter.unusedVariables false

def mOne : Msg := ⟨0, 1, [0, 0, 0, 0, 0, 0, 0, 0, 0, 0, 0, 0], []⟩
theorem mOne_valid : Valid mOne := ⟨by decide, by decide, by decide, by decide, by decide, (fun a ha => by cases ha), by decide⟩
def mOneV : Array Value := mv 0 1 [0, 0, 0, 0, 0, 0, 0, 0, 0, 0, 0, 0] (.slice none 0 0)
theorem mOne_in (w : World) : MsgV w w.heap.size mOneV mOne none 0 := ⟨rfl, rfl, Nat.le_refl _, Nat.zero_le _, fun _ => rfl, Ats.nil _ _ _⟩
theorem built_one : Try.prog.built 34 [(1, .int .i64 1)] = some mOneV := by kernel_rfl
theorem build_one (w : World) : (Instr.build 34 #[(1, .int .i64 1)]).run Try.prog w = .ok (.agg mOneV) w := run_build w 34 _ _ built_one
theorem wpList_build1 {ops : Array Oper} {rest : List Oper} {o : Oper} {a : Act} {w : World} {Q : Exit → Act → World → Prop} (hgd : o.guard = none) (t : TypeId) (i : Nat) (x : Operand) (ho : o.op = .build t #[(i, x)]) {u v : Value} (hx : a.eval x = u)
    (hr : (Instr.build t #[(i, u)]).run Try.prog w = .ok v w) (h : wpList Try.prog ops Q rest (a.put o.dst v) w) : wpList Try.prog ops Q (o :: rest) a w := by
  refine wpList_plain hgd fun K hK => ?_
  unfold Oper.wp execOp
  simp only [ho, Sem.run_bind, List.map_toArray, List.map_cons, List.map_nil, hx, hr, Result.andThen_ok, Sem.run_pure]
  exact hK _ _ h
theorem mOne_bytes : msgBytes mOne = [0, 1, 0, 0, 33, 18, 164, 66, 0, 0, 0, 0, 0, 0, 0, 0, 0, 0, 0, 0] := by decide

set_option maxHeartbeats 800000 in
set_option maxRecDepth 100000 in
theorem awake_yes (w : World) : Calls Try.prog 9 #[] w fun e w' => e = .returned (.bool true) ∧ Below w.heap.size w w' := by
  have HB := Lib.hid (build_any mOneV mOne none 0 w (mOne_in w))
  have HBO := Lib.hid (fun W => build_one W)
  obtain ⟨Z, hZ⟩ : ∃ Z, mOneV = Z := ⟨_, rfl⟩
  rw [hZ] at HB
  simp only [hZ] at HBO
  clear hZ
  go_enter Try.func9, Try.ntmps9
  go_upto_region 2 with (first
    | (refine wpList_build1 rfl 34 1 (.const (.int .i64 1)) rfl (u := .int .i64 1) (v := .agg Z) rfl (HBO.out _) ?_)
    | (go_at_call 11; (with_reducible refine HB.out.mono ?_); rintro e w1 ⟨h1, hb1⟩; rcases h1 with ⟨-, v, rfl, ho, -⟩ | ⟨hn, -⟩; rotate_left; exact absurd mOne_valid hn))
  rw [mOne_bytes] at ho
  obtain ⟨g, c, rfl, -, -, hc1, -⟩ := ho.at_ (i := 1) (by decide)
  obtain ⟨g', c', e, -, -, hc4, -⟩ := ho.at_ (i := 4) (by decide)
  cases e
  have d1 : w1.cell? ⟨g, 1, none⟩ = some (.int .u8 1) := hc1
  have d4 : w1.cell? ⟨g, 4, none⟩ = some (.int .u8 33) := hc4
  have HBB := Lib.hid hb1
  clear hc1 hc4 ho hb1
  go_wp2
  go_ret
  exact ⟨rfl, HBB.out⟩
end Go.Proofs.Ytladojbppfmkpaa
