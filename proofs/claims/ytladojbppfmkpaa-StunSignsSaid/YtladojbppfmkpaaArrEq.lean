/- Two arrays of the same bytes are equal. -/
import Derived.Test.YtladojbppfmkpaaArr
import Derived.Laws.StructEq
namespace Go.Proofs.Ytladojbppfmkpaa
open Go.RowKit
set_option linter.unusedVariables false

theorem run_equalIn_same (d : Nat) (t e : TypeId) (n : Nat) (ht : Try.prog.underlying t = some (.array n e)) (he : Try.prog.underlying e = some (.int .u8)) (hsz : ∀ w, (sizeOf e).run Try.prog w = .ok 1 w)
    (L : List Int) (hL : L.length = n) (w : World) : (Op.equalIn (d + 2) t (.agg (arr .u8 L)) (.agg (arr .u8 L))).run Try.prog w = .ok true w := by
  rw [Op.equalIn]
  simp only [Sem.run_bind, run_underlying ht, Result.andThen_ok, hsz, Std.Legacy.Range.forIn_eq_forIn_range', Std.Legacy.Range.size, Nat.sub_zero, Nat.add_sub_cancel, Nat.div_one]
  have hl : ∀ i ∈ List.range' 0 n 1, i < n := fun i hi => by simpa using (List.mem_range'_1.1 hi).2
  generalize List.range' 0 n 1 = l at hl ⊢
  induction l with
  | nil => simp
  | cons i l ih =>
    have hi : i < n := hl i (by simp)
    have px : (part e (arr .u8 L) (i * 1)).run Try.prog w = .ok (.int .u8 (L.getD i 0)) w := by
      have := arr_get (k := .u8) (ws := L) (i := i) (by omega)
      simp [part, isAgg, run_underlying he, this]
    have pe : (Op.equalIn (d + 1) e (.int .u8 (L.getD i 0)) (.int .u8 (L.getD i 0))).run Try.prog w = .ok true w := by
      rw [run_equalIn_int w d e .u8 .u8 _ _ he]
      simp
    simp only [List.forIn_cons, Sem.run_bind, px, pe, Result.andThen_ok, Bool.not_true, Bool.false_eq_true, if_false, Sem.run_pure]
    exact ih fun j hj => hl j (by simp [hj])

theorem Try.sizeU8 (w : World) : (sizeOf 5).run Try.prog w = .ok 1 w := by kernel_rfl
theorem same20 (L : List Int) (hL : L.length = 20) (w : World) : (Op.equalIn 10000 79 (.agg (arr .u8 L)) (.agg (arr .u8 L))).run Try.prog w = .ok true w :=
  run_equalIn_same 9998 79 5 20 Try.underlying79 Try.underlying5 Try.sizeU8 L hL w
theorem Try.guard79 : Try.prog.eqGuardType Try.prog.depth 79 = false := by kernel_rfl

end Go.Proofs.Ytladojbppfmkpaa
