/- Two blocks held against one another. -/
import Derived.Test.YtomnomopcpdpoaaAesRows
import Derived.Laws.StructEq
namespace Go.Proofs.Ytomnomopcpdpoaa
open Go.RowKit
set_option linter.unusedVariables false

theorem run_equalIn_arr (d : Nat) (t e : TypeId) (n : Nat) (ht : Try.prog.underlying t = some (.array n e)) (he : Try.prog.underlying e = some (.int .u8)) (hsz : ∀ w, (sizeOf e).run Try.prog w = .ok 1 w)
    (L M : List Int) (hL : L.length = n) (hM : M.length = n) (w : World) : (Op.equalIn (d + 2) t (.agg (arr .u8 L)) (.agg (arr .u8 M))).run Try.prog w = .ok ((List.range' 0 n 1).all fun i => L.getD i 0 == M.getD i 0) w := by
  rw [Op.equalIn]
  simp only [Sem.run_bind, run_underlying ht, Result.andThen_ok, hsz, Std.Legacy.Range.forIn_eq_forIn_range', Std.Legacy.Range.size, Nat.sub_zero, Nat.add_sub_cancel, Nat.div_one]
  have hl : ∀ i ∈ List.range' 0 n 1, i < n := fun i hi => by simpa using (List.mem_range'_1.1 hi).2
  generalize List.range' 0 n 1 = l at hl ⊢
  induction l with
  | nil => simp
  | cons i l ih =>
    have hi : i < n := hl i (by simp)
    have px : (part e (arr .u8 L) (i * 1)).run Try.prog w = .ok (.int .u8 (L.getD i 0)) w := by
      have := arr_get (k := .u8) (ws := L) (i := i) (by omega)
      simp [part, isAgg, run_underlying he, this]
    have py : (part e (arr .u8 M) (i * 1)).run Try.prog w = .ok (.int .u8 (M.getD i 0)) w := by
      have := arr_get (k := .u8) (ws := M) (i := i) (by omega)
      simp [part, isAgg, run_underlying he, this]
    have pe : (Op.equalIn (d + 1) e (.int .u8 (L.getD i 0)) (.int .u8 (M.getD i 0))).run Try.prog w = .ok (L.getD i 0 == M.getD i 0) w := by
      rw [run_equalIn_int w d e .u8 .u8 _ _ he]
    simp only [List.forIn_cons, Sem.run_bind, px, py, pe, Result.andThen_ok, List.all_cons]
    cases hb : (L.getD i 0 == M.getD i 0)
    · simp
    · simp only [Bool.not_true, Bool.false_eq_true, if_false, Sem.run_pure, Result.andThen_ok, Bool.true_and]
      exact ih fun j hj => hl j (by simp [hj])

/-- Are two blocks of the same bytes? -/
def eq16 (f g : Nat → B) : Bool := (List.range' 0 16 1).all fun i => (fl 16 f).getD i 0 == (fl 16 g).getD i 0
theorem eq16_iff (f g : Nat → B) : eq16 f g = true ↔ ∀ i, i < 16 → f i = g i := by
  unfold eq16
  rw [List.all_eq_true]
  constructor
  · intro h i hi
    have := h i (by rw [List.mem_range'_1]; omega)
    rw [fl_get f hi, fl_get g hi] at this
    exact nb_inj (eq_of_beq this)
  · intro h i hi
    rw [List.mem_range'_1] at hi
    rw [fl_get f (by omega), fl_get g (by omega), h i (by omega)]
    exact beq_self_eq_true _
theorem eq16_same (f : Nat → B) : eq16 f f = true := (eq16_iff f f).2 fun _ _ => rfl
theorem Try.sizeU8' (w : World) : (sizeOf 5).run Try.prog w = .ok 1 w := by kernel_rfl
theorem run_eq16 (f g : Nat → B) (w : World) : (Op.equalIn 10000 22 (.agg (arr .u8 (fl 16 f))) (.agg (arr .u8 (fl 16 g)))).run Try.prog w = .ok (eq16 f g) w :=
  run_equalIn_arr 9998 22 5 16 Try.underlying22 Try.underlying5 Try.sizeU8' (fl 16 f) (fl 16 g) (by simp) (by simp) w
theorem Try.guard22 : Try.prog.eqGuardType Try.prog.depth 22 = false := by kernel_rfl
end Go.Proofs.Ytomnomopcpdpoaa
