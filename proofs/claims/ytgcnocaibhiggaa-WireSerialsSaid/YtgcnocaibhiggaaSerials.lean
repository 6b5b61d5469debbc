/- Numbers that wrap: what the program's and the document's functions give, and that they are alike. -/
import Derived.Test.YtgcnocaibhiggaaReader
namespace Go.Proofs.Ytgcnocaibhiggaa
open Go.RowKit
set_option linter.unusedVariables false

def d16 (a b : Int) : Int := IntKind.u16.wrap (b - a)
def d32 (a b : Int) : Int := IntKind.u32.wrap (b - a)
def bef (m d : Int) : Bool := (d != 0) && decide (d < m)
def far (d : Int) : Int := if d < 32768 then d else d - 65536

theorem ret_bool {x y : Bool} (h : x = y) : Ending.returned (.bool x) = .returned (.bool y) := by rw [h]
theorem ret_int {k : IntKind} {a b : Int} (h : a = b) : Ending.returned (.int k a) = .returned (.int k b) := by rw [h]

theorem d16_is (a b : Int) : d16 a b = (b - a) % 65536 := by unfold d16; rw [IntKind.wrap_u16]
theorem d16_in (a b : Int) : 0 ≤ d16 a b ∧ d16 a b ≤ 65535 := by rw [d16_is]; omega

set_option maxHeartbeats 400000 in
theorem before16_any (a b : Int) (w : World) : Calls Try.prog 9 #[.int .u16 a, .int .u16 b] w fun e w' => e = .returned (.bool (bef 32768 (d16 a b))) ∧ w = w' := by
  go_enter Try.func9, Try.ntmps9
  go_wp2
  all_goals go_ret
  all_goals exact ⟨ret_bool (by first | rfl | simp [bef, d16, *]), rfl⟩

set_option maxHeartbeats 400000 in
theorem rBefore16_any (a b : Int) (w : World) : Calls Try.prog 10 #[.int .u16 a, .int .u16 b] w fun e w' => e = .returned (.bool (bef 32768 (d16 a b))) ∧ w = w' := by
  go_enter Try.func10, Try.ntmps10
  go_wp2
  all_goals go_ret
  all_goals exact ⟨ret_bool (by first | rfl | simp [bef, d16, *]), rfl⟩

set_option maxHeartbeats 400000 in
theorem before32_any (a b : Int) (w : World) : Calls Try.prog 11 #[.int .u32 a, .int .u32 b] w fun e w' => e = .returned (.bool (bef 2147483648 (d32 a b))) ∧ w = w' := by
  go_enter Try.func11, Try.ntmps11
  go_wp2
  all_goals go_ret
  all_goals exact ⟨ret_bool (by simp only [bef, d32, IntKind.wrap_u32]; try simp [*]), rfl⟩

set_option maxHeartbeats 400000 in
theorem rBefore32_any (a b : Int) (w : World) : Calls Try.prog 12 #[.int .u32 a, .int .u32 b] w fun e w' => e = .returned (.bool (bef 2147483648 (d32 a b))) ∧ w = w' := by
  go_enter Try.func12, Try.ntmps12
  go_wp2
  all_goals go_ret
  all_goals exact ⟨ret_bool (by simp only [bef, d32, IntKind.wrap_u32]; try simp [*]), rfl⟩

theorem far_i16 (a b : Int) : IntKind.i16.wrap (IntKind.u16.wrap (b - a)) = far (d16 a b) := by
  have h := d16_in a b
  show IntKind.i16.wrap (d16 a b) = _
  simp only [IntKind.wrap, IntKind.bits, IntKind.signed, far]
  simp
  split <;> split <;> omega

theorem far_in (d : Int) (h : 0 ≤ d ∧ d ≤ 65535) : -32768 ≤ far d ∧ far d ≤ 32767 := by
  unfold far
  split <;> omega

set_option maxHeartbeats 400000 in
theorem far16_any (a b : Int) (w : World) : Calls Try.prog 13 #[.int .u16 a, .int .u16 b] w fun e w' => e = .returned (.int .i64 (far (d16 a b))) ∧ w = w' := by
  go_enter Try.func13, Try.ntmps13
  go_wp2
  go_ret
  refine ⟨ret_int ?_, rfl⟩
  have h := far_in _ (d16_in a b)
  rw [far_i16]
  simp only [wrap64]
  omega

set_option maxHeartbeats 400000 in
theorem rFar16_any (a b : Int) (w : World) : Calls Try.prog 14 #[.int .u16 a, .int .u16 b] w fun e w' => e = .returned (.int .i64 (far (d16 a b))) ∧ w = w' := by
  go_enter Try.func14, Try.ntmps14
  go_wp2
  all_goals go_ret
  all_goals
    refine ⟨ret_int ?_, rfl⟩
    rename_i h
    simp only [wrap64, far, d16, IntKind.wrap_u16] at *
    split <;> omega

/-- b is a and what lies between. -/
theorem far_sum (a b : Int) (hb : 0 ≤ b ∧ b ≤ 65535) : IntKind.u16.wrap (a + IntKind.u16.wrap (far (d16 a b))) = b := by
  unfold far
  have h := d16_is a b
  rw [IntKind.wrap_u16, IntKind.wrap_u16]
  split <;> omega

theorem far_pos (a b : Int) : decide (0 < far (d16 a b)) = bef 32768 (d16 a b) := by
  have h := d16_in a b
  unfold far bef
  by_cases h0 : d16 a b = 0
  · simp [h0]
  · by_cases h1 : d16 a b < 32768
    · have h2 : 0 < d16 a b := by omega
      simp [h0, h1, h2]
    · simp [h1]; omega

/-- Of two numbers that differ, and aren't just half a round apart, one is behind the other. -/
theorem bef_other (a b : Int) (ha : 0 ≤ a ∧ a ≤ 65535) (hb : 0 ≤ b ∧ b ≤ 65535) (hne : a ≠ b) (hap : d16 a b ≠ 32768) : bef 32768 (d16 b a) = !bef 32768 (d16 a b) := by
  have e : d16 b a = 65536 - d16 a b := by rw [d16_is, d16_is]; omega
  have h := d16_in a b
  have h0 : d16 a b ≠ 0 := by rw [d16_is]; omega
  rw [e]
  unfold bef
  by_cases h1 : d16 a b < 32768
  · have h2 : ¬ 65536 - d16 a b < 32768 := by omega
    simp [h0, h1, h2]
  · have h2 : 65536 - d16 a b < 32768 := by omega
    have h3 : ¬ 65536 - d16 a b = 0 := by omega
    simp [h1, h2, h3]

set_option maxHeartbeats 1600000 in
/-- The law, where the facts on its tests are at hand. -/
theorem serials_case (a b c d : Int) (x y : Bool) (h1 : bef 32768 (d16 a b) = x) (h2 : bef 32768 (d16 b a) = y) (hs : (IntKind.u16.wrap (a + IntKind.u16.wrap (far (d16 a b))) == b) = true)
    (hp : decide (0 < far (d16 a b)) = x) (u v : Bool) (he : (a == b) = u) (hap : (IntKind.u16.wrap (b - a) != 32768) = v) (hall : (u || !v || (x != y)) = true) (w : World) :
    Calls Try.prog 3 #[.int .u16 a, .int .u16 b, .int .u32 c, .int .u32 d] w fun e w' => e = .returned (.bool true) ∧ Below w.heap.size w w' := by
  cases u <;> cases v <;> cases x <;> cases y <;> first | (exact absurd hall (by decide)) | skip
  all_goals
    clear hall
    go_enter Try.func3, Try.ntmps3
    go_wp2_with (first
      | (go_at_call 8; refine (awake_yes _).mono ?_; rintro e w1 ⟨rfl, hB⟩)
      | (go_at_call 9; refine (before16_any _ _ _).mono ?_; rintro e w' ⟨rfl, rfl⟩)
      | (go_at_call 10; refine (rBefore16_any _ _ _).mono ?_; rintro e w' ⟨rfl, rfl⟩)
      | (go_at_call 11; refine (before32_any _ _ _).mono ?_; rintro e w' ⟨rfl, rfl⟩)
      | (go_at_call 12; refine (rBefore32_any _ _ _).mono ?_; rintro e w' ⟨rfl, rfl⟩)
      | (go_at_call 13; refine (far16_any _ _ _).mono ?_; rintro e w' ⟨rfl, rfl⟩)
      | (go_at_call 14; refine (rFar16_any _ _ _).mono ?_; rintro e w' ⟨rfl, rfl⟩))
    go_ret
    exact ⟨rfl, hB⟩

theorem serials_walk (a b c d : Int) (ha : 0 ≤ a ∧ a ≤ 65535) (hb : 0 ≤ b ∧ b ≤ 65535) (w : World) :
    Calls Try.prog 3 #[.int .u16 a, .int .u16 b, .int .u32 c, .int .u32 d] w fun e w' => e = .returned (.bool true) ∧ Below w.heap.size w w' := by
  refine serials_case a b c d _ _ rfl rfl (by rw [far_sum a b hb]; simp) (far_pos a b) _ _ rfl rfl ?_ w
  by_cases he : a = b
  · simp [he]
  · by_cases hap : d16 a b = 32768
    · have : IntKind.u16.wrap (b - a) = 32768 := hap
      simp [this]
    · rw [bef_other a b ha hb he hap]
      cases bef 32768 (d16 a b) <;> simp

end Go.Proofs.Ytgcnocaibhiggaa
