/- AES's small functions, the program's and the document's: twice, the turns, mixed, spread, times, sub. -/
import Derived.Test.YtomnomopcpdpoaaArr
import Derived.Test.YtomnomopcpdpoaaAesInt
namespace Go.Proofs.Ytomnomopcpdpoaa
open Go.RowKit
set_option linter.unusedVariables false

theorem ret_i {k : IntKind} {a b : Int} (h : a = b) : Ending.returned (.int k a) = .returned (.int k b) := by rw [h]

set_option maxHeartbeats 400000 in
theorem twice_any (a b c d : B) (w : World) : Calls Try.prog 22 #[.int .u32 (nc a b c d)] w fun e w' => e = .returned (.int .u32 (nc (tw a) (tw b) (tw c) (tw d))) ∧ w = w' := by
  have h := twice_int a b c d
  obtain ⟨h0, h1⟩ := nc_in a b c d
  generalize nc a b c d = x at *
  generalize nc (tw a) (tw b) (tw c) (tw d) = y at *
  have H := Lib.hid h
  clear h
  go_enter Try.func22, Try.ntmps22
  go_wp2
  go_ret
  exact ⟨ret_i H.out, rfl⟩

set_option maxHeartbeats 400000 in
theorem rot8_any (a : B) (k : Nat) (hk : k = 1 ∨ k = 2 ∨ k = 3 ∨ k = 4) (w : World) : Calls Try.prog 30 #[.int .u8 (nb a), .int .i64 k] w fun e w' => e = .returned (.int .u8 (nb (a.rotateLeft k))) ∧ w = w' := by
  obtain ⟨h0, h1⟩ := nb_in a
  have e1 := rot1_int a
  have e2 := rot2_int a
  have e3 := rot3_int a
  have e4 := rot4_int a
  have H := Lib.hid (And.intro e1 (And.intro e2 (And.intro e3 e4)))
  clear e1 e2 e3 e4
  rcases hk with rfl | rfl | rfl | rfl
  · generalize nb (a.rotateLeft 1) = y at *
    generalize nb a = x at *
    have h5 : bits .and .u64 1 7 = 1 := by decide
    show Calls Try.prog 30 #[.int .u8 x, .int .i64 1] w _
    go_enter Try.func30, Try.ntmps30
    go_wp2
    go_ret
    exact ⟨ret_i H.out.1, rfl⟩
  · generalize nb (a.rotateLeft 2) = y at *
    generalize nb a = x at *
    have h5 : bits .and .u64 2 7 = 2 := by decide
    show Calls Try.prog 30 #[.int .u8 x, .int .i64 2] w _
    go_enter Try.func30, Try.ntmps30
    go_wp2
    go_ret
    exact ⟨ret_i H.out.2.1, rfl⟩
  · generalize nb (a.rotateLeft 3) = y at *
    generalize nb a = x at *
    have h5 : bits .and .u64 3 7 = 3 := by decide
    show Calls Try.prog 30 #[.int .u8 x, .int .i64 3] w _
    go_enter Try.func30, Try.ntmps30
    go_wp2
    go_ret
    exact ⟨ret_i H.out.2.2.1, rfl⟩
  · generalize nb (a.rotateLeft 4) = y at *
    generalize nb a = x at *
    have h5 : bits .and .u64 4 7 = 4 := by decide
    show Calls Try.prog 30 #[.int .u8 x, .int .i64 4] w _
    go_enter Try.func30, Try.ntmps30
    go_wp2
    go_ret
    exact ⟨ret_i H.out.2.2.2, rfl⟩

set_option maxHeartbeats 400000 in
theorem rotc_8 (a b c d : B) (w : World) : Calls Try.prog 20 #[.int .u32 (nc a b c d), .int .i64 8] w fun e w' => e = .returned (.int .u32 (nc b c d a)) ∧ w = w' := by
  have h := rot32_8 a b c d
  obtain ⟨h0, h1⟩ := nc_in a b c d
  generalize nc a b c d = x at *
  generalize nc b c d a = y at *
  have H := Lib.hid h
  clear h
  have h5 : bits .and .u64 8 31 = 8 := by decide
  go_enter Try.func20, Try.ntmps20
  go_wp2
  go_ret
  exact ⟨ret_i H.out, rfl⟩
set_option maxHeartbeats 400000 in
theorem rotc_16 (a b c d : B) (w : World) : Calls Try.prog 20 #[.int .u32 (nc a b c d), .int .i64 16] w fun e w' => e = .returned (.int .u32 (nc c d a b)) ∧ w = w' := by
  have h := rot32_16 a b c d
  obtain ⟨h0, h1⟩ := nc_in a b c d
  generalize nc a b c d = x at *
  generalize nc c d a b = y at *
  have H := Lib.hid h
  clear h
  have h5 : bits .and .u64 16 31 = 16 := by decide
  go_enter Try.func20, Try.ntmps20
  go_wp2
  go_ret
  exact ⟨ret_i H.out, rfl⟩
set_option maxHeartbeats 400000 in
theorem rotc_24 (a b c d : B) (w : World) : Calls Try.prog 20 #[.int .u32 (nc a b c d), .int .i64 24] w fun e w' => e = .returned (.int .u32 (nc d a b c)) ∧ w = w' := by
  have h := rot32_24 a b c d
  obtain ⟨h0, h1⟩ := nc_in a b c d
  generalize nc a b c d = x at *
  generalize nc d a b c = y at *
  have H := Lib.hid h
  clear h
  have h5 : bits .and .u64 24 31 = 24 := by decide
  go_enter Try.func20, Try.ntmps20
  go_wp2
  go_ret
  exact ⟨ret_i H.out, rfl⟩

/-- A column, multiplied. -/
theorem mixed_eq (a b c d : B) : bits .xor .u32 (bits .xor .u32 (bits .xor .u32 (nc (tw (a ^^^ b)) (tw (b ^^^ c)) (tw (c ^^^ d)) (tw (d ^^^ a))) (nc b c d a)) (nc c d a b)) (nc d a b c) = nc (m4 a b c d) (m4 b c d a) (m4 c d a b) (m4 d a b c) := by
  rw [nc_xor, nc_xor, nc_xor]
  unfold m4
  simp only [tw_xor, BitVec.xor_assoc]

set_option maxHeartbeats 400000 in
theorem mixedA_any (a b c d : B) (w : World) : Calls Try.prog 25 #[.int .u32 (nc a b c d)] w fun e w' => e = .returned (.int .u32 (nc (m4 a b c d) (m4 b c d a) (m4 c d a b) (m4 d a b c))) ∧ w = w' := by
  have H := Lib.hid (mixed_eq a b c d)
  have hx := nc_xor a b c d b c d a
  go_enter Try.func25, Try.ntmps25
  go_wp2_with (first
    | (go_at_call 20; (with_reducible refine (rotc_8 _ _ _ _ _).mono ?_); rintro e w' ⟨rfl, rfl⟩)
    | (go_at_call 20; (with_reducible refine (rotc_16 _ _ _ _ _).mono ?_); rintro e w' ⟨rfl, rfl⟩)
    | (go_at_call 20; (with_reducible refine (rotc_24 _ _ _ _ _).mono ?_); rintro e w' ⟨rfl, rfl⟩)
    | (go_at_call 22; (with_reducible refine (twice_any _ _ _ _ _).mono ?_); rintro e w' ⟨rfl, rfl⟩))
  go_ret
  exact ⟨ret_i H.out, rfl⟩

end Go.Proofs.Ytomnomopcpdpoaa
