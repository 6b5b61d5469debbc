/- Bits of a message's first two bytes, and of paddings. -/
import Derived.Test.YtladojbppfmkpaaStMsg
namespace Go.Proofs.Ytladojbppfmkpaa
open Go.RowKit
set_option linter.unusedVariables false

theorem nat_mask (x a b : Nat) : x &&& ((2 ^ a - 1) * 2 ^ b) = x / 2 ^ b % 2 ^ a * 2 ^ b := by
  apply Nat.eq_of_testBit_eq
  intro i
  rw [Nat.testBit_and, Nat.testBit_mul_two_pow, Nat.testBit_mul_two_pow, Nat.testBit_two_pow_sub_one, Nat.testBit_mod_two_pow, Nat.testBit_div_two_pow]
  by_cases h : b ≤ i
  · simp only [h, decide_true, Bool.true_and, Nat.sub_add_cancel h]
    rw [Bool.and_comm]
  · simp [h]
theorem nat_or (x y k : Nat) (hy : y < 2 ^ k) : x * 2 ^ k ||| y = x * 2 ^ k + y := by rw [← Nat.shiftLeft_eq, Nat.shiftLeft_add_eq_or_of_lt hy]

theorem ofInt_i64 (a : Nat) (ha : a < 9223372036854775808) : (BitVec.ofInt 64 (a : Int)).toNat = a := by
  rw [BitVec.ofInt_natCast, BitVec.toNat_ofNat]; exact Nat.mod_eq_of_lt (by omega)
theorem i64_and_nat (a b : Nat) (ha : a < 9223372036854775808) (hb : b < 9223372036854775808) : bits .and .i64 (a : Int) (b : Int) = ((a &&& b : Nat) : Int) := by
  have hx : a &&& b < 2 ^ 63 := Nat.and_lt_two_pow _ (by omega)
  show IntKind.i64.wrap ((BitVec.ofInt 64 (a : Int) &&& BitVec.ofInt 64 (b : Int)).toNat : Int) = _
  rw [BitVec.toNat_and, ofInt_i64 a ha, ofInt_i64 b hb, IntKind.wrap_i64]
  omega
theorem i64_or_nat (a b : Nat) (ha : a < 9223372036854775808) (hb : b < 9223372036854775808) : bits .or .i64 (a : Int) (b : Int) = ((a ||| b : Nat) : Int) := by
  have hx : a ||| b < 2 ^ 63 := Nat.or_lt_two_pow (by omega) (by omega)
  show IntKind.i64.wrap ((BitVec.ofInt 64 (a : Int) ||| BitVec.ofInt 64 (b : Int)).toNat : Int) = _
  rw [BitVec.toNat_or, ofInt_i64 a ha, ofInt_i64 b hb, IntKind.wrap_i64]
  omega

/-- A mask, at u16 and at i64. -/
theorem and16 (x : Int) (a b : Nat) (m : Int) (hm : m = (((2 ^ a - 1) * 2 ^ b : Nat) : Int)) (hm2 : (2 ^ a - 1) * 2 ^ b < 65536) (h0 : 0 ≤ x) (h1 : x < 65536) : bits .and .u16 x m = ((x.toNat / 2 ^ b % 2 ^ a * 2 ^ b : Nat) : Int) := by
  obtain ⟨n, rfl⟩ := Int.eq_ofNat_of_zero_le h0
  rw [hm, u16_and_nat n _ (by omega) hm2, nat_mask]
  rfl
theorem and64 (x : Int) (a b : Nat) (m : Int) (hm : m = (((2 ^ a - 1) * 2 ^ b : Nat) : Int)) (hm2 : (2 ^ a - 1) * 2 ^ b < 65536) (h0 : 0 ≤ x) (h1 : x < 9223372036854775808) : bits .and .i64 x m = ((x.toNat / 2 ^ b % 2 ^ a * 2 ^ b : Nat) : Int) := by
  obtain ⟨n, rfl⟩ := Int.eq_ofNat_of_zero_le h0
  rw [hm, i64_and_nat n _ (by omega) (by omega), nat_mask]
  rfl
/-- Bits that do not meet. -/
theorem or16 (x y : Int) (k : Nat) (p : Int) (hp : p = ((2 ^ k : Nat) : Int)) (h0 : 0 ≤ x) (h1 : x < 65536) (hx : x % p = 0) (y0 : 0 ≤ y) (y1 : y < p) (y2 : y < 65536) : bits .or .u16 x y = x + y := by
  obtain ⟨a, rfl⟩ := Int.eq_ofNat_of_zero_le h0
  obtain ⟨b, rfl⟩ := Int.eq_ofNat_of_zero_le y0
  subst hp
  rw [u16_or_nat a b (by omega) (by omega)]
  have e : a = a / 2 ^ k * 2 ^ k := by
    have := Nat.div_add_mod a (2 ^ k)
    rw [Nat.mul_comm] at this
    have h2 : a % 2 ^ k = 0 := by exact_mod_cast hx
    omega
  have := nat_or (a / 2 ^ k) b k (by omega)
  rw [← e] at this
  rw [this]
  rfl
theorem or64 (x y : Int) (k : Nat) (p : Int) (hp : p = ((2 ^ k : Nat) : Int)) (h0 : 0 ≤ x) (h1 : x < 9223372036854775808) (hx : x % p = 0) (y0 : 0 ≤ y) (y1 : y < p) (y2 : y < 9223372036854775808) : bits .or .i64 x y = x + y := by
  obtain ⟨a, rfl⟩ := Int.eq_ofNat_of_zero_le h0
  obtain ⟨b, rfl⟩ := Int.eq_ofNat_of_zero_le y0
  subst hp
  rw [i64_or_nat a b (by omega) (by omega)]
  have e : a = a / 2 ^ k * 2 ^ k := by
    have := Nat.div_add_mod a (2 ^ k)
    rw [Nat.mul_comm] at this
    have h2 : a % 2 ^ k = 0 := by exact_mod_cast hx
    omega
  have := nat_or (a / 2 ^ k) b k (by omega)
  rw [← e] at this
  rw [this]
  rfl
theorem or64' (x y : Int) (k : Nat) (p : Int) (hp : p = ((2 ^ k : Nat) : Int)) (h0 : 0 ≤ x) (h1 : x < 9223372036854775808) (hx : x % p = 0) (y0 : 0 ≤ y) (y1 : y < p) (y2 : y < 9223372036854775808) : bits .or .i64 y x = y + x := by
  rw [show bits .or .i64 y x = bits .or .i64 x y by simp only [bits, BitVec.or_comm], or64 x y k p hp h0 h1 hx y0 y1 y2]
  omega
theorem or16' (x y : Int) (k : Nat) (p : Int) (hp : p = ((2 ^ k : Nat) : Int)) (h0 : 0 ≤ x) (h1 : x < 65536) (hx : x % p = 0) (y0 : 0 ≤ y) (y1 : y < p) (y2 : y < 65536) : bits .or .u16 y x = y + x := by
  rw [show bits .or .u16 y x = bits .or .u16 x y by simp only [bits, BitVec.or_comm], or16 x y k p hp h0 h1 hx y0 y1 y2]
  omega

theorem w64 {x : Int} (h0 : 0 ≤ x) (h1 : x < 9223372036854775808) : wrap64 x = x := by unfold wrap64; omega

theorem kind_bits (c m : Int) (c0 : 0 ≤ c) (c3 : c < 4) (m0 : 0 ≤ m) (m4 : m < 4096) : IntKind.u16.wrap
                        (bits BinOp.or IntKind.i64
                          (bits BinOp.or IntKind.i64 (wrap64 (bits BinOp.and IntKind.i64 c 2 * 128))
                            (wrap64 (bits BinOp.and IntKind.i64 m 3968 * 4)))
                          (bits BinOp.or IntKind.i64
                            (bits BinOp.or IntKind.i64 (bits BinOp.and IntKind.i64 m 15)
                              (wrap64 (bits BinOp.and IntKind.i64 c 1 * 16)))
                            (wrap64 (bits BinOp.and IntKind.i64 m 112 * 2)))) = kindOf c m := by
  have a1 : bits BinOp.and IntKind.i64 c 2 = c / 2 % 2 * 2 := by rw [and64 c 1 1 2 (by decide) (by decide) c0 (by omega)]; omega
  have a2 : bits BinOp.and IntKind.i64 m 3968 = m / 128 % 32 * 128 := by rw [and64 m 5 7 3968 (by decide) (by decide) m0 (by omega)]; omega
  have a3 : bits BinOp.and IntKind.i64 m 15 = m % 16 := by rw [and64 m 4 0 15 (by decide) (by decide) m0 (by omega)]; omega
  have a4 : bits BinOp.and IntKind.i64 c 1 = c % 2 := by rw [and64 c 1 0 1 (by decide) (by decide) c0 (by omega)]; omega
  have a5 : bits BinOp.and IntKind.i64 m 112 = m / 16 % 8 * 16 := by rw [and64 m 3 4 112 (by decide) (by decide) m0 (by omega)]; omega
  rw [a1, a2, a3, a4, a5, w64 (x := c / 2 % 2 * 2 * 128) (by omega) (by omega), w64 (x := m / 128 % 32 * 128 * 4) (by omega) (by omega), w64 (x := c % 2 * 16) (by omega) (by omega), w64 (x := m / 16 % 8 * 16 * 2) (by omega) (by omega)]
  rw [or64' (m / 128 % 32 * 128 * 4) (c / 2 % 2 * 2 * 128) 9 512 (by decide) (by omega) (by omega) (by omega) (by omega) (by omega) (by omega)]
  rw [or64' (c % 2 * 16) (m % 16) 4 16 (by decide) (by omega) (by omega) (by omega) (by omega) (by omega) (by omega)]
  rw [or64' (m / 16 % 8 * 16 * 2) (m % 16 + c % 2 * 16) 5 32 (by decide) (by omega) (by omega) (by omega) (by omega) (by omega) (by omega)]
  rw [or64 (c / 2 % 2 * 2 * 128 + m / 128 % 32 * 128 * 4) (m % 16 + c % 2 * 16 + m / 16 % 8 * 16 * 2) 8 256 (by decide) (by omega) (by omega) (by omega) (by omega) (by omega) (by omega)]
  have e1 : m / 128 % 32 = m / 128 := by omega
  have e2 : c / 2 % 2 = c / 2 := by omega
  have e3 : 0 ≤ m / 128 ∧ m / 128 < 32 := by omega
  rw [IntKind.wrap_u16, e1, e2]
  unfold kindOf
  generalize m / 128 = d at *
  have e4 : 0 ≤ m % 16 ∧ m % 16 < 16 := by omega
  have e5 : 0 ≤ m / 16 % 8 ∧ m / 16 % 8 < 8 := by omega
  clear e1
  generalize m / 16 % 8 = b at *
  generalize m % 16 = a at *
  have hc : c = 0 ∨ c = 1 ∨ c = 2 ∨ c = 3 := by omega
  rcases hc with rfl | rfl | rfl | rfl <;> omega
theorem class_bits (k : Int) (h0 : 0 ≤ k) (h1 : k < 65536) : wrap64 (bits BinOp.or IntKind.u16 (bits BinOp.and IntKind.u16 (k / 16) 1) (bits BinOp.and IntKind.u16 (k / 128) 2)) = k / 16 % 2 + k / 256 % 2 * 2 := by
  have a1 : bits BinOp.and IntKind.u16 (k / 16) 1 = k / 16 % 2 := by rw [and16 (k / 16) 1 0 1 (by decide) (by decide) (by omega) (by omega)]; omega
  have a2 : bits BinOp.and IntKind.u16 (k / 128) 2 = k / 256 % 2 * 2 := by rw [and16 (k / 128) 1 1 2 (by decide) (by decide) (by omega) (by omega)]; omega
  rw [a1, a2, or16' (k / 256 % 2 * 2) (k / 16 % 2) 1 2 (by decide) (by omega) (by omega) (by omega) (by omega) (by omega) (by omega), w64 (by omega) (by omega)]
theorem method_bits (k : Int) (h0 : 0 ≤ k) (h1 : k < 65536) : wrap64 (bits BinOp.or IntKind.u16 (bits BinOp.or IntKind.u16 (bits BinOp.and IntKind.u16 k 15) (bits BinOp.and IntKind.u16 (k / 2) 112)) (bits BinOp.and IntKind.u16 (k / 4) 3968)) = k % 16 + k / 32 % 8 * 16 + k / 512 % 32 * 128 := by
  have a1 : bits BinOp.and IntKind.u16 k 15 = k % 16 := by rw [and16 k 4 0 15 (by decide) (by decide) (by omega) (by omega)]; omega
  have a2 : bits BinOp.and IntKind.u16 (k / 2) 112 = k / 32 % 8 * 16 := by rw [and16 (k / 2) 3 4 112 (by decide) (by decide) (by omega) (by omega)]; omega
  have a3 : bits BinOp.and IntKind.u16 (k / 4) 3968 = k / 512 % 32 * 128 := by rw [and16 (k / 4) 5 7 3968 (by decide) (by decide) (by omega) (by omega)]; omega
  rw [a1, a2, a3, or16' (k / 32 % 8 * 16) (k % 16) 4 16 (by decide) (by omega) (by omega) (by omega) (by omega) (by omega) (by omega), or16' (k / 512 % 32 * 128) (k % 16 + k / 32 % 8 * 16) 7 128 (by decide) (by omega) (by omega) (by omega) (by omega) (by omega) (by omega), w64 (by omega) (by omega)]
theorem pad_bits (n : Nat) : bits BinOp.and IntKind.i64 (-(n : Int)) 3 = (padN n : Int) := by
  have h3 : (BitVec.ofInt 64 3).toNat = 2 ^ 2 - 1 := by decide
  have key : (BitVec.ofInt 64 (-(n : Int)) &&& BitVec.ofInt 64 3).toNat = ((-(n : Int)) % ((2 ^ 64 : Nat) : Int)).toNat % 2 ^ 2 := by
    rw [BitVec.toNat_and, BitVec.toNat_ofInt, h3, Nat.and_two_pow_sub_one_eq_mod]
  show IntKind.i64.wrap ((BitVec.ofInt 64 (-(n : Int)) &&& BitVec.ofInt 64 3).toNat : Nat) = _
  rw [key, IntKind.wrap_i64]
  unfold padN
  omega
/-- What a kind says of class and method. -/
def clOf (k : Int) : Int := k / 16 % 2 + k / 256 % 2 * 2
def meOf (k : Int) : Int := k % 16 + k / 32 % 8 * 16 + k / 512 % 32 * 128
theorem clOf_in (k : Int) : 0 ≤ clOf k ∧ clOf k ≤ 3 := by unfold clOf; omega
theorem meOf_in (k : Int) : 0 ≤ meOf k ∧ meOf k ≤ 4095 := by unfold meOf; omega
theorem kind_back (k : Int) (h0 : 0 ≤ k) (h1 : k < 16384) : kindOf (clOf k) (meOf k) = k := by
  have e : k = k / 512 * 512 + k / 256 % 2 * 256 + k / 32 % 8 * 32 + k / 16 % 2 * 16 + k % 16 := by omega
  have h2 : 0 ≤ k / 512 ∧ k / 512 < 32 := by omega
  have h3 : 0 ≤ k / 256 % 2 ∧ k / 256 % 2 < 2 := by omega
  have h4 : 0 ≤ k / 32 % 8 ∧ k / 32 % 8 < 8 := by omega
  have h5 : 0 ≤ k / 16 % 2 ∧ k / 16 % 2 < 2 := by omega
  have h6 : 0 ≤ k % 16 ∧ k % 16 < 16 := by omega
  unfold kindOf clOf meOf
  rw [show (_ : Int) = k ↔ _ = k / 512 * 512 + k / 256 % 2 * 256 + k / 32 % 8 * 32 + k / 16 % 2 * 16 + k % 16 by rw [← e]]
  clear e
  generalize k / 512 = a at *
  generalize k / 256 % 2 = b at *
  generalize k / 32 % 8 = c at *
  generalize k / 16 % 2 = d at *
  generalize k % 16 = f at *
  omega
theorem clOf_kind (c m : Int) (c0 : 0 ≤ c) (c3 : c ≤ 3) (m0 : 0 ≤ m) (m4 : m ≤ 4095) : clOf (kindOf c m) = c := by
  unfold kindOf clOf
  have h1 : 0 ≤ m % 16 ∧ m % 16 < 16 := by omega
  have h2 : 0 ≤ m / 16 % 8 ∧ m / 16 % 8 < 8 := by omega
  generalize m / 128 = d at *
  generalize m / 16 % 8 = b at *
  generalize m % 16 = a at *
  have hc : c = 0 ∨ c = 1 ∨ c = 2 ∨ c = 3 := by omega
  rcases hc with rfl | rfl | rfl | rfl <;> omega
theorem meOf_kind (c m : Int) (c0 : 0 ≤ c) (c3 : c ≤ 3) (m0 : 0 ≤ m) (m4 : m ≤ 4095) : meOf (kindOf c m) = m := by
  unfold kindOf meOf
  have h1 : 0 ≤ m % 16 ∧ m % 16 < 16 := by omega
  have h2 : 0 ≤ m / 16 % 8 ∧ m / 16 % 8 < 8 := by omega
  have h3 : 0 ≤ m / 128 ∧ m / 128 < 32 := by omega
  have h4 : m = m / 128 * 128 + m / 16 % 8 * 16 + m % 16 := by omega
  rw [show (_ : Int) = m ↔ _ = m / 128 * 128 + m / 16 % 8 * 16 + m % 16 by rw [← h4]]
  clear h4
  generalize m / 128 = d at *
  generalize m / 16 % 8 = b at *
  generalize m % 16 = a at *
  have hc : c = 0 ∨ c = 1 ∨ c = 2 ∨ c = 3 := by omega
  rcases hc with rfl | rfl | rfl | rfl <;> omega
theorem kind_in (c m : Int) (c0 : 0 ≤ c) (c3 : c ≤ 3) (m0 : 0 ≤ m) (m4 : m ≤ 4095) : 0 ≤ kindOf c m ∧ kindOf c m < 16384 := by
  unfold kindOf
  have h3 : 0 ≤ m / 128 ∧ m / 128 < 32 := by omega
  generalize m / 128 = d at *
  generalize m / 16 = b at *
  omega
theorem kind_top : kindOf 3 4095 = 16383 := by decide
end Go.Proofs.Ytladojbppfmkpaa
