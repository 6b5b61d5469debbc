/- Bits of numbers; base64 by three bytes, both ways. -/
import Derived.Test.YtmlapbadgjhhdaaGreatDoorAtKey
namespace Go.Proofs.YtmlapbadgjhhdaaGreatDoor
open Go.RowKit
set_option linter.unusedVariables false
set_option linter.unusedSimpArgs false

theorem nat_or (x y k : Nat) (hy : y < 2 ^ k) : x * 2 ^ k ||| y = x * 2 ^ k + y := by rw [← Nat.shiftLeft_eq, Nat.shiftLeft_add_eq_or_of_lt hy]
theorem ofInt_i64 (a : Nat) (ha : a < 9223372036854775808) : (BitVec.ofInt 64 (a : Int)).toNat = a := by
  rw [BitVec.ofInt_natCast, BitVec.toNat_ofNat]; exact Nat.mod_eq_of_lt (by omega)
theorem i64_and_nat (a b : Nat) (ha : a < 9223372036854775808) (hb : b < 9223372036854775808) : bits .and .i64 (a : Int) (b : Int) = ((a &&& b : Nat) : Int) := by
  have hx : a &&& b < 2 ^ 63 := Nat.and_lt_two_pow _ (by omega)
  show IntKind.i64.wrap ((BitVec.ofInt 64 (a : Int) &&& BitVec.ofInt 64 (b : Int)).toNat : Int) = _
  rw [BitVec.toNat_and, ofInt_i64 a ha, ofInt_i64 b hb, IntKind.wrap_i64]
  omega
theorem i64_or_nat (a b : Nat) (ha : a < 9223372036854775808) (hb : b < 9223372036854775808) : bits .or .i64 (a : Int) (b : Int) = ((a ||| b : Nat) : Int) := by
  have hx : a ||| b < 2 ^ 63 := Nat.or_lt_two_pow (by omega) (by omega)
  show IntKind.i64.wrap ((BitVec.ofInt 64 (a : Int) ||| BitVec.ofInt 64 (b : Int)).toNat : Int) = _
  rw [BitVec.toNat_or, ofInt_i64 a ha, ofInt_i64 b hb, IntKind.wrap_i64]
  omega
theorem and63 (n : Nat) : n &&& 63 = n % 64 := Nat.and_two_pow_sub_one_eq_mod n 6
/-- Three bytes as one number. -/
def num3 (a b c : UInt8) : Nat := a.toNat * 65536 + b.toNat * 256 + c.toNat
theorem num3_lt (a b c : UInt8) : num3 a b c < 16777216 := by
  have := a.toNat_lt
  have := b.toNat_lt
  have := c.toNat_lt
  unfold num3
  omega
set_option maxRecDepth 100000 in
theorem or3 (a b c : UInt8) : (a.toNat * 65536 ||| b.toNat * 256) ||| c.toNat = num3 a b c := by
  have h2 := b.toNat_lt
  have h3 := c.toNat_lt
  have e1 := nat_or a.toNat (b.toNat * 256) 16 (by omega)
  have e2 := nat_or (a.toNat * 256 + b.toNat) c.toNat 8 (by omega)
  rw [show (2 : Nat) ^ 16 = 65536 by decide] at e1
  rw [show (2 : Nat) ^ 8 = 256 by decide] at e2
  rw [e1]
  have e3 : a.toNat * 65536 + b.toNat * 256 = (a.toNat * 256 + b.toNat) * 256 := by omega
  rw [e3, e2]
  unfold num3
  omega
set_option maxRecDepth 100000 in
theorem or3_u32 (a b c : UInt8) : bits BinOp.or IntKind.u32 (bits BinOp.or IntKind.u32 ((a.toNat : Int) % 4294967296 * 65536 % 4294967296) ((b.toNat : Int) % 4294967296 * 256 % 4294967296)) ((c.toNat : Int) % 4294967296) = ((num3 a b c : Nat) : Int) := by
  have h1 := a.toNat_lt
  have h2 := b.toNat_lt
  have h3 := c.toNat_lt
  rw [show ((a.toNat : Int) % 4294967296 * 65536 % 4294967296) = ((a.toNat * 65536 : Nat) : Int) by omega, show ((b.toNat : Int) % 4294967296 * 256 % 4294967296) = ((b.toNat * 256 : Nat) : Int) by omega, show ((c.toNat : Int) % 4294967296) = ((c.toNat : Nat) : Int) by omega,
    u32_or_nat _ _ (by omega) (by omega), u32_or_nat _ _ (Nat.or_lt_two_pow (n := 32) (by omega) (by omega)) (by omega), or3]
set_option maxRecDepth 100000 in
theorem or3_i64 (a b c : UInt8) : bits BinOp.or IntKind.i64 (bits BinOp.or IntKind.i64 ((a.toNat * 65536 : Nat) : Int) ((b.toNat * 256 : Nat) : Int)) ((c.toNat : Nat) : Int) = ((num3 a b c : Nat) : Int) := by
  have h1 := a.toNat_lt
  have h2 := b.toNat_lt
  have h3 := c.toNat_lt
  rw [i64_or_nat _ _ (by omega) (by omega), i64_or_nat _ _ (Nat.or_lt_two_pow (n := 63) (by omega) (by omega)) (by omega), or3]
theorem encK_snoc (a b c : UInt8) : ∀ (t : Nat) (l : Tx), l.length = 3 * t → encK (l ++ [a, b, c]) = encK l ++ enc3 a b c
  | 0, l, h => by
    obtain rfl : l = [] := List.eq_nil_of_length_eq_zero (by omega)
    simp [encK]
  | t + 1, l, h => by
    match l, h with
    | x :: y :: z :: r, h =>
      have := encK_snoc a b c t r (by simp at h; omega)
      simp only [List.cons_append, encK, this, List.append_assoc]
theorem encK_step {k : Tx} (hk : k.length = 30) {t : Nat} (ht : t < 10) : ∃ a b c : UInt8, k[3 * t]? = some a ∧ k[3 * t + 1]? = some b ∧ k[3 * t + 2]? = some c ∧ encK (k.take (3 * (t + 1))) = encK (k.take (3 * t)) ++ enc3 a b c := by
  refine ⟨k[3 * t], k[3 * t + 1], k[3 * t + 2], List.getElem?_eq_getElem (by omega), List.getElem?_eq_getElem (by omega), List.getElem?_eq_getElem (by omega), ?_⟩
  have e : k.take (3 * (t + 1)) = k.take (3 * t) ++ [k[3 * t], k[3 * t + 1], k[3 * t + 2]] := by
    rw [show 3 * (t + 1) = 3 * t + 3 by omega, List.take_add, List.drop_eq_getElem_cons (by omega), List.drop_eq_getElem_cons (by omega), List.drop_eq_getElem_cons (by omega)]
    rfl
  rw [e, encK_snoc _ _ _ t _ (by rw [List.length_take]; omega)]
theorem encK_len : ∀ (t : Nat) (l : Tx), l.length = 3 * t → (encK l).length = 4 * t
  | 0, l, h => by
    obtain rfl : l = [] := List.eq_nil_of_length_eq_zero (by omega)
    rfl
  | t + 1, l, h => by
    match l, h with
    | x :: y :: z :: r, h =>
      have := encK_len t r (by simp at h; omega)
      simp only [encK, enc3, List.length_append, List.length_cons, List.length_nil, this]
      omega
abbrev letS : ByteArray := bs wLetters
theorem letS_size : letS.size = 64 := by rw [bs_size]; rfl
theorem letS_at (v : Nat) (h : v < letS.size) : letS[v]'h = letter v := by
  have hl : v < 64 := by rw [letS_size] at h; exact h
  have hw : wLetters.length = 64 := rfl
  unfold letter
  rw [List.getD_eq_getElem?_getD, List.getElem?_eq_getElem (by omega)]
  rfl
end Go.Proofs.YtmlapbadgjhhdaaGreatDoor
