/- Bytes and words of four bytes in the model's own numbers and operations. -/
import Derived.Test.YtomnomopcpdpoaaAesSpec
namespace Go.Proofs.Ytomnomopcpdpoaa
set_option linter.unusedVariables false

theorem nb_in (a : B) : 0 ≤ nb a ∧ nb a < 256 := ⟨Int.natCast_nonneg _, by have := a.isLt; unfold nb; omega⟩
theorem nb_inj {a b : B} (h : nb a = nb b) : a = b := BitVec.eq_of_toNat_eq (by unfold nb at h; omega)
theorem bxor8 (a b : B) : bits .xor .u8 (nb a) (nb b) = nb (a ^^^ b) := by
  unfold nb
  rw [u8_xor_nat _ _ a.isLt b.isLt, BitVec.toNat_xor]
theorem bor8 (a b : B) : bits .or .u8 (nb a) (nb b) = nb (a ||| b) := by
  unfold nb
  rw [u8_or_nat _ _ a.isLt b.isLt, BitVec.toNat_or]
theorem band8 (a b : B) : bits .and .u8 (nb a) (nb b) = nb (a &&& b) := by
  unfold nb
  rw [u8_and_nat _ _ a.isLt b.isLt, BitVec.toNat_and]
theorem all_I {f g : B → Int} (h : (List.range 256).all (fun j => decide (f (BitVec.ofNat 8 j) = g (BitVec.ofNat 8 j))) = true) (b : B) : f b = g b :=
  of_decide_eq_true (all_B (p := fun b => decide (f b = g b)) h b)
theorem tw_int (a : B) : bits .xor .u8 (nb a * 2 % 256) (27 * (nb a / 128)) = nb (tw a) :=
  all_I (f := fun a => bits .xor .u8 (nb a * 2 % 256) (27 * (nb a / 128))) (g := fun a => nb (tw a)) (by decide +kernel) a
theorem shr1_int (a : B) : nb a / (2 : Int) = nb (a >>> 1) :=
  all_I (f := fun a => nb a / (2 : Int)) (g := fun a => nb (a >>> 1)) (by decide +kernel) a
theorem rot1_int (a : B) : bits .or .u8 (nb a * 2 % 256) (nb a / 128) = nb (a.rotateLeft 1) :=
  all_I (f := fun a => bits .or .u8 (nb a * 2 % 256) (nb a / 128)) (g := fun a => nb (a.rotateLeft 1)) (by decide +kernel) a
theorem rot2_int (a : B) : bits .or .u8 (nb a * 4 % 256) (nb a / 64) = nb (a.rotateLeft 2) :=
  all_I (f := fun a => bits .or .u8 (nb a * 4 % 256) (nb a / 64)) (g := fun a => nb (a.rotateLeft 2)) (by decide +kernel) a
theorem rot3_int (a : B) : bits .or .u8 (nb a * 8 % 256) (nb a / 32) = nb (a.rotateLeft 3) :=
  all_I (f := fun a => bits .or .u8 (nb a * 8 % 256) (nb a / 32)) (g := fun a => nb (a.rotateLeft 3)) (by decide +kernel) a
theorem rot4_int (a : B) : bits .or .u8 (nb a * 16 % 256) (nb a / 16) = nb (a.rotateLeft 4) :=
  all_I (f := fun a => bits .or .u8 (nb a * 16 % 256) (nb a / 16)) (g := fun a => nb (a.rotateLeft 4)) (by decide +kernel) a

/-- A word of four bytes as a number of the model. -/
def nc (a b c d : B) : Int := ((cv a b c d).toNat : Int)
theorem nc_eq (a b c d : B) : nc a b c d = nb a * 16777216 + nb b * 65536 + nb c * 256 + nb d := by
  unfold nc nb
  rw [cv_nat]
  omega
theorem nc_in (a b c d : B) : 0 ≤ nc a b c d ∧ nc a b c d < 4294967296 := by
  have := nb_in a
  have := nb_in b
  have := nb_in c
  have := nb_in d
  rw [nc_eq]
  omega
theorem bxor32 (x y : BitVec 32) : bits .xor .u32 (x.toNat : Int) (y.toNat : Int) = ((x ^^^ y).toNat : Int) := by
  rw [u32_xor_nat _ _ x.isLt y.isLt, BitVec.toNat_xor]
theorem nc_xor (a b c d a' b' c' d' : B) : bits .xor .u32 (nc a b c d) (nc a' b' c' d') = nc (a ^^^ a') (b ^^^ b') (c ^^^ c') (d ^^^ d') := by
  unfold nc
  rw [bxor32, cv_xor]
theorem or_add (k : Nat) (x y : Int) (hk : k < 32) (hx0 : 0 ≤ x) (hx : x * 2 ^ k < 4294967296) (hy0 : 0 ≤ y) (hy : y < 2 ^ k) : bits .or .u32 (x * 2 ^ k) y = x * 2 ^ k + y := by
  obtain ⟨a, rfl⟩ := Int.eq_ofNat_of_zero_le hx0
  obtain ⟨b, rfl⟩ := Int.eq_ofNat_of_zero_le hy0
  have c1 : ((a * 2 ^ k : Nat) : Int) = (a : Int) * 2 ^ k := by rw [Int.natCast_mul, Int.natCast_pow]; rfl
  have c2 : ((2 ^ k : Nat) : Int) = 2 ^ k := by rw [Int.natCast_pow]; rfl
  have hx' : a * 2 ^ k < 4294967296 := by rw [← c1] at hx; omega
  have hy' : b < 2 ^ k := by rw [← c2] at hy; omega
  have hb : b < 4294967296 := Nat.lt_of_lt_of_le hy' (Nat.pow_le_pow_right (by omega) (show k ≤ 32 by omega))
  have e : a * 2 ^ k ||| b = a * 2 ^ k + b := by rw [← Nat.shiftLeft_eq, Nat.shiftLeft_add_eq_or_of_lt hy']
  have := u32_or_nat _ _ hx' hb
  rw [e, Int.natCast_add, c1] at this
  exact this

theorem rot32_8 (a b c d : B) : bits .or .u32 (nc a b c d * 256 % 4294967296) (nc a b c d / 16777216) = nc b c d a := by
  have := nb_in a
  have := nb_in b
  have := nb_in c
  have := nb_in d
  rw [nc_eq, nc_eq]
  rw [show (nb a * 16777216 + nb b * 65536 + nb c * 256 + nb d) * 256 % 4294967296 = (nb b * 65536 + nb c * 256 + nb d) * 2 ^ 8 by omega, show (nb a * 16777216 + nb b * 65536 + nb c * 256 + nb d) / 16777216 = nb a by omega, or_add 8 _ _ (by omega) (by omega) (by omega) (by omega) (by omega)]
  omega
theorem rot32_16 (a b c d : B) : bits .or .u32 (nc a b c d * 65536 % 4294967296) (nc a b c d / 65536) = nc c d a b := by
  have := nb_in a
  have := nb_in b
  have := nb_in c
  have := nb_in d
  rw [nc_eq, nc_eq]
  rw [show (nb a * 16777216 + nb b * 65536 + nb c * 256 + nb d) * 65536 % 4294967296 = (nb c * 256 + nb d) * 2 ^ 16 by omega, show (nb a * 16777216 + nb b * 65536 + nb c * 256 + nb d) / 65536 = nb a * 256 + nb b by omega, or_add 16 _ _ (by omega) (by omega) (by omega) (by omega) (by omega)]
  omega
theorem rot32_24 (a b c d : B) : bits .or .u32 (nc a b c d * 16777216 % 4294967296) (nc a b c d / 256) = nc d a b c := by
  have := nb_in a
  have := nb_in b
  have := nb_in c
  have := nb_in d
  rw [nc_eq, nc_eq]
  rw [show (nb a * 16777216 + nb b * 65536 + nb c * 256 + nb d) * 16777216 % 4294967296 = nb d * 2 ^ 24 by omega, show (nb a * 16777216 + nb b * 65536 + nb c * 256 + nb d) / 256 = nb a * 65536 + nb b * 256 + nb c by omega, or_add 24 _ _ (by omega) (by omega) (by omega) (by omega) (by omega)]
  omega
/-- A word of four bytes, as they are laid together. -/
theorem nc_made (a b c d : B) : bits .or .u32 (bits .or .u32 (bits .or .u32 (nb a * 16777216) (nb b * 65536)) (nb c * 256)) (nb d) = nc a b c d := by
  have := nb_in a
  have := nb_in b
  have := nb_in c
  have := nb_in d
  rw [nc_eq]
  rw [show nb a * 16777216 = nb a * 2 ^ 24 by omega, or_add 24 _ _ (by omega) (by omega) (by omega) (by omega) (by omega)]
  rw [show nb a * 2 ^ 24 + nb b * 65536 = (nb a * 256 + nb b) * 2 ^ 16 by omega, or_add 16 _ _ (by omega) (by omega) (by omega) (by omega) (by omega)]
  rw [show (nb a * 256 + nb b) * 2 ^ 16 + nb c * 256 = (nb a * 65536 + nb b * 256 + nb c) * 2 ^ 8 by omega, or_add 8 _ _ (by omega) (by omega) (by omega) (by omega) (by omega)]
/-- One byte more, from the right. -/
theorem nc_more (a b c d e : B) : bits .or .u32 (nc a b c d * 256 % 4294967296) (nb e) = nc b c d e := by
  have := nb_in a
  have := nb_in b
  have := nb_in c
  have := nb_in d
  have := nb_in e
  rw [nc_eq, nc_eq]
  rw [show (nb a * 16777216 + nb b * 65536 + nb c * 256 + nb d) * 256 % 4294967296 = (nb b * 65536 + nb c * 256 + nb d) * 2 ^ 8 by omega, or_add 8 _ _ (by omega) (by omega) (by omega) (by omega) (by omega)]
  omega
/-- Its bytes. -/
theorem nc_byte (a b c d : B) : nc a b c d / 16777216 = nb a ∧ nc a b c d / 65536 % 256 = nb b ∧ nc a b c d / 256 % 256 = nb c ∧ nc a b c d % 256 = nb d := by
  have := nb_in a
  have := nb_in b
  have := nb_in c
  have := nb_in d
  rw [nc_eq]
  omega

theorem low_int (a : B) : nb (a &&& 127#8) = nb a % 128 :=
  all_I (f := fun a => nb (a &&& 127#8)) (g := fun a => nb a % 128) (by decide +kernel) a
theorem shl_int (a : B) : nb ((a &&& 127#8) <<< 1) = nb a % 128 * 2 :=
  all_I (f := fun a => nb ((a &&& 127#8) <<< 1)) (g := fun a => nb a % 128 * 2) (by decide +kernel) a
theorem top_int (a : B) : nb (a >>> 7) = nb a / 128 :=
  all_I (f := fun a => nb (a >>> 7)) (g := fun a => nb a / 128) (by decide +kernel) a
theorem red_int (a : B) : nb (27#8 * (a >>> 7)) = 27 * (nb a / 128) :=
  all_I (f := fun a => nb (27#8 * (a >>> 7))) (g := fun a => 27 * (nb a / 128)) (by decide +kernel) a
theorem tw_low (a : B) : ((a &&& 127#8) <<< 1) ^^^ (27#8 * (a >>> 7)) = tw a :=
  eq_of_beq (all_B (p := fun a => ((a &&& 127#8) <<< 1) ^^^ (27#8 * (a >>> 7)) == tw a) (by decide +kernel) a)
theorem nc_and (a b c d a' b' c' d' : B) : bits .and .u32 (nc a b c d) (nc a' b' c' d') = nc (a &&& a') (b &&& b') (c &&& c') (d &&& d') := by
  unfold nc
  rw [u32_and_nat _ _ (cv a b c d).isLt (cv a' b' c' d').isLt, ← BitVec.toNat_and, cv_and]
/-- A byte's lower seven bits, one place up, and the next one's greatest. -/
def nxt (a b : B) : B := BitVec.ofNat 8 (a.toNat % 128 * 2 + b.toNat / 128)
theorem nxt_int (a b : B) : nb (nxt a b) = nb a % 128 * 2 + nb b / 128 := by
  have := a.isLt
  have := b.isLt
  unfold nb nxt
  rw [BitVec.toNat_ofNat]
  omega
theorem nxt_odd (a b : B) : nb (nxt a b &&& 1#8) = nb b / 128 := by
  have h := band8 (nxt a b) 1#8
  have := nb_in b
  rw [← h]
  have e : (nb 1#8 : Int) = 1 := rfl
  rw [e, nxt_int]
  have ha := nb_in a
  rw [u8_and _ _ (by omega) (by omega) (by omega) (by omega)]
  rw [show (1 : Int).toNat = 1 from rfl, Nat.and_one_is_mod]
  omega
theorem twice_int (a b c d : B) : bits .xor .u32 (bits .and .u32 (nc a b c d) 2139062143 * 2 % 4294967296) (bits .and .u32 (nc a b c d / 128) 16843009 * 27 % 4294967296) = nc (tw a) (tw b) (tw c) (tw d) := by
  have ha := nb_in a
  have hb := nb_in b
  have hc := nb_in c
  have hd := nb_in d
  have e1 : (2139062143 : Int) = nc 127#8 127#8 127#8 127#8 := rfl
  have e2 : (16843009 : Int) = nc 1#8 1#8 1#8 1#8 := rfl
  have e3 : nc a b c d / 128 = nc (nxt 0#8 a) (nxt a b) (nxt b c) (nxt c d) := by
    rw [nc_eq, nc_eq, nxt_int, nxt_int, nxt_int, nxt_int, show nb 0#8 = 0 from rfl]
    omega
  rw [e1, e2, e3, nc_and, nc_and]
  have f1 : nc (a &&& 127#8) (b &&& 127#8) (c &&& 127#8) (d &&& 127#8) * (2 : Int) % (4294967296 : Int) = nc ((a &&& 127#8) <<< 1) ((b &&& 127#8) <<< 1) ((c &&& 127#8) <<< 1) ((d &&& 127#8) <<< 1) := by
    rw [nc_eq, nc_eq, low_int, low_int, low_int, low_int, shl_int, shl_int, shl_int, shl_int]
    omega
  have f2 : nc (nxt 0#8 a &&& 1#8) (nxt a b &&& 1#8) (nxt b c &&& 1#8) (nxt c d &&& 1#8) * (27 : Int) % (4294967296 : Int) = nc (27#8 * (a >>> 7)) (27#8 * (b >>> 7)) (27#8 * (c >>> 7)) (27#8 * (d >>> 7)) := by
    rw [nc_eq, nc_eq, nxt_odd, nxt_odd, nxt_odd, nxt_odd, red_int, red_int, red_int, red_int]
    omega
  rw [f1, f2, nc_xor, tw_low, tw_low, tw_low, tw_low]
end Go.Proofs.Ytomnomopcpdpoaa
