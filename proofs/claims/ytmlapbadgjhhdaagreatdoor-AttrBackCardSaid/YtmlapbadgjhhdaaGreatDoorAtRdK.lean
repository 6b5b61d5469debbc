/- Keys read: letters as bytes; the program's way of reading, as a reader. Nothing of memory. -/
import Derived.Test.YtmlapbadgjhhdaaGreatDoorAtRd1
import Derived.Test.YtmlapbadgjhhdaaGreatDoorAtBits
namespace Go.Proofs.YtmlapbadgjhhdaaGreatDoor
set_option linter.unusedVariables false
set_option linter.unusedSimpArgs false

/-- What a letter is worth; what is no letter: 63. -/
def sixP (c : UInt8) : Nat := if Lib.indexByte wLetters c = -1 then 63 else (Lib.indexByte wLetters c).toNat
theorem sixP_lt (c : UInt8) : sixP c < 64 := by
  unfold sixP
  split
  · decide
  · next h =>
    have hge := Lib.indexByte_ge wLetters c
    obtain ⟨k, hk⟩ : ∃ k : Nat, Lib.indexByte wLetters c = k := ⟨(Lib.indexByte wLetters c).toNat, by omega⟩
    obtain ⟨h1, -⟩ := Lib.indexByte_some hk
    have : k < wLetters.length := (List.getElem?_eq_some_iff.1 h1).1
    rw [hk]
    exact this
set_option maxRecDepth 100000 in
theorem sixP_letter : ∀ v, v < 64 → sixP (letter v) = v := by
  decide +kernel
/-- Four letters as one number. -/
def num4 (a b c d : UInt8) : Nat := ((sixP a * 64 + sixP b) * 64 + sixP c) * 64 + sixP d
theorem num4_lt (a b c d : UInt8) : num4 a b c d < 16777216 := by
  have := sixP_lt a
  have := sixP_lt b
  have := sixP_lt c
  have := sixP_lt d
  unfold num4
  omega
def dec4 (a b c d : UInt8) : Tx := [UInt8.ofNat (num4 a b c d / 65536), UInt8.ofNat (num4 a b c d / 256), UInt8.ofNat (num4 a b c d)]
def decK : Tx → Tx
  | a :: b :: c :: d :: r => dec4 a b c d ++ decK r
  | _ => []
theorem u8_eq {n : Nat} {a : UInt8} (h : n % 256 = a.toNat) : UInt8.ofNat n = a := by
  apply UInt8.toNat_inj.1
  rw [UInt8.toNat_ofNat']
  exact h
theorem dec4_enc3 (a b c : UInt8) (r : Tx) : decK (enc3 a b c ++ r) = [a, b, c] ++ decK r := by
  have h1 := a.toNat_lt
  have h2 := b.toNat_lt
  have h3 := c.toNat_lt
  have hn := num3_lt a b c
  have e : num4 (letter (num3 a b c / 262144)) (letter (num3 a b c / 4096 % 64)) (letter (num3 a b c / 64 % 64)) (letter (num3 a b c % 64)) = num3 a b c := by
    unfold num4
    rw [sixP_letter _ (by omega), sixP_letter _ (by omega), sixP_letter _ (by omega), sixP_letter _ (by omega)]
    omega
  show dec4 (letter (num3 a b c / 262144)) (letter (num3 a b c / 4096 % 64)) (letter (num3 a b c / 64 % 64)) (letter (num3 a b c % 64)) ++ decK r = _
  unfold dec4
  rw [e, u8_eq (a := a) (by unfold num3; omega), u8_eq (a := b) (by unfold num3; omega), u8_eq (a := c) (by unfold num3; omega)]
theorem decK_encK : ∀ (t : Nat) (k : Tx), k.length = 3 * t → decK (encK k) = k
  | 0, k, h => by
    obtain rfl : k = [] := List.eq_nil_of_length_eq_zero (by omega)
    rfl
  | t + 1, k, h => by
    match k, h with
    | a :: b :: c :: r, h =>
      have := decK_encK t r (by simp at h; omega)
      show decK (enc3 a b c ++ encK r) = _
      rw [dec4_enc3, this]
      rfl
theorem decK_len : ∀ (t : Nat) (l : Tx), l.length = 4 * t → (decK l).length = 3 * t
  | 0, l, h => by
    obtain rfl : l = [] := List.eq_nil_of_length_eq_zero (by omega)
    rfl
  | t + 1, l, h => by
    match l, h with
    | a :: b :: c :: d :: r, h =>
      have := decK_len t r (by simp at h; omega)
      show (dec4 a b c d ++ decK r).length = _
      rw [List.length_append, this]
      show 3 + 3 * t = _
      omega
theorem decK_snoc (a b c d : UInt8) : ∀ (t : Nat) (l : Tx), l.length = 4 * t → decK (l ++ [a, b, c, d]) = decK l ++ dec4 a b c d
  | 0, l, h => by
    obtain rfl : l = [] := List.eq_nil_of_length_eq_zero (by omega)
    rfl
  | t + 1, l, h => by
    match l, h with
    | x :: y :: z :: u :: r, h =>
      have := decK_snoc a b c d t r (by simp at h; omega)
      show dec4 x y z u ++ decK (r ++ [a, b, c, d]) = (dec4 x y z u ++ decK r) ++ dec4 a b c d
      rw [this, List.append_assoc]
/-- The key whose letters l is; of what is no key's length: noughts. -/
def keyP (l : Tx) : Tx := if l.length = 40 then decK l else List.replicate 30 0
theorem keyP_len (l : Tx) : (keyP l).length = 30 := by
  unfold keyP
  split
  · next h => exact decK_len 10 l (by omega)
  · simp
theorem keyP_enc {k : Tx} (h : k.length = 30) : keyP (encK k) = k := by
  unfold keyP
  rw [if_pos (by rw [encK_len 10 k (by omega)]), decK_encK 10 k (by omega)]
/-- What stands behind 'inline:'. -/
abbrev wInl : Tx := [105, 110, 108, 105, 110, 101, 58]
def cryP (l : Tx) : CryptoS := ⟨numP (hd l), keyP (Lib.trimPrefix (tl (tl l)) wInl)⟩
/-- The program's reader. -/
def rP : Rdr := ⟨numP, srcP, cryP, fun _ => 0⟩
theorem decI_le {n : Int} (h0 : 0 ≤ n) (h1 : n ≤ 1000000) : numP (decI n) = n := by
  unfold decI
  rw [numP_dec (by omega)]
  omega
theorem rP_law : rP.Law where
  num n h := numP_dec h
  src n h := srcP_dec h
  cry c h1 h9 hk := by
    have e1 : hd (cryptoT c) = decI c.tag := hd_at _ _ (decI_32 _)
    have e2 : tl (cryptoT c) = wSuite ++ 32 :: (wInl ++ encK c.key) := tl_at (decI c.tag) (wSuite ++ 32 :: (wInl ++ encK c.key)) (decI_32 _)
    have e3 : tl (tl (cryptoT c)) = wInl ++ encK c.key := by rw [e2]; exact tl_at _ _ (by decide)
    have e4 : Lib.trimPrefix (wInl ++ encK c.key) wInl = encK c.key := by
      unfold Lib.trimPrefix
      rw [if_pos (by unfold Lib.hasPrefix; simp)]
      rfl
    show cryP (cryptoT c) = c
    unfold cryP
    rw [e1, e3, e4, keyP_enc hk, decI_le (by omega) (by omega)]
  still := rfl
end Go.Proofs.YtmlapbadgjhhdaaGreatDoor
