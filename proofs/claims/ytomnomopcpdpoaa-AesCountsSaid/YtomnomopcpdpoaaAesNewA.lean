/- What the program's cipher holds, word by word. -/
import Derived.Test.YtomnomopcpdpoaaAesAdd
namespace Go.Proofs.Ytomnomopcpdpoaa
open Go.RowKit
set_option linter.unusedVariables false

/-- A cipher behind n of its words. -/
def ciphL (K : Nat → B) (n : Nat) : List Value := (fl 256 Sb).map (Value.int .u8) ++ (List.range 44).map (fun j => Value.int .u32 (if j < n then ncf K j else 0))
@[simp] theorem ciphL_length (K : Nat → B) (n : Nat) : (ciphL K n).length = 300 := by simp [ciphL]
theorem ciphL_all (K : Nat → B) : (ciphL K 44).toArray = ciph K := by
  unfold ciphL ciph arr
  rw [List.append_toArray, List.map_map]
  congr 2
theorem ciphL_key (K : Nat → B) (n : Nat) {j : Nat} (h : j < 44) : (ciphL K n).toArray[256 + j]? = some (.int .u32 (if j < n then ncf K j else 0)) := by
  rw [List.getElem?_toArray]
  unfold ciphL
  rw [List.getElem?_append_right (by simp)]
  simp [h]
theorem ciphL_box (K : Nat → B) (n : Nat) {j : Nat} (h : j < 256) : (ciphL K n).toArray[j]? = some (.int .u8 (nb (Sb j))) := by
  rw [List.getElem?_toArray]
  unfold ciphL
  rw [List.getElem?_append_left (by simpa using h)]
  simp [fl, h]
theorem ciphL_set (K : Nat → B) (n : Nat) (hn : n < 44) : (ciphL K n).toArray.setIfInBounds (256 + n) (.int .u32 (ncf K n)) = (ciphL K (n + 1)).toArray := by
  rw [List.setIfInBounds_toArray]
  congr 1
  unfold ciphL
  rw [List.set_append, if_neg (by simp)]
  refine congrArg ((fl 256 Sb).map (Value.int .u8) ++ ·) ?_
  apply List.ext_getElem
  · simp
  · intro i h1 h2
    simp only [List.length_map, fl_length, Nat.add_sub_cancel_left, List.getElem_set, List.getElem_map, List.getElem_range]
    by_cases e : n = i
    · subst e; simp
    · rw [if_neg e]
      by_cases h3 : i < n
      · rw [if_pos h3, if_pos (by omega)]
      · rw [if_neg h3, if_neg (by omega)]
theorem words_first (F : Nat → Int) : [Value.int .u32 (F 0), Value.int .u32 (F 1), Value.int .u32 (F 2), Value.int .u32 (F 3)] ++ List.drop (256 + [Value.int .u32 (F 0), Value.int .u32 (F 1), Value.int .u32 (F 2), Value.int .u32 (F 3)].length - 256) ((List.range 44).map fun j => Value.int .u32 (if j < 0 then F j else 0)) = (List.range 44).map fun j => Value.int .u32 (if j < 4 then F j else 0) := by kernel_rfl
theorem ciphL_first (key : Nat → B) : splice (ciphL (ks key) 0) 256 ((cw key).map (Value.int .u32)) = ciphL (ks key) 4 := by
  have e : ∀ j, j < 4 → ncf (ks key) j = ncf key j := by
    intro j hj
    unfold ncf
    rw [ks_first key (by omega), ks_first key (by omega), ks_first key (by omega), ks_first key (by omega)]
  have hl : ((fl 256 Sb).map (Value.int .u8)).length = 256 := by simp
  unfold splice ciphL
  generalize (fl 256 Sb).map (Value.int .u8) = A at hl ⊢
  rw [List.take_append_of_le_length (by rw [hl]; exact Nat.le_refl _), List.take_of_length_le (by rw [hl]; exact Nat.le_refl _), List.drop_append, hl, List.drop_of_length_le (by rw [hl]; simp), List.nil_append]
  refine congrArg (A ++ ·) ?_
  have h1 : (cw key).map (Value.int .u32) = [Value.int .u32 (ncf (ks key) 0), Value.int .u32 (ncf (ks key) 1), Value.int .u32 (ncf (ks key) 2), Value.int .u32 (ncf (ks key) 3)] := by
    rw [e 0 (by omega), e 1 (by omega), e 2 (by omega), e 3 (by omega)]
    rfl
  rw [h1]
  exact words_first (ncf (ks key))

theorem build_ciph (K : Nat → B) (w : World) : (Instr.build 45 #[(0, .agg (arr .u8 (fl 256 Sb)))]).run Try.prog w = .ok (.agg (ciphL K 0).toArray) w := by kernel_rfl

/-- The word that is xored into a key. -/
def kw (K : Nat → B) (n : Nat) : Int := nc (kt K n 0) (kt K n 1) (kt K n 2) (kt K n 3)
theorem ncf_ks (key : Nat → B) (n : Nat) (hn : 4 ≤ n) : bits .xor .u32 (ncf (ks key) (n - 4)) (kw (ks key) n) = ncf (ks key) n := by
  have e0 := ks_next key n 0 hn (by omega)
  have e1 := ks_next key n 1 hn (by omega)
  have e2 := ks_next key n 2 hn (by omega)
  have e3 := ks_next key n 3 hn (by omega)
  unfold ncf kw
  rw [nc_xor, e1, e2, e3]
  rw [show ks key (4 * n) = _ from e0]
  rfl
theorem kw_plain (K : Nat → B) (n : Nat) (h : n % 4 ≠ 0) : kw K n = ncf K (n - 1) := by
  unfold kw kt
  rw [if_neg h, if_neg h, if_neg h, if_neg h]
  rfl
theorem kw_turned (K : Nat → B) (n : Nat) (h : n % 4 = 0) : bits .xor .u32 (nc (Sb (K (4 * (n - 1) + 1)).toNat) (Sb (K (4 * (n - 1) + 2)).toNat) (Sb (K (4 * (n - 1) + 3)).toNat) (Sb (K (4 * (n - 1))).toNat)) (nb (rc ((n - 1) / 4)) * 16777216 % 4294967296) = kw K n := by
  have hb := nb_in (rc ((n - 1) / 4))
  have e : nb (rc ((n - 1) / 4)) * 16777216 % 4294967296 = nc (rc ((n - 1) / 4)) 0#8 0#8 0#8 := by
    rw [nc_eq]
    show _ = nb (rc ((n - 1) / 4)) * 16777216 + 0 * 65536 + 0 * 256 + 0
    omega
  rw [e, nc_xor]
  unfold kw kt
  rw [if_pos h, if_pos h, if_pos h, if_pos h]
  simp

end Go.Proofs.Ytomnomopcpdpoaa
