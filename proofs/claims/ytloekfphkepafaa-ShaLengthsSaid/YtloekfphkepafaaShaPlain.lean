/- Plain facts on SHA-1's words: blocks that begin alike; the last blocks of a message. -/
import Derived.Test.YtloekfphkepafaaShaSpec
namespace Go.Proofs.Ytloekfphkepafaa

theorem pk_congr (xs ys : List Int) (k : Nat) (h : ∀ i, i < k → xs.getD i 0 = ys.getD i 0) : pk xs k = pk ys k := by
  induction k with
  | zero => rfl
  | succ k ih => rw [pk, pk, ih (fun i hi => h i (by omega)), h k (by omega)]
theorem blk_congr (s : S5) (xs ys : List Int) (h : ∀ i, i < 64 → xs.getD i 0 = ys.getD i 0) : blk s xs = blk s ys := by
  rw [blk, blk, pk_congr xs ys 64 h]

theorem ext_getD {xs ys : List Int} (hl : xs.length = ys.length) (h : ∀ i, i < xs.length → xs.getD i 0 = ys.getD i 0) : xs = ys := by
  apply List.ext_getElem hl
  intro i h1 h2
  have := h i h1
  simpa [List.getD, h1, h2] using this

theorem getD_set (xs : List Int) (i j : Nat) (x : Int) : (xs.set i x).getD j 0 = if i = j ∧ i < xs.length then x else xs.getD j 0 := by
  simp only [List.getD, List.getElem?_set]
  by_cases h1 : i = j
  · subst h1
    by_cases h2 : i < xs.length
    · simp [h2]
    · simp [h2]
  · simp [h1]

theorem getD_append (xs ys : List Int) (i : Nat) : (xs ++ ys).getD i 0 = if i < xs.length then xs.getD i 0 else ys.getD (i - xs.length) 0 := by
  simp only [List.getD]
  by_cases h : i < xs.length
  · rw [if_pos h, List.getElem?_append_left h]
  · rw [if_neg h, List.getElem?_append_right (Nat.le_of_not_lt h)]
theorem getD_zeros (n i : Nat) : (List.replicate n (0 : Int)).getD i 0 = 0 := by
  simp only [List.getD, List.getElem?_replicate]
  split <;> rfl
theorem getD_cons (x : Int) (xs : List Int) (i : Nat) : (x :: xs).getD i 0 = if i = 0 then x else xs.getD (i - 1) 0 := by
  cases i with
  | zero => rfl
  | succ i => simp [List.getD]
theorem getD_drop (xs : List Int) (n i : Nat) : (xs.drop n).getD i 0 = xs.getD (n + i) 0 := by
  simp [List.getD]
theorem getD_out (xs : List Int) (i : Nat) (h : xs.length ≤ i) : xs.getD i 0 = 0 := by
  simp [List.getD, List.getElem?_eq_none h]

@[simp] theorem be8_length (n : Nat) : (be8 n).length = 8 := rfl
theorem be8_getD (n i : Nat) (h : i < 8) : (be8 n).getD i 0 = ((n / 256 ^ (7 - i) % 256 : Nat) : Int) := by
  match i, h with
  | 0, _ => rfl
  | 1, _ => rfl
  | 2, _ => rfl
  | 3, _ => rfl
  | 4, _ => rfl
  | 5, _ => rfl
  | 6, _ => simp [be8]
  | 7, _ => simp [be8]

theorem tlN_getD (room r : Nat) (ys : List Int) (N : Nat) (hr : ys.length = r) (hroom : r + 9 ≤ room) (j : Nat) (hj : j ≤ 8) (p : Nat) (hp : p < room) :
    (tlN room ys N j).getD p 0 = if p < r then ys.getD p 0 else if p = r then 128 else if room - 1 - p < j then ((N / 256 ^ (room - 1 - p) % 256 : Nat) : Int) else 0 := by
  induction j with
  | zero =>
    rw [tlN, getD_set, hr]
    simp only [List.length_append, List.length_replicate, hr]
    by_cases h1 : p < r
    · rw [if_neg (by omega), if_pos h1, getD_append, hr, if_pos h1]
    · by_cases h2 : p = r
      · rw [if_pos (by omega), if_neg h1, if_pos h2]
      · rw [if_neg (by omega), if_neg h1, if_neg h2, if_neg (by omega), getD_append, hr, if_neg h1, getD_zeros]
  | succ j ih =>
    rw [tlN, getD_set, tlN_length room ys N j (by omega), ih (by omega)]
    by_cases h1 : p < r
    · rw [if_neg (by omega), if_pos h1, if_pos h1]
    · by_cases h2 : p = r
      · rw [if_neg (by omega), if_neg h1, if_pos h2, if_neg h1, if_pos h2]
      · rw [if_neg h1, if_neg h2, if_neg h1, if_neg h2]
        by_cases h3 : room - 1 - j = p
        · rw [if_pos (by omega), if_pos (by omega)]
          have : room - 1 - p = j := by omega
          rw [this]
        · rw [if_neg (by omega)]
          by_cases h4 : room - 1 - p < j
          · rw [if_pos h4, if_pos (by omega)]
          · rw [if_neg h4, if_neg (by omega)]

theorem div_zero_more (N j k : Nat) (h : N / 256 ^ j = 0) (hk : j ≤ k) : N / 256 ^ k = 0 := by
  obtain ⟨d, rfl⟩ : ∃ d, k = j + d := ⟨k - j, by omega⟩
  rw [Nat.pow_add, ← Nat.div_div_eq_div_mul, h, Nat.zero_div]

theorem tlN_eq (room r : Nat) (ys : List Int) (N : Nat) (hr : ys.length = r) (h64 : r < 64) (hroom : (room = 64 ∧ r + 9 ≤ 64) ∨ (room = 128 ∧ 64 < r + 9)) (j : Nat) (hj : j ≤ 8) (h0 : N / 256 ^ j = 0) :
    tlN room ys N j = ys ++ 128 :: (List.replicate ((119 - r) % 64) 0 ++ be8 N) := by
  have hz : (119 - r) % 64 = room - 9 - r := by omega
  have hroom' : r + 9 ≤ room := by omega
  rw [hz]
  apply ext_getD
  · rw [tlN_length room ys N j (by omega)]
    simp [hr]
    omega
  · intro p hp
    rw [tlN_length room ys N j (by omega)] at hp
    rw [tlN_getD room r ys N hr hroom' j hj p hp, getD_append, hr]
    by_cases h1 : p < r
    · rw [if_pos h1, if_pos h1]
    · rw [if_neg h1, if_neg h1, getD_cons]
      by_cases h2 : p = r
      · rw [if_pos h2, if_pos (by omega)]
      · have e1 : ¬ p - r = 0 := by omega
        rw [if_neg h2, if_neg e1, getD_append, List.length_replicate, getD_zeros]
        by_cases h3 : p - r - 1 < room - 9 - r
        · rw [if_pos h3, if_neg (by omega)]
        · rw [if_neg h3, be8_getD _ _ (by omega)]
          have e : 7 - (p - r - 1 - (room - 9 - r)) = room - 1 - p := by omega
          rw [e]
          by_cases h4 : room - 1 - p < j
          · rw [if_pos h4]
          · rw [if_neg h4, div_zero_more N j _ h0 (by omega)]
            rfl

/-- How many blocks a message of n bytes has. -/
def blocks (n : Nat) : Nat := (n + 9 + (119 - n % 64) % 64) / 64
theorem blocks_is (n room : Nat) (h : (room = 64 ∧ n % 64 + 9 ≤ 64) ∨ (room = 128 ∧ 64 < n % 64 + 9)) : blocks n = n / 64 + room / 64 := by
  unfold blocks
  omega

theorem padT_in8 (n T i : Nat) : 0 ≤ (padT n T).getD i 0 ∧ (padT n T).getD i 0 < 256 := by
  rw [padT, getD_cons]
  by_cases h0 : i = 0
  · rw [if_pos h0]
    omega
  · rw [if_neg h0, getD_append, getD_zeros]
    by_cases h1 : i - 1 < (List.replicate ((119 - n % 64) % 64) (0 : Int)).length
    · rw [if_pos h1]
      omega
    · rw [if_neg h1]
      by_cases h2 : i - 1 - (List.replicate ((119 - n % 64) % 64) (0 : Int)).length < 8
      · rw [be8_getD _ _ h2]
        omega
      · rw [getD_out _ _ (by rw [be8_length]; omega)]
        omega
theorem append_in8 {xs ys : List Int} (hx : ∀ i, 0 ≤ xs.getD i 0 ∧ xs.getD i 0 < 256) (hy : ∀ i, 0 ≤ ys.getD i 0 ∧ ys.getD i 0 < 256) (i : Nat) : 0 ≤ (xs ++ ys).getD i 0 ∧ (xs ++ ys).getD i 0 < 256 := by
  rw [getD_append]
  split
  · exact hx i
  · exact hy _

end Go.Proofs.Ytloekfphkepafaa
