/- Plain facts on CRC-32: it is linear but for its start. -/
import Derived.Test.YtloekfphkepafaaShaCrc
namespace Go.Proofs.Ytloekfphkepafaa
set_option linter.unusedVariables false

/-- A row of n numbers of which the first k are filled. -/
def fillN (f : Nat → Int) (n k : Nat) : List Int := (List.range n).map fun i => if i < k then f i else 0
@[simp] theorem fillN_length (f : Nat → Int) (n k : Nat) : (fillN f n k).length = n := by simp [fillN]
theorem fillN_getD (f : Nat → Int) (n k i : Nat) (hi : i < n) : (fillN f n k).getD i 0 = if i < k then f i else 0 := by
  simp [fillN, List.getD, hi]
theorem fillN_zero (f : Nat → Int) (n : Nat) : fillN f n 0 = List.replicate n 0 := by
  apply ext_getD
  · simp
  · intro i hi
    rw [fillN_length] at hi
    rw [fillN_getD f n 0 i hi, getD_zeros, if_neg (by omega)]
theorem fillN_set (f : Nat → Int) (n k : Nat) (hk : k < n) : (fillN f n k).set k (f k) = fillN f n (k + 1) := by
  apply ext_getD
  · simp
  · intro i hi
    rw [List.length_set, fillN_length] at hi
    rw [getD_set, fillN_length, fillN_getD f n k i hi, fillN_getD f n (k + 1) i hi]
    by_cases e : k = i
    · subst e
      rw [if_pos ⟨rfl, hk⟩, if_pos (by omega)]
    · rw [if_neg (by omega)]
      by_cases h : i < k
      · rw [if_pos h, if_pos (by omega)]
      · rw [if_neg h, if_neg (by omega)]

/-- The same in natural numbers. -/
def n1 (a : Nat) : Nat := (a / 2) ^^^ (if a % 2 = 1 then 3988292384 else 0)
def nN (a : Nat) : Nat → Nat
  | 0 => a
  | j + 1 => n1 (nN a j)
def nL (s : Nat) (f : Nat → Nat) : Nat → Nat
  | 0 => s
  | k + 1 => nN (nL s f k ^^^ f k) 8

theorem xor_nat (a b : Nat) (ha : a < 4294967296) (hb : b < 4294967296) : bits .xor .u32 (a : Int) (b : Int) = ((a ^^^ b : Nat) : Int) := u32_xor_nat a b ha hb
theorem xor_lt (a b : Nat) (ha : a < 4294967296) (hb : b < 4294967296) : a ^^^ b < 4294967296 := Nat.xor_lt_two_pow (n := 32) ha hb
theorem n1_lt (a : Nat) (h : a < 4294967296) : n1 a < 4294967296 := by
  unfold n1
  refine xor_lt _ _ (by omega) ?_
  split <;> omega
theorem nN_lt (a : Nat) (h : a < 4294967296) (j : Nat) : nN a j < 4294967296 := by
  induction j with
  | zero => exact h
  | succ j ih => exact n1_lt _ ih
theorem nL_lt (s : Nat) (f : Nat → Nat) (hs : s < 4294967296) (hf : ∀ i, f i < 256) (k : Nat) : nL s f k < 4294967296 := by
  induction k with
  | zero => exact hs
  | succ k ih => exact nN_lt _ (xor_lt _ _ ih (by have := hf k; omega)) 8
theorem crc1_nat (a : Nat) (h : a < 4294967296) : crc1 (a : Int) = (n1 a : Int) := by
  unfold crc1 n1
  rcases (show a % 2 = 0 ∨ a % 2 = 1 by omega) with e | e
  · rw [if_neg (by omega), if_neg (by omega)]
    have := xor_nat (a / 2) 0 (by omega) (by omega)
    exact this
  · rw [if_pos (by omega), if_pos e]
    have := xor_nat (a / 2) 3988292384 (by omega) (by omega)
    exact this
theorem crcN_nat (a : Nat) (h : a < 4294967296) (j : Nat) : crcN (a : Int) j = (nN a j : Int) := by
  induction j with
  | zero => rfl
  | succ j ih => rw [crcN, ih, crc1_nat _ (nN_lt a h j), nN]
theorem crcL_nat (xs : List Int) (f : Nat → Nat) (n : Nat) (hf : ∀ i, f i < 256) (hx : ∀ i, i < n → xs.getD i 0 = (f i : Int)) (k : Nat) (hk : k ≤ n) : crcL xs k = (nL 4294967295 f k : Int) := by
  induction k with
  | zero => rfl
  | succ k ih =>
    have hl := nL_lt 4294967295 f (by omega) hf k
    have hfk := hf k
    rw [crcL, ih (by omega), hx k (by omega), xor_nat _ _ hl (by omega), crcN_nat _ (xor_lt _ _ hl (by omega)), nL]

theorem half_xor (a b : Nat) : (a ^^^ b) / 2 = a / 2 ^^^ b / 2 := by
  have h := Nat.shiftRight_xor_distrib (a := a) (b := b) (i := 1)
  simpa [Nat.shiftRight_eq_div_pow] using h
theorem odd_xor (a b : Nat) : (a ^^^ b) % 2 = (a % 2 + b % 2) % 2 := by
  have h := Nat.testBit_xor a b 0
  simp only [Nat.testBit_zero] at h
  rcases (show a % 2 = 0 ∨ a % 2 = 1 by omega) with ea | ea <;> rcases (show b % 2 = 0 ∨ b % 2 = 1 by omega) with eb | eb <;> rcases (show (a ^^^ b) % 2 = 0 ∨ (a ^^^ b) % 2 = 1 by omega) with ec | ec <;> rw [ea, eb, ec] at h <;> rw [ea, eb, ec] <;> simp at h
theorem xor4 (a b c d : Nat) : (a ^^^ b) ^^^ (c ^^^ d) = (a ^^^ c) ^^^ (b ^^^ d) := by
  rw [Nat.xor_assoc, Nat.xor_assoc, ← Nat.xor_assoc b c d, Nat.xor_comm b c, Nat.xor_assoc c b d]
theorem n1_xor (a b : Nat) : n1 (a ^^^ b) = n1 a ^^^ n1 b := by
  unfold n1
  rw [half_xor, odd_xor, xor4]
  congr 1
  rcases (show a % 2 = 0 ∨ a % 2 = 1 by omega) with ea | ea <;> rcases (show b % 2 = 0 ∨ b % 2 = 1 by omega) with eb | eb <;> rw [ea, eb] <;> rfl
theorem nN_xor (a b : Nat) (j : Nat) : nN (a ^^^ b) j = nN a j ^^^ nN b j := by
  induction j with
  | zero => rfl
  | succ j ih => rw [nN, ih, n1_xor, nN, nN]
theorem nL_xor (s t : Nat) (f g : Nat → Nat) (k : Nat) : nL (s ^^^ t) (fun i => f i ^^^ g i) k = nL s f k ^^^ nL t g k := by
  induction k with
  | zero => rfl
  | succ k ih => rw [nL, ih, xor4, nN_xor, nL, nL]

theorem crc_nat (xs : List Int) (f : Nat → Nat) (hf : ∀ i, f i < 256) (hx : ∀ i, i < xs.length → xs.getD i 0 = (f i : Int)) : crc xs = ((4294967295 ^^^ nL 4294967295 f xs.length : Nat) : Int) := by
  rw [crc, crcL_nat xs f xs.length hf hx xs.length (Nat.le_refl _)]
  exact xor_nat 4294967295 _ (by omega) (nL_lt _ f (by omega) hf _)

theorem crc_lin (n : Nat) (f g : Nat → Nat) (hf : ∀ i, f i < 256) (hg : ∀ i, g i < 256) (xs ys zs os : List Int) (lx : xs.length = n) (ly : ys.length = n) (lz : zs.length = n) (lo : os.length = n)
    (hx : ∀ i, i < n → xs.getD i 0 = (f i : Int)) (hy : ∀ i, i < n → ys.getD i 0 = (g i : Int)) (hz : ∀ i, i < n → zs.getD i 0 = ((f i ^^^ g i : Nat) : Int)) (ho : ∀ i, i < n → os.getD i 0 = 0) :
    crc zs = bits .xor .u32 (bits .xor .u32 (crc xs) (crc ys)) (crc os) := by
  have hfg : ∀ i, f i ^^^ g i < 256 := fun i => Nat.xor_lt_two_pow (n := 8) (hf i) (hg i)
  rw [crc_nat zs (fun i => f i ^^^ g i) hfg (by rw [lz]; exact hz), crc_nat xs f hf (by rw [lx]; exact hx), crc_nat ys g hg (by rw [ly]; exact hy), crc_nat os (fun _ => 0) (fun _ => by omega) (by rw [lo]; exact fun i hi => ho i hi), lx, ly, lz, lo]
  have hM : (4294967295 : Nat) < 4294967296 := by omega
  have b1 := nL_lt 4294967295 f hM hf n
  have b2 := nL_lt 4294967295 g hM hg n
  have b3 := nL_lt 4294967295 (fun _ => 0) hM (fun _ => by omega) n
  have c1 := xor_lt _ _ hM b1
  have c2 := xor_lt _ _ hM b2
  have c3 := xor_lt _ _ hM b3
  rw [xor_nat _ _ c1 c2, xor_nat _ _ (xor_lt _ _ c1 c2) c3]
  congr 1
  have e1 : nL 4294967295 (fun i => f i ^^^ g i) n = (nL 4294967295 f n ^^^ nL 4294967295 g n) ^^^ nL 4294967295 (fun _ => 0) n := by
    rw [← nL_xor, ← nL_xor]
    congr 1
    funext i
    rw [Nat.xor_zero]
  rw [e1]
  generalize nL 4294967295 f n = A
  generalize nL 4294967295 g n = B
  generalize nL 4294967295 (fun _ => 0) n = C
  have e2 : (4294967295 ^^^ A ^^^ (4294967295 ^^^ B)) = A ^^^ B := by
    rw [xor4, Nat.xor_self, Nat.zero_xor]
  rw [e2]
  rw [← Nat.xor_assoc 4294967295 (A ^^^ B) C, Nat.xor_comm 4294967295 (A ^^^ B), Nat.xor_assoc]

end Go.Proofs.Ytloekfphkepafaa
