/- AES-128's rounds and keys on functions of places; that two blocks that differ are encrypted to two that differ; words of four bytes. -/
import Derived.Test.YtomnomopcpdpoaaAesPlain
namespace Go.Proofs.Ytomnomopcpdpoaa
set_option linter.unusedVariables false

theorem ofNat_toNat8 (b : B) : BitVec.ofNat 8 b.toNat = b := by simp
theorem all_B {p : B → Bool} (h : (List.range 256).all (fun j => p (BitVec.ofNat 8 j)) = true) (b : B) : p b = true := by
  have := all_of h (i := b.toNat) b.isLt
  rwa [ofNat_toNat8] at this
theorem S_eq (b : B) : subB b = Sb b.toNat := by
  have := all_of S_check (i := b.toNat) b.isLt
  rw [ofNat_toNat8] at this
  exact eq_of_beq this

theorem tw_check : ((List.range 256).all fun j => tw (BitVec.ofNat 8 j) == (BitVec.ofNat 8 j <<< 1) ^^^ (if (BitVec.ofNat 8 j).msb then 27#8 else 0#8)) = true := by decide +kernel
theorem mul2_check : ((List.range 256).all fun j => mulB 2#8 (BitVec.ofNat 8 j) == tw (BitVec.ofNat 8 j)) = true := by decide +kernel
theorem mul3_check : ((List.range 256).all fun j => mulB 3#8 (BitVec.ofNat 8 j) == tw (BitVec.ofNat 8 j) ^^^ BitVec.ofNat 8 j) = true := by decide +kernel
theorem mul2r_check : ((List.range 256).all fun j => mulB (BitVec.ofNat 8 j) 2#8 == tw (BitVec.ofNat 8 j)) = true := by decide +kernel
theorem IL_check : ((List.range 256).all fun j => IL.getD (Sb j).toNat 0 == j) = true := by decide +kernel

theorem tw_eq (a : B) : tw a = (a <<< 1) ^^^ (if a.msb then 27#8 else 0#8) := eq_of_beq (all_B (p := fun b => tw b == (b <<< 1) ^^^ (if b.msb then 27#8 else 0#8)) tw_check a)
theorem mul2 (a : B) : mulB 2#8 a = tw a := eq_of_beq (all_B (p := fun b => mulB 2#8 b == tw b) mul2_check a)
theorem mul3 (a : B) : mulB 3#8 a = tw a ^^^ a := eq_of_beq (all_B (p := fun b => mulB 3#8 b == tw b ^^^ b) mul3_check a)
theorem mul2r (a : B) : mulB a 2#8 = tw a := eq_of_beq (all_B (p := fun b => mulB b 2#8 == tw b) mul2r_check a)
theorem S_inj {a b : B} (h : Sb a.toNat = Sb b.toNat) : a = b := by
  have e1 := eq_of_beq (all_of IL_check (i := a.toNat) a.isLt)
  have e2 := eq_of_beq (all_of IL_check (i := b.toNat) b.isLt)
  rw [h] at e1
  exact BitVec.eq_of_toNat_eq (e1.symm.trans e2)
theorem xlc {n : Nat} (a b c : BitVec n) : a ^^^ (b ^^^ c) = b ^^^ (a ^^^ c) := by rw [← BitVec.xor_assoc, ← BitVec.xor_assoc, BitVec.xor_comm a b]
theorem xcl {n : Nat} (a b : BitVec n) : a ^^^ (a ^^^ b) = b := by rw [← BitVec.xor_assoc, BitVec.xor_self, BitVec.zero_xor]
theorem tw_xor (a b : B) : tw (a ^^^ b) = tw a ^^^ tw b := by
  have e : (a ^^^ b) <<< 1 = (a <<< 1) ^^^ (b <<< 1) := by
    exact BitVec.shiftLeft_xor_distrib a b 1
  rw [tw_eq, tw_eq, tw_eq, e, BitVec.msb_xor]
  generalize a <<< 1 = x
  generalize b <<< 1 = y
  cases a.msb <;> cases b.msb <;> simp only [Bool.xor_true, Bool.xor_false, Bool.not_true, Bool.not_false, Bool.false_eq_true, if_true, if_false, BitVec.xor_zero]
  · rw [BitVec.xor_assoc]
  · rw [BitVec.xor_assoc, BitVec.xor_assoc, BitVec.xor_comm y]
  · rw [BitVec.xor_assoc, xlc (27#8) y, BitVec.xor_self, BitVec.xor_zero]

/-- Each byte through S, row r turned by r columns. -/
def ss (f : Nat → B) (i : Nat) : B := Sb (f (4 * ((i / 4 + i % 4) % 4) + i % 4)).toNat
/-- Each column multiplied by the polynomial. -/
def mx (f : Nat → B) (i : Nat) : B := tw (f i) ^^^ (tw (f (4 * (i / 4) + (i % 4 + 1) % 4)) ^^^ f (4 * (i / 4) + (i % 4 + 1) % 4)) ^^^ f (4 * (i / 4) + (i % 4 + 2) % 4) ^^^ f (4 * (i / 4) + (i % 4 + 3) % 4)
/-- Round n. -/
def rd (K : Nat → B) (n : Nat) (f : Nat → B) (i : Nat) : B := (if n < 10 then mx (ss f) i else ss f i) ^^^ K (16 * n + i)
/-- A block behind n rounds. -/
def st (K s : Nat → B) : Nat → Nat → B
  | 0 => fun i => s i ^^^ K i
  | n + 1 => rd K (n + 1) (st K s n)

/-- The constants of the keys. -/
def rc : Nat → B
  | 0 => 1#8
  | n + 1 => tw (rc n)
/-- The keys, byte by byte. -/
def ks (key : Nat → B) (j : Nat) : B :=
  if h : j < 16 then key j
  else ks key (j - 16) ^^^ (if j / 4 % 4 = 0 then Sb (ks key (j - 4 - j % 4 + (j % 4 + 1) % 4)).toNat ^^^ (if j % 4 = 0 then rc (j / 16 - 1) else 0#8) else ks key (j - 4))
termination_by j
decreasing_by all_goals omega

theorem ss_inj {f g : Nat → B} (h : ∀ i, i < 16 → ss f i = ss g i) : ∀ i, i < 16 → f i = g i := by
  intro i hi
  have := h (4 * ((i / 4 + 4 - i % 4) % 4) + i % 4) (by omega)
  unfold ss at this
  have e : 4 * (((4 * ((i / 4 + 4 - i % 4) % 4) + i % 4) / 4 + (4 * ((i / 4 + 4 - i % 4) % 4) + i % 4) % 4) % 4) + (4 * ((i / 4 + 4 - i % 4) % 4) + i % 4) % 4 = i := by omega
  rw [e] at this
  exact S_inj this

def m4 (a b c d : B) : B := tw a ^^^ (tw b ^^^ b) ^^^ c ^^^ d
theorem m4_two (a b c d : B) : m4 (m4 a b c d) (m4 b c d a) (m4 c d a b) (m4 d a b c) = a ^^^ tw (tw (a ^^^ c)) := by
  unfold m4
  simp only [tw_xor]
  generalize tw (tw a) = a2
  generalize tw (tw b) = b2
  generalize tw (tw c) = c2
  generalize tw (tw d) = d2
  generalize tw a = a1
  generalize tw b = b1
  generalize tw c = c1
  generalize tw d = d1
  ext i
  simp only [BitVec.getElem_xor]
  generalize a[i] = a
  generalize b[i] = b
  generalize c[i] = c
  generalize d[i] = d
  generalize a1[i] = a1
  generalize b1[i] = b1
  generalize c1[i] = c1
  generalize d1[i] = d1
  generalize a2[i] = a2
  generalize b2[i] = b2
  generalize c2[i] = c2
  generalize d2[i] = d2
  revert a b c d a1 b1 c1 d1 a2 b2 c2 d2
  decide +kernel
theorem m4_back (a b c d a' b' c' d' : B) (h0 : m4 a b c d = m4 a' b' c' d') (h1 : m4 b c d a = m4 b' c' d' a') (h2 : m4 c d a b = m4 c' d' a' b') (h3 : m4 d a b c = m4 d' a' b' c') : a = a' := by
  have e0 := m4_two a b c d
  have e2 := m4_two c d a b
  rw [h0, h1, h2, h3] at e0 e2
  rw [m4_two] at e0 e2
  have hq : ∀ x y q : B, (x ^^^ q) ^^^ (y ^^^ q) = x ^^^ y := by
    intro x y q
    rw [BitVec.xor_assoc, xlc q y q, BitVec.xor_self, BitVec.xor_zero]
  have e : a ^^^ c = a' ^^^ c' := by
    rw [← hq a c (tw (tw (a ^^^ c))), ← hq a' c' (tw (tw (a' ^^^ c')))]
    rw [BitVec.xor_comm c a, BitVec.xor_comm c' a'] at e2
    rw [e0, e2]
  rw [e] at e0
  exact (BitVec.xor_left_inj _).1 e0.symm

theorem mx_at (f : Nat → B) (c r : Nat) (hr : r < 4) : mx f (4 * c + r) = m4 (f (4 * c + r)) (f (4 * c + (r + 1) % 4)) (f (4 * c + (r + 2) % 4)) (f (4 * c + (r + 3) % 4)) := by
  unfold mx m4
  rw [show (4 * c + r) / 4 = c by omega, show (4 * c + r) % 4 = r by omega]
theorem mx_inj {f g : Nat → B} (h : ∀ i, i < 16 → mx f i = mx g i) : ∀ i, i < 16 → f i = g i := by
  have key : ∀ c r, c < 4 → r < 4 → f (4 * c + r) = g (4 * c + r) := by
    intro c r hc hr
    have e := fun k (hk : k < 4) => h (4 * c + k) (by omega)
    have e0 := e r hr
    have e1 := e ((r + 1) % 4) (by omega)
    have e2 := e ((r + 2) % 4) (by omega)
    have e3 := e ((r + 3) % 4) (by omega)
    rw [mx_at _ _ _ (by omega), mx_at _ _ _ (by omega)] at e0 e1 e2 e3
    rw [show ((r + 1) % 4 + 1) % 4 = (r + 2) % 4 by omega, show ((r + 1) % 4 + 2) % 4 = (r + 3) % 4 by omega, show ((r + 1) % 4 + 3) % 4 = r by omega] at e1
    rw [show ((r + 2) % 4 + 1) % 4 = (r + 3) % 4 by omega, show ((r + 2) % 4 + 2) % 4 = r by omega, show ((r + 2) % 4 + 3) % 4 = (r + 1) % 4 by omega] at e2
    rw [show ((r + 3) % 4 + 1) % 4 = r by omega, show ((r + 3) % 4 + 2) % 4 = (r + 1) % 4 by omega, show ((r + 3) % 4 + 3) % 4 = (r + 2) % 4 by omega] at e3
    exact m4_back _ _ _ _ _ _ _ _ e0 e1 e2 e3
  intro i hi
  have := key (i / 4) (i % 4) (by omega) (by omega)
  rwa [show 4 * (i / 4) + i % 4 = i by omega] at this
theorem rd_inj (K : Nat → B) (n : Nat) {f g : Nat → B} (h : ∀ i, i < 16 → rd K n f i = rd K n g i) : ∀ i, i < 16 → f i = g i := by
  unfold rd at h
  by_cases hn : n < 10
  · simp only [if_pos hn] at h
    exact ss_inj (mx_inj fun i hi => (BitVec.xor_left_inj _).1 (h i hi))
  · simp only [if_neg hn] at h
    exact ss_inj fun i hi => (BitVec.xor_left_inj _).1 (h i hi)
/-- Two blocks that differ are encrypted to two that differ. -/
theorem st_inj (K : Nat → B) (s t : Nat → B) (n : Nat) (h : ∀ i, i < 16 → st K s n i = st K t n i) : ∀ i, i < 16 → s i = t i := by
  induction n with
  | zero => exact fun i hi => (BitVec.xor_left_inj _).1 (h i hi)
  | succ n ih => exact ih (rd_inj K (n + 1) h)

/-- A word of four bytes. -/
def cv (a b c d : B) : BitVec 32 := a ++ b ++ c ++ d
theorem cv_nat (a b c d : B) : (cv a b c d).toNat = a.toNat * 16777216 + b.toNat * 65536 + c.toNat * 256 + d.toNat := by
  unfold cv
  have ha := a.isLt
  have hb := b.isLt
  have hc := c.isLt
  have hd := d.isLt
  simp only [BitVec.toNat_append]
  rw [← Nat.shiftLeft_add_eq_or_of_lt (by omega), ← Nat.shiftLeft_add_eq_or_of_lt (by omega), ← Nat.shiftLeft_add_eq_or_of_lt (by omega)]
  simp only [Nat.shiftLeft_eq]
  omega

theorem cv_xor (a b c d a' b' c' d' : B) : cv a b c d ^^^ cv a' b' c' d' = cv (a ^^^ a') (b ^^^ b') (c ^^^ c') (d ^^^ d') := by
  unfold cv
  rw [← BitVec.xor_append, ← BitVec.xor_append, ← BitVec.xor_append]
theorem cv_and (a b c d a' b' c' d' : B) : cv a b c d &&& cv a' b' c' d' = cv (a &&& a') (b &&& b') (c &&& c') (d &&& d') := by
  unfold cv
  rw [← BitVec.and_append, ← BitVec.and_append, ← BitVec.and_append]
end Go.Proofs.Ytomnomopcpdpoaa
