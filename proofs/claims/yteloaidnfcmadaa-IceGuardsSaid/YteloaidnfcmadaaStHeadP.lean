/- What readHead reads, on lists: a head, or what is no message's. -/
import Derived.Test.YteloaidnfcmadaaStAttrP
namespace Go.Proofs.Yteloaidnfcmadaa
open Go.RowKit
set_option linter.unusedVariables false

/-- What is read of the head: kind, length, the cookie, the ID. -/
def hK (xs : List Int) : Nat := u16P xs false
def hL (xs : List Int) : Nat := u16P (leftP 2 xs false) (badP 2 xs false)
def h2 (xs : List Int) : List Int := leftP 2 (leftP 2 xs false) (badP 2 xs false)
def b2 (xs : List Int) : Bool := badP 2 (leftP 2 xs false) (badP 2 xs false)
def hM (xs : List Int) : Int := numOf (takeP 4 (h2 xs) (b2 xs))
def h3 (xs : List Int) : List Int := leftP 4 (h2 xs) (b2 xs)
def b3 (xs : List Int) : Bool := badP 4 (h2 xs) (b2 xs)
def hI (xs : List Int) : List Int := takeP 12 (h3 xs) (b3 xs)
def h4 (xs : List Int) : List Int := leftP 12 (h3 xs) (b3 xs)
def b4 (xs : List Int) : Bool := badP 12 (h3 xs) (b3 xs)
def hOk (xs : List Int) : Bool := !b4 xs && decide (hK xs ≤ 16383) && decide (hM xs = 554869826) && decide (hL xs = (h4 xs).length)
theorem be2_back (x : Int) (h0 : 0 ≤ x) (h1 : x < 65536) : ∃ a b, be2 x = [a, b] ∧ 0 ≤ a ∧ a < 256 ∧ 0 ≤ b ∧ b < 256 ∧ x = a * 256 + b := ⟨x / 256 % 256, x % 256, rfl, by omega, by omega, by omega, by omega, by omega⟩
theorem hd_eight {a b c d e f g h : Int} {y : List Int} (hx : In256 (a :: b :: c :: d :: e :: f :: g :: h :: y)) : ((hK (a :: b :: c :: d :: e :: f :: g :: h :: y) : Nat) : Int) = a * 256 + b ∧ ((hL (a :: b :: c :: d :: e :: f :: g :: h :: y) : Nat) : Int) = c * 256 + d ∧
    hM (a :: b :: c :: d :: e :: f :: g :: h :: y) = ((e * 256 + f) * 256 + g) * 256 + h ∧ h3 (a :: b :: c :: d :: e :: f :: g :: h :: y) = y ∧ b3 (a :: b :: c :: d :: e :: f :: g :: h :: y) = false := by
  obtain ⟨e1, e2, e3, e4⟩ := rd_four hx
  have he := hx 4
  have hf := hx 5
  have hg := hx 6
  have hh := hx 7
  simp [List.getD] at he hf hg hh
  have i2 : h2 (a :: b :: c :: d :: e :: f :: g :: h :: y) = e :: f :: g :: h :: y := e2
  have j2 : b2 (a :: b :: c :: d :: e :: f :: g :: h :: y) = false := e3
  refine ⟨e1, e4, ?_, ?_, ?_⟩
  · unfold hM
    rw [i2, j2]
    have : takeP 4 (e :: f :: g :: h :: y) false = [e, f, g, h] := by simp [takeP]
    rw [this, numOf_four e f g h he hf hg hh]
  · unfold h3; rw [i2, j2]; simp [leftP]; intro hlt; omega
  · unfold b3; rw [i2, j2]; simp [badP]
theorem b4_short {xs : List Int} (h : xs.length < 8) : b4 xs = true := by
  have hb3 : b3 xs = true := by
    by_cases h4 : xs.length < 4
    · have hb2 : b2 xs = true := by
        unfold b2 badP leftP
        match xs, h4 with
        | [], _ => simp
        | [a], _ => simp
        | [a, b], _ => simp
        | [a, b, c], _ => simp
      unfold b3 badP
      rw [hb2]; simp
    · obtain ⟨a, b, c, d, y, rfl⟩ := four_of h4
      have hy : y.length < 4 := by simp at h; omega
      have e2 : h2 (a :: b :: c :: d :: y) = y := by
        have e1 : leftP 2 (a :: b :: c :: d :: y) false = c :: d :: y := by simp [leftP]; intro h; omega
        have e2 : badP 2 (a :: b :: c :: d :: y) false = false := by simp [badP]
        unfold h2
        rw [e1, e2]
        simp [leftP]; intro h; omega
      unfold b3 badP
      rw [e2]
      simp; right; exact hy
  unfold b4 badP
  rw [hb3]; simp
theorem eight_of {xs : List Int} (hh : ¬ xs.length < 8) : ∃ a b c d e f g h y, xs = a :: b :: c :: d :: e :: f :: g :: h :: y := by
  obtain ⟨a, b, c, d, y, rfl⟩ := four_of (show ¬ xs.length < 4 by omega)
  obtain ⟨e, f, g, h, z, rfl⟩ := four_of (xs := y) (by simp at hh; omega)
  exact ⟨a, b, c, d, e, f, g, h, z, rfl⟩
/-- A head that is read well. -/
theorem hOk_yes {xs : List Int} (hx : In256 xs) (h : hOk xs = true) : b4 xs = false ∧ (hI xs).length = 12 ∧ In256 (hI xs) ∧ In256 (h4 xs) ∧ hK xs < 16384 ∧ xs = be2 (hK xs) ++ (be2 (h4 xs).length ++ (be4 554869826 ++ (hI xs ++ h4 xs))) := by
  unfold hOk at h
  simp only [Bool.and_eq_true, decide_eq_true_eq] at h
  obtain ⟨⟨⟨h1, h2'⟩, h3'⟩, h4'⟩ := h
  have hb : b4 xs = false := by simpa using h1
  by_cases hs : xs.length < 8
  · rw [b4_short hs] at hb; cases hb
  obtain ⟨a, b, c, d, e, f, g, h, y, rfl⟩ := eight_of hs
  obtain ⟨e1, e2, e3, e4, e5⟩ := hd_eight hx
  have ha := hx 0
  have hb' := hx 1
  have hc := hx 2
  have hd := hx 3
  have he := hx 4
  have hf := hx 5
  have hg := hx 6
  have hh := hx 7
  simp [List.getD] at ha hb' hc hd he hf hg hh
  have hy : In256 y := by have := hx.drop 8; simpa using this
  generalize hxs : a :: b :: c :: d :: e :: f :: g :: h :: y = xs at *
  have hb2 := hb
  unfold b4 badP at hb2
  rw [Bool.or_eq_false_iff, e4] at hb2
  have hl := of_decide_eq_false hb2.2
  have eI : hI xs = y.take 12 := by unfold hI takeP; rw [e4, e5, if_neg (by simp; omega)]
  have eX : h4 xs = y.drop 12 := by unfold h4 leftP; rw [e4, e5, if_neg (by simp; omega)]
  refine ⟨hb, by rw [eI, List.length_take]; omega, by rw [eI]; exact hy.take _, by rw [eX]; exact hy.drop _, by omega, ?_⟩
  rw [be2_of ha hb' e1, ← h4', be2_of hc hd e2, eI, eX, List.take_append_drop, ← hxs]
  rw [e3] at h3'
  have m1 : e = 33 := by omega
  have m2 : f = 18 := by omega
  have m3 : g = 164 := by omega
  have m4 : h = 66 := by omega
  subst m1 m2 m3 m4
  rfl
theorem hOk_no {xs : List Int} (hx : In256 xs) (h : hOk xs = false) : IsNone xs := by
  intro m ⟨hv, hf, e⟩
  have hk := kind_in m.cl m.me hv.c0 hv.c3 hv.m0 hv.m4
  have hbl : (body m.at_).length ≤ 1480 := by have := hv.size; unfold szN at this; rw [body_length]; omega
  obtain ⟨a, b, k1, a0, a1, b0, b1, k2⟩ := be2_back (kindOf m.cl m.me) hk.1 (by omega)
  obtain ⟨c, d, l1, c0, c1, d0, d1, l2⟩ := be2_back ((body m.at_).length : Int) (by omega) (by omega)
  rw [msg_cons, k1, l1] at e
  simp only [List.cons_append, List.nil_append] at e
  subst e
  obtain ⟨e1, e2, e3, e4, e5⟩ := hd_eight hx
  generalize hxs : a :: b :: c :: d :: 33 :: 18 :: 164 :: 66 :: (m.id ++ body m.at_) = xs at *
  have i12 := hf.id12
  have eX : h4 xs = body m.at_ := by
    unfold h4 leftP; rw [e4, e5, if_neg (by simp [i12])]
    rw [← i12]; simp
  have eb : b4 xs = false := by unfold b4 badP; rw [e4, e5]; simp [i12]
  unfold hOk at h
  rw [eb, eX, decide_eq_true (show hK xs ≤ 16383 by omega), decide_eq_true (show hM xs = 554869826 by rw [e3]; rfl), decide_eq_true (show hL xs = (body m.at_).length by omega)] at h
  cases h
end Go.Proofs.Yteloaidnfcmadaa
