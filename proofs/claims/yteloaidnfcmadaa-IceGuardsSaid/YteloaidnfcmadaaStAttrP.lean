/- What readAttr reads, on lists: an attribute, or what no attribute begins. -/
import Derived.Test.YteloaidnfcmadaaStPlain
namespace Go.Proofs.Yteloaidnfcmadaa
open Go.RowKit
set_option linter.unusedVariables false

def u16P (xs : List Int) (bad : Bool) : Nat := (numOf (takeP 2 xs bad) % 65536).toNat
theorem u16P_lt (xs : List Int) (bad : Bool) : u16P xs bad < 65536 := by unfold u16P; omega
theorem u16_nat (b : Nat) (v : Value) (xs : List Int) (bad : Bool) (w : World) (h : RdV w b v xs bad) (hx : In256 xs) :
    Calls Try.prog 54 #[.pointer (some ⟨b, 0, none⟩)] w fun e w' => e = .returned (.int .u16 (u16P xs bad : Nat)) ∧ (∃ v2, RdV w' b v2 (leftP 2 xs bad) (badP 2 xs bad)) ∧ Only (fun k => k = b) w w' :=
  (u16_any b v xs bad w h hx).mono fun e w' ⟨h1, h2⟩ => ⟨by rw [h1]; unfold u16P; congr 2; omega, h2⟩

/-- What is read of an attribute: its type and length, its value, its noughts. -/
def rT (xs : List Int) : Nat := u16P xs false
def x1 (xs : List Int) : List Int := leftP 2 xs false
def q1 (xs : List Int) : Bool := badP 2 xs false
def rN (xs : List Int) : Nat := u16P (x1 xs) (q1 xs)
def x2 (xs : List Int) : List Int := leftP 2 (x1 xs) (q1 xs)
def q2 (xs : List Int) : Bool := badP 2 (x1 xs) (q1 xs)
def rV (xs : List Int) : List Int := takeP (rN xs) (x2 xs) (q2 xs)
def x3 (xs : List Int) : List Int := leftP (rN xs) (x2 xs) (q2 xs)
def q3 (xs : List Int) : Bool := badP (rN xs) (x2 xs) (q2 xs)
def rP (xs : List Int) : List Int := takeP (padN (rN xs)) (x3 xs) (q3 xs)
def x4 (xs : List Int) : List Int := leftP (padN (rN xs)) (x3 xs) (q3 xs)
def q4 (xs : List Int) : Bool := badP (padN (rN xs)) (x3 xs) (q3 xs)
def rOk (xs : List Int) : Bool := (rP xs).all (fun v => v == 0) && !q4 xs

theorem u16P_two (a b : Int) (r : List Int) (ha : 0 ≤ a ∧ a < 256) (hb : 0 ≤ b ∧ b < 256) : ((u16P (a :: b :: r) false : Nat) : Int) = a * 256 + b := by
  have e : takeP 2 (a :: b :: r) false = [a, b] := by simp [takeP]
  unfold u16P
  rw [e, numOf_two a b ha hb]
  omega
theorem rd_four {a b c d : Int} {y : List Int} (hx : In256 (a :: b :: c :: d :: y)) : ((rT (a :: b :: c :: d :: y) : Nat) : Int) = a * 256 + b ∧ x2 (a :: b :: c :: d :: y) = y ∧ q2 (a :: b :: c :: d :: y) = false ∧ ((rN (a :: b :: c :: d :: y) : Nat) : Int) = c * 256 + d := by
  have ha := hx 0
  have hb := hx 1
  have hc := hx 2
  have hd := hx 3
  simp [List.getD] at ha hb hc hd
  have e1 : x1 (a :: b :: c :: d :: y) = c :: d :: y := by
    simp [x1, leftP]
    intro h
    omega
  have e2 : q1 (a :: b :: c :: d :: y) = false := by simp [q1, badP]
  refine ⟨u16P_two a b _ ha hb, ?_, ?_, ?_⟩
  · unfold x2; rw [e1, e2]; simp [leftP]; intro h; omega
  · unfold q2; rw [e1, e2]; simp [badP]
  · unfold rN; rw [e1, e2]; exact u16P_two c d _ hc hd
theorem q4_short {xs : List Int} (h : xs.length < 4) : q4 xs = true := by
  have h2 : q2 xs = true := by
    unfold q2 x1 q1 badP leftP
    match xs, h with
    | [], _ => simp
    | [a], _ => simp
    | [a, b], _ => simp
    | [a, b, c], _ => simp
  unfold q4 badP q3 badP
  rw [h2]
  simp
theorem four_of {xs : List Int} (h : ¬ xs.length < 4) : ∃ a b c d y, xs = a :: b :: c :: d :: y := by
  match xs, h with
  | [], h => simp at h
  | [a], h => simp at h
  | [a, b], h => simp at h
  | [a, b, c], h => simp at h
  | a :: b :: c :: d :: y, _ => exact ⟨a, b, c, d, y, rfl⟩
theorem be2_of {a b : Int} {t : Nat} (ha : 0 ≤ a ∧ a < 256) (hb : 0 ≤ b ∧ b < 256) (h : (t : Int) = a * 256 + b) : be2 t = [a, b] := by
  unfold be2
  rw [show (t : Int) / 256 % 256 = a by omega, show (t : Int) % 256 = b by omega]
theorem zeros_of {l : List Int} (h : l.all (fun v => v == 0) = true) : l = List.replicate l.length 0 := by
  apply List.eq_replicate_iff.2
  refine ⟨rfl, fun x hx => ?_⟩
  have := List.all_eq_true.1 h x hx
  simpa using this
/-- What is read well is an attribute. -/
theorem rOk_yes {xs : List Int} (hx : In256 xs) (h : rOk xs = true) : q4 xs = false ∧ AtOk ⟨rT xs, rV xs⟩ ∧ In256 (rV xs) ∧ (rV xs).length = rN xs ∧ xs = atBytes ⟨rT xs, rV xs⟩ ++ x4 xs := by
  unfold rOk at h
  rw [Bool.and_eq_true] at h
  obtain ⟨h1, h2⟩ := h
  have hq : q4 xs = false := by simpa using h2
  by_cases hs : xs.length < 4
  · rw [q4_short hs] at hq; cases hq
  obtain ⟨a, b, c, d, y, rfl⟩ := four_of hs
  obtain ⟨e1, e2, e3, e4⟩ := rd_four hx
  have ha := hx 0
  have hb := hx 1
  have hc := hx 2
  have hd := hx 3
  simp [List.getD] at ha hb hc hd
  have hy : In256 y := by have := hx.drop 4; simpa using this
  generalize hxs : a :: b :: c :: d :: y = xs at *
  have hq' := hq
  unfold q4 badP at hq'
  rw [Bool.or_eq_false_iff] at hq'
  obtain ⟨hq3, hl3⟩ := hq'
  have hq3' := hq3
  unfold q3 badP at hq3'
  rw [Bool.or_eq_false_iff, e2] at hq3'
  obtain ⟨_, hl2⟩ := hq3'
  have hl2 : rN xs ≤ y.length := by have := of_decide_eq_false hl2; omega
  have hl3 : padN (rN xs) ≤ (x3 xs).length := by have := of_decide_eq_false hl3; omega
  have eV : rV xs = y.take (rN xs) := by unfold rV takeP; rw [e2, e3, if_neg (by simp; omega)]
  have eX : x3 xs = y.drop (rN xs) := by unfold x3 leftP; rw [e2, e3, if_neg (by simp; omega)]
  have eP : rP xs = (x3 xs).take (padN (rN xs)) := by unfold rP takeP; rw [hq3, if_neg (by simp; omega)]
  have eX4 : x4 xs = (x3 xs).drop (padN (rN xs)) := by unfold x4 leftP; rw [hq3, if_neg (by simp; omega)]
  have hvl : (rV xs).length = rN xs := by rw [eV, List.length_take]; omega
  have hpl : (rP xs).length = padN (rN xs) := by rw [eP, List.length_take]; omega
  have hpz := zeros_of h1
  rw [hpl] at hpz
  refine ⟨hq, ⟨by show (0 : Int) ≤ (rT xs : Nat); omega, by show ((rT xs : Nat) : Int) < 65536; have := u16P_lt xs false; unfold rT; omega, by show (rV xs).length < 65536; rw [hvl]; exact u16P_lt _ _⟩, ?_, hvl, ?_⟩
  · rw [eV]; exact hy.take _
  · unfold atBytes
    simp only
    rw [hvl, be2_of ha hb e1, be2_of hc hd e4, ← hpz, eP, eX4, eX, eV, ← hxs]
    simp only [List.cons_append, List.nil_append, List.append_assoc, List.take_append_drop]
/-- What is not read well does not begin with an attribute. -/
theorem rOk_no {xs : List Int} (hx : In256 xs) (h : rOk xs = false) : ∀ a r, AtOk a → xs ≠ atBytes a ++ r := by
  intro a r ha e
  have hal := ha.len
  have ht0 := ha.t0
  have ht1 := ha.t1
  obtain ⟨ty, val⟩ := a
  simp only at hal ht0 ht1
  simp only [atBytes, be2, List.cons_append, List.nil_append, List.append_assoc] at e
  subst e
  obtain ⟨e1, e2, e3, e4⟩ := rd_four hx
  generalize hxs : (ty / 256 % 256) :: (ty % 256) :: ((val.length : Nat) : Int) / 256 % 256 :: ((val.length : Nat) : Int) % 256 :: (val ++ (List.replicate (padN val.length) 0 ++ r)) = xs at *
  have en : rN xs = val.length := by omega
  have eX : x3 xs = List.replicate (padN val.length) 0 ++ r := by
    unfold x3 leftP; rw [e2, e3, en, if_neg (by simp)]; simp
  have eq3 : q3 xs = false := by unfold q3 badP; rw [e2, e3, en]; simp
  have eP : rP xs = List.replicate (padN val.length) 0 := by
    unfold rP takeP; rw [eX, eq3, en, if_neg (by simp)]; simp
  have eq4 : q4 xs = false := by unfold q4 badP; rw [eX, eq3, en]; simp
  unfold rOk at h
  rw [eP, eq4] at h
  simp at h
end Go.Proofs.Yteloaidnfcmadaa
