/- A STUN message: its bytes, and how it lies in memory. -/
import Derived.Test.YtapbodiakkdfmaaBase
import Derived.Deep.MidRow
import Derived.Deep.RegionHeld3
import Derived.Lib.AppendZerosOnto
namespace Go.Proofs.Ytapbodiakkdfmaa
open Go.RowKit
set_option linter.unusedVariables false

structure At where
  ty : Int
  val : List Int
instance : Inhabited At := ⟨⟨0, []⟩⟩

structure Msg where
  cl : Int
  me : Int
  id : List Int
  at_ : List At

def padN (n : Nat) : Nat := (4 - n % 4) % 4
def atSize (a : At) : Nat := 4 + a.val.length + padN a.val.length
def bodySize : List At → Nat
  | [] => 0
  | a :: r => atSize a + bodySize r
def be2 (x : Int) : List Int := [x / 256 % 256, x % 256]
def be4 (x : Int) : List Int := [x / 16777216 % 256, x / 65536 % 256, x / 256 % 256, x % 256]
def atBytes (a : At) : List Int := be2 a.ty ++ (be2 a.val.length ++ (a.val ++ List.replicate (padN a.val.length) 0))
def body : List At → List Int
  | [] => []
  | a :: r => atBytes a ++ body r
def kindOf (c m : Int) : Int := m % 16 + c % 2 * 16 + m / 16 % 8 * 32 + c / 2 * 256 + m / 128 * 512
def msgBytes (m : Msg) : List Int := be2 (kindOf m.cl m.me) ++ (be2 (body m.at_).length ++ (be4 554869826 ++ (m.id ++ body m.at_)))
def szN (m : Msg) : Nat := 20 + bodySize m.at_
/-- It is a message. -/
structure Valid (m : Msg) : Prop where
  c0 : 0 ≤ m.cl
  c3 : m.cl ≤ 3
  m0 : 0 ≤ m.me
  m4 : m.me ≤ 4095
  most : m.at_.length ≤ 16
  vals : ∀ a ∈ m.at_, a.val.length ≤ 512
  size : szN m ≤ 1500
def valid? (m : Msg) : Bool := decide (0 ≤ m.cl) && decide (m.cl ≤ 3) && decide (0 ≤ m.me) && decide (m.me ≤ 4095) && decide (m.at_.length ≤ 16) && m.at_.all (fun a => decide (a.val.length ≤ 512)) && decide (szN m ≤ 1500)
theorem valid_iff (m : Msg) : valid? m = true ↔ Valid m := by
  unfold valid?
  simp only [Bool.and_eq_true, decide_eq_true_eq, List.all_eq_true]
  constructor
  · rintro ⟨⟨⟨⟨⟨⟨h1, h2⟩, h3⟩, h4⟩, h5⟩, h6⟩, h7⟩
    exact ⟨h1, h2, h3, h4, h5, h6, h7⟩
  · rintro ⟨h1, h2, h3, h4, h5, h6, h7⟩
    exact ⟨⟨⟨⟨⟨⟨h1, h2⟩, h3⟩, h4⟩, h5⟩, h6⟩, h7⟩
/-- Its numbers fit their kinds. -/
structure Fine (m : Msg) : Prop where
  id12 : m.id.length = 12
  idb : ∀ i, 0 ≤ m.id.getD i 0 ∧ m.id.getD i 0 < 256
  tys : ∀ a ∈ m.at_, 0 ≤ a.ty ∧ a.ty < 65536
  vals : ∀ a ∈ m.at_, ∀ i, 0 ≤ a.val.getD i 0 ∧ a.val.getD i 0 < 256

theorem padN_lt (n : Nat) : padN n < 4 := by unfold padN; omega
theorem padN_mod (n : Nat) : (n + padN n) % 4 = 0 := by unfold padN; omega
@[simp] theorem be2_length (x : Int) : (be2 x).length = 2 := rfl
@[simp] theorem be4_length (x : Int) : (be4 x).length = 4 := rfl
theorem atBytes_length (a : At) : (atBytes a).length = atSize a := by simp [atBytes, atSize]; omega
theorem body_length (L : List At) : (body L).length = bodySize L := by
  induction L with
  | nil => rfl
  | cons a r ih => simp [body, bodySize, atBytes_length, ih]
theorem body_append (L bs : List At) : body (L ++ bs) = body L ++ body bs := by
  induction L with
  | nil => rfl
  | cons a r ih => simp [body, ih]
theorem bodySize_append (L bs : List At) : bodySize (L ++ bs) = bodySize L + bodySize bs := by
  induction L with
  | nil => simp [bodySize]
  | cons a r ih => simp [bodySize, ih]; omega
theorem msgBytes_length (m : Msg) (h : m.id.length = 12) : (msgBytes m).length = szN m := by
  simp [msgBytes, szN, body_length, h]; omega
theorem atSize_mod (a : At) : atSize a % 4 = 0 := by unfold atSize padN; omega
theorem bodySize_mod (L : List At) : bodySize L % 4 = 0 := by
  induction L with
  | nil => rfl
  | cons a r ih => have := atSize_mod a; simp [bodySize]; omega

/-! In memory -/
/-- The slice v reads L the bytes xs, which lie in blocks below B. -/
def V8 (w : World) (B : Nat) (v : Value) (xs : List Int) : Prop :=
  ∃ A c, v = .slice A xs.length c ∧ xs.length ≤ c ∧ c ≤ maxLen ∧ (A = none → c = 0) ∧ Bs w B A xs.length xs

section
variable {w w' : World} {B : Nat} {v : Value} {xs : List Int}
theorem V8.below (h : V8 w B v xs) (hb : Below B w w') : V8 w' B v xs := by
  obtain ⟨A, c, h1, h2, h3, h4, h5⟩ := h
  exact ⟨A, c, h1, h2, h3, h4, h5.below hb⟩
theorem V8.more {B' : Nat} (h : V8 w B v xs) (hB : B ≤ B') : V8 w B' v xs := by
  obtain ⟨A, c, h1, h2, h3, h4, h5⟩ := h
  exact ⟨A, c, h1, h2, h3, h4, h5.more hB⟩
theorem V8.one (h : V8 w B v xs) : v.oneCell' = true := by
  obtain ⟨A, c, rfl, _⟩ := h
  rfl
theorem V8.in8 (h : V8 w w.heap.size v xs) (hx : ∀ i, 0 ≤ xs.getD i 0 ∧ xs.getD i 0 < 256) : ∃ A c, v = .slice A xs.length c ∧ In8 w A xs.length c xs := by
  obtain ⟨A, c, h1, h2, h3, h4, h5⟩ := h
  exact ⟨A, c, h1, h5, h2, h3, h4, hx⟩
end
theorem Own8.v8 {w : World} {base : Nat} {v : Value} {xs : List Int} (h : Own8 w base v xs) : V8 w w.heap.size v xs := by
  obtain ⟨A, c, h1, h2, h3, h4, h5⟩ := h.form
  exact ⟨A, c, h1, h2, h3, h4, h5⟩
theorem In8.v8 {w : World} {A : Option Addr} {n c : Nat} {xs : List Int} (h : In8 w A n c xs) : V8 w w.heap.size (.slice A n c) xs := by
  have := h.bytes.1
  subst this
  exact ⟨A, c, rfl, h.fits, h.most, h.none, h.bytes⟩

/-- The attributes L lie from A on, in blocks below B. -/
def Ats (w : World) (B : Nat) (A : Option Addr) (L : List At) : Prop :=
  0 < L.length → ∃ ad, A = some ad ∧ ad.block < B ∧ ∀ i, i < L.length → w.cell? (ad.add (i * 2)) = some (.int .u16 (L.getD i default).ty) ∧
    ∃ v, w.cell? ⟨(ad.add (i * 2)).block, (ad.add (i * 2)).off + 1, none⟩ = some v ∧ V8 w B v (L.getD i default).val

section
variable {w w' : World} {B : Nat} {A : Option Addr} {L : List At}
theorem Ats.below (h : Ats w B A L) (hb : Below B w w') : Ats w' B A L := fun hn => by
  obtain ⟨ad, h1, h2, h3⟩ := h hn
  refine ⟨ad, h1, h2, fun i hi => ?_⟩
  obtain ⟨h4, v, h5, h6⟩ := h3 i hi
  exact ⟨(hb.cell (p := ad.add (i * 2)) (by rw [add_block]; exact h2)).trans h4, v, (hb.cell (p := ⟨(ad.add (i * 2)).block, (ad.add (i * 2)).off + 1, none⟩) (by show (ad.add (i * 2)).block < B; rw [add_block]; exact h2)).trans h5, h6.below hb⟩
theorem Ats.more {B' : Nat} (h : Ats w B A L) (hB : B ≤ B') : Ats w B' A L := fun hn => by
  obtain ⟨ad, h1, h2, h3⟩ := h hn
  refine ⟨ad, h1, by omega, fun i hi => ?_⟩
  obtain ⟨h4, v, h5, h6⟩ := h3 i hi
  exact ⟨h4, v, h5, h6.more hB⟩
theorem Ats.nil (w : World) (B : Nat) (A : Option Addr) : Ats w B A [] := fun h => by simp at h
end

/-- A message's cells. -/
def mv (cl me : Int) (id : List Int) (s : Value) : Array Value := (.int .i64 cl :: .int .i64 me :: (id.map (Value.int .u8) ++ [s])).toArray
theorem mv_size {cl me : Int} {id : List Int} {s : Value} (h : id.length = 12) : (mv cl me id s).size = 15 := by simp [mv, h]
theorem mv_0 (cl me : Int) (id : List Int) (s : Value) : (mv cl me id s)[0]? = some (.int .i64 cl) := by simp [mv]
theorem mv_1 (cl me : Int) (id : List Int) (s : Value) : (mv cl me id s)[1]? = some (.int .i64 me) := by simp [mv]
theorem mv_14 (cl me : Int) (id : List Int) (s : Value) (h : id.length = 12) : (mv cl me id s)[14]? = some s := by
  simp [mv, h]
theorem mv_one {cl me : Int} {id : List Int} {s : Value} (h : s.oneCell' = true) : (mv cl me id s).all (·.oneCell') = true := by
  rw [Array.all_eq_true_iff_forall_mem]
  intro v hv
  simp only [mv, List.mem_toArray, List.mem_cons, List.mem_append, List.mem_map, List.not_mem_nil, or_false] at hv
  rcases hv with rfl | rfl | ⟨x, _, rfl⟩ | rfl
  · rfl
  · rfl
  · rfl
  · exact h
theorem mv_set (cl me : Int) (id : List Int) (s s' : Value) (h : id.length = 12) : (mv cl me id s).setIfInBounds 14 s' = mv cl me id s' := by
  simp only [mv, List.setIfInBounds_toArray, List.set_cons_succ]
  rw [List.set_append_right _ _ (by simp [h])]
  simp [h]

/-- The value .agg M is the message m; its attributes lie below B. -/
structure MsgV (w : World) (B : Nat) (M : Array Value) (m : Msg) (A : Option Addr) (c : Nat) : Prop where
  form : M = mv m.cl m.me m.id (.slice A m.at_.length c)
  id12 : m.id.length = 12
  fits : m.at_.length ≤ c
  most : c ≤ maxLen
  nil : A = none → c = 0
  ats : Ats w B A m.at_

section
variable {w w' : World} {B : Nat} {A : Option Addr} {M : Array Value} {m : Msg} {c g : Nat} {t : TypeId}
theorem MsgV.below (h : MsgV w B M m A c) (hb : Below B w w') : MsgV w' B M m A c := ⟨h.form, h.id12, h.fits, h.most, h.nil, h.ats.below hb⟩
theorem MsgV.more {B' : Nat} (h : MsgV w B M m A c) (hB : B ≤ B') : MsgV w B' M m A c := ⟨h.form, h.id12, h.fits, h.most, h.nil, h.ats.more hB⟩
theorem MsgV.size (h : MsgV w B M m A c) : M.size = 15 := by rw [h.form]; exact mv_size h.id12
theorem MsgV.one (h : MsgV w B M m A c) : M.all (·.oneCell') = true := by rw [h.form]; exact mv_one rfl
theorem MsgV.cl (h : MsgV w B M m A c) (hg : Whole w' g t M) : w'.cell? ⟨g, 0, none⟩ = some (.int .i64 m.cl) := by rw [hg.cell, h.form]; exact mv_0 _ _ _ _
theorem MsgV.me (h : MsgV w B M m A c) (hg : Whole w' g t M) : w'.cell? ⟨g, 1, none⟩ = some (.int .i64 m.me) := by rw [hg.cell, h.form]; exact mv_1 _ _ _ _
theorem MsgV.sl (h : MsgV w B M m A c) (hg : Whole w' g t M) : w'.cell? ⟨g, 14, none⟩ = some (.slice A m.at_.length c) := by rw [hg.cell, h.form]; exact mv_14 _ _ _ _ h.id12
theorem mv_id {cl me : Int} {id : List Int} {s : Value} (h : id.length = 12) (hg : Whole w' g t (mv cl me id s)) : w'.rangeAt g 2 (id.map (Value.int .u8)) := fun j v hv => by
  rw [hg.cell]
  have hj : j < 12 := by have := (List.getElem?_eq_some_iff.1 hv).1; simp [h] at this; exact this
  rw [show 2 + j = j + 1 + 1 by omega]
  simp only [mv, List.getElem?_toArray, List.getElem?_cons_succ]
  rw [List.getElem?_append_left (by simp [h]; exact hj)]
  exact hv
theorem MsgV.id (h : MsgV w B M m A c) (hg : Whole w' g t M) : w'.rangeAt g 2 (m.id.map (Value.int .u8)) := by
  rw [h.form] at hg
  exact mv_id h.id12 hg
theorem Whole.rangeA {w : World} {g : Nat} {t : TypeId} {cs : Array Value} (h : Whole w g t cs) : w.rangeAt g 0 cs.toList := fun j v hv => by
  rw [Nat.zero_add, h.cell]
  simpa using hv
end

/-- A struct or an array by value, out of a block that is known whole. -/
theorem wpList_load_all {ops : Array Oper} {rest : List Oper} {o : Oper} {a : Act} {w : World} {Q : Exit → Act → World → Prop} (hgd : o.guard = none) (ty : TypeId) (x : Operand) (ho : o.op = .load ty x) {g : Nat} {t : TypeId} {cs : Array Value} (hg : Whole w g t cs)
    (hx : a.eval x = .pointer (some ⟨g, 0, none⟩)) {n : Nat} (hi : (Try.prog.info? ty).map (·.size) = some n) (hn : cs.size = n) {d : TypeDesc} (hu : Try.prog.underlying ty = some d) (hd : d.isRow = true)
    (h : wpList Try.prog ops Q rest (a.put o.dst (.agg cs)) w) : wpList Try.prog ops Q (o :: rest) a w := by
  have e : cs.toList.toArray = cs := by simp
  refine wpList_load_mid hgd ty x ho g 0 hx cs.toList d hg.rangeA hu hd (by rw [hi, ← hn]; simp) ?_
  rw [e]
  exact h

end Go.Proofs.Ytapbodiakkdfmaa

namespace Go.Proofs.Ytapbodiakkdfmaa
open Go.RowKit
set_option linter.unusedVariables false

theorem nat_mask (x a b : Nat) : x &&& ((2 ^ a - 1) * 2 ^ b) = x / 2 ^ b % 2 ^ a * 2 ^ b := by
  apply Nat.eq_of_testBit_eq
  intro i
  rw [Nat.testBit_and, Nat.testBit_mul_two_pow, Nat.testBit_mul_two_pow, Nat.testBit_two_pow_sub_one, Nat.testBit_mod_two_pow, Nat.testBit_div_two_pow]
  by_cases h : b ≤ i
  · simp only [h, decide_true, Bool.true_and, Nat.sub_add_cancel h]
    rw [Bool.and_comm]
  · simp [h]
theorem nat_or (x y k : Nat) (hy : y < 2 ^ k) : x * 2 ^ k ||| y = x * 2 ^ k + y := by rw [← Nat.shiftLeft_eq, Nat.shiftLeft_add_eq_or_of_lt hy]

theorem ofInt_i64 (a : Nat) (ha : a < 9223372036854775808) : (BitVec.ofInt 64 (a : Int)).toNat = a := by
  rw [BitVec.ofInt_natCast, BitVec.toNat_ofNat]; exact Nat.mod_eq_of_lt (by omega)
theorem i64_and_nat (a b : Nat) (ha : a < 9223372036854775808) (hb : b < 9223372036854775808) : bits .and .i64 (a : Int) (b : Int) = ((a &&& b : Nat) : Int) := by
  have hx : a &&& b < 2 ^ 63 := Nat.and_lt_two_pow _ (by omega)
  show IntKind.i64.wrap ((BitVec.ofInt 64 (a : Int) &&& BitVec.ofInt 64 (b : Int)).toNat : Int) = _
  rw [BitVec.toNat_and, ofInt_i64 a ha, ofInt_i64 b hb, IntKind.wrap_i64]
  omega
theorem i64_or_nat (a b : Nat) (ha : a < 9223372036854775808) (hb : b < 9223372036854775808) : bits .or .i64 (a : Int) (b : Int) = ((a ||| b : Nat) : Int) := by
  have hx : a ||| b < 2 ^ 63 := Nat.or_lt_two_pow (by omega) (by omega)
  show IntKind.i64.wrap ((BitVec.ofInt 64 (a : Int) ||| BitVec.ofInt 64 (b : Int)).toNat : Int) = _
  rw [BitVec.toNat_or, ofInt_i64 a ha, ofInt_i64 b hb, IntKind.wrap_i64]
  omega

/-- A mask, at u16 and at i64. -/
theorem and16 (x : Int) (a b : Nat) (m : Int) (hm : m = (((2 ^ a - 1) * 2 ^ b : Nat) : Int)) (hm2 : (2 ^ a - 1) * 2 ^ b < 65536) (h0 : 0 ≤ x) (h1 : x < 65536) : bits .and .u16 x m = ((x.toNat / 2 ^ b % 2 ^ a * 2 ^ b : Nat) : Int) := by
  obtain ⟨n, rfl⟩ := Int.eq_ofNat_of_zero_le h0
  rw [hm, u16_and_nat n _ (by omega) hm2, nat_mask]
  rfl
theorem and64 (x : Int) (a b : Nat) (m : Int) (hm : m = (((2 ^ a - 1) * 2 ^ b : Nat) : Int)) (hm2 : (2 ^ a - 1) * 2 ^ b < 65536) (h0 : 0 ≤ x) (h1 : x < 9223372036854775808) : bits .and .i64 x m = ((x.toNat / 2 ^ b % 2 ^ a * 2 ^ b : Nat) : Int) := by
  obtain ⟨n, rfl⟩ := Int.eq_ofNat_of_zero_le h0
  rw [hm, i64_and_nat n _ (by omega) (by omega), nat_mask]
  rfl
/-- Bits that do not meet. -/
theorem or16 (x y : Int) (k : Nat) (p : Int) (hp : p = ((2 ^ k : Nat) : Int)) (h0 : 0 ≤ x) (h1 : x < 65536) (hx : x % p = 0) (y0 : 0 ≤ y) (y1 : y < p) (y2 : y < 65536) : bits .or .u16 x y = x + y := by
  obtain ⟨a, rfl⟩ := Int.eq_ofNat_of_zero_le h0
  obtain ⟨b, rfl⟩ := Int.eq_ofNat_of_zero_le y0
  subst hp
  rw [u16_or_nat a b (by omega) (by omega)]
  have e : a = a / 2 ^ k * 2 ^ k := by
    have := Nat.div_add_mod a (2 ^ k)
    rw [Nat.mul_comm] at this
    have h2 : a % 2 ^ k = 0 := by exact_mod_cast hx
    omega
  have := nat_or (a / 2 ^ k) b k (by omega)
  rw [← e] at this
  rw [this]
  rfl
theorem or64 (x y : Int) (k : Nat) (p : Int) (hp : p = ((2 ^ k : Nat) : Int)) (h0 : 0 ≤ x) (h1 : x < 9223372036854775808) (hx : x % p = 0) (y0 : 0 ≤ y) (y1 : y < p) (y2 : y < 9223372036854775808) : bits .or .i64 x y = x + y := by
  obtain ⟨a, rfl⟩ := Int.eq_ofNat_of_zero_le h0
  obtain ⟨b, rfl⟩ := Int.eq_ofNat_of_zero_le y0
  subst hp
  rw [i64_or_nat a b (by omega) (by omega)]
  have e : a = a / 2 ^ k * 2 ^ k := by
    have := Nat.div_add_mod a (2 ^ k)
    rw [Nat.mul_comm] at this
    have h2 : a % 2 ^ k = 0 := by exact_mod_cast hx
    omega
  have := nat_or (a / 2 ^ k) b k (by omega)
  rw [← e] at this
  rw [this]
  rfl
theorem or64' (x y : Int) (k : Nat) (p : Int) (hp : p = ((2 ^ k : Nat) : Int)) (h0 : 0 ≤ x) (h1 : x < 9223372036854775808) (hx : x % p = 0) (y0 : 0 ≤ y) (y1 : y < p) (y2 : y < 9223372036854775808) : bits .or .i64 y x = y + x := by
  rw [show bits .or .i64 y x = bits .or .i64 x y by simp only [bits, BitVec.or_comm], or64 x y k p hp h0 h1 hx y0 y1 y2]
  omega
theorem or16' (x y : Int) (k : Nat) (p : Int) (hp : p = ((2 ^ k : Nat) : Int)) (h0 : 0 ≤ x) (h1 : x < 65536) (hx : x % p = 0) (y0 : 0 ≤ y) (y1 : y < p) (y2 : y < 65536) : bits .or .u16 y x = y + x := by
  rw [show bits .or .u16 y x = bits .or .u16 x y by simp only [bits, BitVec.or_comm], or16 x y k p hp h0 h1 hx y0 y1 y2]
  omega

theorem w64 {x : Int} (h0 : 0 ≤ x) (h1 : x < 9223372036854775808) : wrap64 x = x := by unfold wrap64; omega

theorem kind_bits (c m : Int) (c0 : 0 ≤ c) (c3 : c < 4) (m0 : 0 ≤ m) (m4 : m < 4096) : IntKind.u16.wrap
                        (bits BinOp.or IntKind.i64
                          (bits BinOp.or IntKind.i64 (wrap64 (bits BinOp.and IntKind.i64 c 2 * 128))
                            (wrap64 (bits BinOp.and IntKind.i64 m 3968 * 4)))
                          (bits BinOp.or IntKind.i64
                            (bits BinOp.or IntKind.i64 (bits BinOp.and IntKind.i64 m 15)
                              (wrap64 (bits BinOp.and IntKind.i64 c 1 * 16)))
                            (wrap64 (bits BinOp.and IntKind.i64 m 112 * 2)))) = kindOf c m := by
  have a1 : bits BinOp.and IntKind.i64 c 2 = c / 2 % 2 * 2 := by rw [and64 c 1 1 2 (by decide) (by decide) c0 (by omega)]; omega
  have a2 : bits BinOp.and IntKind.i64 m 3968 = m / 128 % 32 * 128 := by rw [and64 m 5 7 3968 (by decide) (by decide) m0 (by omega)]; omega
  have a3 : bits BinOp.and IntKind.i64 m 15 = m % 16 := by rw [and64 m 4 0 15 (by decide) (by decide) m0 (by omega)]; omega
  have a4 : bits BinOp.and IntKind.i64 c 1 = c % 2 := by rw [and64 c 1 0 1 (by decide) (by decide) c0 (by omega)]; omega
  have a5 : bits BinOp.and IntKind.i64 m 112 = m / 16 % 8 * 16 := by rw [and64 m 3 4 112 (by decide) (by decide) m0 (by omega)]; omega
  rw [a1, a2, a3, a4, a5, w64 (x := c / 2 % 2 * 2 * 128) (by omega) (by omega), w64 (x := m / 128 % 32 * 128 * 4) (by omega) (by omega), w64 (x := c % 2 * 16) (by omega) (by omega), w64 (x := m / 16 % 8 * 16 * 2) (by omega) (by omega)]
  rw [or64' (m / 128 % 32 * 128 * 4) (c / 2 % 2 * 2 * 128) 9 512 (by decide) (by omega) (by omega) (by omega) (by omega) (by omega) (by omega)]
  rw [or64' (c % 2 * 16) (m % 16) 4 16 (by decide) (by omega) (by omega) (by omega) (by omega) (by omega) (by omega)]
  rw [or64' (m / 16 % 8 * 16 * 2) (m % 16 + c % 2 * 16) 5 32 (by decide) (by omega) (by omega) (by omega) (by omega) (by omega) (by omega)]
  rw [or64 (c / 2 % 2 * 2 * 128 + m / 128 % 32 * 128 * 4) (m % 16 + c % 2 * 16 + m / 16 % 8 * 16 * 2) 8 256 (by decide) (by omega) (by omega) (by omega) (by omega) (by omega) (by omega)]
  have e1 : m / 128 % 32 = m / 128 := by omega
  have e2 : c / 2 % 2 = c / 2 := by omega
  have e3 : 0 ≤ m / 128 ∧ m / 128 < 32 := by omega
  rw [IntKind.wrap_u16, e1, e2]
  unfold kindOf
  generalize m / 128 = d at *
  have e4 : 0 ≤ m % 16 ∧ m % 16 < 16 := by omega
  have e5 : 0 ≤ m / 16 % 8 ∧ m / 16 % 8 < 8 := by omega
  clear e1
  generalize m / 16 % 8 = b at *
  generalize m % 16 = a at *
  have hc : c = 0 ∨ c = 1 ∨ c = 2 ∨ c = 3 := by omega
  rcases hc with rfl | rfl | rfl | rfl <;> omega
theorem class_bits (k : Int) (h0 : 0 ≤ k) (h1 : k < 65536) : wrap64 (bits BinOp.or IntKind.u16 (bits BinOp.and IntKind.u16 (k / 16) 1) (bits BinOp.and IntKind.u16 (k / 128) 2)) = k / 16 % 2 + k / 256 % 2 * 2 := by
  have a1 : bits BinOp.and IntKind.u16 (k / 16) 1 = k / 16 % 2 := by rw [and16 (k / 16) 1 0 1 (by decide) (by decide) (by omega) (by omega)]; omega
  have a2 : bits BinOp.and IntKind.u16 (k / 128) 2 = k / 256 % 2 * 2 := by rw [and16 (k / 128) 1 1 2 (by decide) (by decide) (by omega) (by omega)]; omega
  rw [a1, a2, or16' (k / 256 % 2 * 2) (k / 16 % 2) 1 2 (by decide) (by omega) (by omega) (by omega) (by omega) (by omega) (by omega), w64 (by omega) (by omega)]
theorem method_bits (k : Int) (h0 : 0 ≤ k) (h1 : k < 65536) : wrap64 (bits BinOp.or IntKind.u16 (bits BinOp.or IntKind.u16 (bits BinOp.and IntKind.u16 k 15) (bits BinOp.and IntKind.u16 (k / 2) 112)) (bits BinOp.and IntKind.u16 (k / 4) 3968)) = k % 16 + k / 32 % 8 * 16 + k / 512 % 32 * 128 := by
  have a1 : bits BinOp.and IntKind.u16 k 15 = k % 16 := by rw [and16 k 4 0 15 (by decide) (by decide) (by omega) (by omega)]; omega
  have a2 : bits BinOp.and IntKind.u16 (k / 2) 112 = k / 32 % 8 * 16 := by rw [and16 (k / 2) 3 4 112 (by decide) (by decide) (by omega) (by omega)]; omega
  have a3 : bits BinOp.and IntKind.u16 (k / 4) 3968 = k / 512 % 32 * 128 := by rw [and16 (k / 4) 5 7 3968 (by decide) (by decide) (by omega) (by omega)]; omega
  rw [a1, a2, a3, or16' (k / 32 % 8 * 16) (k % 16) 4 16 (by decide) (by omega) (by omega) (by omega) (by omega) (by omega) (by omega), or16' (k / 512 % 32 * 128) (k % 16 + k / 32 % 8 * 16) 7 128 (by decide) (by omega) (by omega) (by omega) (by omega) (by omega) (by omega), w64 (by omega) (by omega)]
theorem pad_bits (n : Nat) : bits BinOp.and IntKind.i64 (-(n : Int)) 3 = (padN n : Int) := by
  have h3 : (BitVec.ofInt 64 3).toNat = 2 ^ 2 - 1 := by decide
  have key : (BitVec.ofInt 64 (-(n : Int)) &&& BitVec.ofInt 64 3).toNat = ((-(n : Int)) % ((2 ^ 64 : Nat) : Int)).toNat % 2 ^ 2 := by
    rw [BitVec.toNat_and, BitVec.toNat_ofInt, h3, Nat.and_two_pow_sub_one_eq_mod]
  show IntKind.i64.wrap ((BitVec.ofInt 64 (-(n : Int)) &&& BitVec.ofInt 64 3).toNat : Nat) = _
  rw [key, IntKind.wrap_i64]
  unfold padN
  omega
/-- What a kind says of class and method. -/
def clOf (k : Int) : Int := k / 16 % 2 + k / 256 % 2 * 2
def meOf (k : Int) : Int := k % 16 + k / 32 % 8 * 16 + k / 512 % 32 * 128
theorem clOf_in (k : Int) : 0 ≤ clOf k ∧ clOf k ≤ 3 := by unfold clOf; omega
theorem meOf_in (k : Int) : 0 ≤ meOf k ∧ meOf k ≤ 4095 := by unfold meOf; omega
theorem kind_back (k : Int) (h0 : 0 ≤ k) (h1 : k < 16384) : kindOf (clOf k) (meOf k) = k := by
  have e : k = k / 512 * 512 + k / 256 % 2 * 256 + k / 32 % 8 * 32 + k / 16 % 2 * 16 + k % 16 := by omega
  have h2 : 0 ≤ k / 512 ∧ k / 512 < 32 := by omega
  have h3 : 0 ≤ k / 256 % 2 ∧ k / 256 % 2 < 2 := by omega
  have h4 : 0 ≤ k / 32 % 8 ∧ k / 32 % 8 < 8 := by omega
  have h5 : 0 ≤ k / 16 % 2 ∧ k / 16 % 2 < 2 := by omega
  have h6 : 0 ≤ k % 16 ∧ k % 16 < 16 := by omega
  unfold kindOf clOf meOf
  rw [show (_ : Int) = k ↔ _ = k / 512 * 512 + k / 256 % 2 * 256 + k / 32 % 8 * 32 + k / 16 % 2 * 16 + k % 16 by rw [← e]]
  clear e
  generalize k / 512 = a at *
  generalize k / 256 % 2 = b at *
  generalize k / 32 % 8 = c at *
  generalize k / 16 % 2 = d at *
  generalize k % 16 = f at *
  omega
theorem clOf_kind (c m : Int) (c0 : 0 ≤ c) (c3 : c ≤ 3) (m0 : 0 ≤ m) (m4 : m ≤ 4095) : clOf (kindOf c m) = c := by
  unfold kindOf clOf
  have h1 : 0 ≤ m % 16 ∧ m % 16 < 16 := by omega
  have h2 : 0 ≤ m / 16 % 8 ∧ m / 16 % 8 < 8 := by omega
  generalize m / 128 = d at *
  generalize m / 16 % 8 = b at *
  generalize m % 16 = a at *
  have hc : c = 0 ∨ c = 1 ∨ c = 2 ∨ c = 3 := by omega
  rcases hc with rfl | rfl | rfl | rfl <;> omega
theorem meOf_kind (c m : Int) (c0 : 0 ≤ c) (c3 : c ≤ 3) (m0 : 0 ≤ m) (m4 : m ≤ 4095) : meOf (kindOf c m) = m := by
  unfold kindOf meOf
  have h1 : 0 ≤ m % 16 ∧ m % 16 < 16 := by omega
  have h2 : 0 ≤ m / 16 % 8 ∧ m / 16 % 8 < 8 := by omega
  have h3 : 0 ≤ m / 128 ∧ m / 128 < 32 := by omega
  have h4 : m = m / 128 * 128 + m / 16 % 8 * 16 + m % 16 := by omega
  rw [show (_ : Int) = m ↔ _ = m / 128 * 128 + m / 16 % 8 * 16 + m % 16 by rw [← h4]]
  clear h4
  generalize m / 128 = d at *
  generalize m / 16 % 8 = b at *
  generalize m % 16 = a at *
  have hc : c = 0 ∨ c = 1 ∨ c = 2 ∨ c = 3 := by omega
  rcases hc with rfl | rfl | rfl | rfl <;> omega
theorem kind_in (c m : Int) (c0 : 0 ≤ c) (c3 : c ≤ 3) (m0 : 0 ≤ m) (m4 : m ≤ 4095) : 0 ≤ kindOf c m ∧ kindOf c m < 16384 := by
  unfold kindOf
  have h3 : 0 ≤ m / 128 ∧ m / 128 < 32 := by omega
  generalize m / 128 = d at *
  generalize m / 16 = b at *
  omega
theorem kind_top : kindOf 3 4095 = 16383 := by decide
end Go.Proofs.Ytapbodiakkdfmaa

namespace Go.Proofs.Ytapbodiakkdfmaa
open Go.RowKit
set_option linter.unusedVariables false

theorem ret_int {k : IntKind} {a b : Int} (h : a = b) : Ending.returned (.int k a) = .returned (.int k b) := by rw [h]

/-- Bytes in a new block. -/
structure New8 (w w' : World) (g : Nat) (xs : List Int) : Prop where
  whole : Whole w' g 5 (arr .u8 xs)
  new : w.heap.size ≤ g
  below : Below w.heap.size w w'
theorem New8.v8 {w w' : World} {g : Nat} {xs : List Int} (h : New8 w w' g xs) (hm : xs.length ≤ maxLen) : V8 w' w'.heap.size (.slice (some ⟨g, 0, none⟩) xs.length xs.length) xs := by
  have h1 := Bs.row h.whole 0 (Nat.zero_le _)
  rw [Nat.sub_zero, List.drop_zero] at h1
  exact ⟨_, _, rfl, Nat.le_refl _, hm, (fun e => by cases e), h1.more h.whole.lt⟩
/-- A row of the call's own has grown: of what was there nothing else has turned. -/
structure Grew (base : Nat) (w w' : World) (v v' : Value) (xs : List Int) : Prop where
  own : Own8 w' base v' xs
  only : Only (fun k => v.ownBlock = some k) w w'
  at_ : ∀ k, v'.ownBlock = some k → v.ownBlock = some k ∨ w.heap.size ≤ k
theorem own8_ne {w : World} {base g : Nat} {v : Value} {xs : List Int} {t : TypeId} {cs : Array Value} (h : Own8 w base v xs) (hg : Whole w g t cs) (ht : 5 ≠ t) : v.ownBlock ≠ some g := by
  intro e
  rcases h.2 with ⟨rfl, _⟩ | ⟨g', cap, cur, rfl, _, h3, _⟩
  · cases e
  · have : g' = g := by simpa [Value.ownBlock] using e
    subst this
    exact Whole.ne (show Whole w g' 5 cur from h3) hg ht rfl
section
variable {base : Nat} {w w' w2 : World} {v v' v2 : Value} {xs xs' xs2 : List Int}
theorem Grew.below (h : Grew base w w' v v' xs') (ho : Own8 w base v xs) (hb : base ≤ w.heap.size) : Below base w w' := h.only.below (fun k hk => (ho.lt hk).1) hb
theorem Grew.keep (h : Grew base w w' v v' xs') (ho : Own8 w base v xs) {g : Nat} {t : TypeId} {cs : Array Value} (hg : Whole w g t cs) (ht : 5 ≠ t) : Whole w' g t cs := hg.only h.only (own8_ne ho hg ht)
theorem Grew.trans (h : Grew base w w' v v' xs') (k : Grew base w' w2 v' v2 xs2) : Grew base w w2 v v2 xs2 :=
  ⟨k.own, h.only.next k.only h.at_, fun j hj => (k.at_ j hj).elim (h.at_ j) (fun e => .inr (Nat.le_trans h.only.size e))⟩
theorem Grew.of {o : Obj} (h1 : Own8 w' base v' xs') (h2 : (w.alloc o).grownBy w' v.ownBlock) (h3 : v'.ownBlock = v.ownBlock ∨ v'.ownBlock = some (w.alloc o).heap.size) : Grew base w w' v v' xs' :=
  ⟨h1, ((Only.refl _ w).alloc o).grown h2 (fun k hk => .inl hk), fun k hk => by
    rcases h3 with e | e
    · rw [e] at hk; exact .inl hk
    · rw [e] at hk; cases hk; exact .inr (by simp)⟩
theorem Grew.of0 (h1 : Own8 w' base v' xs') (h2 : w.grownBy w' v.ownBlock) (h3 : v'.ownBlock = v.ownBlock ∨ v'.ownBlock = some w.heap.size) : Grew base w w' v v' xs' :=
  ⟨h1, (Only.refl _ w).grown h2 (fun k hk => .inl hk), fun k hk => by
    rcases h3 with e | e
    · rw [e] at hk; exact .inl hk
    · rw [e] at hk; cases hk; exact .inr (Nat.le_refl _)⟩
end

set_option maxHeartbeats 800000 in
theorem put16_any (x : Int) (v : Value) (base : Nat) (xs : List Int) (w : World) (h : Own8 w base v xs) (hb : base ≤ w.heap.size) (hl : xs.length ≤ 140737488000000) :
    Calls Try.prog 18 #[v, .int .u16 x] w fun e w' => ∃ v', e = .returned v' ∧ Grew base w w' v v' (xs ++ be2 x) := by
  have HO := Lib.hid (h.alloc (Obj.cells #[.int .u8 (x / 256 % 256), .int .u8 (x % 256)] 5))
  have HB : Hid (Bs (w.alloc (.cells #[.int .u8 (x / 256 % 256), .int .u8 (x % 256)] 5)) (w.heap.size + 1) (some ⟨w.heap.size, 0, none⟩) 2 (be2 x)) := by
    have := Bs.row (t := 5) (ys := be2 x) (Whole.new w 5 (arr .u8 (be2 x))) 0 (Nat.zero_le _)
    exact Lib.hid this
  have hz : base ≤ (w.alloc (.cells #[.int .u8 (x / 256 % 256), .int .u8 (x % 256)] 5)).heap.size := by simp; omega
  clear h
  go_enter Try.func18, Try.ntmps18
  go_wp2_with (at_builtin; go_must (refine wpList_append8 rfl (.tmp 5) (.tmp 11) rfl rfl HO.out rfl HB.out (fun e => by cases e) (by omega) hz ?_))
  intro v1 w1 h1 h2 h3
  go_wp2
  go_ret
  exact ⟨v1, rfl, Grew.of h1 h2 (by rw [World.size_alloc]; exact h3)⟩
set_option maxHeartbeats 800000 in
theorem put32_any (x : Int) (v : Value) (base : Nat) (xs : List Int) (w : World) (h : Own8 w base v xs) (hb : base ≤ w.heap.size) (hl : xs.length ≤ 140737487000000) :
    Calls Try.prog 19 #[v, .int .u32 x] w fun e w' => ∃ v', e = .returned v' ∧ Grew base w w' v v' (xs ++ be4 x) := by
  have HP : Hid (∀ y V ys W, Own8 W base V ys → base ≤ W.heap.size → ys.length ≤ 140737488000000 → Calls Try.prog 18 #[V, .int .u16 y] W fun e w' => ∃ v', e = .returned v' ∧ Grew base W w' V v' (ys ++ be2 y)) := Lib.hid fun y V ys W h1 h2 h3 => put16_any y V base ys W h1 h2 h3
  have HO := Lib.hid h
  clear h
  go_enter Try.func19, Try.ntmps19
  go_wp2_with (go_at_call 18; (with_reducible refine (HP.out _ _ _ _ HO.out hb (by omega)).mono ?_); rintro e w1 ⟨v1, rfl, h1⟩)
  have hb1 : base ≤ w1.heap.size := Nat.le_trans hb h1.only.size
  go_wp2_with (go_at_call 18; (with_reducible refine (HP.out _ _ _ _ h1.own hb1 (by simp; omega)).mono ?_); rintro e w2 ⟨v2, rfl, h2⟩)
  go_ret
  have h := h1.trans h2
  refine ⟨v2, rfl, ?_⟩
  rw [List.append_assoc] at h
  have e4 : be2 (x / 65536 % 65536) ++ be2 (x % 65536) = be4 x := by
    unfold be2 be4
    rw [show x / 65536 % 65536 / 256 % 256 = x / 16777216 % 256 by omega, show x / 65536 % 65536 % 256 = x / 65536 % 256 by omega, show x % 65536 / 256 % 256 = x / 256 % 256 by omega, show x % 65536 % 256 = x % 256 by omega]
    rfl
  rw [← e4]
  exact h
end Go.Proofs.Ytapbodiakkdfmaa

namespace Go.Proofs.Ytapbodiakkdfmaa
open Go.RowKit
set_option linter.unusedVariables false

theorem Ats.at_ {w : World} {B : Nat} {A : Option Addr} {L : List At} (h : Ats w B A L) {i : Nat} (hi : i < L.length) : ∃ ad A' c', A = some ad ∧ ad.block < B ∧ w.cell? (ad.add (i * 2)) = some (.int .u16 (L.getD i default).ty) ∧
    w.cell? ⟨(ad.add (i * 2)).block, (ad.add (i * 2)).off + 1, none⟩ = some (.slice A' (L.getD i default).val.length c') ∧ (L.getD i default).val.length ≤ c' ∧ c' ≤ maxLen ∧ (A' = none → c' = 0) ∧ Bs w B A' (L.getD i default).val.length (L.getD i default).val := by
  obtain ⟨ad, h1, h2, h3⟩ := h (by omega)
  obtain ⟨h4, v, h5, A', c', rfl, h6, h7, h8, h9⟩ := h3 i hi
  exact ⟨ad, A', c', h1, h2, h4, h5, h6, h7, h8, h9⟩
theorem bodySize_take (L : List At) (k : Nat) (hk : k < L.length) : bodySize (L.take (k + 1)) = bodySize (L.take k) + atSize (L.getD k default) := by
  rw [List.take_succ_eq_append_getElem hk, bodySize_append]
  simp [bodySize, List.getD, hk]
theorem getD_mem {L : List At} {k : Nat} (hk : k < L.length) : L.getD k default ∈ L := by
  simp [List.getD, hk]
theorem bodySize_le (L : List At) (hv : ∀ a ∈ L, a.val.length ≤ 512) : bodySize L ≤ 520 * L.length := by
  induction L with
  | nil => simp [bodySize]
  | cons a r ih =>
    have h1 := ih (fun x hx => hv x (List.mem_cons_of_mem _ hx))
    have h2 := hv a List.mem_cons_self
    have h3 := padN_lt a.val.length
    simp [bodySize, atSize]
    omega

end Go.Proofs.Ytapbodiakkdfmaa

namespace Go.Proofs.Ytapbodiakkdfmaa
open Go.RowKit
set_option linter.unusedVariables false

theorem valid_cl {m : Msg} (h : m.cl < 0 ∨ m.cl > 3 ∨ m.me < 0 ∨ m.me > 4095 ∨ 16 < m.at_.length) : valid? m = false := by
  cases hv : valid? m with
  | false => rfl
  | true =>
    have := (valid_iff m).1 hv
    have h1 := this.c0
    have h2 := this.c3
    have h3 := this.m0
    have h4 := this.m4
    have h5 := this.most
    omega
theorem valid_big {m : Msg} {k : Nat} (hk : k < m.at_.length) (h : 512 < (m.at_.getD k default).val.length) : valid? m = false := by
  cases hv : valid? m with
  | false => rfl
  | true =>
    have := ((valid_iff m).1 hv).vals _ (getD_mem hk)
    omega
theorem valid_size {m : Msg} (c0 : 0 ≤ m.cl) (c3 : m.cl ≤ 3) (m0 : 0 ≤ m.me) (m4 : m.me ≤ 4095) (hl : m.at_.length ≤ 16) (hv : ∀ a ∈ m.at_, a.val.length ≤ 512) : valid? m = decide (szN m ≤ 1500) := by
  cases h : valid? m with
  | true => exact (decide_eq_true ((valid_iff m).1 h).size).symm
  | false =>
    refine (decide_eq_false fun hs => ?_).symm
    have := (valid_iff m).2 ⟨c0, c3, m0, m4, hl, hv, hs⟩
    rw [h] at this
    cases this
theorem ret_bool {a b : Bool} (h : a = b) : Ending.returned (.bool a) = .returned (.bool b) := by rw [h]
theorem all_of_get {L : List At} {P : At → Prop} (h : ∀ k, k < L.length → P (L.getD k default)) : ∀ a ∈ L, P a := by
  intro a ha
  obtain ⟨i, hi, e⟩ := List.getElem_of_mem ha
  have := h i hi
  simp [List.getD, hi] at this
  rw [e] at this
  exact this

end Go.Proofs.Ytapbodiakkdfmaa

namespace Go.Proofs.Ytapbodiakkdfmaa
open Go.RowKit
set_option linter.unusedVariables false

theorem zeroCells8 (k : Nat) : Builtin.zeroCells (Value.int .u8 0).cells k = (u8s (List.replicate k 0)).toArray := by
  apply Array.ext
  · simp [size_zeroCells, Value.cells]
  · intro i h1 h2
    simp [Builtin.zeroCells, Value.cells, u8s, Nat.mod_one]

theorem run_append_zeros8 {w : World} (ty : TypeId) {base : Nat} {v : Value} {xs : List Int} (hown : Own8 w base v xs) (hv : v ≠ .slice none 0 0) (k : Nat) (h63 : xs.length + k ≤ 140737488355328) (hbase : base ≤ w.heap.size) :
    ∃ v' w', (Builtin.append_ #[22, 3] ty #[v, .int .i64 k]).run Try.prog w = .ok v' w' ∧ Own8 w' base v' (xs ++ List.replicate k 0) ∧ w.grownBy w' v.ownBlock ∧ (v'.ownBlock = v.ownBlock ∨ v'.ownBlock = some w.heap.size) := by
  obtain ⟨i0, hi, hz0, hz1, hz2⟩ := info_parts Try.infoU8
  rcases hown.2 with ⟨rfl, _⟩ | ⟨g, cap, cur, rfl, hbg, hg, hnc, hcm, hcs, htake⟩
  · exact absurd rfl hv
  have hw : IntKind.i64.wrap (k : Int) = k := by rw [IntKind.wrap_i64]; omega
  have hneg : ¬ ((k : Int) < 0) := by omega
  have h48i : ¬ (281474976710656 < (k : Int) * (i0.bytes : Int)) := by rw [hz2]; omega
  rw [Nat.mul_one] at hcs htake
  have hul : (u8s (List.replicate k 0)).length = k := by simp
  by_cases hk : k = 0
  · subst hk
    have hr : (Builtin.append_ #[22, 3] ty #[.slice (some ⟨g, 0, none⟩) xs.length cap, .int .i64 ((0 : Nat) : Int)]).run Try.prog w = .ok (.slice (some ⟨g, 0, none⟩) xs.length cap) w := by
      have hz : IntKind.i64.wrap 0 = 0 := by decide
      simp [Builtin.append_, run_underlying Try.underlying22, run_underlying Try.underlying3, sizeOf, typeInfo, hi, asInt, asIntOf, hz, hnc, storeCells]
    exact ⟨_, w, hr, by simpa using hown, ⟨rfl, rfl, rfl, Nat.le_refl _, fun _ _ _ => rfl⟩, .inl rfl⟩
  by_cases hroom : xs.length + k ≤ cap
  · have h1 : ∀ u ∈ u8s (List.replicate k 0), u.oneCell' = true := by
      intro u hu
      obtain ⟨x, _, rfl⟩ := List.mem_map.1 hu
      rfl
    have hst := run_storeCells_at Try.prog g xs.length 5 (u8s (List.replicate k 0)) 0 cur w hg (by rw [hul]; omega) h1
    simp only [Nat.add_zero] at hst
    have hst' : (storeCells ⟨g, xs.length, none⟩ (u8s (List.replicate k 0))).run Try.prog w = .ok () (w.setRow g (cur.toList.take xs.length ++ u8s (List.replicate k 0) ++ cur.toList.drop (xs.length + k)).toArray) := by
      rw [hul] at hst
      exact hst
    refine ⟨.slice (some ⟨g, 0, none⟩) (xs.length + k) cap, w.setRow g (cur.toList.take xs.length ++ u8s (List.replicate k 0) ++ cur.toList.drop (xs.length + k)).toArray, ?_, ⟨by simp [u8s], .inr ⟨g, cap, _, by simp, hbg, setRow_heap w g cur _ 5 _ hg, by simpa using hroom, hcm, ?_, ?_⟩⟩, ⟨rfl, rfl, rfl, by simp, fun j _ hj => setRow_other w g j _ (fun e => hj (by simp [Value.ownBlock, e]))⟩, .inl rfl⟩
    · simp [Builtin.append_, run_underlying Try.underlying22, run_underlying Try.underlying3, sizeOf, typeInfo, zeroValue, hi, hz0, asInt, asIntOf, hw, hneg, h48i, hroom, Addr.add_lit, hz1, hk, zeroCells8, hst']
    · simp [hul]; omega
    · rw [htake]
      have e : (u8s xs ++ u8s (List.replicate k 0)).length = (xs ++ List.replicate k 0).length * 1 := by simp
      rw [← e, List.take_left, u8s_append]
  · have holds : ∀ j u, (u8s xs)[j]? = some u → w.cell? ((⟨g, 0, none⟩ : Addr).add j) = some u := World.ownsRow.cells (g := g) hown rfl
    have hold : (Builtin.firstCells i0.size xs.length (.slice (some ⟨g, 0, none⟩) xs.length cap)).run Try.prog w.drew = .ok (u8s xs).toArray w.drew :=
      run_firstCells_some (P := Try.prog) w.drew i0.size xs.length ⟨g, 0, none⟩ xs.length cap (u8s xs) (by rw [hz1]; simp) holds
    have hr := Lib.run_append_grow_zeros (P := Try.prog) w 22 3 ty 5 i0 (.int .u8 0) .i64 .i64 Try.underlying22 Try.underlying3 hi hz0 (some ⟨g, 0, none⟩) xs.length cap (u8s xs) hold k (by omega) (by omega) (by omega) (by omega) (by rw [hz2]; omega) (growslice_fits (by omega) (by rw [hz2]; omega))
    have hge := grownCap_ge w (xs.length + k) cap 5
    have hcm2 : grownCap w (xs.length + k) cap 5 ≤ maxLen := grownCap_le_maxLen w (xs.length + k) cap 5 (by unfold maxLen; omega)
    rw [zeroCells8] at hr
    refine ⟨_, _, hr, ⟨by simp [u8s], .inr ⟨w.heap.size, _, _, by simp, hbase, heap_alloc_new w.drew _, by simpa using hge, hcm2, ?_, ?_⟩⟩, ⟨rfl, rfl, rfl, by simp, fun j hj _ => Below.heap_alloc w.drew _ j hj⟩, .inr rfl⟩
    · simp [size_zeroCells, Value.cells]
      omega
    · simp only [Array.toList_append, List.append_assoc]
      have e : (u8s xs ++ u8s (List.replicate k 0)).length = (xs ++ List.replicate k 0).length * 1 := by simp
      rw [← List.append_assoc, ← e, List.take_left, u8s_append]

theorem wpList_append_zeros8 {w : World} {ops : Array Oper} {rest : List Oper} {o : Oper} {a : Act} {Q : Exit → Act → World → Prop} (hgd : o.guard = none) (s x : Operand)
    (ho : o.op = .call { callee := .builtin .append, args := #[s, x], argTypes := #[22, 3] }) {base : Nat} {v : Value} {xs : List Int} (hs : a.eval s = v) (hown : Own8 w base v xs) (hv : v ≠ .slice none 0 0) {k : Nat} (hx : a.eval x = .int .i64 k)
    (h63 : xs.length + k ≤ 140737488355328) (hbase : base ≤ w.heap.size)
    (h : ∀ v' w', Own8 w' base v' (xs ++ List.replicate k 0) → w.grownBy w' v.ownBlock → (v'.ownBlock = v.ownBlock ∨ v'.ownBlock = some w.heap.size) → wpList Try.prog ops Q rest (a.put o.dst v') w') : wpList Try.prog ops Q (o :: rest) a w := by
  obtain ⟨v', w', hrun, h2, h3, h4⟩ := run_append_zeros8 o.type hown hv k h63 hbase
  refine wpList_plain hgd fun K hK => ?_
  unfold Oper.wp execOp
  simp only [ho, resolve, invoke, builtin, Sem.run_bind, Sem.run_pure, Result.andThen_ok, List.map_toArray, List.map_cons, List.map_nil, hs, hx, hrun]
  exact hK _ _ (h v' w' h2 h3 h4)
end Go.Proofs.Ytapbodiakkdfmaa
