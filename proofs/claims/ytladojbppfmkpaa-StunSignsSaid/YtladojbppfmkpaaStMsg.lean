/- A STUN message: its bytes, and how it lies in memory. -/
import Derived.Test.YtladojbppfmkpaaBytes
import Derived.Deep.MidRow
import Derived.Deep.RegionHeld3
namespace Go.Proofs.Ytladojbppfmkpaa
open Go.RowKit
set_option linter.unusedVariables false

structure At where
  ty : Int
  val : List Int
instance : Inhabited At := ⟨⟨0, []⟩⟩

structure Msg where
  cl : Int
  me : Int
  id : List Int
  at_ : List At

def padN (n : Nat) : Nat := (4 - n % 4) % 4
def atSize (a : At) : Nat := 4 + a.val.length + padN a.val.length
def bodySize : List At → Nat
  | [] => 0
  | a :: r => atSize a + bodySize r
def be2 (x : Int) : List Int := [x / 256 % 256, x % 256]
def be4 (x : Int) : List Int := [x / 16777216 % 256, x / 65536 % 256, x / 256 % 256, x % 256]
def atBytes (a : At) : List Int := be2 a.ty ++ (be2 a.val.length ++ (a.val ++ List.replicate (padN a.val.length) 0))
def body : List At → List Int
  | [] => []
  | a :: r => atBytes a ++ body r
def kindOf (c m : Int) : Int := m % 16 + c % 2 * 16 + m / 16 % 8 * 32 + c / 2 * 256 + m / 128 * 512
def msgBytes (m : Msg) : List Int := be2 (kindOf m.cl m.me) ++ (be2 (body m.at_).length ++ (be4 554869826 ++ (m.id ++ body m.at_)))
def szN (m : Msg) : Nat := 20 + bodySize m.at_
/-- It is a message. -/
structure Valid (m : Msg) : Prop where
  c0 : 0 ≤ m.cl
  c3 : m.cl ≤ 3
  m0 : 0 ≤ m.me
  m4 : m.me ≤ 4095
  most : m.at_.length ≤ 16
  vals : ∀ a ∈ m.at_, a.val.length ≤ 512
  size : szN m ≤ 1500
def valid? (m : Msg) : Bool := decide (0 ≤ m.cl) && decide (m.cl ≤ 3) && decide (0 ≤ m.me) && decide (m.me ≤ 4095) && decide (m.at_.length ≤ 16) && m.at_.all (fun a => decide (a.val.length ≤ 512)) && decide (szN m ≤ 1500)
theorem valid_iff (m : Msg) : valid? m = true ↔ Valid m := by
  unfold valid?
  simp only [Bool.and_eq_true, decide_eq_true_eq, List.all_eq_true]
  constructor
  · rintro ⟨⟨⟨⟨⟨⟨h1, h2⟩, h3⟩, h4⟩, h5⟩, h6⟩, h7⟩
    exact ⟨h1, h2, h3, h4, h5, h6, h7⟩
  · rintro ⟨h1, h2, h3, h4, h5, h6, h7⟩
    exact ⟨⟨⟨⟨⟨⟨h1, h2⟩, h3⟩, h4⟩, h5⟩, h6⟩, h7⟩
/-- Its numbers fit their kinds. -/
structure Fine (m : Msg) : Prop where
  id12 : m.id.length = 12
  idb : ∀ i, 0 ≤ m.id.getD i 0 ∧ m.id.getD i 0 < 256
  tys : ∀ a ∈ m.at_, 0 ≤ a.ty ∧ a.ty < 65536
  vals : ∀ a ∈ m.at_, ∀ i, 0 ≤ a.val.getD i 0 ∧ a.val.getD i 0 < 256

theorem padN_lt (n : Nat) : padN n < 4 := by unfold padN; omega
theorem padN_mod (n : Nat) : (n + padN n) % 4 = 0 := by unfold padN; omega
@[simp] theorem be2_length (x : Int) : (be2 x).length = 2 := rfl
@[simp] theorem be4_length (x : Int) : (be4 x).length = 4 := rfl
theorem atBytes_length (a : At) : (atBytes a).length = atSize a := by simp [atBytes, atSize]; omega
theorem body_length (L : List At) : (body L).length = bodySize L := by
  induction L with
  | nil => rfl
  | cons a r ih => simp [body, bodySize, atBytes_length, ih]
theorem body_append (L bs : List At) : body (L ++ bs) = body L ++ body bs := by
  induction L with
  | nil => rfl
  | cons a r ih => simp [body, ih]
theorem bodySize_append (L bs : List At) : bodySize (L ++ bs) = bodySize L + bodySize bs := by
  induction L with
  | nil => simp [bodySize]
  | cons a r ih => simp [bodySize, ih]; omega
theorem msgBytes_length (m : Msg) (h : m.id.length = 12) : (msgBytes m).length = szN m := by
  simp [msgBytes, szN, body_length, h]; omega
theorem atSize_mod (a : At) : atSize a % 4 = 0 := by unfold atSize padN; omega
theorem bodySize_mod (L : List At) : bodySize L % 4 = 0 := by
  induction L with
  | nil => rfl
  | cons a r ih => have := atSize_mod a; simp [bodySize]; omega

/-! In memory -/
/-- The slice v reads L the bytes xs, which lie in blocks below B. -/
def V8 (w : World) (B : Nat) (v : Value) (xs : List Int) : Prop :=
  ∃ A c, v = .slice A xs.length c ∧ xs.length ≤ c ∧ c ≤ maxLen ∧ (A = none → c = 0) ∧ Bs w B A xs.length xs

section
variable {w w' : World} {B : Nat} {v : Value} {xs : List Int}
theorem V8.below (h : V8 w B v xs) (hb : Below B w w') : V8 w' B v xs := by
  obtain ⟨A, c, h1, h2, h3, h4, h5⟩ := h
  exact ⟨A, c, h1, h2, h3, h4, h5.below hb⟩
theorem V8.more {B' : Nat} (h : V8 w B v xs) (hB : B ≤ B') : V8 w B' v xs := by
  obtain ⟨A, c, h1, h2, h3, h4, h5⟩ := h
  exact ⟨A, c, h1, h2, h3, h4, h5.more hB⟩
theorem V8.one (h : V8 w B v xs) : v.oneCell' = true := by
  obtain ⟨A, c, rfl, _⟩ := h
  rfl
theorem V8.in8 (h : V8 w w.heap.size v xs) (hx : ∀ i, 0 ≤ xs.getD i 0 ∧ xs.getD i 0 < 256) : ∃ A c, v = .slice A xs.length c ∧ In8 w A xs.length c xs := by
  obtain ⟨A, c, h1, h2, h3, h4, h5⟩ := h
  exact ⟨A, c, h1, h5, h2, h3, h4, hx⟩
end
theorem Own8.v8 {w : World} {base : Nat} {v : Value} {xs : List Int} (h : Own8 w base v xs) : V8 w w.heap.size v xs := by
  obtain ⟨A, c, h1, h2, h3, h4, h5⟩ := h.form
  exact ⟨A, c, h1, h2, h3, h4, h5⟩
theorem In8.v8 {w : World} {A : Option Addr} {n c : Nat} {xs : List Int} (h : In8 w A n c xs) : V8 w w.heap.size (.slice A n c) xs := by
  have := h.bytes.1
  subst this
  exact ⟨A, c, rfl, h.fits, h.most, h.none, h.bytes⟩

/-- The attributes L lie from A on, in blocks below B. -/
def Ats (w : World) (B : Nat) (A : Option Addr) (L : List At) : Prop :=
  0 < L.length → ∃ ad, A = some ad ∧ ad.block < B ∧ ∀ i, i < L.length → w.cell? (ad.add (i * 2)) = some (.int .u16 (L.getD i default).ty) ∧
    ∃ v, w.cell? ⟨(ad.add (i * 2)).block, (ad.add (i * 2)).off + 1, none⟩ = some v ∧ V8 w B v (L.getD i default).val

section
variable {w w' : World} {B : Nat} {A : Option Addr} {L : List At}
theorem Ats.below (h : Ats w B A L) (hb : Below B w w') : Ats w' B A L := fun hn => by
  obtain ⟨ad, h1, h2, h3⟩ := h hn
  refine ⟨ad, h1, h2, fun i hi => ?_⟩
  obtain ⟨h4, v, h5, h6⟩ := h3 i hi
  exact ⟨(hb.cell (p := ad.add (i * 2)) (by rw [add_block]; exact h2)).trans h4, v, (hb.cell (p := ⟨(ad.add (i * 2)).block, (ad.add (i * 2)).off + 1, none⟩) (by show (ad.add (i * 2)).block < B; rw [add_block]; exact h2)).trans h5, h6.below hb⟩
theorem Ats.more {B' : Nat} (h : Ats w B A L) (hB : B ≤ B') : Ats w B' A L := fun hn => by
  obtain ⟨ad, h1, h2, h3⟩ := h hn
  refine ⟨ad, h1, by omega, fun i hi => ?_⟩
  obtain ⟨h4, v, h5, h6⟩ := h3 i hi
  exact ⟨h4, v, h5, h6.more hB⟩
theorem Ats.nil (w : World) (B : Nat) (A : Option Addr) : Ats w B A [] := fun h => by simp at h
end

/-- A message's cells. -/
def mv (cl me : Int) (id : List Int) (s : Value) : Array Value := (.int .i64 cl :: .int .i64 me :: (id.map (Value.int .u8) ++ [s])).toArray
theorem mv_size {cl me : Int} {id : List Int} {s : Value} (h : id.length = 12) : (mv cl me id s).size = 15 := by simp [mv, h]
theorem mv_0 (cl me : Int) (id : List Int) (s : Value) : (mv cl me id s)[0]? = some (.int .i64 cl) := by simp [mv]
theorem mv_1 (cl me : Int) (id : List Int) (s : Value) : (mv cl me id s)[1]? = some (.int .i64 me) := by simp [mv]
theorem mv_14 (cl me : Int) (id : List Int) (s : Value) (h : id.length = 12) : (mv cl me id s)[14]? = some s := by
  simp [mv, h]
theorem mv_one {cl me : Int} {id : List Int} {s : Value} (h : s.oneCell' = true) : (mv cl me id s).all (·.oneCell') = true := by
  rw [Array.all_eq_true_iff_forall_mem]
  intro v hv
  simp only [mv, List.mem_toArray, List.mem_cons, List.mem_append, List.mem_map, List.not_mem_nil, or_false] at hv
  rcases hv with rfl | rfl | ⟨x, _, rfl⟩ | rfl
  · rfl
  · rfl
  · rfl
  · exact h
theorem mv_set (cl me : Int) (id : List Int) (s s' : Value) (h : id.length = 12) : (mv cl me id s).setIfInBounds 14 s' = mv cl me id s' := by
  simp only [mv, List.setIfInBounds_toArray, List.set_cons_succ]
  rw [List.set_append_right _ _ (by simp [h])]
  simp [h]

/-- The value .agg M is the message m; its attributes lie below B. -/
structure MsgV (w : World) (B : Nat) (M : Array Value) (m : Msg) (A : Option Addr) (c : Nat) : Prop where
  form : M = mv m.cl m.me m.id (.slice A m.at_.length c)
  id12 : m.id.length = 12
  fits : m.at_.length ≤ c
  most : c ≤ maxLen
  nil : A = none → c = 0
  ats : Ats w B A m.at_

section
variable {w w' : World} {B : Nat} {A : Option Addr} {M : Array Value} {m : Msg} {c g : Nat} {t : TypeId}
theorem MsgV.below (h : MsgV w B M m A c) (hb : Below B w w') : MsgV w' B M m A c := ⟨h.form, h.id12, h.fits, h.most, h.nil, h.ats.below hb⟩
theorem MsgV.more {B' : Nat} (h : MsgV w B M m A c) (hB : B ≤ B') : MsgV w B' M m A c := ⟨h.form, h.id12, h.fits, h.most, h.nil, h.ats.more hB⟩
theorem MsgV.size (h : MsgV w B M m A c) : M.size = 15 := by rw [h.form]; exact mv_size h.id12
theorem MsgV.one (h : MsgV w B M m A c) : M.all (·.oneCell') = true := by rw [h.form]; exact mv_one rfl
theorem MsgV.cl (h : MsgV w B M m A c) (hg : Whole w' g t M) : w'.cell? ⟨g, 0, none⟩ = some (.int .i64 m.cl) := by rw [hg.cell, h.form]; exact mv_0 _ _ _ _
theorem MsgV.me (h : MsgV w B M m A c) (hg : Whole w' g t M) : w'.cell? ⟨g, 1, none⟩ = some (.int .i64 m.me) := by rw [hg.cell, h.form]; exact mv_1 _ _ _ _
theorem MsgV.sl (h : MsgV w B M m A c) (hg : Whole w' g t M) : w'.cell? ⟨g, 14, none⟩ = some (.slice A m.at_.length c) := by rw [hg.cell, h.form]; exact mv_14 _ _ _ _ h.id12
theorem mv_id {cl me : Int} {id : List Int} {s : Value} (h : id.length = 12) (hg : Whole w' g t (mv cl me id s)) : w'.rangeAt g 2 (id.map (Value.int .u8)) := fun j v hv => by
  rw [hg.cell]
  have hj : j < 12 := by have := (List.getElem?_eq_some_iff.1 hv).1; simp [h] at this; exact this
  rw [show 2 + j = j + 1 + 1 by omega]
  simp only [mv, List.getElem?_toArray, List.getElem?_cons_succ]
  rw [List.getElem?_append_left (by simp [h]; exact hj)]
  exact hv
theorem MsgV.id (h : MsgV w B M m A c) (hg : Whole w' g t M) : w'.rangeAt g 2 (m.id.map (Value.int .u8)) := by
  rw [h.form] at hg
  exact mv_id h.id12 hg
theorem Whole.rangeA {w : World} {g : Nat} {t : TypeId} {cs : Array Value} (h : Whole w g t cs) : w.rangeAt g 0 cs.toList := fun j v hv => by
  rw [Nat.zero_add, h.cell]
  simpa using hv
end

/-- A struct or an array by value, out of a block that is known whole. -/
theorem wpList_load_all {ops : Array Oper} {rest : List Oper} {o : Oper} {a : Act} {w : World} {Q : Exit → Act → World → Prop} (hgd : o.guard = none) (ty : TypeId) (x : Operand) (ho : o.op = .load ty x) {g : Nat} {t : TypeId} {cs : Array Value} (hg : Whole w g t cs)
    (hx : a.eval x = .pointer (some ⟨g, 0, none⟩)) {n : Nat} (hi : (Try.prog.info? ty).map (·.size) = some n) (hn : cs.size = n) {d : TypeDesc} (hu : Try.prog.underlying ty = some d) (hd : d.isRow = true)
    (h : wpList Try.prog ops Q rest (a.put o.dst (.agg cs)) w) : wpList Try.prog ops Q (o :: rest) a w := by
  have e : cs.toList.toArray = cs := by simp
  refine wpList_load_mid hgd ty x ho g 0 hx cs.toList d hg.rangeA hu hd (by rw [hi, ← hn]; simp) ?_
  rw [e]
  exact h

theorem Try.sizeMsg : (Try.prog.info? 34).map (·.size) = some 15 := by kernel_rfl
theorem Try.sizeRMsg : (Try.prog.info? 25).map (·.size) = some 15 := by kernel_rfl
theorem Try.sizeAttr : (Try.prog.info? 71).map (·.size) = some 2 := by kernel_rfl
theorem Try.sizeRAttr : (Try.prog.info? 65).map (·.size) = some 2 := by kernel_rfl
theorem Try.sizeA12 : (Try.prog.info? 22).map (·.size) = some 12 := by kernel_rfl

end Go.Proofs.Ytladojbppfmkpaa
