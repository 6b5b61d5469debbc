/- Plain facts on the document's SHA-1: its words and bytes are those of the program's. -/
import Derived.Test.YtloekfphkepafaaRSumA
namespace Go.Proofs.Ytloekfphkepafaa
open Go.RowKit
set_option linter.unusedVariables false

theorem or_add (x b k : Nat) (hb : b < 2 ^ k) : x * 2 ^ k ||| b = x * 2 ^ k + b := by
  have h := Nat.shiftLeft_add_eq_or_of_lt hb x
  rw [Nat.shiftLeft_eq] at h
  exact h.symm
theorem or32 (x b k : Nat) (hb : b < 2 ^ k) (hx : x * 2 ^ k + b < 4294967296) : bits .or .u32 ((x * 2 ^ k : Nat) : Int) (b : Int) = ((x * 2 ^ k + b : Nat) : Int) := by
  rw [u32_or_nat _ _ (by omega) (by omega), or_add x b k hb]
theorem or8 (x b : Nat) (hb : b < 256) (hx : x < 16777216) : bits .or .u32 ((x : Int) * 256 % 4294967296) (b : Int) = ((x * 256 + b : Nat) : Int) := by
  have e : ((x : Int) * 256 % 4294967296) = ((x * 2 ^ 8 : Nat) : Int) := by
    show _ = ((x * 256 : Nat) : Int)
    omega
  rw [e, or32 x b 8 hb (by show x * 256 + b < _; omega)]
theorem p24 : (2 : Nat) ^ 24 = 16777216 := by decide
theorem p16 : (2 : Nat) ^ 16 = 65536 := by decide
theorem p8 : (2 : Nat) ^ 8 = 256 := by decide
theorem num24 (a b : Nat) : a * 2 ^ 24 + b * 65536 = (a * 256 + b) * 256 * 2 ^ 8 := by
  rw [p24, p8]
  omega
theorem num16 (x c : Nat) : x * 2 ^ 16 + c * 256 = (x * 256 + c) * 2 ^ 8 := by
  rw [p16, p8]
  omega
theorem wd_nat (a b c d : Nat) (ha : a < 256) (hb : b < 256) (hc : c < 256) (hd : d < 256) : wd a b c d = ((((a * 256 + b) * 256 + c) * 256 + d : Nat) : Int) := by
  unfold wd
  have e1 : ((a : Int) * 16777216 % 4294967296) = ((a * 256 * 2 ^ 16 : Nat) : Int) := by
    show _ = ((a * 256 * 65536 : Nat) : Int)
    omega
  have e2 : ((b : Int) * 65536 % 4294967296) = ((b * 65536 : Nat) : Int) := by omega
  have e3 : ((c : Int) * 256 % 4294967296) = ((c * 256 : Nat) : Int) := by omega
  have h1 : bits .or .u32 ((a * 256 * 2 ^ 16 : Nat) : Int) ((b * 65536 : Nat) : Int) = (((a * 256 + b) * 256 * 2 ^ 8 : Nat) : Int) := by
    have q : a * 256 * 2 ^ 16 = a * 2 ^ 24 := by show a * 256 * 65536 = a * 16777216; omega
    rw [q, or32 a (b * 65536) 24 (by show b * 65536 < 16777216; omega) (by show a * 16777216 + b * 65536 < _; omega)]
    rw [num24 a b]
  have h2 : bits .or .u32 (((a * 256 + b) * 256 * 2 ^ 8 : Nat) : Int) ((c * 256 : Nat) : Int) = ((((a * 256 + b) * 256 + c) * 2 ^ 8 : Nat) : Int) := by
    have q : (a * 256 + b) * 256 * 2 ^ 8 = (a * 256 + b) * 2 ^ 16 := by show (a * 256 + b) * 256 * 256 = (a * 256 + b) * 65536; omega
    rw [q, or32 (a * 256 + b) (c * 256) 16 (by show c * 256 < 65536; omega) (by show (a * 256 + b) * 65536 + c * 256 < _; omega)]
    rw [num16 (a * 256 + b) c]
  rw [e1, e2, e3, h1, h2, or32 _ d 8 hd (by show ((a * 256 + b) * 256 + c) * 256 + d < _; omega)]
theorem pack4 (a b c d : Nat) (ha : a < 256) (hb : b < 256) (hc : c < 256) (hd : d < 256) :
    bits .or .u32 (bits .or .u32 (bits .or .u32 (bits .or .u32 (0 * 256 % 4294967296) (a : Int) * 256 % 4294967296) (b : Int) * 256 % 4294967296) (c : Int) * 256 % 4294967296) (d : Int) = wd a b c d := by
  have h0 := or8 0 a ha (by omega)
  simp only [Int.natCast_zero, Nat.zero_mul, Nat.zero_add] at h0
  rw [wd_nat a b c d ha hb hc hd]
  have e : ((0 : Nat) : Int) = 0 := rfl
  rw [show (bits BinOp.or .u32 (0 * 256 % 4294967296) (a : Int)) = (a : Int) from h0, or8 a b hb (by omega), or8 _ c hc (by omega), or8 _ d hd (by omega)]

theorem pkR_later (bs : List Int) (t i : Nat) (h : t ≤ i) : (pkR bs t).getD i 0 = 0 := by
  induction t with
  | zero => rw [pkR, z80, getD_zeros]
  | succ t ih => rw [pkR, getD_set, if_neg (by omega), ih (by omega)]
theorem set_set (xs : List Int) (i : Nat) (x y : Int) : (xs.set i x).set i y = xs.set i y := by simp
theorem pkR_pk (bs : List Int) (h : ∀ i, 0 ≤ bs.getD i 0 ∧ bs.getD i 0 < 256) (t : Nat) (ht : t ≤ 16) : pk bs (4 * t) = pkR bs t := by
  induction t with
  | zero => rfl
  | succ t ih =>
    have hl : t < (pkR bs t).length := by rw [pkR_length]; omega
    have g : ∀ (x : Int), ((pkR bs t).set t x).getD t 0 = x := fun x => by rw [getD_set, if_pos ⟨rfl, hl⟩]
    have b0 := h (4 * t)
    have b1 := h (4 * t + 1)
    have b2 := h (4 * t + 2)
    have b3 := h (4 * t + 3)
    have hp := pack4 (bs.getD (4 * t) 0).toNat (bs.getD (4 * t + 1) 0).toNat (bs.getD (4 * t + 2) 0).toNat (bs.getD (4 * t + 3) 0).toNat (by omega) (by omega) (by omega) (by omega)
    rw [Int.toNat_of_nonneg b0.1, Int.toNat_of_nonneg b1.1, Int.toNat_of_nonneg b2.1, Int.toNat_of_nonneg b3.1] at hp
    show pk bs (4 * t + 1 + 1 + 1 + 1) = _
    rw [pk, pk, pk, pk, ih (by omega)]
    have d0 : 4 * t / 4 = t := by omega
    have d1 : (4 * t + 1) / 4 = t := by omega
    have d2 : (4 * t + 1 + 1) / 4 = t := by omega
    have d3 : (4 * t + 1 + 1 + 1) / 4 = t := by omega
    rw [d0, d1, d2, d3, pkR_later bs t t (Nat.le_refl _)]
    simp only [g, set_set]
    rw [pkR, show 4 * t + 1 + 1 = 4 * t + 2 from rfl, show 4 * t + 2 + 1 = 4 * t + 3 from rfl, hp]

/-- The state, i of its words added. -/
def addN (s r : S5) : Nat → List Int
  | 0 => s.list
  | i + 1 => (addN s r i).set i (((addN s r i).getD i 0 + r.list.getD i 0) % 4294967296)
@[simp] theorem addN_length (s r : S5) (i : Nat) : (addN s r i).length = 5 := by
  induction i with
  | zero => rfl
  | succ i ih => simp [addN, ih]
theorem addN_all (s r : S5) : addN s r 5 = (s.add r).list := by
  simp [addN, S5.list, S5.add]

/-- The digest's bytes, one by one. -/
def digR (s : S5) : Nat → List Int
  | 0 => z20
  | i + 1 => (digR s i).set i (s.list.getD (i / 4) 0 / 2 ^ (24 - 8 * (i % 4)) % 256)
@[simp] theorem digR_length (s : S5) (i : Nat) : (digR s i).length = 20 := by
  induction i with
  | zero => rfl
  | succ i ih => simp [digR, ih]
theorem digR_all (s : S5) : digR s 20 = dig s := by
  simp [digR, dig, digN, z20, List.replicate, S5.list]

/-- While the state is added to. -/
structure HAt (w : World) (m : List Int) (v : Value) (gs : Nat) (L : List Int) (r : S5) (wr : World) : Prop where
  own : Own8 wr w.heap.size v m
  st : Whole wr (w.heap.size + 1) 32 (arr .u32 L)
  res : Whole wr w.heap.size 24 (arr .u8 z20)
  below : Below w.heap.size w wr
  cur : Whole wr gs 32 (arr .u32 r.list)
  far : w.heap.size + 1 < gs
theorem HAt.put {w : World} {m : List Int} {v : Value} {gs : Nat} {L : List Int} {r : S5} {wr : World} (h : HAt w m v gs L r wr) (i : Nat) (x : Int) : HAt w m v gs (L.set i x) r (wr.setCell ⟨w.heap.size + 1, i, none⟩ (.int .u32 x)) := by
  have hne := own8_ne h.own h.st (by decide)
  have hf := h.far
  have hg : wr.grownBy (wr.setCell ⟨w.heap.size + 1, i, none⟩ (.int .u32 x)) (some (w.heap.size + 1)) := ⟨rfl, rfl, rfl, by simp [World.setCell], fun k _ hk => Below.heap_setCell wr _ _ k (fun e => hk (by rw [e]))⟩
  exact ⟨h.own.grown hg (.inr hne), h.st.put i x, h.res.far (by simp) _, h.below.setCell (by simp) _, h.cur.far (by simp; omega) _, hf⟩
theorem HAt.drew {w : World} {m : List Int} {v : Value} {gs : Nat} {L : List Int} {r : S5} {wr : World} (h : HAt w m v gs L r wr) : HAt w m v gs L r wr.drew :=
  ⟨h.own, h.st, h.res, h.below.drew, h.cur, h.far⟩

theorem RAt.farSet {w : World} {s : S5} {m : List Int} {v : Value} {wr : World} {g : Nat} {cs : Array Value} (h : RAt w s m v wr) (hg : Whole wr g 24 cs) (hf : w.heap.size + 1 < g) (i : Nat) (x : Int) : RAt w s m v (wr.setCell ⟨g, i, none⟩ (.int .u8 x)) := by
  have hne := own8_ne h.own hg (by decide)
  have hgr : wr.grownBy (wr.setCell ⟨g, i, none⟩ (.int .u8 x)) (some g) := ⟨rfl, rfl, rfl, by simp [World.setCell], fun k _ hk => Below.heap_setCell wr _ _ k (fun e => hk (by rw [e]))⟩
  exact ⟨h.own.grown hgr (.inr hne), h.st.far (by simp; omega) _, h.res.far (by simp; omega) _, h.below.setCell (by simp; omega) _⟩

end Go.Proofs.Ytloekfphkepafaa
