/- Addresses' values, written by the program. -/
import Derived.Test.YteloaidnfcmadaaStRdr
import Derived.Test.YteloaidnfcmadaaStJoin
import Derived.Test.YteloaidnfcmadaaStOursP
import Derived.StillTailTactics
namespace Go.Proofs.Yteloaidnfcmadaa
open Go.RowKit
set_option linter.unusedVariables false
theorem xor32_back (x : Int) (h0 : 0 ≤ x) (h1 : x < 4294967296) : bits .xor .u32 (bits .xor .u32 x 554869826) 554869826 = x := by
  obtain ⟨a, rfl⟩ := Int.eq_ofNat_of_zero_le h0
  have e := u32_xor_nat a 554869826 (by omega) (by decide)
  have e2 := u32_xor_nat (a ^^^ 554869826) 554869826 (Nat.xor_lt_two_pow (n := 32) (by omega) (by decide)) (by decide)
  rw [show (554869826 : Int) = ((554869826 : Nat) : Int) from rfl, e, e2, Nat.xor_assoc, Nat.xor_self, Nat.xor_zero]
theorem xor16_back (x : Int) (h0 : 0 ≤ x) (h1 : x < 65536) : bits .xor .u16 (bits .xor .u16 x 8466) 8466 = x := by
  obtain ⟨a, rfl⟩ := Int.eq_ofNat_of_zero_le h0
  have e := u16_xor_nat a 8466 (by omega) (by decide)
  have e2 := u16_xor_nat (a ^^^ 8466) 8466 (Nat.xor_lt_two_pow (n := 16) (by omega) (by decide)) (by decide)
  rw [show (8466 : Int) = ((8466 : Nat) : Int) from rfl, e, e2, Nat.xor_assoc, Nat.xor_self, Nat.xor_zero]
theorem xor32_in (x : Int) (h0 : 0 ≤ x) (h1 : x < 4294967296) : 0 ≤ bits .xor .u32 x 554869826 ∧ bits .xor .u32 x 554869826 < 4294967296 := by
  obtain ⟨a, rfl⟩ := Int.eq_ofNat_of_zero_le h0
  have e := u32_xor_nat a 554869826 (by omega) (by decide)
  have e2 := Nat.xor_lt_two_pow (n := 32) (show a < 2 ^ 32 by omega) (show 554869826 < 2 ^ 32 by decide)
  rw [show (554869826 : Int) = ((554869826 : Nat) : Int) from rfl, e]
  omega
theorem xor16_in (x : Int) (h0 : 0 ≤ x) (h1 : x < 65536) : 0 ≤ bits .xor .u16 x 8466 ∧ bits .xor .u16 x 8466 < 65536 := by
  obtain ⟨a, rfl⟩ := Int.eq_ofNat_of_zero_le h0
  have e := u16_xor_nat a 8466 (by omega) (by decide)
  have e2 := Nat.xor_lt_two_pow (n := 16) (show a < 2 ^ 16 by omega) (show 8466 < 2 ^ 16 by decide)
  rw [show (8466 : Int) = ((8466 : Nat) : Int) from rfl, e]
  omega
theorem or64u (x b : Int) (h0 : 0 ≤ x) (h1 : x < 1099511627776) (b0 : 0 ≤ b) (b1 : b < 256) : bits .or .u64 (x * 256) b = x * 256 + b := by
  obtain ⟨a, rfl⟩ := Int.eq_ofNat_of_zero_le h0
  obtain ⟨c, rfl⟩ := Int.eq_ofNat_of_zero_le b0
  have e := u64_or_nat (a * 256) c (by omega) (by omega)
  have e2 : a * 256 ||| c = a * 256 + c := by
    have := Nat.shiftLeft_add_eq_or_of_lt (i := 8) (b := c) (by omega) a
    rw [Nat.shiftLeft_eq] at this
    exact this.symm
  rw [Int.natCast_mul] at e
  rw [show (256 : Int) = ((256 : Nat) : Int) from rfl, e, e2, Int.natCast_add, Int.natCast_mul]

/-- A number out of bytes, as plain sums. -/
def numB (xs : List Int) : Int := xs.foldl (fun v b => v * 256 + b) 0
theorem numB_in : ∀ (xs : List Int), In256 xs → 0 ≤ numB xs ∧ numB xs < 256 ^ xs.length := by
  intro xs hx
  suffices h : ∀ (ys : List Int) (v : Int) (k : Nat), (∀ y ∈ ys, 0 ≤ y ∧ y < 256) → 0 ≤ v → v < 256 ^ k → 0 ≤ ys.foldl (fun v b => v * 256 + b) v ∧ ys.foldl (fun v b => v * 256 + b) v < 256 ^ (k + ys.length) by
    have := h xs 0 0 (fun y hy => by
      obtain ⟨i, hi, rfl⟩ := List.getElem_of_mem hy
      have := hx i
      simpa [List.getD, hi] using this) (Int.le_refl _) (by decide)
    simpa [numB] using this
  intro ys
  induction ys with
  | nil => intro v k _ h0 h1; exact ⟨h0, h1⟩
  | cons y r ih =>
    intro v k hy h0 h1
    obtain ⟨y0, y1⟩ := hy y List.mem_cons_self
    have e : (256 : Int) ^ (k + 1) = 256 ^ k * 256 := Int.pow_succ _ _
    have := ih (v * 256 + y) (k + 1) (fun z hz => hy z (List.mem_cons_of_mem _ hz)) (by omega) (by rw [e]; omega)
    rw [show k + (y :: r).length = k + 1 + r.length by simp; omega]
    exact this

/-- An address's value. -/
def mapB (ip port : Int) : List Int := [0, 1] ++ (be2 (bits .xor .u16 port 8466) ++ be4 (bits .xor .u32 ip 554869826))

set_option maxHeartbeats 800000 in
set_option maxRecDepth 100000 in
theorem mapped_any (ip port : Int) (w : World) :
    Calls Try.prog 51 #[.agg #[.int .u32 ip, .int .u16 port]] w fun e w' => ∃ v, e = .returned v ∧ Own8 w' w.heap.size v (mapB ip port) ∧ Below w.heap.size w w' := by
  have hg := Whole.new w 33 #[.int .u32 ip, .int .u16 port]
  have hb0 : Below w.heap.size w (w.alloc (.cells #[.int .u32 ip, .int .u16 port] 33)) := (Below.refl _ w).alloc (Nat.le_refl _) _
  have hsz : (w.alloc (.cells #[.int .u32 ip, .int .u16 port] 33)).heap.size = w.heap.size + 1 := by simp
  have HG := Lib.hid (And.intro hg (And.intro hb0 hsz))
  have HP : Hid (∀ y V ys W b, Own8 W b V ys → b ≤ W.heap.size → ys.length ≤ 1000 → Calls Try.prog 65 #[V, .int .u16 y] W fun e w' => ∃ v', e = .returned v' ∧ Grew b W w' V v' (ys ++ be2 y)) := Lib.hid fun y V ys W b h1 h2 h3 => put16_any y V b ys W h1 h2 (by omega)
  have HQ : Hid (∀ y V ys W b, Own8 W b V ys → b ≤ W.heap.size → ys.length ≤ 1000 → Calls Try.prog 66 #[V, .int .u32 y] W fun e w' => ∃ v', e = .returned v' ∧ Grew b W w' V v' (ys ++ be4 y)) := Lib.hid fun y V ys W b h1 h2 h3 => put32_any y V b ys W h1 h2 (by omega)
  clear hg hb0 hsz
  obtain ⟨N, hN⟩ : ∃ N, w.heap.size = N := ⟨_, rfl⟩
  have HN := Lib.hid hN
  rw [hN] at HG ⊢
  go_enter Try.func51, Try.ntmps51
  go_upto_region 1 with fail
  generalize w.alloc (.cells #[.int .u32 ip, .int .u16 port] 33) = W0 at *
  clear hN
  have HC1 := Lib.hid (HP.out 1 (.slice none 0 0) [] W0 (N + 1) (Own8.nil W0 _) (by rw [HG.out.2.2]; omega) (by simp))
  go_upto_region 2 with (go_at_call 65; (with_reducible refine HC1.out.mono ?_); rintro e w1 ⟨v1, rfl, h1⟩)
  have hb1 := h1.below (Own8.nil W0 (N + 1)) (by rw [HG.out.2.2]; omega)
  have d1 : w1.cell? ⟨N, 1, none⟩ = some (.int .u16 port) := (HG.out.1.below hb1 (by omega)).cell 1
  have HC2 := Lib.hid (HP.out (bits .xor .u16 port 8466) v1 _ w1 (N + 1) h1.own (by have := h1.only.size; have := HG.out.2.2; omega) (by simp))
  have HB1 := Lib.hid (And.intro hb1 (And.intro h1 (HG.out.1.below hb1 (by omega))))
  clear hb1 h1
  go_upto_region 3 with (go_at_call 65; (with_reducible refine HC2.out.mono ?_); rintro e w2 ⟨v2, rfl, h2⟩)
  clear d1
  have hs1 : N + 1 ≤ w1.heap.size := by have := HB1.out.2.1.only.size; have := HG.out.2.2; omega
  have hb2 := h2.below HB1.out.2.1.own hs1
  have hs2 : N + 1 ≤ w2.heap.size := by have := h2.only.size; omega
  have d0 : w2.cell? ⟨N, 0, none⟩ = some (.int .u32 ip) := (HB1.out.2.2.below hb2 (by omega)).cell 0
  have HC3 := Lib.hid (HQ.out (bits .xor .u32 ip 554869826) v2 _ w2 (N + 1) h2.own hs2 (by simp))
  have HB2 := Lib.hid (And.intro hb2 (And.intro h2 hs2))
  clear hb2 h2 hs1 hs2
  go_wp2_with (go_at_call 66; (with_reducible refine HC3.out.mono ?_); rintro e w3 ⟨v3, rfl, h3⟩)
  have hb3 := h3.below HB2.out.2.1.own HB2.out.2.2
  go_ret
  refine ⟨v3, rfl, ?_, HG.out.2.1.trans ((HB1.out.1.trans (HB2.out.1.trans hb3)).mono (by omega))⟩
  have := h3.own.low (show N ≤ N + 1 by omega)
  rw [show be2 1 = [0, 1] from rfl] at this
  simpa [mapB] using this

/-- Two bytes laid into a block of their own. -/
theorem New8.two (w : World) (x y : Int) : New8 w (w.alloc (.cells #[.int .u8 x, .int .u8 y] 5)) w.heap.size [x, y] := ⟨Whole.new w 5 _, Nat.le_refl _, (Below.refl _ w).alloc (Nat.le_refl _) _⟩
theorem New8.twoD (w : World) (x y : Int) : New8 w (w.alloc (.cells #[.int .u8 x, .int .u8 y] 5)).drew w.heap.size [x, y] := ⟨(Whole.new w 5 _).drew, Nat.le_refl _, ((Below.refl _ w).alloc (Nat.le_refl _) _).drew⟩
theorem New8.step {w w' : World} {g : Nat} {xs ys : List Int} {v : Value} (h : New8 w w' g xs) (hv : V8 w w.heap.size v ys) : V8 w' w'.heap.size v ys := (hv.below h.below).more h.below.size
theorem New8.v82 {w w' : World} {g : Nat} {x y : Int} (h : New8 w w' g [x, y]) : V8 w' w'.heap.size (.slice (some ⟨g, 0, none⟩) 2 2) [x, y] := h.v8 (by simp [maxLen])
theorem New8.vb2 {w w' : World} {g : Nat} {x : Int} (h : New8 w w' g (be2 x)) : V8 w' w'.heap.size (.slice (some ⟨g, 0, none⟩) 2 2) (be2 x) := h.v8 (by simp [maxLen])
theorem New8.vb4 {w w' : World} {g : Nat} {x : Int} (h : New8 w w' g (be4 x)) : V8 w' w'.heap.size (.slice (some ⟨g, 0, none⟩) 4 4) (be4 x) := h.v8 (by simp [maxLen])
/-- Three pieces are joined. -/
theorem join3 {W : World} {v1 v2 v3 : Value} {p1 p2 p3 : List Int} {N : Nat} (h1 : V8 W W.heap.size v1 p1) (h2 : V8 W W.heap.size v2 p2) (h3 : V8 W W.heap.size v3 p3) (hl : p1.length + (p2.length + p3.length) ≤ 1000) (hN : N ≤ W.heap.size) :
    Calls Try.prog 35 #[.slice (some ⟨W.heap.size, 0, none⟩) 3 3] (W.alloc (.cells #[v1, v2, v3] 22)) fun e w' => ∃ v, e = .returned v ∧ Own8 w' N v (p1 ++ (p2 ++ p3)) ∧ Below W.heap.size W w' := by
  have hb : Below W.heap.size W (W.alloc (.cells #[v1, v2, v3] 22)) := (Below.refl _ W).alloc (Nat.le_refl _) _
  have f : ∀ {v p}, V8 W W.heap.size v p → V8 (W.alloc (.cells #[v1, v2, v3] 22)) (W.alloc (.cells #[v1, v2, v3] 22)).heap.size v p := fun h => (h.below hb).more hb.size
  refine (join_any W.heap.size 3 [v1, v2, v3] [p1, p2, p3] (W.alloc (.cells #[v1, v2, v3] 22)) (Whole.new W 22 _) (Pieces.cons (f h1) (Pieces.cons (f h2) (Pieces.cons (f h3) (Pieces.nil _ _)))) (by simp; omega) (by simp)).mono fun e w' ⟨v, he, ho, hbl⟩ => ⟨v, he, ?_, hb.trans (hbl.mono hb.size)⟩
  have := ho.low (show N ≤ _ from Nat.le_trans hN hb.size)
  simpa using this

/-- Nothing below N has turned. -/
structure Ch (N : Nat) (W0 W : World) : Prop where
  below : Below N W0 W
  size : N ≤ W.heap.size
section
variable {N : Nat} {W0 W W' : World}
theorem Ch.new (h : Ch N W0 W) {g : Nat} {xs : List Int} (hn : New8 W W' g xs) : Ch N W0 W' := ⟨h.below.trans (hn.below.mono h.size), Nat.le_trans h.size hn.below.size⟩
theorem Ch.alloc (h : Ch N W0 W) (o : Obj) : Ch N W0 (W.alloc o) := ⟨h.below.alloc h.size o, Nat.le_trans h.size (by simp)⟩
theorem Ch.under (h : Ch N W0 W) (hb : Below W.heap.size W W') : Ch N W0 W' := ⟨h.below.trans (hb.mono h.size), Nat.le_trans h.size hb.size⟩
end
end Go.Proofs.Yteloaidnfcmadaa
