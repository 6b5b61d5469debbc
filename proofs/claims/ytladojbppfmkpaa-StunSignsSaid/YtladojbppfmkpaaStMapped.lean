/- Addresses' values, written and read, by the program and by the document. -/
import Derived.Test.YtladojbppfmkpaaStRdr
import Derived.Test.YtladojbppfmkpaaStJoin
import Derived.Test.YtladojbppfmkpaaStOurs
import Derived.StillTailTactics
namespace Go.Proofs.Ytladojbppfmkpaa
open Go.RowKit
set_option linter.unusedVariables false

theorem xor32_back (x : Int) (h0 : 0 ≤ x) (h1 : x < 4294967296) : bits .xor .u32 (bits .xor .u32 x 554869826) 554869826 = x := by
  obtain ⟨a, rfl⟩ := Int.eq_ofNat_of_zero_le h0
  have e := u32_xor_nat a 554869826 (by omega) (by decide)
  have e2 := u32_xor_nat (a ^^^ 554869826) 554869826 (Nat.xor_lt_two_pow (n := 32) (by omega) (by decide)) (by decide)
  rw [show (554869826 : Int) = ((554869826 : Nat) : Int) from rfl, e, e2, Nat.xor_assoc, Nat.xor_self, Nat.xor_zero]
theorem xor16_back (x : Int) (h0 : 0 ≤ x) (h1 : x < 65536) : bits .xor .u16 (bits .xor .u16 x 8466) 8466 = x := by
  obtain ⟨a, rfl⟩ := Int.eq_ofNat_of_zero_le h0
  have e := u16_xor_nat a 8466 (by omega) (by decide)
  have e2 := u16_xor_nat (a ^^^ 8466) 8466 (Nat.xor_lt_two_pow (n := 16) (by omega) (by decide)) (by decide)
  rw [show (8466 : Int) = ((8466 : Nat) : Int) from rfl, e, e2, Nat.xor_assoc, Nat.xor_self, Nat.xor_zero]
theorem xor32_in (x : Int) (h0 : 0 ≤ x) (h1 : x < 4294967296) : 0 ≤ bits .xor .u32 x 554869826 ∧ bits .xor .u32 x 554869826 < 4294967296 := by
  obtain ⟨a, rfl⟩ := Int.eq_ofNat_of_zero_le h0
  have e := u32_xor_nat a 554869826 (by omega) (by decide)
  have e2 := Nat.xor_lt_two_pow (n := 32) (show a < 2 ^ 32 by omega) (show 554869826 < 2 ^ 32 by decide)
  rw [show (554869826 : Int) = ((554869826 : Nat) : Int) from rfl, e]
  omega
theorem xor16_in (x : Int) (h0 : 0 ≤ x) (h1 : x < 65536) : 0 ≤ bits .xor .u16 x 8466 ∧ bits .xor .u16 x 8466 < 65536 := by
  obtain ⟨a, rfl⟩ := Int.eq_ofNat_of_zero_le h0
  have e := u16_xor_nat a 8466 (by omega) (by decide)
  have e2 := Nat.xor_lt_two_pow (n := 16) (show a < 2 ^ 16 by omega) (show 8466 < 2 ^ 16 by decide)
  rw [show (8466 : Int) = ((8466 : Nat) : Int) from rfl, e]
  omega
theorem or64u (x b : Int) (h0 : 0 ≤ x) (h1 : x < 1099511627776) (b0 : 0 ≤ b) (b1 : b < 256) : bits .or .u64 (x * 256) b = x * 256 + b := by
  obtain ⟨a, rfl⟩ := Int.eq_ofNat_of_zero_le h0
  obtain ⟨c, rfl⟩ := Int.eq_ofNat_of_zero_le b0
  have e := u64_or_nat (a * 256) c (by omega) (by omega)
  have e2 : a * 256 ||| c = a * 256 + c := by
    have := Nat.shiftLeft_add_eq_or_of_lt (i := 8) (b := c) (by omega) a
    rw [Nat.shiftLeft_eq] at this
    exact this.symm
  rw [Int.natCast_mul] at e
  rw [show (256 : Int) = ((256 : Nat) : Int) from rfl, e, e2, Int.natCast_add, Int.natCast_mul]

/-- A number out of bytes, as plain sums. -/
def numB (xs : List Int) : Int := xs.foldl (fun v b => v * 256 + b) 0
theorem numB_in : ∀ (xs : List Int), In256 xs → 0 ≤ numB xs ∧ numB xs < 256 ^ xs.length := by
  intro xs hx
  suffices h : ∀ (ys : List Int) (v : Int) (k : Nat), (∀ y ∈ ys, 0 ≤ y ∧ y < 256) → 0 ≤ v → v < 256 ^ k → 0 ≤ ys.foldl (fun v b => v * 256 + b) v ∧ ys.foldl (fun v b => v * 256 + b) v < 256 ^ (k + ys.length) by
    have := h xs 0 0 (fun y hy => by
      obtain ⟨i, hi, rfl⟩ := List.getElem_of_mem hy
      have := hx i
      simpa [List.getD, hi] using this) (Int.le_refl _) (by decide)
    simpa [numB] using this
  intro ys
  induction ys with
  | nil => intro v k _ h0 h1; exact ⟨h0, h1⟩
  | cons y r ih =>
    intro v k hy h0 h1
    obtain ⟨y0, y1⟩ := hy y List.mem_cons_self
    have e : (256 : Int) ^ (k + 1) = 256 ^ k * 256 := Int.pow_succ _ _
    have := ih (v * 256 + y) (k + 1) (fun z hz => hy z (List.mem_cons_of_mem _ hz)) (by omega) (by rw [e]; omega)
    rw [show k + (y :: r).length = k + 1 + r.length by simp; omega]
    exact this

set_option maxHeartbeats 800000 in
set_option maxRecDepth 100000 in
theorem rnumber_any (v : Value) (xs : List Int) (B : Nat) (w : World) (h : V8 w B v xs) (hx : In256 xs) (hl : xs.length ≤ 4) :
    Calls Try.prog 50 #[v] w fun e w' => e = .returned (.int .u64 (numB xs)) ∧ w = w' := by
  obtain ⟨A, c, rfl, -, -, -, hbs⟩ := h
  obtain ⟨l, hll⟩ : ∃ x, xs.length = x := ⟨_, rfl⟩
  rw [hll] at hbs hl ⊢
  have HX := Lib.hid (And.intro hx (And.intro hll hbs))
  clear hx hll hbs
  go_enter Try.func50, Try.ntmps50
  go_wp2
  go_loop [3, 7] (fun s3 s7 => ∃ k : Nat, k ≤ l ∧ s7 = .int .i64 k ∧ s3 = .int .u64 (numB (xs.take k))) (fun _ s7 => l - (intOf s7).toNat)
  case atStart => exact ⟨0, by omega, rfl, rfl⟩
  case round =>
    obtain ⟨k, hk, rfl, rfl⟩ := hrel
    by_cases hlt : k < l
    · obtain ⟨ad, rfl, -, hc⟩ := HX.out.2.2.2 (by omega)
      have hcell := hc k hlt
      have hs : numB (xs.take (k + 1)) = numB (xs.take k) * 256 + xs.getD k 0 := by
        rw [List.take_succ_eq_append_getElem (by rw [HX.out.2.1]; exact hlt)]
        unfold numB
        rw [List.foldl_append]
        simp [List.getD, show k < xs.length by rw [HX.out.2.1]; exact hlt]
      have hin := numB_in (xs.take k) (HX.out.1.take k)
      have hpw : (256 : Int) ^ (xs.take k).length ≤ 16777216 := by
        have hle : (xs.take k).length ≤ 3 := by rw [List.length_take]; omega
        have : (256 : Int) ^ (xs.take k).length ≤ 256 ^ 3 := by
          have h := Nat.pow_le_pow_right (show 0 < 256 by decide) hle
          have h2 : (((256 ^ (xs.take k).length : Nat)) : Int) ≤ ((256 ^ 3 : Nat) : Int) := Int.ofNat_le.2 h
          rw [Int.natCast_pow, Int.natCast_pow] at h2
          exact h2
        exact this
      obtain ⟨x, hxe⟩ : ∃ x, xs.getD k 0 = x := ⟨_, rfl⟩
      obtain ⟨y, hy⟩ : ∃ y, numB (xs.take k) = y := ⟨_, rfl⟩
      rw [hxe] at hcell hs
      rw [hy] at hs hin ⊢
      have y0 := hin.1
      have y1 : y < 16777216 := by omega
      obtain ⟨q0, q1⟩ := HX.out.1 k
      rw [hxe] at q0 q1
      have hor := or64u y x y0 (by omega) q0 q1
      have HS := Lib.hid hs
      clear hc hs hxe hy hin hpw
      go_wp2
      go_round
      case rel => exact ⟨k + 1, by omega, by go_num, by rw [HS.out]⟩
      case measure => simp [intOf]; omega
    · have e : xs.take k = xs := List.take_of_length_le (by rw [HX.out.2.1]; omega)
      rw [e]
      obtain rfl : k = l := by omega
      clear e
      go_wp2
      go_ret
      exact ⟨rfl, rfl⟩

/-- An address's value. -/
def mapB (ip port : Int) : List Int := [0, 1] ++ (be2 (bits .xor .u16 port 8466) ++ be4 (bits .xor .u32 ip 554869826))

set_option maxHeartbeats 800000 in
set_option maxRecDepth 100000 in
theorem mapped_any (ip port : Int) (w : World) :
    Calls Try.prog 25 #[.agg #[.int .u32 ip, .int .u16 port]] w fun e w' => ∃ v, e = .returned v ∧ Own8 w' w.heap.size v (mapB ip port) ∧ Below w.heap.size w w' := by
  have hg := Whole.new w 54 #[.int .u32 ip, .int .u16 port]
  have hb0 : Below w.heap.size w (w.alloc (.cells #[.int .u32 ip, .int .u16 port] 54)) := (Below.refl _ w).alloc (Nat.le_refl _) _
  have hsz : (w.alloc (.cells #[.int .u32 ip, .int .u16 port] 54)).heap.size = w.heap.size + 1 := by simp
  have HG := Lib.hid (And.intro hg (And.intro hb0 hsz))
  have HP : Hid (∀ y V ys W b, Own8 W b V ys → b ≤ W.heap.size → ys.length ≤ 1000 → Calls Try.prog 51 #[V, .int .u16 y] W fun e w' => ∃ v', e = .returned v' ∧ Grew b W w' V v' (ys ++ be2 y)) := Lib.hid fun y V ys W b h1 h2 h3 => put16_any y V b ys W h1 h2 (by omega)
  have HQ : Hid (∀ y V ys W b, Own8 W b V ys → b ≤ W.heap.size → ys.length ≤ 1000 → Calls Try.prog 52 #[V, .int .u32 y] W fun e w' => ∃ v', e = .returned v' ∧ Grew b W w' V v' (ys ++ be4 y)) := Lib.hid fun y V ys W b h1 h2 h3 => put32_any y V b ys W h1 h2 (by omega)
  clear hg hb0 hsz
  obtain ⟨N, hN⟩ : ∃ N, w.heap.size = N := ⟨_, rfl⟩
  have HN := Lib.hid hN
  rw [hN] at HG ⊢
  go_enter Try.func25, Try.ntmps25
  go_upto_region 1 with fail
  generalize w.alloc (.cells #[.int .u32 ip, .int .u16 port] 54) = W0 at *
  clear hN
  have HC1 := Lib.hid (HP.out 1 (.slice none 0 0) [] W0 (N + 1) (Own8.nil W0 _) (by rw [HG.out.2.2]; omega) (by simp))
  go_upto_region 2 with (go_at_call 51; (with_reducible refine HC1.out.mono ?_); rintro e w1 ⟨v1, rfl, h1⟩)
  have hb1 := h1.below (Own8.nil W0 (N + 1)) (by rw [HG.out.2.2]; omega)
  have d1 : w1.cell? ⟨N, 1, none⟩ = some (.int .u16 port) := (HG.out.1.below hb1 (by omega)).cell 1
  have HC2 := Lib.hid (HP.out (bits .xor .u16 port 8466) v1 _ w1 (N + 1) h1.own (by have := h1.only.size; have := HG.out.2.2; omega) (by simp))
  have HB1 := Lib.hid (And.intro hb1 (And.intro h1 (HG.out.1.below hb1 (by omega))))
  clear hb1 h1
  go_upto_region 3 with (go_at_call 51; (with_reducible refine HC2.out.mono ?_); rintro e w2 ⟨v2, rfl, h2⟩)
  clear d1
  have hs1 : N + 1 ≤ w1.heap.size := by have := HB1.out.2.1.only.size; have := HG.out.2.2; omega
  have hb2 := h2.below HB1.out.2.1.own hs1
  have hs2 : N + 1 ≤ w2.heap.size := by have := h2.only.size; omega
  have d0 : w2.cell? ⟨N, 0, none⟩ = some (.int .u32 ip) := (HB1.out.2.2.below hb2 (by omega)).cell 0
  have HC3 := Lib.hid (HQ.out (bits .xor .u32 ip 554869826) v2 _ w2 (N + 1) h2.own hs2 (by simp))
  have HB2 := Lib.hid (And.intro hb2 (And.intro h2 hs2))
  clear hb2 h2 hs1 hs2
  go_wp2_with (go_at_call 52; (with_reducible refine HC3.out.mono ?_); rintro e w3 ⟨v3, rfl, h3⟩)
  have hb3 := h3.below HB2.out.2.1.own HB2.out.2.2
  go_ret
  refine ⟨v3, rfl, ?_, HG.out.2.1.trans ((HB1.out.1.trans (HB2.out.1.trans hb3)).mono (by omega))⟩
  have := h3.own.low (show N ≤ N + 1 by omega)
  rw [show be2 1 = [0, 1] from rfl] at this
  simpa [mapB] using this

/-- Two bytes laid into a block of their own. -/
theorem New8.two (w : World) (x y : Int) : New8 w (w.alloc (.cells #[.int .u8 x, .int .u8 y] 5)) w.heap.size [x, y] := ⟨Whole.new w 5 _, Nat.le_refl _, (Below.refl _ w).alloc (Nat.le_refl _) _⟩
theorem New8.twoD (w : World) (x y : Int) : New8 w (w.alloc (.cells #[.int .u8 x, .int .u8 y] 5)).drew w.heap.size [x, y] := ⟨(Whole.new w 5 _).drew, Nat.le_refl _, ((Below.refl _ w).alloc (Nat.le_refl _) _).drew⟩
theorem New8.step {w w' : World} {g : Nat} {xs ys : List Int} {v : Value} (h : New8 w w' g xs) (hv : V8 w w.heap.size v ys) : V8 w' w'.heap.size v ys := (hv.below h.below).more h.below.size
theorem New8.v82 {w w' : World} {g : Nat} {x y : Int} (h : New8 w w' g [x, y]) : V8 w' w'.heap.size (.slice (some ⟨g, 0, none⟩) 2 2) [x, y] := h.v8 (by simp [maxLen])
theorem New8.vb2 {w w' : World} {g : Nat} {x : Int} (h : New8 w w' g (be2 x)) : V8 w' w'.heap.size (.slice (some ⟨g, 0, none⟩) 2 2) (be2 x) := h.v8 (by simp [maxLen])
theorem New8.vb4 {w w' : World} {g : Nat} {x : Int} (h : New8 w w' g (be4 x)) : V8 w' w'.heap.size (.slice (some ⟨g, 0, none⟩) 4 4) (be4 x) := h.v8 (by simp [maxLen])
/-- Three pieces are joined. -/
theorem join3 {W : World} {v1 v2 v3 : Value} {p1 p2 p3 : List Int} {N : Nat} (h1 : V8 W W.heap.size v1 p1) (h2 : V8 W W.heap.size v2 p2) (h3 : V8 W W.heap.size v3 p3) (hl : p1.length + (p2.length + p3.length) ≤ 1000) (hN : N ≤ W.heap.size) :
    Calls Try.prog 29 #[.slice (some ⟨W.heap.size, 0, none⟩) 3 3] (W.alloc (.cells #[v1, v2, v3] 27)) fun e w' => ∃ v, e = .returned v ∧ Own8 w' N v (p1 ++ (p2 ++ p3)) ∧ Below W.heap.size W w' := by
  have hb : Below W.heap.size W (W.alloc (.cells #[v1, v2, v3] 27)) := (Below.refl _ W).alloc (Nat.le_refl _) _
  have f : ∀ {v p}, V8 W W.heap.size v p → V8 (W.alloc (.cells #[v1, v2, v3] 27)) (W.alloc (.cells #[v1, v2, v3] 27)).heap.size v p := fun h => (h.below hb).more hb.size
  refine (join_any W.heap.size 3 [v1, v2, v3] [p1, p2, p3] (W.alloc (.cells #[v1, v2, v3] 27)) (Whole.new W 27 _) (Pieces.cons (f h1) (Pieces.cons (f h2) (Pieces.cons (f h3) (Pieces.nil _ _)))) (by simp; omega) (by simp)).mono fun e w' ⟨v, he, ho, hbl⟩ => ⟨v, he, ?_, hb.trans (hbl.mono hb.size)⟩
  have := ho.low (show N ≤ _ from Nat.le_trans hN hb.size)
  simpa using this

/-- Nothing below N has turned. -/
structure Ch (N : Nat) (W0 W : World) : Prop where
  below : Below N W0 W
  size : N ≤ W.heap.size
section
variable {N : Nat} {W0 W W' : World}
theorem Ch.new (h : Ch N W0 W) {g : Nat} {xs : List Int} (hn : New8 W W' g xs) : Ch N W0 W' := ⟨h.below.trans (hn.below.mono h.size), Nat.le_trans h.size hn.below.size⟩
theorem Ch.alloc (h : Ch N W0 W) (o : Obj) : Ch N W0 (W.alloc o) := ⟨h.below.alloc h.size o, Nat.le_trans h.size (by simp)⟩
theorem Ch.under (h : Ch N W0 W) (hb : Below W.heap.size W W') : Ch N W0 W' := ⟨h.below.trans (hb.mono h.size), Nat.le_trans h.size hb.size⟩
end

section
variable {N : Nat} {W0 w1 w2 : World} {g1 g2 : Nat} {x y : Int}
theorem way_a (h1 : New8 (W0.alloc (.cells #[.int .u8 0, .int .u8 1] 5)).drew w1 g1 (be2 x)) (h2 : New8 w1 w2 g2 (be4 y)) (hN : N ≤ w2.heap.size) :
    Calls Try.prog 29 #[.slice (some ⟨w2.heap.size, 0, none⟩) 3 3] (w2.alloc (.cells #[.slice (some ⟨W0.heap.size, 0, none⟩) 2 2, .slice (some ⟨g1, 0, none⟩) 2 2, .slice (some ⟨g2, 0, none⟩) 4 4] 27)) fun e w' => ∃ v, e = .returned v ∧ Own8 w' N v ([0, 1] ++ (be2 x ++ be4 y)) ∧ Below w2.heap.size w2 w' :=
  join3 (h2.step (h1.step (New8.twoD W0 0 1).v82)) (h2.step h1.vb2) h2.vb4 (by simp) hN
theorem way_b (h1 : New8 W0 w1 g1 (be2 x)) (h2 : New8 (w1.alloc (.cells #[.int .u8 0, .int .u8 1] 5)) w2 g2 (be4 y)) (hN : N ≤ w2.heap.size) :
    Calls Try.prog 29 #[.slice (some ⟨w2.heap.size, 0, none⟩) 3 3] (w2.alloc (.cells #[.slice (some ⟨w1.heap.size, 0, none⟩) 2 2, .slice (some ⟨g1, 0, none⟩) 2 2, .slice (some ⟨g2, 0, none⟩) 4 4] 27)) fun e w' => ∃ v, e = .returned v ∧ Own8 w' N v ([0, 1] ++ (be2 x ++ be4 y)) ∧ Below w2.heap.size w2 w' :=
  join3 (h2.step (New8.two w1 0 1).v82) (h2.step ((New8.two w1 0 1).step h1.vb2)) h2.vb4 (by simp) hN
theorem way_c (h1 : New8 W0 w1 g1 (be2 x)) (h2 : New8 w1 w2 g2 (be4 y)) (hN : N ≤ w2.heap.size) :
    Calls Try.prog 29 #[.slice (some ⟨w2.heap.size + 1, 0, none⟩) 3 3] ((w2.alloc (.cells #[.int .u8 0, .int .u8 1] 5)).alloc (.cells #[.slice (some ⟨w2.heap.size, 0, none⟩) 2 2, .slice (some ⟨g1, 0, none⟩) 2 2, .slice (some ⟨g2, 0, none⟩) 4 4] 27)) fun e w' => ∃ v, e = .returned v ∧ Own8 w' N v ([0, 1] ++ (be2 x ++ be4 y)) ∧ Below w2.heap.size w2 w' := by
  have hb : Below w2.heap.size w2 (w2.alloc (.cells #[.int .u8 0, .int .u8 1] 5)) := (Below.refl _ _).alloc (Nat.le_refl _) _
  have hsz : (w2.alloc (.cells #[.int .u8 0, .int .u8 1] 5)).heap.size = w2.heap.size + 1 := by simp
  rw [← hsz]
  refine (join3 (N := N) (New8.two w2 0 1).v82 ((New8.two w2 0 1).step (h2.step h1.vb2)) ((New8.two w2 0 1).step h2.vb4) (by simp) (Nat.le_trans hN hb.size)).mono fun e w' ⟨v, he, ho, hbl⟩ => ⟨v, he, ho, hb.trans (hbl.mono hb.size)⟩
end

set_option maxHeartbeats 1600000 in
set_option maxRecDepth 100000 in
theorem rmapped_any (ip port : Int) (h0 : 0 ≤ port) (h1 : port < 65536) (w : World) :
    Calls Try.prog 26 #[.agg #[.int .u32 ip, .int .u16 port]] w fun e w' => ∃ v, e = .returned v ∧ Own8 w' w.heap.size v (mapB ip port) ∧ Below w.heap.size w w' := by
  have hg := Whole.new w 54 #[.int .u32 ip, .int .u16 port]
  have hb0 : Below w.heap.size w (w.alloc (.cells #[.int .u32 ip, .int .u16 port] 54)) := (Below.refl _ w).alloc (Nat.le_refl _) _
  have hsz : (w.alloc (.cells #[.int .u32 ip, .int .u16 port] 54)).heap.size = w.heap.size + 1 := by simp
  have HG := Lib.hid (And.intro hg (And.intro hb0 hsz))
  have HX := Lib.hid (xor16_in port h0 h1)
  have HT : Hid (∀ x W, Calls Try.prog 30 #[.int .i64 x] W fun e w' => ∃ g, e = .returned (.slice (some ⟨g, 0, none⟩) 2 2) ∧ New8 W w' g (be2 x)) := Lib.hid fun x W => two_any x W
  have HF : Hid (∀ x W, Calls Try.prog 31 #[.int .u32 x] W fun e w' => ∃ g, e = .returned (.slice (some ⟨g, 0, none⟩) 4 4) ∧ New8 W w' g (be4 x)) := Lib.hid fun x W => four_any x W
  clear hg hb0 hsz h0 h1
  obtain ⟨N, hN⟩ : ∃ N, w.heap.size = N := ⟨_, rfl⟩
  have HN := Lib.hid hN
  rw [hN] at HG ⊢
  go_enter Try.func26, Try.ntmps26
  go_upto_region 1 with fail
  generalize w.alloc (.cells #[.int .u32 ip, .int .u16 port] 54) = W0 at *
  clear hN
  have d0 : W0.cell? ⟨N, 0, none⟩ = some (.int .u32 ip) := HG.out.1.cell 0
  have d1 : W0.cell? ⟨N, 1, none⟩ = some (.int .u16 port) := HG.out.1.cell 1
  obtain ⟨q0, q1⟩ := HX.out
  obtain ⟨p, hp⟩ : ∃ p, bits .xor .u16 port 8466 = p := ⟨_, rfl⟩
  rw [hp] at q0 q1
  have hw : IntKind.i64.wrap p = p := by rw [IntKind.wrap_i64]; omega
  have HD : Hid (∀ W, Below (N + 1) W0 W → W.cell? ⟨N, 0, none⟩ = some (.int .u32 ip) ∧ W.cell? ⟨N, 1, none⟩ = some (.int .u16 port)) := Lib.hid fun W hb => ⟨(HG.out.1.below hb (by omega)).cell 0, (HG.out.1.below hb (by omega)).cell 1⟩
  have hc0 : Ch (N + 1) W0 W0.drew := ⟨(Below.refl _ W0).drew, Nat.le_of_eq HG.out.2.2.symm⟩
  have HC0 := Lib.hid hc0
  have hc1 : Ch (N + 1) W0 (W0.alloc (.cells #[.int .u8 0, .int .u8 1] 5)).drew := ⟨((Below.refl (N + 1) W0).alloc (Nat.le_of_eq HG.out.2.2.symm) _).drew, by have := HG.out.2.2; show N + 1 ≤ (W0.alloc _).heap.size; simp; omega⟩
  have HC1 := Lib.hid hc1
  clear hc0 hc1
  go_region_held3 (fun W => W.cell? ⟨N, 0, none⟩ = some (.int .u32 ip) ∧ W.cell? ⟨N, 1, none⟩ = some (.int .u16 port)) (first | (with_reducible exact HD.out _ hw4.below) | (with_reducible exact HD.out _ hw3.below) | (with_reducible exact HD.out _ hw2.below) | (with_reducible exact HD.out _ hwa.below) | (with_reducible exact HD.out _ hw1.below) | (with_reducible exact HD.out _ HC1.out.below) | go_keep)
    (first
      | (go_at_call 30; (with_reducible refine (HT.out _ _).mono ?_); rintro e w1 ⟨g1, rfl, hn1⟩; have hw1 : Ch (N + 1) W0 w1 := (by first | (with_reducible exact HC0.out.new hn1) | (with_reducible exact HC1.out.new hn1)); have hwa := hw1.alloc (.cells #[.int .u8 0, .int .u8 1] 5))
      | (go_at_call 31; (with_reducible refine (HF.out _ _).mono ?_); rintro e w2 ⟨g2, rfl, hn2⟩; have hw2 : Ch (N + 1) W0 w2 := (by first | (with_reducible exact hw1.new hn2) | (with_reducible exact hwa.new hn2)); have hw3 := hw2.alloc (.cells #[.int .u8 0, .int .u8 1] 5))
      | (go_at_call 29; (with_reducible refine (way_a hn1 hn2 (Nat.le_of_succ_le hw2.size)).mono ?_); rintro e w4 ⟨v4, rfl, h4, hb4⟩; have hw4 := hw2.under hb4)
      | (go_at_call 29; (with_reducible refine (way_b hn1 hn2 (Nat.le_of_succ_le hw2.size)).mono ?_); rintro e w4 ⟨v4, rfl, h4, hb4⟩; have hw4 := hw2.under hb4)
      | (go_at_call 29; (with_reducible refine (way_c hn1 hn2 (Nat.le_of_succ_le hw2.size)).mono ?_); rintro e w4 ⟨v4, rfl, h4, hb4⟩; have hw4 := hw2.under hb4))
  all_goals
    rw [← hp] at h4
    have H4 := Lib.hid (And.intro h4 hw4)
    clear h4 hw4 hb4 hn1 hn2 hw1 hw2 hwa hw3 hp
    go_wp2
    go_ret
    exact ⟨v4, rfl, H4.out.1, HG.out.2.1.trans (H4.out.2.below.mono (Nat.le_succ N))⟩
end Go.Proofs.Ytladojbppfmkpaa
