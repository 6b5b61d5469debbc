/- The law ShaLengths, walked. -/
import Derived.Test.YtloekfphkepafaaShaMacs
import Derived.Deep.RegionHeld3
namespace Go.Proofs.Ytloekfphkepafaa
open Go.RowKit
set_option linter.unusedVariables false

/-- The law's row of bytes, in block g. -/
structure LAt (w : World) (g N : Nat) (wr : World) : Prop where
  row : ∃ L : List Int, L.length = N ∧ (∀ i, 0 ≤ L.getD i 0 ∧ L.getD i 0 < 256) ∧ Whole wr g 5 (arr .u8 L)
  far : w.heap.size ≤ g
  below : Below w.heap.size w wr
theorem LAt.under {w : World} {g N : Nat} {wr w' : World} (h : LAt w g N wr) (hb : Below wr.heap.size wr w') : LAt w g N w' := by
  obtain ⟨L, h1, h2, h3⟩ := h.row
  exact ⟨⟨L, h1, h2, h3.under hb⟩, h.far, h.below.trans (hb.mono h.below.size)⟩
theorem LAt.put {w : World} {g N : Nat} {wr : World} (h : LAt w g N wr) (i : Nat) (x : Int) (hx : 0 ≤ x ∧ x < 256) : LAt w g N (wr.setCell ⟨g, i, none⟩ (.int .u8 x)) := by
  obtain ⟨L, h1, h2, h3⟩ := h.row
  refine ⟨⟨L.set i x, by simpa using h1, fun j => ?_, h3.put i x⟩, h.far, h.below.setCell h.far _⟩
  rw [getD_set]
  split
  · exact hx
  · exact h2 j
theorem LAt.cell {w : World} {g N : Nat} {wr : World} (h : LAt w g N wr) {i : Nat} (hi : i < N) : ∃ x, wr.cell? ⟨g, i, none⟩ = some (.int .u8 x) ∧ wr.frozen? ⟨g, i, none⟩ = false := by
  obtain ⟨L, h1, _, h3⟩ := h.row
  exact ⟨_, h3.at_ (by omega), h3.frz i⟩
theorem in8_head {w : World} {g : Nat} {L : List Int} {N : Nat} (h1 : L.length = N) (h2 : ∀ i, 0 ≤ L.getD i 0 ∧ L.getD i 0 < 256) (h3 : Whole w g 5 (arr .u8 L)) (hN : N ≤ 1000) {k : Nat} (hk : k ≤ N) : In8 w (some ⟨g, 0, none⟩) k N (L.take k) := by
  have hB := (Bs.row h3 0 (Nat.zero_le _)).more h3.lt
  rw [Nat.sub_zero, List.drop_zero] at hB
  refine ⟨hB.head (by omega), hk, by unfold maxLen; omega, (fun e => by cases e), fun i => ?_⟩
  by_cases hi : i < k
  · have e : (L.take k).getD i 0 = L.getD i 0 := by simp [List.getD, hi]
    rw [e]
    exact h2 i
  · rw [getD_out _ _ (by rw [List.length_take]; omega)]
    omega

/-- What the four calls of a round give. -/
structure Four (w : World) (g N k : Nat) (wr : World) (X Y : Array Value) : Prop where
  s : ∀ W, Below wr.heap.size wr W → Calls Try.prog 9 #[.slice (some ⟨g, 0, none⟩) k N] W fun e w' => e = .returned (.agg X) ∧ Below W.heap.size W w'
  r : ∀ W, Below wr.heap.size wr W → Calls Try.prog 10 #[.slice (some ⟨g, 0, none⟩) k N] W fun e w' => e = .returned (.agg X) ∧ Below W.heap.size W w'
  m : ∀ W, Below wr.heap.size wr W → Calls Try.prog 13 #[.slice (some ⟨g, 0, none⟩) k N, .slice (some ⟨g, 0, none⟩) N N] W fun e w' => e = .returned (.agg Y) ∧ Below W.heap.size W w'
  n : ∀ W, Below wr.heap.size wr W → Calls Try.prog 14 #[.slice (some ⟨g, 0, none⟩) k N, .slice (some ⟨g, 0, none⟩) N N] W fun e w' => e = .returned (.agg Y) ∧ Below W.heap.size W w'
  x : ∀ w, (Op.equalIn 10000 24 (.agg X) (.agg X)).run Try.prog w = .ok true w
  y : ∀ w, (Op.equalIn 10000 24 (.agg Y) (.agg Y)).run Try.prog w = .ok true w
theorem four {w : World} {g N : Nat} {wr : World} (h : LAt w g N wr) (hN : N ≤ 1000) {k : Nat} (hk : k ≤ N) : ∃ X Y, Four w g N k wr X Y := by
  obtain ⟨L, h1, h2, h3⟩ := h.row
  have ht : L.take N = L := List.take_of_length_le (by omega)
  have a : ∀ W, Below wr.heap.size wr W → In8 W (some ⟨g, 0, none⟩) k N (L.take k) := fun W hW => in8_head h1 h2 (h3.under hW) hN hk
  have b : ∀ W, Below wr.heap.size wr W → In8 W (some ⟨g, 0, none⟩) N N L := fun W hW => by
    have := in8_head h1 h2 (h3.under hW) hN (Nat.le_refl N)
    rwa [ht] at this
  exact ⟨_, _, ⟨fun W hW => sum_any _ k N (L.take k) W.heap.size W (a W hW).bytes (Nat.le_refl _) (a W hW).fits (a W hW).most (a W hW).in8 (by omega),
    fun W hW => rsum_any _ k N (L.take k) W (a W hW) (by omega),
    fun W hW => mac_walk _ _ k N N N (L.take k) L W.heap.size W (a W hW).bytes (b W hW).bytes (Nat.le_refl _) (a W hW).fits (a W hW).most (b W hW).fits (b W hW).most (a W hW).in8 (b W hW).in8 (by omega) (by omega),
    fun W hW => rmac_any _ _ k N N N (L.take k) L W (a W hW) (b W hW) (by omega) (by omega),
    same20 _ (sha_len _), same20 _ (mac_len _ _)⟩⟩

set_option maxHeartbeats 3200000 in
set_option maxRecDepth 100000 in
theorem lengths_walk (c : Int) (m : Nat) (hm : m ≤ 255) (w : World) :
    Calls Try.prog 5 #[.int .u8 c, .int .u8 (m : Int)] w fun e w' => e = .returned (.bool true) ∧ Below w.heap.size w w' := by
  have hmk : ∀ w : World, (Instr.makeSlice 22 (.int .i64 ((m : Int) + 20)) (.int .i64 ((m : Int) + 20))).run Try.prog w = .ok (.slice (some ⟨w.heap.size, 0, none⟩) (m + 20) (m + 20)) (w.alloc (.cells (arr .u8 (List.replicate (m + 20) 0)) 5)) := fun w => by
    have := make_bytes (m + 20) (by omega) w
    rwa [Int.natCast_add] at this
  have hgd := Try.guard24
  have hmi : (m : Int) ≤ 255 := by omega
  obtain ⟨X0, hX0⟩ : ∃ X0, arr .u8 (List.replicate (m + 20) 0) = X0 := ⟨_, rfl⟩
  rw [hX0] at hmk
  have HX := Lib.hid hX0
  clear hX0
  go_enter Try.func5, Try.ntmps5
  go_wp2_with (go_at_call 8; (with_reducible refine (awake_yes _).mono ?_); rintro e w1 ⟨rfl, hb1⟩)
  have hL0 : LAt w w1.heap.size (m + 20) (w1.alloc (.cells X0 5)) := by
    rw [← HX.out]
    exact ⟨⟨_, by simp, fun i => by rw [getD_zeros]; omega, Whole.new _ _ _⟩, hb1.size, hb1.alloc hb1.size _⟩
  obtain ⟨g, hg⟩ : ∃ g, w1.heap.size = g := ⟨_, rfl⟩
  obtain ⟨N, hN⟩ : ∃ N, m + 20 = N := ⟨_, rfl⟩
  have hNi : (m : Int) + 20 = (N : Int) := by omega
  rw [hg, hN] at hL0
  rw [hg, hN]
  try rw [hNi]
  have HL := Lib.hid hL0
  have HN := Lib.hid hN
  have hNb : N ≤ 275 := by omega
  have hmN : m ≤ N := by omega
  clear hL0 hb1 hg hN hNi HX hmk
  go_loopw [16] (fun s16 wr => ∃ i : Nat, i ≤ N ∧ s16 = .int .i64 i ∧ LAt w g N wr) (fun s16 _ => N - (intOf s16).toNat)
  case atStart => exact ⟨0, by omega, rfl, HL.out⟩
  case round =>
    clear HL
    obtain ⟨i, hi, rfl, hT⟩ := hrel
    by_cases hlt : i < N
    · obtain ⟨x, e1, f1⟩ := hT.cell hlt
      have hnew := fun y hy => hT.put i y hy
      have HT := Lib.hid hnew
      clear hT hnew
      go_wp2
      go_roundw
      case rel => exact ⟨i + 1, by omega, by go_num, HT.out _ (by omega)⟩
      case measure => simp [intOf]; omega
    · obtain rfl : i = N := by omega
      have HT := Lib.hid hT
      clear hT
      go_wp2_with fail
      go_loopw [7] (fun s7 wr => ∃ k : Nat, k ≤ i ∧ s7 = .int .i64 k ∧ LAt w g i wr) (fun s7 _ => i - (intOf s7).toNat)
      case atStart => exact ⟨m, hmN, rfl, HT.out⟩
      case round =>
        clear HT
        obtain ⟨k, hk, rfl, hT⟩ := hrel
        by_cases hki : k < i
        · obtain ⟨X, Y, hF⟩ := four hT (by omega) (Nat.le_of_lt hki)
          have ex := hF.x
          have ey := hF.y
          have HF := Lib.hid hF
          have HT := Lib.hid hT
          have b0 : (0 : Int) ≤ (k : Int) := by omega
          have b1 : (k : Int) ≤ (i : Int) := by omega
          have hb0 : Below wr.heap.size wr wr.drew := (Below.refl _ _).drew
          clear hF hT
          go_upto_region 12 with fail
          go_region_held3 (fun _ => True) (trivial) (first
            | (go_at_call 9; (with_reducible refine (HF.out.s _ hb0).mono ?_); rintro e w1 ⟨rfl, hb1⟩; have hc1 := hb0.trans (hb1.mono hb0.size))
            | (go_at_call 10; (with_reducible refine (HF.out.r _ hc1).mono ?_); rintro e w2 ⟨rfl, hb2⟩; have hc2 := hc1.trans (hb2.mono hc1.size))
            | (go_at_call 13; (with_reducible refine (HF.out.m _ hc2).mono ?_); rintro e w3 ⟨rfl, hb3⟩; have hc3 := hc2.trans (hb3.mono hc2.size))
            | (go_at_call 14; (with_reducible refine (HF.out.n _ hc3).mono ?_); rintro e w4 ⟨rfl, hb4⟩; have hc4 := hc3.trans (hb4.mono hc3.size)))
          go_wp2_with fail
          go_roundw
          case rel => exact ⟨k + 1, by omega, by go_num, HT.out.under hc4⟩
          case measure => simp [intOf]; omega
        · have HT := Lib.hid hT
          clear hT
          have hki' : (i : Int) ≤ (k : Int) := by omega
          go_wp2
          go_ret
          exact ⟨rfl, HT.out.below⟩

theorem lengths_any (c n : Int) (h : 0 ≤ n ∧ n ≤ 255) (w : World) :
    Calls Try.prog 5 #[.int .u8 c, .int .u8 n] w fun e w' => e = .returned (.bool true) ∧ Below w.heap.size w w' := by
  have := lengths_walk c n.toNat (by omega) w
  rwa [Int.toNat_of_nonneg h.1] at this

end Go.Proofs.Ytloekfphkepafaa
