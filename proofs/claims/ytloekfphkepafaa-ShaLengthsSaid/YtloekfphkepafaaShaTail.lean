/- The last blocks of a message (tail). -/
import Derived.Test.YtloekfphkepafaaShaBytes
namespace Go.Proofs.Ytloekfphkepafaa
open Go.RowKit
set_option linter.unusedVariables false

theorem tail_cell {w : World} {g n room : Nat} {xs : List Int} (h : Whole w g 5 (arr .u8 (xs ++ List.replicate (room - n) 0))) (hx : xs.length = n) (hn : n < 64) (hr : 64 ≤ room) : ∃ y, w.cell? ⟨g, n, none⟩ = some (.int .u8 y) :=
  ⟨_, h.at_ (i := n) (by simp; omega)⟩

theorem tail_start {w : World} {g n room T : Nat} {xs : List Int} (h : Whole w g 5 (arr .u8 (xs ++ List.replicate (room - n) 0))) (hx : xs.length = n) (hr : n < room) :
    Whole (w.setCell ⟨g, n, none⟩ (.int .u8 128)) g 5 (arr .u8 (tlN room xs (T * 8) 0)) := by
  have := h.put n 128
  rw [tlN, hx]
  exact this

set_option maxHeartbeats 3200000 in
set_option maxRecDepth 100000 in
theorem tail_walk (A : Option Addr) (n cap T room : Nat) (xs : List Int) (B : Nat) (w : World) (h : Bs w B A n xs) (hB : B ≤ w.heap.size) (hroom : (room = 64 ∧ n + 9 ≤ 64) ∨ (room = 128 ∧ 64 < n + 9 ∧ n < 64)) (hT : T ≤ 1125899906842624) :
    Calls Try.prog 20 #[.slice A n cap, .int .u64 T] w fun e w' => e = .returned (.slice (some ⟨w.heap.size, 0, none⟩) room room) ∧ (∃ j, j ≤ 8 ∧ T * 8 / 256 ^ j = 0 ∧ Whole w' w.heap.size 5 (arr .u8 (tlN room xs (T * 8) j))) ∧ Below w.heap.size w w' := by
  have hmk := make_bytes room (by omega)
  have HB := Lib.hid h
  have hn64 : n < 64 := by omega
  obtain ⟨X, hX⟩ : ∃ X, arr .u8 (List.replicate room 0) = X := ⟨_, rfl⟩
  have HW : Hid (Whole (w.alloc (.cells X 5)) w.heap.size 5 X ∧ Below w.heap.size w (w.alloc (.cells X 5))) := Lib.hid ⟨Whole.new w _ _, (Below.refl _ w).alloc (Nat.le_refl _) _⟩
  rw [hX] at hmk
  have HX := Lib.hid hX
  clear h hX
  go_enter Try.func20, Try.ntmps20
  go_upto_if 13 with fail
  go_cut [5] from 14 (fun s5 wc => s5 = .int .i64 room ∧ w = wc)
  case first =>
    rcases hroom with ⟨rfl, h9⟩ | ⟨rfl, h9, _⟩
    · go_wp2
      all_goals go_meet
      all_goals first | exact ⟨rfl, rfl⟩ | (exfalso; omega)
    · go_wp2
      all_goals go_meet
      all_goals first | exact ⟨rfl, rfl⟩ | (exfalso; omega)
  case rest =>
    obtain ⟨rfl, rfl⟩ := hcut
    have HS : Hid (splice (List.replicate room 0) 0 (xs.take n) = xs ++ List.replicate (room - n) 0 ∧ n = Nat.min n room) := by
      apply Lib.hid
      have := HB.out.1
      refine ⟨?_, (Nat.min_eq_left (by omega)).symm⟩
      rw [List.take_of_length_le (by omega)]
      simp [splice, this]
    go_wp2_with (refine wpList_copy_arr rfl (.tmp 16) (.tmp 17) rfl rfl rfl (ys := List.replicate room 0) (xs := xs) (by rw [HX.out]; exact HW.out.1) (HB.out.below (HW.out.2.mono hB)) (by simp) HW.out.2 (Nat.le_refl _) HS.out.2 ?_; intro w1 H1 hb1; rw [HS.out.1] at H1; obtain ⟨y, hy⟩ := tail_cell H1.out HB.out.1 hn64 (by omega); have fy := Whole.frz H1.out n; have HB1 := Lib.hid hb1; clear hb1)
    have hn0 : 0 ≤ T := Nat.zero_le _
    have hw2 := tail_start (T := T) H1.out HB.out.1 (by omega)
    have H2 := Lib.hid (And.intro hw2 (HB1.out.setCell (p := ⟨w.heap.size, n, none⟩) (Nat.le_refl _) (.int .u8 128)))
    clear hw2 HB1 H1
    go_loopw [7, 8] (fun s7 s8 wr => ∃ j : Nat, j ≤ 8 ∧ s7 = .int .i64 ((room - 1 - j : Nat) : Int) ∧ s8 = .int .u64 ((T * 8 / 256 ^ j : Nat) : Int) ∧ Whole wr w.heap.size 5 (arr .u8 (tlN room xs (T * 8) j)) ∧ Below w.heap.size w wr) (fun _ s8 _ => (intOf s8).toNat)
    case atStart =>
      refine ⟨0, by omega, ?_, ?_, H2.out.1, H2.out.2⟩
      · go_num
      · go_num
    case round =>
      clear H2 fy hy
      obtain ⟨j, hj, rfl, rfl, h1, hb⟩ := hrel
      obtain ⟨N, hN⟩ : ∃ N, T * 8 / 256 ^ j = N := ⟨_, rfl⟩
      obtain ⟨i, hi⟩ : ∃ i, room - 1 - j = i := ⟨_, rfl⟩
      have hl := tlN_length room xs (T * 8) j (by have := HB.out.1; omega)
      by_cases h0 : N = 0
      · rw [hN, hi]
        subst h0
        have HN := Lib.hid (And.intro hN (And.intro h1 hb))
        clear hN h1 hb hi hl
        go_wp2
        go_ret
        obtain ⟨hN, h1, hb⟩ := HN.out
        exact ⟨rfl, ⟨j, hj, hN, h1⟩, hb⟩
      · have hj8 : j < 8 := by
          by_cases e : j = 8
          · subst e
            have : T * 8 / 256 ^ 8 = 0 := Nat.div_eq_of_lt (by omega)
            omega
          · omega
        have hN0 : (0 : Int) < (N : Int) := by omega
        have hi1 : (i : Int) < (room : Int) := by omega
        have hi0 : 1 ≤ i := by omega
        have hroom' : (room : Int) ≤ 128 := by omega
        have q := h1.at_ (i := i) (by rw [hl]; omega)
        obtain ⟨y, hy⟩ : ∃ y, (tlN room xs (T * 8) j).getD i 0 = y := ⟨_, rfl⟩
        rw [hy] at q
        have f := h1.frz i
        have hp := h1.put i ((T * 8 / 256 ^ j % 256 : Nat) : Int)
        have hnext : tlN room xs (T * 8) (j + 1) = (tlN room xs (T * 8) j).set i ((T * 8 / 256 ^ j % 256 : Nat) : Int) := by rw [tlN, hi]
        rw [← hnext, hN] at hp
        rw [hN, hi]
        have HN := Lib.hid (And.intro hp (And.intro hb (And.intro hN hi)))
        clear hp hnext hy hl h1 hb hN hi hroom
        go_wp2
        go_roundw
        case rel =>
          obtain ⟨hp, hb, hN, hi⟩ := HN.out
          refine ⟨j + 1, by omega, ?_, ?_, hp, hb.setCell (Nat.le_refl _) _⟩
          · have : ((room - 1 - (j + 1) : Nat) : Int) = (i : Int) - 1 := by omega
            rw [this]
          · rw [Nat.pow_succ, ← Nat.div_div_eq_div_mul, hN]
            rfl
        case measure => simp [intOf]; omega

end Go.Proofs.Ytloekfphkepafaa
