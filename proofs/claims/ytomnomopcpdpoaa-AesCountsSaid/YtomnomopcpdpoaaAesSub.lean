/- S of a byte, the program's (spread) and the document's (times, sub). -/
import Derived.Test.YtomnomopcpdpoaaAesLeaf
namespace Go.Proofs.Ytomnomopcpdpoaa
open Go.RowKit
set_option linter.unusedVariables false

def spreadN (c : B) : Nat → B
  | 0 => c ^^^ 99#8
  | k + 1 => spreadN c k ^^^ c.rotateLeft (k + 1)

set_option maxHeartbeats 400000 in
theorem spread_any (c : B) (w : World) : Calls Try.prog 29 #[.int .u8 (nb c)] w fun e w' => e = .returned (.int .u8 (nb (spreadB c))) ∧ w = w' := by
  have hx : bits .xor .u8 (nb c) 99 = nb (spreadN c 0) := bxor8 c 99#8
  go_enter Try.func29, Try.ntmps29
  go_wp2
  clear hx
  go_loop [3, 4] (fun s3 s4 => ∃ k : Nat, k ≤ 4 ∧ s4 = .int .i64 ((k + 1 : Nat) : Int) ∧ s3 = .int .u8 (nb (spreadN c k))) (fun _ s4 => 5 - (intOf s4).toNat)
  case atStart => exact ⟨0, by omega, rfl, rfl⟩
  case round =>
    obtain ⟨k, hk, rfl, rfl⟩ := hrel
    by_cases hlt : k < 4
    · have hx := bxor8 (spreadN c k) (c.rotateLeft (k + 1))
      have hr := fun w => rot8_any c (k + 1) (by omega) w
      have HX := Lib.hid (And.intro hx hr)
      obtain ⟨j, hj⟩ : ∃ j, k + 1 = j := ⟨_, rfl⟩
      rw [hj] at HX ⊢
      have hj4 : (j : Int) ≤ 4 := by omega
      have hj0 : 0 ≤ (j : Int) := by omega
      have HJ := Lib.hid hj
      clear hx hr hj
      go_wp2_with (go_at_call 30; (with_reducible refine (HX.out.2 _).mono ?_); rintro e w' ⟨rfl, rfl⟩)
      go_round
      case rel =>
        obtain rfl := HJ.out
        exact ⟨k + 1, by omega, by go_num, by rw [HX.out.1]; rfl⟩
      case measure => have := HJ.out; simp [intOf]; omega
    · obtain rfl : k = 4 := by omega
      rw [show ((4 + 1 : Nat) : Int) = 5 from rfl]
      go_wp2
      go_ret
      exact ⟨rfl, rfl⟩

set_option maxHeartbeats 400000 in
theorem times_any (a b : B) (w : World) : Calls Try.prog 28 #[.int .u8 (nb a), .int .u8 (nb b)] w fun e w' => e = .returned (.int .u8 (nb (mulB a b))) ∧ w = w' := by
  go_enter Try.func28, Try.ntmps28
  go_wp2
  go_loop [0, 1, 5, 7] (fun s0 s1 s5 s7 => ∃ (k : Nat) (x y p : B), k ≤ 8 ∧ s7 = .int .i64 k ∧ s0 = .int .u8 (nb x) ∧ s1 = .int .u8 (nb y) ∧ s5 = .int .u8 (nb p) ∧ mulF (8 - k) p x y = mulB a b) (fun _ _ _ s7 => 8 - (intOf s7).toNat)
  case atStart => exact ⟨0, a, b, 0#8, by omega, rfl, rfl, rfl, rfl, rfl⟩
  case round =>
    obtain ⟨k, x, y, p, hk, rfl, rfl, rfl, rfl, hm⟩ := hrel
    by_cases hlt : k < 8
    · have t1 := tw_int x
      have t2 := shr1_int y
      have t3 : bits .and .u8 (nb y) 1 = nb (y &&& 1#8) := band8 y 1#8
      have t4 := bxor8 p x
      have hn : mulF (8 - (k + 1)) (if y &&& 1#8 = 1#8 then p ^^^ x else p) (tw x) (y >>> 1) = mulB a b := by
        rw [show 8 - k = (8 - (k + 1)) + 1 by omega] at hm
        exact hm
      obtain ⟨x0, x1⟩ := nb_in x
      obtain ⟨y0, y1⟩ := nb_in y
      by_cases hb : y &&& 1#8 = 1#8
      · rw [if_pos hb] at hn
        rw [hb] at t3
        have t5 : (bits .and .u8 (nb y) 1 == 1) = true := by rw [t3]; rfl
        obtain ⟨x', hx'⟩ : ∃ x', nb x = x' := ⟨_, rfl⟩
        obtain ⟨y', hy'⟩ : ∃ y', nb y = y' := ⟨_, rfl⟩
        obtain ⟨p', hp'⟩ : ∃ p', nb p = p' := ⟨_, rfl⟩
        simp only [hx', hy', hp'] at *
        have H := Lib.hid (And.intro t1 (And.intro t2 (And.intro t4 hn)))
        clear t1 t2 t3 t4 hn hm hx' hy' hp'
        go_wp2
        go_round
        case rel =>
          obtain ⟨g1, g2, g4, gn⟩ := H.out
          exact ⟨k + 1, tw x, y >>> 1, p ^^^ x, by omega, by go_num, by rw [g1], by rw [g2], by rw [g4], gn⟩
        case measure => simp [intOf]; omega
      · rw [if_neg hb] at hn
        have t5 : (bits .and .u8 (nb y) 1 == 1) = false := by
          rw [t3]
          have : nb (y &&& 1#8) ≠ nb 1#8 := fun e => hb (nb_inj e)
          exact beq_false_of_ne this
        obtain ⟨x', hx'⟩ : ∃ x', nb x = x' := ⟨_, rfl⟩
        obtain ⟨y', hy'⟩ : ∃ y', nb y = y' := ⟨_, rfl⟩
        simp only [hx', hy'] at *
        have H := Lib.hid (And.intro t1 (And.intro t2 hn))
        clear t1 t2 t3 t4 hn hm hx' hy'
        go_wp2
        go_round
        case rel =>
          obtain ⟨g1, g2, gn⟩ := H.out
          exact ⟨k + 1, tw x, y >>> 1, p, by omega, by go_num, by rw [g1], by rw [g2], rfl, gn⟩
        case measure => simp [intOf]; omega
    · obtain rfl : k = 8 := by omega
      rw [show ((8 : Nat) : Int) = 8 from rfl]
      rw [show (8 - 8 : Nat) = 0 from rfl] at hm
      have H := Lib.hid hm
      clear hm
      go_wp2
      go_ret
      exact ⟨ret_i (congrArg nb H.out), rfl⟩

/-- One bit more of S. -/
theorem outS_step (c : B) (i : Nat) : outS c (i + 1) = outS c i ||| ((bitS c i &&& 1#8) <<< i) := rfl

theorem fin_bit {f : B → Int} {k : Nat} {c o : B} (h : (List.range 256).all (fun j => decide (f (BitVec.ofNat 8 j) = nb ((bitS (BitVec.ofNat 8 j) k &&& 1#8) <<< k))) = true) (ho : outS c k = o) :
    Value.int .u8 (bits .or .u8 (nb o) (f c)) = .int .u8 (nb (outS c (k + 1))) := by
  rw [outS_step, ho, ← bor8, all_I (f := f) (g := fun c => nb ((bitS c k &&& 1#8) <<< k)) h c]

def F0 (c : B) : Int := bits .and .u8 (bits .xor .u8 (bits .xor .u8 (bits .xor .u8 (bits .xor .u8 (bits .xor .u8 (nb c) (nb c / (16 : Int))) (nb c / (32 : Int))) (nb c / (64 : Int))) (nb c / (128 : Int))) (99 : Int)) (1 : Int) % (256 : Int)
theorem F0_check : (List.range 256).all (fun j => decide (F0 (BitVec.ofNat 8 j) = nb ((bitS (BitVec.ofNat 8 j) 0 &&& 1#8) <<< 0))) = true := by decide +kernel
def F1 (c : B) : Int := bits .and .u8 (bits .xor .u8 (bits .xor .u8 (bits .xor .u8 (bits .xor .u8 (bits .xor .u8 (nb c / (2 : Int)) (nb c / (32 : Int))) (nb c / (64 : Int))) (nb c / (128 : Int))) (nb c)) (49 : Int)) (1 : Int) * (2 : Int) % (256 : Int)
theorem F1_check : (List.range 256).all (fun j => decide (F1 (BitVec.ofNat 8 j) = nb ((bitS (BitVec.ofNat 8 j) 1 &&& 1#8) <<< 1))) = true := by decide +kernel
def F2 (c : B) : Int := bits .and .u8 (bits .xor .u8 (bits .xor .u8 (bits .xor .u8 (bits .xor .u8 (bits .xor .u8 (nb c / (4 : Int)) (nb c / (64 : Int))) (nb c / (128 : Int))) (nb c)) (nb c / (2 : Int))) (24 : Int)) (1 : Int) * (4 : Int) % (256 : Int)
theorem F2_check : (List.range 256).all (fun j => decide (F2 (BitVec.ofNat 8 j) = nb ((bitS (BitVec.ofNat 8 j) 2 &&& 1#8) <<< 2))) = true := by decide +kernel
def F3 (c : B) : Int := bits .and .u8 (bits .xor .u8 (bits .xor .u8 (bits .xor .u8 (bits .xor .u8 (bits .xor .u8 (nb c / (8 : Int)) (nb c / (128 : Int))) (nb c)) (nb c / (2 : Int))) (nb c / (4 : Int))) (12 : Int)) (1 : Int) * (8 : Int) % (256 : Int)
theorem F3_check : (List.range 256).all (fun j => decide (F3 (BitVec.ofNat 8 j) = nb ((bitS (BitVec.ofNat 8 j) 3 &&& 1#8) <<< 3))) = true := by decide +kernel
def F4 (c : B) : Int := bits .and .u8 (bits .xor .u8 (bits .xor .u8 (bits .xor .u8 (bits .xor .u8 (bits .xor .u8 (nb c / (16 : Int)) (nb c)) (nb c / (2 : Int))) (nb c / (4 : Int))) (nb c / (8 : Int))) (6 : Int)) (1 : Int) * (16 : Int) % (256 : Int)
theorem F4_check : (List.range 256).all (fun j => decide (F4 (BitVec.ofNat 8 j) = nb ((bitS (BitVec.ofNat 8 j) 4 &&& 1#8) <<< 4))) = true := by decide +kernel
def F5 (c : B) : Int := bits .and .u8 (bits .xor .u8 (bits .xor .u8 (bits .xor .u8 (bits .xor .u8 (bits .xor .u8 (nb c / (32 : Int)) (nb c / (2 : Int))) (nb c / (4 : Int))) (nb c / (8 : Int))) (nb c / (16 : Int))) (3 : Int)) (1 : Int) * (32 : Int) % (256 : Int)
theorem F5_check : (List.range 256).all (fun j => decide (F5 (BitVec.ofNat 8 j) = nb ((bitS (BitVec.ofNat 8 j) 5 &&& 1#8) <<< 5))) = true := by decide +kernel
def F6 (c : B) : Int := bits .and .u8 (bits .xor .u8 (bits .xor .u8 (bits .xor .u8 (bits .xor .u8 (bits .xor .u8 (nb c / (64 : Int)) (nb c / (4 : Int))) (nb c / (8 : Int))) (nb c / (16 : Int))) (nb c / (32 : Int))) (1 : Int)) (1 : Int) * (64 : Int) % (256 : Int)
theorem F6_check : (List.range 256).all (fun j => decide (F6 (BitVec.ofNat 8 j) = nb ((bitS (BitVec.ofNat 8 j) 6 &&& 1#8) <<< 6))) = true := by decide +kernel
def F7 (c : B) : Int := bits .and .u8 (bits .xor .u8 (bits .xor .u8 (bits .xor .u8 (bits .xor .u8 (bits .xor .u8 (nb c / (128 : Int)) (nb c / (8 : Int))) (nb c / (16 : Int))) (nb c / (32 : Int))) (nb c / (64 : Int))) (0 : Int)) (1 : Int) * (128 : Int) % (256 : Int)
theorem F7_check : (List.range 256).all (fun j => decide (F7 (BitVec.ofNat 8 j) = nb ((bitS (BitVec.ofNat 8 j) 7 &&& 1#8) <<< 7))) = true := by decide +kernel

set_option maxHeartbeats 1600000 in
set_option maxRecDepth 100000 in
theorem sub_any (b : B) (w : World) : Calls Try.prog 27 #[.int .u8 (nb b)] w fun e w' => e = .returned (.int .u8 (nb (subB b))) ∧ w = w' := by
  go_enter Try.func27, Try.ntmps27
  go_wp2
  go_loop [3, 4, 5] (fun s3 s4 s5 => ∃ (k : Nat) (c x : B), k ≤ 7 ∧ s5 = .int .i64 ((k + 1 : Nat) : Int) ∧ s3 = .int .u8 (nb c) ∧ s4 = .int .u8 (nb x) ∧ powF (7 - k) c x = powF 7 1#8 b) (fun _ _ s5 => 8 - (intOf s5).toNat)
  case atStart => exact ⟨0, 1#8, b, by omega, rfl, rfl, rfl, rfl⟩
  case round =>
    obtain ⟨k, c, x, hk, rfl, rfl, rfl, hm⟩ := hrel
    by_cases hlt : k < 7
    · have hn : powF (7 - (k + 1)) (mulB c (mulB x x)) (mulB x x) = powF 7 1#8 b := by
        rw [show 7 - k = (7 - (k + 1)) + 1 by omega] at hm
        exact hm
      have H := Lib.hid hn
      obtain ⟨j, hj⟩ : ∃ j, k + 1 = j := ⟨_, rfl⟩
      rw [hj]
      have hj4 : (j : Int) < 8 := by omega
      have hj0 : 0 ≤ (j : Int) := by omega
      have HJ := Lib.hid hj
      clear hn hm hj
      go_wp2_with (go_at_call 28; (with_reducible refine (times_any _ _ _).mono ?_); rintro e w' ⟨rfl, rfl⟩)
      go_round
      case rel =>
        obtain rfl := HJ.out
        exact ⟨k + 1, _, _, by omega, by go_num, rfl, rfl, H.out⟩
      case measure => have := HJ.out; simp [intOf]; omega
    · obtain rfl : k = 7 := by omega
      rw [show ((7 + 1 : Nat) : Int) = 8 from rfl]
      rw [show (7 - 7 : Nat) = 0 from rfl] at hm
      have hc : c = powF 7 1#8 b := hm
      have HC := Lib.hid hc
      clear hm hc
      obtain ⟨c0, c1⟩ := nb_in c
      go_wp2
      go_loop [6, 8, 20] (fun s6 s8 s20 => ∃ k : Nat, k ≤ 8 ∧ s20 = .int .i64 k ∧ s6 = .int .u8 (nb (outS c k))) (fun _ _ s20 => 8 - (intOf s20).toNat)
      case atStart => exact ⟨0, by omega, rfl, rfl⟩
      case round =>
        obtain ⟨k, hk, rfl, rfl⟩ := hrel
        by_cases hlt : k < 8
        · obtain ⟨o0, o1⟩ := nb_in (outS c k)
          have ho : ∃ o, outS c k = o := ⟨_, rfl⟩
          obtain ⟨o, ho⟩ := ho
          rw [ho] at o0 o1 ⊢
          have HO := Lib.hid ho
          clear ho
          rcases (show k = 0 ∨ k = 1 ∨ k = 2 ∨ k = 3 ∨ k = 4 ∨ k = 5 ∨ k = 6 ∨ k = 7 by omega) with rfl | rfl | rfl | rfl | rfl | rfl | rfl | rfl
          · rw [show ((0 : Nat) : Int) = 0 from rfl]
            go_wp2
            go_round
            case rel => exact ⟨1, by omega, rfl, fin_bit (f := F0) (c := c) (k := 0) F0_check HO.out⟩
            case measure => simp [intOf]
          · rw [show ((1 : Nat) : Int) = 1 from rfl]
            go_wp2
            go_round
            case rel => exact ⟨2, by omega, rfl, fin_bit (f := F1) (c := c) (k := 1) F1_check HO.out⟩
            case measure => simp [intOf]
          · rw [show ((2 : Nat) : Int) = 2 from rfl]
            go_wp2
            go_round
            case rel => exact ⟨3, by omega, rfl, fin_bit (f := F2) (c := c) (k := 2) F2_check HO.out⟩
            case measure => simp [intOf]
          · rw [show ((3 : Nat) : Int) = 3 from rfl]
            go_wp2
            go_round
            case rel => exact ⟨4, by omega, rfl, fin_bit (f := F3) (c := c) (k := 3) F3_check HO.out⟩
            case measure => simp [intOf]
          · rw [show ((4 : Nat) : Int) = 4 from rfl]
            go_wp2
            go_round
            case rel => exact ⟨5, by omega, rfl, fin_bit (f := F4) (c := c) (k := 4) F4_check HO.out⟩
            case measure => simp [intOf]
          · rw [show ((5 : Nat) : Int) = 5 from rfl]
            go_wp2
            go_round
            case rel => exact ⟨6, by omega, rfl, fin_bit (f := F5) (c := c) (k := 5) F5_check HO.out⟩
            case measure => simp [intOf]
          · rw [show ((6 : Nat) : Int) = 6 from rfl]
            go_wp2
            go_round
            case rel => exact ⟨7, by omega, rfl, fin_bit (f := F6) (c := c) (k := 6) F6_check HO.out⟩
            case measure => simp [intOf]
          · rw [show ((7 : Nat) : Int) = 7 from rfl]
            go_wp2
            go_round
            case rel => exact ⟨8, by omega, rfl, fin_bit (f := F7) (c := c) (k := 7) F7_check HO.out⟩
            case measure => simp [intOf]
        · obtain rfl : k = 8 := by omega
          rw [show ((8 : Nat) : Int) = 8 from rfl]
          go_wp2
          go_ret
          exact ⟨ret_i (by rw [HC.out]; rfl), rfl⟩
end Go.Proofs.Ytomnomopcpdpoaa
