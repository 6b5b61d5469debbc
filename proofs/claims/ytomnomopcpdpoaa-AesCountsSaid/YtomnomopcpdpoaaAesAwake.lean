/- What the laws ask first, walked. -/
import Derived.Test.YtomnomopcpdpoaaAesBlk
import Derived.Test.YtomnomopcpdpoaaAesAwakeA
namespace Go.Proofs.Ytomnomopcpdpoaa
open Go.RowKit
set_option linter.unusedVariables false

theorem key0_int (k : Nat) (hk : k < 16) : nb (key0 k) = (k : Int) := by
  unfold nb key0
  rw [BitVec.toNat_ofNat]
  omega
theorem in0_int (k : Nat) (hk : k < 16) : nb (in0 k) = 17 * (k : Int) := by
  unfold nb in0
  rw [BitVec.toNat_ofNat]
  omega

set_option maxHeartbeats 3200000 in
set_option maxRecDepth 100000 in
theorem awake_any (w : World) : Calls Try.prog 7 #[] w fun e w' => e = .returned (.bool true) ∧ Below w.heap.size w w' := by
  have HBK : Hid (∀ W, Calls Try.prog 8 #[.agg (arr .u8 (fl 16 key0)), .agg (arr .u8 (fl 16 in0))] W fun e w' => e = .returned (.agg (arr .u8 (fl 16 (st (ks key0) in0 10)))) ∧ Below W.heap.size W w') := Lib.hid fun W => block_any key0 in0 W
  have hz := Try.zero22
  generalize hzl : arr .u8 (fl 16 zB) = Z at *
  have HZ := Lib.hid hzl
  clear hzl
  go_enter Try.func7, Try.ntmps7
  go_wp2
  have h1 : Whole ((w.alloc (Obj.cells Z 22)).alloc (Obj.cells Z 22)) w.heap.size 22 (arr .u8 (fl 16 (kT key0 0))) := by
    rw [← kT_zero, HZ.out]
    exact (Whole.new _ _ _).alloc _
  have h2 : Whole ((w.alloc (Obj.cells Z 22)).alloc (Obj.cells Z 22)) (w.heap.size + 1) 22 (arr .u8 (fl 16 (kT in0 0))) := by
    rw [← kT_zero, HZ.out]
    exact Whole.new2 _ _ _ _
  have hb0 : Below w.heap.size w ((w.alloc (Obj.cells Z 22)).alloc (Obj.cells Z 22)) := two_new _ _ _ _
  obtain ⟨N, hN⟩ : ∃ N, w.heap.size = N := ⟨_, rfl⟩
  obtain ⟨g2, hg2⟩ : ∃ g, N + 1 = g := ⟨_, rfl⟩
  have HN := Lib.hid hN
  rw [hN] at h1 h2 hb0 ⊢
  rw [hg2] at h2 ⊢
  have l2 : N < g2 := by omega
  have HI := Lib.hid (And.intro h1 (And.intro h2 hb0))
  clear h1 h2 hb0 hN hg2
  go_loopw [5] (fun s5 wr => ∃ k : Nat, k ≤ 16 ∧ s5 = .int .i64 k ∧ Whole wr N 22 (arr .u8 (fl 16 (kT key0 k))) ∧ Whole wr g2 22 (arr .u8 (fl 16 (kT in0 k))) ∧ Below N w wr) (fun s5 _ => 16 - (intOf s5).toNat)
  case atStart => exact ⟨0, by omega, rfl, HI.out⟩
  case round =>
    clear HI
    obtain ⟨k, hk, rfl, h1, h2, hb⟩ := hrel
    by_cases hlt : k < 16
    · have c1 := h1.atf (i := k) hlt
      have c2 := h2.atf (i := k) hlt
      have f1 := h1.frz k
      have f2 := h2.frz k
      have p1 := h1.putf k (key0 k)
      have p2 := h2.putf k (in0 k)
      rw [kT_up] at p1 p2
      have v1 := key0_int k hlt
      have v2 := in0_int k hlt
      rw [v1] at p1
      rw [v2] at p2
      generalize nb (kT key0 k k) = u1 at *
      generalize nb (kT in0 k k) = u2 at *
      have b1 : (k : Int) < 16 := by omega
      have e1 : (17 * (k : Int)) % 256 = 17 * (k : Int) := by omega
      have H := Lib.hid (And.intro p1 (And.intro p2 (And.intro hb (And.intro h1 h2))))
      clear h1 h2 p1 p2 hb v1 v2
      go_wp2
      go_roundw
      case rel =>
        obtain ⟨q1, q2, q3, q4, q5⟩ := H.out
        refine ⟨k + 1, by omega, by go_num, q1.far (by simp; omega) _, ?_, (q3.setCell (by simp) _).setCell (by simp; omega) _⟩
        have := (q5.far (p := ⟨N, k, none⟩) (by simp; omega) (.int .u8 (k : Int))).putf k (in0 k)
        rw [kT_up, in0_int k hlt] at this
        exact this
      case measure => simp [intOf]; omega
    · obtain rfl : k = 16 := by omega
      rw [show ((16 : Nat) : Int) = 16 from rfl]
      rw [kT_all] at h1 h2
      have H := Lib.hid (And.intro h1 (And.intro h2 hb))
      have HZn : Hid (Z.size = 16) := Lib.hid (by rw [← HZ.out]; simp)
      clear h1 h2 hb
      go_upto_region 8 with (first
        | (refine wpList_load_whole rfl 22 (.tmp 1) rfl rfl H.out.1 Try.underlying22 Try.info22 (by simp) ?_)
        | (refine wpList_load_whole rfl 22 (.tmp 2) rfl rfl H.out.2.1 Try.underlying22 Try.info22 (by simp) ?_)
        | (go_at_call 8; (with_reducible refine (HBK.out _).mono ?_); rintro e w1 ⟨rfl, hb1⟩)
        | (refine wpList_store_whole rfl 22 (.tmp 4) (.tmp 20) rfl rfl rfl (Whole.new w1 22 Z) Try.info22 (by simp) HZn.out (arr_one _ _) ?_))
      have d1 := (Whole.new w1 22 Z).row (arr .u8 (fl 16 (st (ks key0) in0 10)))
      have hNw : N ≤ wr.heap.size := by have := H.out.1.lt; omega
      have d2 := below_row ((H.out.2.2.trans (hb1.mono hNw)).alloc (Nat.le_trans hNw hb1.size) (Obj.cells Z 22)) (Nat.le_trans hNw hb1.size) (arr .u8 (fl 16 (st (ks key0) in0 10)))
      generalize (w1.alloc (Obj.cells Z 22)).setRow w1.heap.size (arr .u8 (fl 16 (st (ks key0) in0 10))) = W2 at *
      generalize w1.heap.size = g4 at *
      have t0 := d1.atf (i := 0) (by omega)
      have t1 := d1.atf (i := 1) (by omega)
      have t15 := d1.atf (i := 15) (by omega)
      rw [awake_0] at t0
      rw [awake_1] at t1
      rw [awake_15] at t15
      have HD := Lib.hid d2
      clear d1 d2
      go_wp2
      go_ret
      refine ⟨rfl, ?_⟩
      rw [HN.out]
      exact HD.out
end Go.Proofs.Ytomnomopcpdpoaa
