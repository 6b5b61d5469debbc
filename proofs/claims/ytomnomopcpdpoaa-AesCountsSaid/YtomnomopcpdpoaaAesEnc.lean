/- The program's block, under a cipher. -/
import Derived.Test.YtomnomopcpdpoaaAesAdd
namespace Go.Proofs.Ytomnomopcpdpoaa
open Go.RowKit
set_option linter.unusedVariables false

theorem st_zero (K f : Nat → B) : cw (addK K 0 f) = cw (st K f 0) := by
  have : ∀ i, addK K 0 f i = st K f 0 i := fun i => by unfold addK; rw [show 16 * 0 + i = i by omega]; rfl
  unfold cw ncf
  simp only [this]
theorem st_next (K s : Nat → B) (n : Nat) (hn : n + 1 < 10) : cw (addK K (n + 1) (mx (ss (st K s n)))) = cw (st K s (n + 1)) := by
  have : ∀ i, st K s (n + 1) i = addK K (n + 1) (mx (ss (st K s n))) i := fun i => by
    show rd K (n + 1) (st K s n) i = _
    unfold rd addK
    rw [if_pos hn]
  unfold cw ncf
  simp only [this]
theorem st_last (K s : Nat → B) : cw (addK K 10 (ss (st K s 9))) = cw (st K s 10) := by
  have : ∀ i, st K s 10 i = addK K 10 (ss (st K s 9)) i := fun i => by
    show rd K 10 (st K s 9) i = _
    unfold rd addK
    rw [if_neg (by omega)]
  unfold cw ncf
  simp only [this]
theorem ncf_mx (f : Nat → B) (c : Nat) : ncf (mx f) c = nc (m4 (f (4 * c)) (f (4 * c + 1)) (f (4 * c + 2)) (f (4 * c + 3))) (m4 (f (4 * c + 1)) (f (4 * c + 2)) (f (4 * c + 3)) (f (4 * c))) (m4 (f (4 * c + 2)) (f (4 * c + 3)) (f (4 * c)) (f (4 * c + 1))) (m4 (f (4 * c + 3)) (f (4 * c)) (f (4 * c + 1)) (f (4 * c + 2))) := by
  have e0 := mx_at f c 0 (by omega)
  have e1 := mx_at f c 1 (by omega)
  have e2 := mx_at f c 2 (by omega)
  have e3 := mx_at f c 3 (by omega)
  unfold ncf
  rw [show mx f (4 * c) = _ from e0, e1, e2, e3]
  rfl
theorem mixedA_ncf (f : Nat → B) (c : Nat) (w : World) : Calls Try.prog 25 #[.int .u32 (ncf f c)] w fun e w' => e = .returned (.int .u32 (ncf (mx f) c)) ∧ w = w' := by
  rw [ncf_mx]
  exact mixedA_any _ _ _ _ w

set_option maxHeartbeats 3200000 in
set_option maxRecDepth 100000 in
theorem encrypt_any (K : Nat → B) (gc : Nat) (s : Nat → B) (w : World) (hC : Whole w gc 45 (ciph K)) :
    Calls Try.prog 13 #[.pointer (some ⟨gc, 0, none⟩), .agg (arr .u8 (fl 16 s))] w fun e w' => e = .returned (.agg (arr .u8 (fl 16 (st K s 10)))) ∧ Below w.heap.size w w' := by
  have hgc := hC.lt
  have HADD : Hid (∀ W, Below w.heap.size w W → ∀ (n : Nat), n ≤ 10 → ∀ f, Calls Try.prog 23 #[.pointer (some ⟨gc, 0, none⟩), .agg (arr .u32 (cw f)), .int .i64 n] W fun e w' => e = .returned (.agg (arr .u32 (cw (addK K n f)))) ∧ Below W.heap.size W w') :=
    Lib.hid fun W hW n hn f => added_any K gc f n hn W (hC.below hW hgc)
  have HTURN : Hid (∀ W, Below w.heap.size w W → ∀ f, Calls Try.prog 24 #[.pointer (some ⟨gc, 0, none⟩), .agg (arr .u32 (cw f))] W fun e w' => e = .returned (.agg (arr .u32 (cw (ss f)))) ∧ Below W.heap.size W w') :=
    Lib.hid fun W hW f => turned_any K gc f W (hC.below hW hgc)
  have HCOL : Hid (∀ W, Calls Try.prog 19 #[.agg (arr .u8 (fl 16 s))] W fun e w' => e = .returned (.agg (arr .u32 (cw s))) ∧ Below W.heap.size W w') := Lib.hid fun W => columns_any s W
  clear hC
  have hz := Try.zero22
  have hz4 := Try.zero47
  generalize hka : arr .u8 (fl 16 s) = ka at *
  have HKA := Lib.hid hka
  clear hka
  generalize hzl : arr .u8 (fl 16 zB) = Z at *
  have HZ := Lib.hid hzl
  clear hzl
  generalize hzl : arr .u32 [0, 0, 0, 0] = Y at *
  have HY := Lib.hid hzl
  clear hzl
  have HK16 : Hid (ka.size = 16) := Lib.hid (by rw [← HKA.out]; simp)
  have HZ16 : Hid (Z.size = 16) := Lib.hid (by rw [← HZ.out]; simp)
  have HY4 : Hid (Y.size = 4) := Lib.hid (by rw [← HY.out]; simp)
  obtain ⟨N, hN⟩ : ∃ N, w.heap.size = N := ⟨_, rfl⟩
  have HN := Lib.hid hN
  rw [hN] at HADD HTURN
  have HADD0 : Hid (∀ W, Below N w W → ∀ f, Calls Try.prog 23 #[.pointer (some ⟨gc, 0, none⟩), .agg (arr .u32 (cw f)), .int .i64 0] W fun e w' => e = .returned (.agg (arr .u32 (cw (addK K 0 f)))) ∧ Below W.heap.size W w') :=
    Lib.hid fun W hW f => HADD.out W hW 0 (by omega) f
  have HADD10 : Hid (∀ W, Below N w W → ∀ f, Calls Try.prog 23 #[.pointer (some ⟨gc, 0, none⟩), .agg (arr .u32 (cw f)), .int .i64 10] W fun e w' => e = .returned (.agg (arr .u32 (cw (addK K 10 f)))) ∧ Below W.heap.size W w') :=
    Lib.hid fun W hW f => HADD.out W hW 10 (by omega) f
  clear hN
  go_enter Try.func13, Try.ntmps13
  go_upto_region 1 with fail
  rw [HN.out]
  have h0 : Whole ((w.alloc (Obj.cells ka 22)).alloc (Obj.cells Z 22)) N 22 ka := by rw [← HN.out]; exact (Whole.new _ _ _).alloc _
  have h1 : Whole ((w.alloc (Obj.cells ka 22)).alloc (Obj.cells Z 22)) (N + 1) 22 Z := by rw [← HN.out]; exact Whole.new2 _ _ _ _
  have hb0 : Below N w ((w.alloc (Obj.cells ka 22)).alloc (Obj.cells Z 22)) := by rw [← HN.out]; exact two_new _ _ _ _
  obtain ⟨g4, hg4⟩ : ∃ g, N + 1 = g := ⟨_, rfl⟩
  rw [hg4] at h1 ⊢
  have l4 : N < g4 := by omega
  have hs0 : N + 2 = ((w.alloc (Obj.cells ka 22)).alloc (Obj.cells Z 22)).heap.size := by rw [← HN.out]; simp
  generalize (w.alloc (Obj.cells ka 22)).alloc (Obj.cells Z 22) = W0 at *
  have hs1 : N ≤ W0.heap.size := by omega
  have HJ := Lib.hid (And.intro h0 (And.intro h1 hb0))
  clear h0 h1 hb0 hg4 hs0
  go_upto_region 2 with (first
    | (refine wpList_load_whole rfl 22 (.tmp 3) rfl rfl HJ.out.1 Try.underlying22 Try.info22 HK16.out ?_)
    | (go_at_call 19; (with_reducible refine (HCOL.out _).mono ?_); rintro e w1 ⟨rfl, hb1⟩; have hb2 := HJ.out.2.2.trans (hb1.mono hs1))
    | (go_at_call 23; (with_reducible refine (HADD0.out _ hb2 _).mono ?_); rintro e w2 ⟨rfl, hb3⟩; have hb4 := hb2.trans (hb3.mono (Nat.le_trans hs1 hb1.size)))
    | (refine wpList_store_whole rfl 47 (.tmp 5) (.tmp 10) rfl rfl rfl (Whole.new w2 47 Y) Try.info47 (by simp) HY4.out (arr_one _ _) ?_))
  clear hz4 hz
  rw [st_zero]
  have hN2 : N ≤ w2.heap.size := Nat.le_trans (Nat.le_trans hs1 hb1.size) hb3.size
  have a1 : Whole ((w2.alloc (Obj.cells Y 47)).setRow w2.heap.size (arr .u32 (cw (st K s 0)))) g4 22 Z := Whole.farRow ((Whole.under (Whole.under HJ.out.2.1 hb1) hb3).alloc _) (by have := (Whole.under (Whole.under HJ.out.2.1 hb1) hb3).lt; omega) _
  have a2 : Whole ((w2.alloc (Obj.cells Y 47)).setRow w2.heap.size (arr .u32 (cw (st K s 0)))) w2.heap.size 47 (arr .u32 (cw (st K s 0))) := (Whole.new w2 47 Y).row _
  have a3 : Below N w ((w2.alloc (Obj.cells Y 47)).setRow w2.heap.size (arr .u32 (cw (st K s 0)))) := below_row (hb4.alloc hN2 _) hN2 _
  have a4 : g4 < w2.heap.size := (Whole.under (Whole.under HJ.out.2.1 hb1) hb3).lt
  generalize (w2.alloc (Obj.cells Y 47)).setRow w2.heap.size (arr .u32 (cw (st K s 0))) = W3 at *
  generalize w2.heap.size = g5 at *
  have HI := Lib.hid (And.intro a1 (And.intro a2 a3))
  clear a1 a2 a3 hb1 hb2 hb3 hb4 HJ hN2 hs1
  go_wp2
  go_loopw [6] (fun s6 wr => ∃ n : Nat, n ≤ 9 ∧ s6 = .int .i64 ((n + 1 : Nat) : Int) ∧ Whole wr g4 22 Z ∧ Whole wr g5 47 (arr .u32 (cw (st K s n))) ∧ Below N w wr) (fun s6 _ => 10 - (intOf s6).toNat)
  case atStart => exact ⟨0, by omega, rfl, HI.out⟩
  case round =>
    clear HI
    obtain ⟨n, hn, rfl, h1, h2, hb⟩ := hrel
    by_cases hlt : n < 9
    · obtain ⟨f, hf⟩ : ∃ f, st K s n = f := ⟨_, rfl⟩
      have hnx := st_next K s n (by omega)
      rw [hf] at h2 hnx
      obtain ⟨m, hm⟩ : ∃ m, n + 1 = m := ⟨_, rfl⟩
      rw [hm] at hnx ⊢
      have bm1 : (m : Int) < 10 := by omega
      have b9 : decide ((m : Int) < 10) = true := by simp only [decide_eq_true_eq]; omega
      have HX := Lib.hid (And.intro hnx (And.intro hm (show m ≤ 10 by omega)))
      have H := Lib.hid (And.intro h1 (And.intro h2 hb))
      clear h1 h2 hnx hm hn hf hlt
      go_upto_region 6 with (first
        | (refine wpList_load_whole rfl 47 (.tmp 5) rfl rfl H.out.2.1 Try.underlying47 Try.info47 (by simp) ?_)
        | (go_at_call 24; (with_reducible refine (HTURN.out _ hb _).mono ?_); rintro e w1 ⟨rfl, hb1⟩)
        | (refine wpList_store_whole rfl 47 (.tmp 5) (.tmp 17) rfl rfl rfl (Whole.under H.out.2.1 hb1) Try.info47 (by simp) (by simp) (arr_one _ _) ?_))
      have d1 := (Whole.under H.out.1 hb1).farRow (show g4 ≠ g5 by omega) (arr .u32 (cw (ss f)))
      have d2 := (Whole.under H.out.2.1 hb1).row (arr .u32 (cw (ss f)))
      have d3 := below_row (hb.trans (hb1.mono (by have := hb.size; have := HN.out; omega))) (show N ≤ g5 by omega) (arr .u32 (cw (ss f)))
      generalize w1.setRow g5 (arr .u32 (cw (ss f))) = W4 at *
      clear hb1 hb H
      have t0 : W4.cell? ⟨g5, 0, none⟩ = some (.int .u32 (ncf (ss f) 0)) := d2.cell 0
      have t1 : W4.cell? ⟨g5, 1, none⟩ = some (.int .u32 (ncf (ss f) 1)) := d2.cell 1
      have t2 : W4.cell? ⟨g5, 2, none⟩ = some (.int .u32 (ncf (ss f) 2)) := d2.cell 2
      have t3 : W4.cell? ⟨g5, 3, none⟩ = some (.int .u32 (ncf (ss f) 3)) := d2.cell 3
      have f0 := d2.frz 0
      have f1 := d2.frz 1
      have f2 := d2.frz 2
      have f3 := d2.frz 3
      have m0 := mixedA_ncf (ss f) 0
      have m1 := mixedA_ncf (ss f) 1
      have m2 := mixedA_ncf (ss f) 2
      have m3 := mixedA_ncf (ss f) 3
      have e1 : Whole ((((W4.setCell ⟨g5, 0, none⟩ (.int .u32 (ncf (mx (ss f)) 0))).setCell ⟨g5, 1, none⟩ (.int .u32 (ncf (mx (ss f)) 1))).setCell ⟨g5, 2, none⟩ (.int .u32 (ncf (mx (ss f)) 2))).setCell ⟨g5, 3, none⟩ (.int .u32 (ncf (mx (ss f)) 3))).drew g5 47 (arr .u32 (cw (mx (ss f)))) := ((((d2.set 0 _).set 1 _).set 2 _).set 3 _).drew
      have e2 : Whole ((((W4.setCell ⟨g5, 0, none⟩ (.int .u32 (ncf (mx (ss f)) 0))).setCell ⟨g5, 1, none⟩ (.int .u32 (ncf (mx (ss f)) 1))).setCell ⟨g5, 2, none⟩ (.int .u32 (ncf (mx (ss f)) 2))).setCell ⟨g5, 3, none⟩ (.int .u32 (ncf (mx (ss f)) 3))).drew g4 22 Z := ((((d1.far (show g4 ≠ g5 by omega) _).far (show g4 ≠ g5 by omega) _).far (show g4 ≠ g5 by omega) _).far (show g4 ≠ g5 by omega) _).drew
      have e3 : Below N w ((((W4.setCell ⟨g5, 0, none⟩ (.int .u32 (ncf (mx (ss f)) 0))).setCell ⟨g5, 1, none⟩ (.int .u32 (ncf (mx (ss f)) 1))).setCell ⟨g5, 2, none⟩ (.int .u32 (ncf (mx (ss f)) 2))).setCell ⟨g5, 3, none⟩ (.int .u32 (ncf (mx (ss f)) 3))).drew := ((((d3.setCell (p := ⟨g5, 0, none⟩) (show N ≤ g5 by omega) _).setCell (p := ⟨g5, 1, none⟩) (show N ≤ g5 by omega) _).setCell (p := ⟨g5, 2, none⟩) (show N ≤ g5 by omega) _).setCell (p := ⟨g5, 3, none⟩) (show N ≤ g5 by omega) _).drew
      generalize ncf (ss f) 0 = x0 at *
      generalize ncf (ss f) 1 = x1 at *
      generalize ncf (ss f) 2 = x2 at *
      generalize ncf (ss f) 3 = x3 at *
      generalize ncf (mx (ss f)) 0 = z0 at *
      generalize ncf (mx (ss f)) 1 = z1 at *
      generalize ncf (mx (ss f)) 2 = z2 at *
      generalize ncf (mx (ss f)) 3 = z3 at *
      have HM := Lib.hid (And.intro m0 (And.intro m1 (And.intro m2 m3)))
      have HE := Lib.hid (And.intro e1 (And.intro e2 e3))
      clear m0 m1 m2 m3 e1 e2 e3 d1 d2 d3
      refine wp_region_still_tail 13 (by kernel_rfl) (by kernel_rfl) ?_
      simp only [List.take_succ_cons, List.take_zero, List.drop_succ_cons, List.drop_zero]
      repeat still_step
      still_call (same_flip (HM.out.1 _))
      repeat still_step
      still_call (same_flip (HM.out.2.1 _))
      repeat still_step
      still_call (same_flip (HM.out.2.2.1 _))
      repeat still_step
      still_call (same_flip (HM.out.2.2.2 _))
      repeat still_step
      refine wpStill_nil ?_
      change wpList _ _ _ _ _ W4.drew
      go_upto_region 7 with fail
      generalize ((((W4.setCell ⟨g5, 0, none⟩ (.int .u32 z0)).setCell ⟨g5, 1, none⟩ (.int .u32 z1)).setCell ⟨g5, 2, none⟩ (.int .u32 z2)).setCell ⟨g5, 3, none⟩ (.int .u32 z3)).drew = W5 at *
      clear t0 t1 t2 t3 f0 f1 f2 f3 HM
      have HADDM : Hid (∀ W, Below N w W → ∀ f, Calls Try.prog 23 #[.pointer (some ⟨gc, 0, none⟩), .agg (arr .u32 (cw f)), .int .i64 m] W fun e w' => e = .returned (.agg (arr .u32 (cw (addK K m f)))) ∧ Below W.heap.size W w') :=
        Lib.hid fun W hW f => HADD.out W hW m HX.out.2.2 f
      have hb5 := HE.out.2.2
      go_wp2_with (first
        | (refine wpList_load_whole rfl 47 (.tmp 5) rfl rfl HE.out.1 Try.underlying47 Try.info47 (by simp) ?_)
        | (go_at_call 23; (with_reducible refine (HADDM.out _ hb5 _).mono ?_); rintro e w6 ⟨rfl, hb6⟩)
        | (refine wpList_store_whole rfl 47 (.tmp 5) (.tmp 34) rfl rfl rfl (Whole.under HE.out.1 hb6) Try.info47 (by simp) (by simp) (arr_one _ _) ?_))
      go_roundw
      case rel =>
        obtain ⟨q1, q2, q3⟩ := HE.out
        obtain ⟨r1, r2, r3⟩ := HX.out
        exact ⟨n + 1, by omega, by rw [← r2]; go_num, (Whole.under q2 hb6).farRow (by omega) _, by rw [r2, ← r1]; exact (Whole.under q1 hb6).row _, below_row (q3.trans (hb6.mono (by have := q3.size; have := HN.out; omega))) (by omega) _⟩
      case measure => have := HX.out.2.1; simp [intOf]; omega
    · obtain rfl : n = 9 := by omega
      rw [show ((9 + 1 : Nat) : Int) = 10 from rfl]
      have hge : N ≤ wr.heap.size := by have := hb.size; have := HN.out; omega
      have HLE : ∀ (a b : World), N ≤ a.heap.size → Below a.heap.size a b → N ≤ b.heap.size := fun a b h k => Nat.le_trans h k.size
      have HH := Lib.hid hge
      have HL := Lib.hid HLE
      have H := Lib.hid (And.intro h1 (And.intro h2 hb))
      have HBY : Hid (∀ W f, Calls Try.prog 26 #[.agg (arr .u32 (cw f))] W fun e w' => e = .returned (.agg (arr .u8 (fl 16 f))) ∧ Below W.heap.size W w') := Lib.hid fun W f => bytes_any f W
      have hlast := Lib.hid (st_last K s)
      clear h1 h2 hge HLE
      go_wp2_with (first
        | (refine wpList_load_whole rfl 47 (.tmp 5) rfl rfl H.out.2.1 Try.underlying47 Try.info47 (by simp) ?_)
        | (go_at_call 24; (with_reducible refine (HTURN.out _ hb _).mono ?_); rintro e w6 ⟨rfl, hb6⟩; have hb7 := hb.trans (hb6.mono HH.out))
        | (go_at_call 23; (with_reducible refine (HADD10.out _ hb7 _).mono ?_); rintro e w8 ⟨rfl, hb8⟩; have hb9 := hb7.trans (hb8.mono (HL.out _ _ HH.out hb6)); rw [hlast.out])
        | (go_at_call 26; (with_reducible refine (HBY.out _ _).mono ?_); rintro e w10 ⟨rfl, hb10⟩; have hb11 := hb9.trans (hb10.mono (HL.out _ _ (HL.out _ _ HH.out hb6) hb8)))
        | (refine wpList_store_whole rfl 22 (.tmp 4) (.tmp 40) rfl rfl rfl (Whole.under (Whole.under (Whole.under H.out.1 hb6) hb8) hb10) Try.info22 (by simp) HZ16.out (arr_one _ _) ?_))
      refine bodyPost_ret (v := .agg (arr .u8 (fl 16 (st K s 10)))) (ret_whole (g := g4) rfl rfl (Whole.row (Whole.under (Whole.under (Whole.under H.out.1 hb6) hb8) hb10) _) Try.underlying22 Try.info22 (by simp)) rfl ⟨rfl, ?_⟩
      have := below_row hb11 (show N ≤ g4 by omega) (arr .u8 (fl 16 (st K s 10)))
      rw [HN.out]
      exact this
end Go.Proofs.Ytomnomopcpdpoaa
