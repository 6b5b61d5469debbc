/- The program's cipher, made. -/
import Derived.Test.YtomnomopcpdpoaaAesNewA
namespace Go.Proofs.Ytomnomopcpdpoaa
open Go.RowKit
set_option linter.unusedVariables false

theorem Try.sizeU32 : (Try.prog.info? 42).map (·.size) = some 1 := by kernel_rfl

set_option maxHeartbeats 3200000 in
set_option maxRecDepth 100000 in
theorem newCipher_any (key : Nat → B) (w : World) :
    Calls Try.prog 12 #[.agg (arr .u8 (fl 16 key))] w fun e w' => ∃ gc, e = .returned (.pointer (some ⟨gc, 0, none⟩)) ∧ Below w.heap.size w w' ∧ w.heap.size ≤ gc ∧ Whole w' gc 45 (ciph (ks key)) := by
  have HCOL : Hid (∀ W, Calls Try.prog 19 #[.agg (arr .u8 (fl 16 key))] W fun e w' => e = .returned (.agg (arr .u32 (cw key))) ∧ Below W.heap.size W w') := Lib.hid fun W => columns_any key W
  have HFIRST := Lib.hid (ciphL_first key)
  have HNEXT := Lib.hid (ncf_ks key)
  obtain ⟨K, hK⟩ : ∃ K, ks key = K := ⟨_, rfl⟩
  rw [hK] at HFIRST HNEXT ⊢
  clear hK
  have hz4 := Try.zero47
  generalize hka : arr .u8 (fl 16 key) = ka at *
  have HKA := Lib.hid hka
  clear hka
  generalize hzl : arr .u32 [0, 0, 0, 0] = Y at *
  have HY := Lib.hid hzl
  clear hzl
  have HK16 : Hid (ka.size = 16) := Lib.hid (by rw [← HKA.out]; simp)
  have HY4 : Hid (Y.size = 4) := Lib.hid (by rw [← HY.out]; simp)
  obtain ⟨C, hC⟩ : ∃ C, (ciphL K 0).toArray = C := ⟨_, rfl⟩
  have HC := Lib.hid hC
  have hbuild : ∀ w : World, (Instr.build 45 #[(0, .agg (arr .u8 (fl 256 Sb)))]).run Try.prog w = .ok (.agg C) w := fun w => by rw [← hC]; exact build_ciph K w
  have hnb := newBox_any
  obtain ⟨bx, hbx⟩ : ∃ bx, arr .u8 (fl 256 Sb) = bx := ⟨_, rfl⟩
  rw [hbx] at hbuild
  simp only [hbx] at hnb
  have HBUILD := Lib.hid hbuild
  have HNB := Lib.hid hnb
  clear hC hbuild hnb hbx
  have h1 := Whole.new w 22 ka
  have hb1 : Below w.heap.size w (w.alloc (Obj.cells ka 22)) := (Below.refl _ w).alloc (Nat.le_refl _) _
  have HW := Lib.hid (And.intro h1 hb1)
  clear h1 hb1
  go_enter Try.func12, Try.ntmps12
  go_upto_region 2 with (first
    | (go_at_call 18; (with_reducible refine (HNB.out _).mono ?_); rintro e w1 ⟨rfl, hb1⟩)
    | (refine wpList_build1 rfl 45 0 (.tmp 8) rfl (u := .agg bx) rfl (v := .agg C) (HBUILD.out _) ?_))
  have l0 := (Whole.under HW.out.1 hb1).lt
  have k0 := (Whole.under HW.out.1 hb1).alloc (Obj.cells C 45)
  have k1 := Whole.new w1 45 C
  have k2 : Below w.heap.size w (w1.alloc (Obj.cells C 45)) := (HW.out.2.trans (hb1.mono HW.out.2.size)).alloc (by have := hb1.size; simp at this; omega) _
  have k3 : w1.heap.size + 1 = (w1.alloc (Obj.cells C 45)).heap.size := by simp
  generalize w1.alloc (Obj.cells C 45) = W2 at *
  obtain ⟨gc, hgc⟩ : ∃ g, w1.heap.size = g := ⟨_, rfl⟩
  rw [hgc] at l0 k1 k3 ⊢
  have HK := Lib.hid (And.intro k0 (And.intro k1 (And.intro k2 k3)))
  clear hb1 k0 k1 k2 k3 hgc
  go_upto_region 3 with (first
    | (refine wpList_load_whole rfl 22 (.tmp 1) rfl rfl HK.out.1 Try.underlying22 Try.info22 HK16.out ?_)
    | (go_at_call 19; (with_reducible refine (HCOL.out _).mono ?_); rintro e w3 ⟨rfl, hb3⟩)
    | (refine wpList_store_whole rfl 47 (.tmp 4) (.tmp 12) rfl rfl rfl (Whole.new w3 47 Y) Try.info47 (by simp) HY4.out (arr_one _ _) ?_))
  clear hz4
  have j1 := ((Whole.under HK.out.2.1 hb3).alloc (Obj.cells Y 47)).farRow (g' := w3.heap.size) (by have := (Whole.under HK.out.2.1 hb3).lt; omega) (arr .u32 (cw key))
  have j2 := (Whole.new w3 47 Y).row (arr .u32 (cw key))
  have hwz : w.heap.size ≤ W2.heap.size := HK.out.2.2.1.size
  have j3 := below_row ((HK.out.2.2.1.trans (hb3.mono hwz)).alloc (Nat.le_trans hwz hb3.size) (Obj.cells Y 47)) (Nat.le_trans hwz hb3.size) (arr .u32 (cw key))
  generalize (w3.alloc (Obj.cells Y 47)).setRow w3.heap.size (arr .u32 (cw key)) = W4 at *
  generalize w3.heap.size = g4 at *
  have HJ := Lib.hid (And.intro j1 (And.intro j2 j3))
  clear j1 j2 j3 hb3 hwz
  refine wp_region_still_tail 5 (by kernel_rfl) (by kernel_rfl) ?_
  simp only [List.take_succ_cons, List.take_zero, List.drop_succ_cons, List.drop_zero]
  repeat still_step
  refine wpStill_nil ?_
  change wpList _ _ _ _ _ W4.drew
  have hcur : W4.drew.heap[gc]? = some (.cells (ciphL K 0).toArray 45 (0, 0)) := by
    have := HJ.out.1
    rw [← HC.out] at this
    exact this
  have HU := Lib.hid hcur
  clear hcur
  go_wp2_with (refine wpList_copy_splice rfl (.tmp 16) (.tmp 17) 49 49 rfl 42 Try.underlying49 Try.sizeU32 (some ⟨gc, 256, none⟩) (some ⟨g4, 0, none⟩) 44 44 4 4 rfl rfl gc 256 (ciphL K 0) 45 HU.out ((cw key).map (Value.int .u32)) rfl (fun _ => ⟨rfl, ⟨g4, 0, none⟩, rfl, fun j v hv => by rw [Addr.add_lit, Nat.zero_add]; exact ((HJ.out.2.1.drew).cell j).trans (by rw [← hv]; unfold arr; rw [List.getElem?_toArray])⟩) (by simp) (fun v hv => by obtain ⟨x, _, rfl⟩ := List.mem_map.1 hv; rfl) gc W4 ((Below.refl gc W4).drew) (Nat.le_refl _) ?_; intro w5 hg5 hb5)
  rw [HFIRST.out] at hg5
  have hbw : Below w.heap.size w w5 := by
    have h5 := hb5
    exact HJ.out.2.2.trans (h5.mono (by omega))
  have HI := Lib.hid (And.intro (show Whole w5 gc 45 (ciphL K 4).toArray from hg5.out) hbw)
  clear hg5 hbw hb5 HU HFIRST
  go_loopw [5, 6] (fun s5 s6 wr => ∃ n : Nat, 4 ≤ n ∧ n ≤ 44 ∧ s6 = .int .i64 n ∧ s5 = .int .u32 (nb (rc ((n - 1) / 4))) ∧ Whole wr gc 45 (ciphL K n).toArray ∧ Below w.heap.size w wr) (fun _ s6 _ => 44 - (intOf s6).toNat)
  case atStart => exact ⟨4, by omega, by omega, rfl, rfl, HI.out⟩
  case round =>
    clear HI HJ HK
    obtain ⟨n, hn4, hn, rfl, rfl, h1, hb⟩ := hrel
    by_cases hlt : n < 44
    · obtain ⟨m, hm⟩ : ∃ m, n - 1 = m := ⟨_, rfl⟩
      obtain ⟨m4, hm4⟩ : ∃ m, n - 4 = m := ⟨_, rfl⟩
      have c1 := (h1.cell (256 + m)).trans (ciphL_key K n (j := m) (by omega))
      rw [if_pos (by omega)] at c1
      have c4 := (h1.cell (256 + m4)).trans (ciphL_key K n (j := m4) (by omega))
      rw [if_pos (by omega)] at c4
      have c0 := (h1.cell (256 + n)).trans (ciphL_key K n (j := n) hlt)
      have f0 := h1.frz (256 + n)
      have hput := h1.set (256 + n) (.int .u32 (ncf K n))
      rw [ciphL_set K n hlt] at hput
      have hnx := HNEXT.out n hn4
      rw [hm4] at hnx
      have HBX : Hid (∀ W, (∀ j, j < 256 → W.cell? ⟨gc, j, none⟩ = some (.int .u8 (nb (Sb j)))) → Calls Try.prog 21 #[.pointer (some ⟨gc, 0, none⟩), .int .u32 (nc (K (4 * m + 1)) (K (4 * m + 2)) (K (4 * m + 3)) (K (4 * m))), .int .u32 (nc (K (4 * m + 1)) (K (4 * m + 2)) (K (4 * m + 3)) (K (4 * m))), .int .u32 (nc (K (4 * m + 1)) (K (4 * m + 2)) (K (4 * m + 3)) (K (4 * m))), .int .u32 (nc (K (4 * m + 1)) (K (4 * m + 2)) (K (4 * m + 3)) (K (4 * m)))] W fun e w' => e = .returned (.int .u32 (nc (Sb (K (4 * m + 1)).toNat) (Sb (K (4 * m + 2)).toNat) (Sb (K (4 * m + 3)).toNat) (Sb (K (4 * m)).toNat))) ∧ ∃ n, w' = W.drewN n) :=
        Lib.hid fun W hW => boxed_any gc _ _ _ _ _ _ _ _ _ _ _ _ _ _ _ _ W hW
      have HBC : Hid (∀ j, j < 256 → wr.cell? ⟨gc, j, none⟩ = some (.int .u8 (nb (Sb j)))) := Lib.hid fun j hj => (h1.cell j).trans (ciphL_box K n hj)
      have HROT : Hid (∀ W, Calls Try.prog 20 #[.int .u32 (ncf K m), .int .i64 8] W fun e w' => e = .returned (.int .u32 (nc (K (4 * m + 1)) (K (4 * m + 2)) (K (4 * m + 3)) (K (4 * m)))) ∧ W = w') := Lib.hid fun W => rotc_8 _ _ _ _ W
      have HTW : Hid (∀ W, Calls Try.prog 22 #[.int .u32 (nb (rc ((n - 1) / 4)))] W fun e w' => e = .returned (.int .u32 (nb (tw (rc ((n - 1) / 4))))) ∧ W = w') := Lib.hid fun W => twice_small _ W
      have hkp : n % 4 ≠ 0 → kw K n = ncf K m := fun h => by rw [← hm]; exact kw_plain K n h
      have hkt : n % 4 = 0 → bits .xor .u32 (nc (Sb (K (4 * m + 1)).toNat) (Sb (K (4 * m + 2)).toNat) (Sb (K (4 * m + 3)).toNat) (Sb (K (4 * m)).toNat)) (nb (rc ((n - 1) / 4)) * 16777216) = kw K n := fun h => by
        have hr := nb_in (rc ((n - 1) / 4))
        have hk := kw_turned K n h
        rw [show nb (rc ((n - 1) / 4)) * 16777216 % 4294967296 = nb (rc ((n - 1) / 4)) * 16777216 by omega] at hk
        rw [← hm]
        exact hk
      have hrc : n % 4 = 0 → nb (tw (rc ((n - 1) / 4))) = nb (rc ((n + 1 - 1) / 4)) := fun h => by
        rw [show (n + 1 - 1) / 4 = (n - 1) / 4 + 1 by omega]; rfl
      have hrp : n % 4 ≠ 0 → nb (rc ((n - 1) / 4)) = nb (rc ((n + 1 - 1) / 4)) := fun h => by
        rw [show (n + 1 - 1) / 4 = (n - 1) / 4 by omega]
      obtain ⟨x0, x1⟩ := nb_in (rc ((n - 1) / 4))
      generalize nc (Sb (K (4 * m + 1)).toNat) (Sb (K (4 * m + 2)).toNat) (Sb (K (4 * m + 3)).toNat) (Sb (K (4 * m)).toNat) = z at *
      generalize nc (K (4 * m + 1)) (K (4 * m + 2)) (K (4 * m + 3)) (K (4 * m)) = y at *
      generalize nb (tw (rc ((n - 1) / 4))) = x2 at *
      generalize nb (rc ((n - 1) / 4)) = x at *
      generalize (if n < n then ncf K n else 0) = u at *
      generalize ncf K n = v at *
      generalize ncf K m = vm at *
      generalize ncf K m4 = v4 at *
      generalize kw K n = kn at *
      have e1 : (n : Int) - 1 = (m : Int) := by omega
      have e4 : IntKind.i64.wrap ((n : Int) - 4) = (m4 : Int) := by rw [IntWalk.i64_in _ (by omega)]; omega
      have b1 : (m : Int) < 44 := by omega
      have b4 : (m4 : Int) < 44 := by omega
      have b9 : decide ((n : Int) < 44) = true := by simp only [decide_eq_true_eq]; omega
      have bn : (n : Int) < 44 := by omega
      have H := Lib.hid (And.intro hput (And.intro hb (And.intro hnx (And.intro hkp (And.intro hkt (And.intro hrc hrp))))))
      clear h1 hput hb hnx hkp hkt hrc hrp hm hm4
      by_cases h4 : n % 4 = 0
      · have e0 : (n : Int) % 4 = 0 := by omega
        have HKT := Lib.hid (H.out.2.2.2.2.1 h4)
        have HRC := Lib.hid (H.out.2.2.2.2.2.1 h4)
        go_upto_region 13 with (first
          | (go_at_call 20; (with_reducible refine (HROT.out _).mono ?_); rintro e w' ⟨rfl, rfl⟩)
          | (go_at_call 21; (with_reducible refine (HBX.out _ HBC.out).mono ?_); rintro e w' ⟨rfl, nq, rfl⟩)
          | (go_at_call 22; (with_reducible refine (HTW.out _).mono ?_); rintro e w' ⟨rfl, rfl⟩))
        rw [HKT.out]
        have d4 : (wr.drewN nq).cell? ⟨gc, 256 + m4, none⟩ = some (.int .u32 v4) := c4
        have d0 : (wr.drewN nq).cell? ⟨gc, 256 + n, none⟩ = some (.int .u32 u) := c0
        have g0 : (wr.drewN nq).frozen? ⟨gc, 256 + n, none⟩ = false := f0
        have HP : Hid (Whole ((wr.drewN nq).setCell ⟨gc, 256 + n, none⟩ (.int .u32 v)) gc 45 (ciphL K (n + 1)).toArray ∧ Below w.heap.size w (wr.drewN nq)) := Lib.hid ⟨H.out.1, below_drewN' H.out.2.1 nq⟩
        generalize wr.drewN nq = W6 at *
        clear c0 c4 c1 f0 HBX HBC HROT HTW
        refine wp_region_still_tail 14 (by kernel_rfl) (by kernel_rfl) ?_
        simp only [List.take_succ_cons, List.take_zero, List.drop_succ_cons, List.drop_zero]
        repeat still_step
        refine wpStill_nil ?_
        clear e4
        change wpList _ _ _ _ _ W6.drew
        go_wp2
        go_roundw
        case rel =>
          obtain ⟨q1, q2, q3, q4, q5, q6, q7⟩ := H.out
          rw [q3]
          exact ⟨n + 1, by omega, by omega, by go_num, by rw [HRC.out], HP.out.1, Below.setCell HP.out.2.drew (by simp; omega) _⟩
        case measure => simp [intOf]; omega
      · have e0 : ¬ (n : Int) % 4 = 0 := by omega
        have e0' : ((n : Int) % 4 == 0) = false := by simpa using e0
        have HKT := Lib.hid (H.out.2.2.2.1 h4)
        have HRC := Lib.hid (H.out.2.2.2.2.2.2 h4)
        clear HBX HBC HROT HTW
        go_upto_region 13 with fail
        rw [← HKT.out]
        refine wp_region_still_tail 14 (by kernel_rfl) (by kernel_rfl) ?_
        simp only [List.take_succ_cons, List.take_zero, List.drop_succ_cons, List.drop_zero]
        repeat still_step
        refine wpStill_nil ?_
        clear e4
        change wpList _ _ _ _ _ wr.drew
        go_wp2
        go_roundw
        case rel =>
          obtain ⟨q1, q2, q3, q4, q5, q6, q7⟩ := H.out
          rw [q3]
          exact ⟨n + 1, by omega, by omega, by go_num, by rw [HRC.out], q1, Below.setCell q2.drew (by simp; omega) _⟩
        case measure => simp [intOf]; omega
    · obtain rfl : n = 44 := by omega
      rw [show ((44 : Nat) : Int) = 44 from rfl]
      rw [ciphL_all] at h1
      have H := Lib.hid (And.intro h1 hb)
      have L0 := Lib.hid l0
      clear h1 hb
      go_wp2
      go_ret
      exact ⟨gc, rfl, H.out.2, by have := L0.out; omega, H.out.1⟩

end Go.Proofs.Ytomnomopcpdpoaa
