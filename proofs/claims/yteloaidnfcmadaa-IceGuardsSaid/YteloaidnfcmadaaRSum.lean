/- The document's SHA-1, walked (rostrumref02.Sum). -/
import Derived.Test.YteloaidnfcmadaaRSumA
import Derived.Deep.CutBlock
namespace Go.Proofs.Yteloaidnfcmadaa
open Go.RowKit
set_option linter.unusedVariables false

def zof (n : Nat) : Nat := (119 - n % 64) % 64

set_option maxHeartbeats 12800000 in
set_option maxRecDepth 200000 in
theorem rsum_any (A : Option Addr) (n cap : Nat) (xs : List Int) (w : World) (h : In8 w A n cap xs) (rn : n ≤ 140737488351296) :
    Calls Try.prog 52 #[.slice A n cap] w fun e w' => e = .returned (.agg (arr .u8 (sha xs))) ∧ Below w.heap.size w w' := by
  have hz := Try.zero81
  have hz8 := Try.zero126
  have HX := Lib.hid h
  clear h
  go_enter Try.func52, Try.ntmps52
  go_upto_region 2 with fail
  obtain ⟨W, hW⟩ : ∃ W, (w.alloc (.cells (arr .u8 z20) 81)).alloc (.cells #[.int .u32 1732584193, .int .u32 4023233417, .int .u32 2562383102, .int .u32 271733878, .int .u32 3285377520] 124) = W := ⟨_, rfl⟩
  have hb0 : Below w.heap.size w W := by rw [← hW]; exact two_new _ _ _ _
  have hst : Whole W (w.heap.size + 1) 124 (arr .u32 s0.list) := by rw [← hW]; exact Whole.new2 _ _ _ _
  have hres : Whole W w.heap.size 81 (arr .u8 z20) := by rw [← hW]; exact (Whole.new _ _ _).alloc _
  have H0 : Hid (RAt w s0 [] (.slice (some ⟨W.heap.size, 0, none⟩) 0 0) (W.alloc (.cells #[] 5))) := Lib.hid ⟨Own8.made W hb0.size, hst.alloc _, hres.alloc _, hb0.alloc hb0.size _⟩
  rw [hW]
  clear hW hb0 hst hres
  go_cut [4] from 22 to 26 (fun s4 wc => ∃ A4 c4, s4 = .slice A4 (n + 1) c4 ∧ RAt w s0 (xs ++ [128]) s4 wc)
  case first =>
    go_wp2_with (at_builtin; go_must (refine wpList_append8 rfl (.tmp 22) (.tmp 23) rfl rfl H0.out.own rfl (HX.out.bytes.below H0.out.below) HX.out.none (by simp; omega) H0.out.below.size ?_))
    intro v2 w2 hO2 hg2 _
    have hl := HX.out.bytes.1
    have H2 : Hid (RAt w s0 xs v2 w2) := Lib.hid (H0.out.grown (show Own8 w2 w.heap.size v2 xs from hO2) hg2)
    clear hO2 hg2 H0
    go_wp2_with (at_builtin; go_must (refine wpList_append8 rfl (.tmp 24) (.tmp 25) rfl rfl (H2.out.own.alloc _) rfl (Bs.one w2 128) (fun e => by cases e) (by omega) (by have := H2.out.below.size; simp; omega) ?_))
    intro v3 w3 hO3 hg3 _
    have H3 : Hid (RAt w s0 (xs ++ [128]) v3 w3) := Lib.hid ((H2.out.alloc _).grown hO3 hg3)
    clear hO3 hg3 H2
    go_wp2
    go_meet
    have hR := H3.out
    obtain ⟨A4, c4, hv, _⟩ := hR.own.form
    subst hv
    rw [List.length_append, hl] at hR ⊢
    exact ⟨A4, c4, rfl, hR⟩
  case rest =>
    clear H0
    obtain ⟨A4, c4, rfl, hR⟩ := hcut
    go_wp2_with fail
    have HR := Lib.hid hR
    clear hR
    obtain ⟨z, hz1⟩ : ∃ z, (119 - n % 64) % 64 = z := ⟨_, rfl⟩
    go_loopw [4] (fun s4 wr => ∃ j A4 c4, j ≤ z ∧ s4 = .slice A4 (n + 1 + j) c4 ∧ RAt w s0 (xs ++ 128 :: List.replicate j 0) s4 wr) (fun s4 _ => match s4 with | .slice _ len _ => n + 1 + z - len | _ => 0)
    case atStart => exact ⟨0, A4, c4, by omega, rfl, HR.out⟩
    case round =>
      clear HR
      obtain ⟨j, A5, c5, hj, rfl, hR⟩ := hrel
      have hl := HX.out.bytes.1
      have HR := Lib.hid hR
      clear hR
      by_cases hjz : j < z
      · have hq : (((n + 1 + j : Nat) : Int) % 64 != 56) = true := by
          rw [bne_iff_ne]
          omega
        have hlm : (xs ++ 128 :: List.replicate j 0).length = n + 1 + j := by simp [hl]; omega
        go_wp2_with (at_builtin; go_must (refine wpList_append8 rfl (.tmp 31) (.tmp 32) rfl rfl (HR.out.own.alloc _) rfl (Bs.one wr 0) (fun e => by cases e) (by omega) (by have := HR.out.below.size; simp; omega) ?_))
        intro v2 w2 hO2 hg2 _
        have hs : xs ++ 128 :: (List.replicate j 0 ++ [0]) = xs ++ 128 :: List.replicate (j + 1) 0 := by rw [List.replicate_succ']
        rw [hs] at hO2
        have H2 := (HR.out.alloc _).grown hO2 hg2
        obtain ⟨A6, c6, hv, _⟩ := H2.own.form
        have hlm2 : (xs ++ 128 :: List.replicate (j + 1) 0).length = n + 1 + (j + 1) := by simp [hl]; omega
        rw [hlm2] at hv
        subst hv
        have H2 := Lib.hid H2
        clear hO2 hg2 hs hlm hlm2 hq HR
        go_wp2
        exact ⟨⟨j + 1, _, _, by omega, rfl, H2.out⟩, show n + 1 + z - (n + 1 + (j + 1)) < n + 1 + z - (n + 1 + j) by omega⟩
      · obtain rfl : j = z := by omega
        have hq : (((n + 1 + j : Nat) : Int) % 64 != 56) = false := by
          rw [bne_eq_false_iff_eq]
          omega
        have hn0 : (0 : Int) ≤ (n : Int) := by omega
        go_wp2_with fail
        obtain ⟨L, hL⟩ : ∃ L, n + 1 + j = L := ⟨_, rfl⟩
        have hLi : (n : Int) + 1 + (j : Int) = (L : Int) := by omega
        rw [hL, hLi]
        have hLb : L ≤ 140737488351296 + 65 := by omega
        obtain ⟨m0, hm0⟩ : ∃ m0, xs ++ 128 :: List.replicate j 0 = m0 := ⟨_, rfl⟩
        have hm0l : m0.length = L := by rw [← hm0]; simp [hl]; omega
        have hR0 := HR.out
        rw [hm0, hL] at hR0
        have H0 : Hid (RAt w s0 (m0 ++ (be8 (n * 8)).take 0) (.slice A5 (L + 0) c5) wr) := Lib.hid (by rw [List.take_zero, List.append_nil]; exact hR0)
        have HM := Lib.hid (And.intro hm0 (And.intro hm0l (And.intro hz1 hL)))
        clear HR hR0 hm0 hL hLi hq hm0l
        go_loopw [4, 38] (fun s4 s38 wr => ∃ i A6 c6, i ≤ 8 ∧ s38 = .int .i64 (i : Nat) ∧ s4 = .slice A6 (L + i) c6 ∧ RAt w s0 (m0 ++ (be8 (n * 8)).take i) s4 wr) (fun _ s38 _ => 8 - (intOf s38).toNat)
        case atStart => exact ⟨0, A5, c5, by omega, rfl, rfl, H0.out⟩
        case round =>
          clear H0
          obtain ⟨i, A6, c6, hi, rfl, rfl, hR⟩ := hrel
          have HR := Lib.hid hR
          clear hR
          by_cases hi8 : i < 8
          · have hlm : (m0 ++ (be8 (n * 8)).take i).length = L + i := by rw [List.length_append, HM.out.2.1, List.length_take, be8_length]; omega
            have h56 : (0 : Int) ≤ 56 - 8 * (i : Int) := by omega
            have h57 : (56 : Int) - 8 * (i : Int) ≤ 64 := by omega
            have hnx : m0 ++ ((be8 (n * 8)).take i ++ [((n : Int) * 8 / 2 ^ (56 - 8 * i) % 256)]) = m0 ++ (be8 (n * 8)).take (i + 1) := by
              rw [byte_at n i hi8, take_next _ i (by rw [be8_length]; exact hi8)]
            have hlm2 : (m0 ++ (be8 (n * 8)).take (i + 1)).length = L + (i + 1) := by rw [List.length_append, HM.out.2.1, List.length_take, be8_length]; omega
            have HN := Lib.hid (And.intro hnx (And.intro hlm hlm2))
            clear hnx hlm hlm2
            go_wp2_with (at_builtin; go_must (refine wpList_append8 rfl (.tmp 41) (.tmp 49) rfl rfl (HR.out.own.alloc _) rfl (Bs.one wr ((n : Int) * 8 / 2 ^ (56 - 8 * i) % 256)) (fun e => by cases e) (by have := HN.out.2.1; omega) (by have := HR.out.below.size; simp; omega) ?_))
            intro v2 w2 hO2 hg2 _
            rw [HN.out.1] at hO2
            have H2 := (HR.out.alloc _).grown hO2 hg2
            obtain ⟨A7, c7, hv, _⟩ := H2.own.form
            rw [HN.out.2.2] at hv
            subst hv
            have H2 := Lib.hid H2
            clear hO2 hg2 HR
            go_wp2
            go_roundw
            case rel => exact ⟨i + 1, _, _, by omega, by go_num, rfl, H2.out⟩
            case measure => simp [intOf]; omega
          · obtain rfl : i = 8 := by omega
            rw [show ((8 : Nat) : Int) = 8 from rfl]
            have h8 : (be8 (n * 8)).take 8 = be8 (n * 8) := List.take_of_length_le (by rw [be8_length]; omega)
            have hM : m0 ++ be8 (n * 8) = xs ++ padT n (0 + n) := by
              rw [← HM.out.1, padT, HM.out.2.2.1, Nat.zero_add, List.append_assoc]
              rfl
            have hblk : L + 8 = 64 * blocks n := by
              have := HM.out.2.2.1
              have := HM.out.2.2.2
              unfold blocks
              omega
            obtain ⟨M, hMe⟩ : ∃ M, xs ++ padT n (0 + n) = M := ⟨_, rfl⟩
            obtain ⟨kb, hkb⟩ : ∃ kb, blocks n = kb := ⟨_, rfl⟩
            obtain ⟨LM, hLM⟩ : ∃ LM, L + 8 = LM := ⟨_, rfl⟩
            have hR0 := HR.out
            rw [h8, hM, hMe, hLM] at hR0
            have HR2 := Lib.hid hR0
            have HB := Lib.hid (And.intro hMe (And.intro hkb (show LM = 64 * kb by omega)))
            have hLb2 : LM ≤ 140737488351296 + 73 := by omega
            clear hR0 h8 hM hblk hMe hkb HR
            rw [hLM]
            clear hLM
            go_wp2_with fail
            go_loopw [7] (fun s7 wr => ∃ k, k ≤ kb ∧ s7 = .int .i64 ((64 * k : Nat) : Int) ∧ RAt w (blks s0 M k) M (.slice A6 LM c6) wr) (fun s7 _ => LM - (intOf s7).toNat)
            case atStart => exact ⟨0, by omega, rfl, HR2.out⟩
            case round =>
              clear HR2 HM
              obtain ⟨k, hk, rfl, hR⟩ := hrel
              have hkL1 : LM ≤ 64 * kb := Nat.le_of_eq HB.out.2.2
              have hkL2 : 64 * kb ≤ LM := Nat.le_of_eq HB.out.2.2.symm
              by_cases hlt : k < kb
              · obtain ⟨a, ha⟩ : ∃ a, 64 * k = a := ⟨_, rfl⟩
                have haL : a + 64 ≤ LM := by omega
                have haI : (a : Int) < (LM : Int) := by omega
                have hz2 := hR.below.size
                have hsz : w.heap.size + 1 < wr.heap.size := by have := hR.st.lt; omega
                have hW0 : Hid (WAt w (blks s0 M k) M (.slice A6 LM c6) wr.heap.size (pkR (M.drop a) 0) (wr.alloc (.cells (arr .u32 z80) 126))) := Lib.hid ⟨hR.alloc _, Whole.new _ _ _, hsz⟩
                obtain ⟨gw, hgw⟩ : ∃ g, wr.heap.size = g := ⟨_, rfl⟩
                obtain ⟨B, hB⟩ : ∃ B, blks s0 M k = B := ⟨_, rfl⟩
                rw [ha]
                rw [hB, hgw] at hW0
                have HK := Lib.hid (And.intro ha hB)
                clear hR hsz hz2 ha hB
                go_upto_block 6 with fail
                clear hgw
                go_cut [9] (fun s9 wc => WAt w B M (.slice A6 LM c6) gw (pkR (M.drop a) 16) wc)
                case first =>
                  -- [F6
                  as_aux_lemma =>
                    go_wp2_with fail
                    go_loopw [58] (fun s58 wx => ∃ t : Nat, t ≤ 16 ∧ s58 = .int .i64 t ∧ WAt w B M (.slice A6 LM c6) gw (pkR (M.drop a) t) wx) (fun s58 _ => 16 - (intOf s58).toNat)
                    case atStart => exact ⟨0, by omega, rfl, hW0.out⟩
                    case round =>
                      clear hW0
                      obtain ⟨t, ht, rfl, hT⟩ := hrel
                      by_cases ht16 : t < 16
                      · obtain ⟨g, c', hv, hgb, hgl, hcell⟩ := own8_cells hT.base.own (by rw [← HB.out.1]; exact msg_len n xs HX.out.bytes.1)
                        have hLMe : LM = M.length := by injection hv
                        have hA6 : A6 = some ⟨g, 0, none⟩ := by injection hv
                        subst hA6
                        obtain ⟨q, hq⟩ : ∃ q, 4 * t = q := ⟨_, rfl⟩
                        obtain ⟨p0, hp0⟩ : ∃ p, a + q = p := ⟨_, rfl⟩
                        obtain ⟨p1, hp1⟩ : ∃ p, p0 + 1 = p := ⟨_, rfl⟩
                        obtain ⟨p2, hp2⟩ : ∃ p, p0 + 2 = p := ⟨_, rfl⟩
                        obtain ⟨p3, hp3⟩ : ∃ p, p0 + 3 = p := ⟨_, rfl⟩
                        have e0 := hcell p0 (by omega)
                        have e1 := hcell p1 (by omega)
                        have e2 := hcell p2 (by omega)
                        have e3 := hcell p3 (by omega)
                        have hin : ∀ i, 0 ≤ M.getD i 0 ∧ M.getD i 0 < 256 := by rw [← HB.out.1]; exact append_in8 HX.out.in8 (padT_in8 _ _)
                        have i0 := hin p0
                        have i1 := hin p1
                        have i2 := hin p2
                        have i3 := hin p3
                        have hnew : WAt w B M (.slice (some ⟨g, 0, none⟩) LM c6) gw (pkR (M.drop a) (t + 1)) ((wr.setCell ⟨gw, t, none⟩ (.int .u32 (wd (M.getD p0 0) (M.getD p1 0) (M.getD p2 0) (M.getD p3 0))))) := by
                          have := hT.put t (wd (M.getD p0 0) (M.getD p1 0) (M.getD p2 0) (M.getD p3 0))
                          rw [pkR, getD_drop, getD_drop, getD_drop, getD_drop, hq, hp0, ← Nat.add_assoc, ← Nat.add_assoc, ← Nat.add_assoc, hp0, hp1, hp2, hp3]
                          exact this
                        have hw := hT.words.at_ (i := t) (by simp; omega)
                        have hf := hT.words.frz t
                        obtain ⟨x0, hx0⟩ : ∃ x, M.getD p0 0 = x := ⟨_, rfl⟩
                        obtain ⟨x1, hx1⟩ : ∃ x, M.getD p1 0 = x := ⟨_, rfl⟩
                        obtain ⟨x2, hx2⟩ : ∃ x, M.getD p2 0 = x := ⟨_, rfl⟩
                        obtain ⟨x3, hx3⟩ : ∃ x, M.getD p3 0 = x := ⟨_, rfl⟩
                        obtain ⟨y, hy⟩ : ∃ y, (pkR (M.drop a) t).getD t 0 = y := ⟨_, rfl⟩
                        rw [hx0] at e0 i0 hnew
                        rw [hx1] at e1 i1 hnew
                        rw [hx2] at e2 i2 hnew
                        rw [hx3] at e3 i3 hnew
                        rw [hy] at hw
                        have s0 : IntKind.i64.wrap (4 * (t : Int)) = (q : Int) := by rw [IntWalk.i64_in _ (by omega)]; omega
                        have s1 : IntKind.i64.wrap ((a : Int) + (q : Int)) = (p0 : Int) := by rw [IntWalk.i64_in _ (by omega)]; omega
                        have s2 : IntKind.i64.wrap ((p0 : Int) + 1) = (p1 : Int) := by rw [IntWalk.i64_in _ (by omega)]; omega
                        have s3 : IntKind.i64.wrap ((p0 : Int) + 2) = (p2 : Int) := by rw [IntWalk.i64_in _ (by omega)]; omega
                        have s4 : IntKind.i64.wrap ((p0 : Int) + 3) = (p3 : Int) := by rw [IntWalk.i64_in _ (by omega)]; omega
                        have b0 : (p0 : Int) < (LM : Int) := by omega
                        have b1 : (p1 : Int) < (LM : Int) := by omega
                        have b2 : (p2 : Int) < (LM : Int) := by omega
                        have b3 : (p3 : Int) < (LM : Int) := by omega
                        have bt : (t : Int) < 80 := by omega
                        have bt16 : (t : Int) < 16 := by omega
                        have r0 : x0 % 4294967296 = x0 := by omega
                        have r1 : x1 % 4294967296 = x1 := by omega
                        have r2 : x2 % 4294967296 = x2 := by omega
                        have r3 : x3 % 4294967296 = x3 := by omega
                        have HT := Lib.hid (And.intro hnew (And.intro r0 (And.intro r1 (And.intro r2 r3))))
                        clear r0 r1 r2 r3
                        clear hT hnew hv hLMe hcell hin hx0 hx1 hx2 hx3 hy hq hp0 hp1 hp2 hp3 i0 i1 i2 i3 hgb hgl
                        go_upto_region 18 with fail
                        go_still_tail 43, (by kernel_rfl)
                        clear s0 s1 s2 s3 s4
                        change wpList _ _ _ _ _ wr.drew
                        go_wp2_with fail
                        go_roundw
                        case rel => exact ⟨t + 1, by omega, by go_num, by rw [HT.out.2.1, HT.out.2.2.1, HT.out.2.2.2.1, HT.out.2.2.2.2]; exact HT.out.1.drew⟩
                        case measure => simp [intOf]; omega
                      · obtain rfl : t = 16 := by omega
                        rw [show ((16 : Nat) : Int) = 16 from rfl]
                        have HT := Lib.hid hT
                        clear hT
                        go_wp2
                        go_meet
                        exact HT.out
                  -- F6]
                case rest =>
                  clear hW0
                  have HW1 := Lib.hid hcut
                  clear hcut
                  clear wr
                  rename_i wr
                  go_upto_block 8 with fail
                  go_cut [10] (fun s10 wc => WAt w B M (.slice A6 LM c6) gw (sched (pkR (M.drop a) 16) 64) wc)
                  case first =>
                    -- [F8
                    as_aux_lemma =>
                      go_wp2_with fail
                      go_loopw [10] (fun s10 wx => ∃ j : Nat, j ≤ 64 ∧ s10 = .int .i64 ((j + 16 : Nat) : Int) ∧ WAt w B M (.slice A6 LM c6) gw (sched (pkR (M.drop a) 16) j) wx) (fun s10 _ => 80 - (intOf s10).toNat)
                      case atStart => exact ⟨0, by omega, rfl, HW1.out⟩
                      case round =>
                        clear HW1
                        obtain ⟨j, hj, rfl, hT⟩ := hrel
                        by_cases hj64 : j < 64
                        · have e1 := hT.words.at_ (i := j + 13) (by simp; omega)
                          have e2 := hT.words.at_ (i := j + 8) (by simp; omega)
                          have e3 := hT.words.at_ (i := j + 2) (by simp; omega)
                          have e4 := hT.words.at_ (i := j) (by simp; omega)
                          have hw := hT.words.at_ (i := j + 16) (by simp; omega)
                          have hf := hT.words.frz (j + 16)
                          have hnew := hT.put (j + 16) (rot1 (bits .xor .u32 (bits .xor .u32 (bits .xor .u32 ((sched (pkR (M.drop a) 16) j).getD (j + 13) 0) ((sched (pkR (M.drop a) 16) j).getD (j + 8) 0)) ((sched (pkR (M.drop a) 16) j).getD (j + 2) 0)) ((sched (pkR (M.drop a) 16) j).getD j 0)))
                          have hsn : (sched (pkR (M.drop a) 16) j).set (j + 16) (rot1 (bits .xor .u32 (bits .xor .u32 (bits .xor .u32 ((sched (pkR (M.drop a) 16) j).getD (j + 13) 0) ((sched (pkR (M.drop a) 16) j).getD (j + 8) 0)) ((sched (pkR (M.drop a) 16) j).getD (j + 2) 0)) ((sched (pkR (M.drop a) 16) j).getD j 0))) = sched (pkR (M.drop a) 16) (j + 1) := rfl
                          rw [hsn] at hnew
                          obtain ⟨y1, hy1⟩ : ∃ y, (sched (pkR (M.drop a) 16) j).getD (j + 13) 0 = y := ⟨_, rfl⟩
                          obtain ⟨y2, hy2⟩ : ∃ y, (sched (pkR (M.drop a) 16) j).getD (j + 8) 0 = y := ⟨_, rfl⟩
                          obtain ⟨y3, hy3⟩ : ∃ y, (sched (pkR (M.drop a) 16) j).getD (j + 2) 0 = y := ⟨_, rfl⟩
                          obtain ⟨y4, hy4⟩ : ∃ y, (sched (pkR (M.drop a) 16) j).getD j 0 = y := ⟨_, rfl⟩
                          obtain ⟨y5, hy5⟩ : ∃ y, (sched (pkR (M.drop a) 16) j).getD (j + 16) 0 = y := ⟨_, rfl⟩
                          rw [hy1] at e1 hnew
                          rw [hy2] at e2 hnew
                          rw [hy3] at e3 hnew
                          rw [hy4] at e4 hnew
                          rw [hy5] at hw
                          obtain ⟨t, ht⟩ : ∃ t, j + 16 = t := ⟨_, rfl⟩
                          obtain ⟨j1, hj1⟩ : ∃ q, j + 13 = q := ⟨_, rfl⟩
                          obtain ⟨j2, hj2⟩ : ∃ q, j + 8 = q := ⟨_, rfl⟩
                          obtain ⟨j3, hj3⟩ : ∃ q, j + 2 = q := ⟨_, rfl⟩
                          have s1 : IntKind.i64.wrap ((t : Int) - 3) = (j1 : Int) := by rw [IntWalk.i64_in _ (by omega)]; omega
                          have s2 : IntKind.i64.wrap ((t : Int) - 8) = (j2 : Int) := by rw [IntWalk.i64_in _ (by omega)]; omega
                          have s3 : IntKind.i64.wrap ((t : Int) - 14) = (j3 : Int) := by rw [IntWalk.i64_in _ (by omega)]; omega
                          have s4 : IntKind.i64.wrap ((t : Int) - 16) = (j : Int) := by rw [IntWalk.i64_in _ (by omega)]; omega
                          have b0 : (t : Int) < 80 := by omega
                          have b1 : (j1 : Int) < 80 := by omega
                          have b2 : (j2 : Int) < 80 := by omega
                          have b3 : (j3 : Int) < 80 := by omega
                          have b4 : (j : Int) < 80 := by omega
                          have HT := Lib.hid (And.intro hnew ht)
                          rw [hj1] at e1
                          rw [hj2] at e2
                          rw [hj3] at e3
                          rw [ht] at hw hf ⊢
                          clear hT hnew hsn hy1 hy2 hy3 hy4 hy5 ht hj1 hj2 hj3
                          go_upto_region 23 with fail
                          refine wp_region_still_tail 21 (by kernel_rfl) (by kernel_rfl) ?_
                          simp only [List.take_succ_cons, List.take_zero, List.drop_succ_cons, List.drop_zero]
                          repeat still_step
                          still_call (same_flip (rotl_1 _ _))
                          refine wpStill_nil ?_
                          clear s1 s2 s3 s4
                          change wpList _ _ _ _ _ wr.drew
                          go_wp2_with fail
                          go_roundw
                          case rel =>
                            obtain ⟨h1, rfl⟩ := HT.out
                            exact ⟨j + 1, by omega, by go_num, h1.drew⟩
                          case measure => have := HT.out.2; simp [intOf]; omega
                        · obtain rfl : j = 64 := by omega
                          rw [show ((64 + 16 : Nat) : Int) = 80 from rfl]
                          have HT := Lib.hid hT
                          clear hT
                          go_wp2
                          go_meet
                          exact HT.out
                    -- F8]
                  case rest =>
                    clear HW1
                    have HW2 := Lib.hid hcut
                    clear hcut
                    rename_i wq
                    go_upto_block 10 with (first
                      | (refine wpList_load_whole rfl 124 (.tmp 3) rfl rfl HW2.out.base.st Try.underlying124 Try.info124 (by rfl) ?_)
                      | (refine wpList_store_whole rfl 124 (.tmp 11) (.tmp 131) rfl rfl rfl (Whole.new _ _ _) Try.info124 (by rfl) (by rfl) (arr_one _ _) ?_))
                    have hS0 := SAt.new HW2.out #[.int .u32 0, .int .u32 0, .int .u32 0, .int .u32 0, .int .u32 0]
                    obtain ⟨gs, hgs⟩ : ∃ g, wc.heap.size = g := ⟨_, rfl⟩
                    obtain ⟨ws, hws⟩ : ∃ ws, sched (pkR (M.drop a) 16) 64 = ws := ⟨_, rfl⟩
                    have hwl : ws.length = 80 := by rw [← hws]; simp
                    rw [hgs, hws] at hS0
                    rw [hgs]
                    have HS := Lib.hid hS0
                    have HW3 := Lib.hid (And.intro hws hwl)
                    clear hS0 hgs hws hwl HW2
                    go_cut [12, 13, 14, 15, 16, 17] (fun s12 s13 s14 s15 s16 s17 wx => SAt w B M (.slice A6 LM c6) gw ws gs (rnd ws B 80) wx)
                    case first =>
                      -- [F10
                      go_wp2_with fail
                      go_loopw [132] (fun s132 wx => ∃ q : Nat, q ≤ 80 ∧ s132 = .int .i64 q ∧ SAt w B M (.slice A6 LM c6) gw ws gs (rnd ws B q) wx) (fun s132 _ => 80 - (intOf s132).toNat)
                      case atStart => exact ⟨0, by omega, rfl, HS.out⟩
                      case round =>
                        clear HS
                        obtain ⟨q, hq, rfl, hT⟩ := hrel
                        by_cases hq80 : q < 80
                        · obtain ⟨r, hr⟩ : ∃ r, rnd ws B q = r := ⟨_, rfl⟩
                          have hnx : rnd ws B (q + 1) = ⟨(rot5 r.a + mixF q r.b r.c r.d + r.e + mixK q + ws.getD q 0) % 4294967296, r.a, rot30 r.b, r.c, r.d⟩ := by rw [rnd, hr]
                          rw [hr] at hT
                          have hx := hT.base.words.at_ (i := q) (by rw [HW3.out.2]; exact hq80)
                          obtain ⟨a0, b0, c0, d0, e0⟩ := r
                          have hcur := hT.cur
                          obtain ⟨q0, q1, q2, q3, q4, f0, f1, f2, f3, f4⟩ := Whole.five (show Whole _ gs 124 (arr .u32 [a0, b0, c0, d0, e0]) from hcur)
                          obtain ⟨y, hy⟩ : ∃ y, ws.getD q 0 = y := ⟨_, rfl⟩
                          rw [hy] at hx hnx
                          dsimp only at hnx
                          have bq : (q : Int) < 80 := by omega
                          have HT := Lib.hid (And.intro hT hnx)
                          have HY := Lib.hid hy
                          clear hT hnx hcur hy hr
                          go_upto_region 28 with fail
                          go_quiet (fail)
                          go_upto_block 12 with fail
                          go_cut [16, 17] (fun s16 s17 wx => s16 = .int .u32 (mixF q b0 c0 d0) ∧ s17 = .int .u32 (mixK q) ∧ wr.drewN nq = wx)
                          case first =>
                            go_wp2
                            all_goals go_meet
                            all_goals first
                              | (have hm := mix_hi q b0 c0 d0 (by omega); exact ⟨by rw [hm.1], by rw [hm.2], rfl⟩)
                              | (have hm := mix_40 q b0 c0 d0 (by omega) (by omega); exact ⟨by rw [hm.1], by rw [hm.2], rfl⟩)
                              | (have hm := mix_20 q b0 c0 d0 (by omega) (by omega); exact ⟨by rw [hm.1], by rw [hm.2], rfl⟩)
                              | (have hm := mix_0 q b0 c0 d0 (by omega); exact ⟨by rw [hm.1], by rw [hm.2], rfl⟩)
                          case rest =>
                            obtain ⟨rfl, rfl, rfl⟩ := hcut
                            obtain ⟨F, hF⟩ : ∃ F, mixF q b0 c0 d0 = F := ⟨_, rfl⟩
                            obtain ⟨K, hK⟩ : ∃ K, mixK q = K := ⟨_, rfl⟩
                            rw [hF, hK]
                            have hnx := HT.out.2
                            rw [hF, hK] at hnx
                            have hD := HT.out.1.drewN nq
                            obtain ⟨wx, hwx⟩ : ∃ wx, wr.drewN nq = wx := ⟨_, rfl⟩
                            rw [hwx] at hD ⊢
                            clear hwx q0 q1 q2 q3 q4 f0 f1 f2 f3 f4 hx
                            obtain ⟨q0, q1, q2, q3, q4, f0, f1, f2, f3, f4⟩ := Whole.five (show Whole _ gs 124 (arr .u32 [a0, b0, c0, d0, e0]) from hD.cur)
                            have hx := hD.base.words.at_ (i := q) (by rw [HW3.out.2]; exact hq80)
                            rw [HY.out] at hx
                            have HN := Lib.hid (And.intro hD.drew hnx)
                            clear hnx hF hK HT hD HY
                            go_upto_region 36 with fail
                            refine wp_region_still_tail 21 (by kernel_rfl) (by kernel_rfl) ?_
                            simp only [List.take_succ_cons, List.take_zero, List.drop_succ_cons, List.drop_zero]
                            repeat still_step
                            still_call (same_flip (rotl_5 _ _))
                            repeat still_step
                            still_call (same_flip (rotl_30 _ _))
                            repeat still_step
                            refine wpStill_nil ?_
                            change wpList _ _ _ _ _ wx.drew
                            go_wp2_with fail
                            go_roundw
                            case rel => exact ⟨q + 1, by omega, by go_num, by rw [HN.out.2]; exact HN.out.1.put5 ⟨(rot5 a0 + F + e0 + K + y) % 4294967296, a0, rot30 b0, c0, d0⟩⟩
                            case measure => simp [intOf]; omega
                        · obtain rfl : q = 80 := by omega
                          rw [show ((80 : Nat) : Int) = 80 from rfl]
                          have HT := Lib.hid hT
                          clear hT
                          go_wp2
                          go_meet
                          exact HT.out
                      -- F10]
                    case rest =>
                      have hS := hcut
                      obtain ⟨r, hr⟩ : ∃ r, rnd ws B 80 = r := ⟨_, rfl⟩
                      rw [hr] at hS
                      have hH0 : HAt w M (.slice A6 LM c6) gs (addN B r 0) r wc := ⟨hS.base.base.own, hS.base.base.st, hS.base.base.res, hS.base.base.below, hS.cur, Nat.lt_trans hS.base.far hS.far⟩
                      have HH := Lib.hid hH0
                      have HW4 := Lib.hid hr
                      clear HS hcut hS hH0 hr
                      clear wr
                      go_wp2_with fail
                      go_loopw [201] (fun s201 wx => ∃ i : Nat, i ≤ 5 ∧ s201 = .int .i64 i ∧ HAt w M (.slice A6 LM c6) gs (addN B r i) r wx) (fun s201 _ => 5 - (intOf s201).toNat)
                      case atStart => exact ⟨0, by omega, rfl, HH.out⟩
                      case round =>
                        clear HH
                        obtain ⟨i, hi, rfl, hT⟩ := hrel
                        by_cases hi5 : i < 5
                        · have e1 := hT.st.at_ (i := i) (by simp; exact hi5)
                          have e2 := hT.cur.at_ (i := i) hi5
                          have f1 := hT.st.frz i
                          have hnew := hT.put i (((addN B r i).getD i 0 + r.list.getD i 0) % 4294967296)
                          have hsn : (addN B r i).set i (((addN B r i).getD i 0 + r.list.getD i 0) % 4294967296) = addN B r (i + 1) := rfl
                          rw [hsn] at hnew
                          obtain ⟨y1, hy1⟩ : ∃ y, (addN B r i).getD i 0 = y := ⟨_, rfl⟩
                          obtain ⟨y2, hy2⟩ : ∃ y, r.list.getD i 0 = y := ⟨_, rfl⟩
                          rw [hy1] at e1 hnew
                          rw [hy2] at e2 hnew
                          have bi : (i : Int) < 5 := by omega
                          have HT := Lib.hid hnew
                          clear hT hnew hsn hy1 hy2
                          go_upto_region 41 with fail
                          go_still_tail 9, (by kernel_rfl)
                          change wpList _ _ _ _ _ wr.drew
                          go_wp2_with fail
                          go_roundw
                          case rel => exact ⟨i + 1, by omega, by go_num, HT.out.drew⟩
                          case measure => simp [intOf]; omega
                        · obtain rfl : i = 5 := by omega
                          rw [show ((5 : Nat) : Int) = 5 from rfl]
                          have hH := hT
                          rw [addN_all] at hH
                          have hin : ∀ i, 0 ≤ M.getD i 0 ∧ M.getD i 0 < 256 := by rw [← HB.out.1]; exact append_in8 HX.out.in8 (padT_in8 _ _)
                          have hpk : pkR (M.drop a) 16 = pk (M.drop a) 64 := (pkR_pk (M.drop a) (fun i => by rw [getD_drop]; exact hin _) 16 (Nat.le_refl _)).symm
                          have hnx : B.add r = blks s0 M (k + 1) := by
                            rw [blks, HK.out.2, HK.out.1, blk, blkW, ← hpk, HW3.out.1, HW4.out]
                          rw [hnx] at hH
                          have HR3 : Hid (RAt w (blks s0 M (k + 1)) M (.slice A6 LM c6) wr) := Lib.hid ⟨hH.own, hH.st, hH.res, hH.below⟩
                          have ha := HK.out.1
                          have ha64 : ((64 * (k + 1) : Nat) : Int) = (a : Int) + 64 := by omega
                          have HA := Lib.hid ha64
                          have hal : a ≤ LM := by omega
                          clear hT hH hin hpk hnx HW4 HW3 ha ha64
                          go_wp2_with fail
                          go_roundw
                          case rel => exact ⟨k + 1, by omega, by rw [HA.out], HR3.out⟩
                          case measure => have := HK.out.1; simp [intOf]; omega
              · obtain rfl : k = kb := by omega
                have hR1 := hR
                have HR3 := Lib.hid hR1
                have hLI : ((64 * k : Nat) : Int) = (LM : Int) := by omega
                rw [hLI]
                clear hR hR1 hLI
                have hDone := HR3.out
                have hD0 : RAt w (blks s0 M k) M (.slice A6 LM c6) (wr.alloc (.cells (arr .u8 z20) 81)) := hDone.alloc _
                have hO : Whole (wr.alloc (.cells (arr .u8 z20) 81)) wr.heap.size 81 (arr .u8 (digR (blks s0 M k) 0)) := Whole.new _ _ _
                have hfar : w.heap.size + 1 < wr.heap.size := hDone.st.lt
                obtain ⟨S, hS⟩ : ∃ S, blks s0 M k = S := ⟨_, rfl⟩
                have hsha : sha xs = dig S := by
                  rw [sha, shaFrom, ← hS, HX.out.bytes.1, HB.out.1]
                  have : k = (n + 9 + (119 - n % 64) % 64) / 64 := HB.out.2.1.symm
                  rw [← this]
                rw [hS] at hD0 hO
                have HD := Lib.hid (And.intro hD0 hO)
                have HF := Lib.hid (And.intro hfar hsha)
                clear hDone hD0 hO hfar hS hsha HR3
                go_wp2_with fail
                obtain ⟨go, hgo⟩ : ∃ g, wr.heap.size = g := ⟨_, rfl⟩
                rw [hgo] at HD HF
                rw [hgo]
                clear hgo
                go_loopw [214] (fun s214 wx => ∃ i : Nat, i ≤ 20 ∧ s214 = .int .i64 i ∧ RAt w S M (.slice A6 LM c6) wx ∧ Whole wx go 81 (arr .u8 (digR S i))) (fun s214 _ => 20 - (intOf s214).toNat)
                case atStart => exact ⟨0, by omega, rfl, HD.out.1, HD.out.2⟩
                case round =>
                  clear HD
                  obtain ⟨i, hi, rfl, hT, hO⟩ := hrel
                  by_cases hi20 : i < 20
                  · have e1 := hT.st.at_ (i := i / 4) (by show i / 4 < 5; omega)
                    have e2 := hO.at_ (i := i) (by simp; exact hi20)
                    have f2 := hO.frz i
                    have hnew := hO.put i (S.list.getD (i / 4) 0 / 2 ^ (24 - 8 * (i % 4)) % 256)
                    have hsn : (digR S i).set i (S.list.getD (i / 4) 0 / 2 ^ (24 - 8 * (i % 4)) % 256) = digR S (i + 1) := rfl
                    rw [hsn] at hnew
                    have hT2 : ∀ x : Int, RAt w S M (.slice A6 LM c6) (wr.setCell ⟨go, i, none⟩ (.int .u8 x)) := fun x => RAt.farSet hT hO HF.out.1 i x
                    obtain ⟨y1, hy1⟩ : ∃ y, S.list.getD (i / 4) 0 = y := ⟨_, rfl⟩
                    obtain ⟨y2, hy2⟩ : ∃ y, (digR S i).getD i 0 = y := ⟨_, rfl⟩
                    rw [hy1] at e1 hnew
                    rw [hy2] at e2
                    have bi : (i : Int) < 20 := by omega
                    have h24 : (0 : Int) ≤ 24 - 8 * ((i : Int) % 4) := by omega
                    have h25 : (24 : Int) - 8 * ((i : Int) % 4) ≤ 32 := by omega
                    have HT := Lib.hid (And.intro hT2 hnew)
                    clear hT hO hnew hsn hy1 hy2 hT2
                    go_wp2_with fail
                    go_roundw
                    case rel => exact ⟨i + 1, by omega, by go_num, HT.out.1 _, HT.out.2⟩
                    case measure => simp [intOf]; omega
                  · obtain rfl : i = 20 := by omega
                    rw [show ((20 : Nat) : Int) = 20 from rfl]
                    rw [digR_all, ← HF.out.2] at hO
                    have HT := Lib.hid (And.intro hT hO)
                    have hF := fit20_sha xs
                    have HFt := Lib.hid hF
                    clear hT hO hF
                    go_wp2_with (first
                      | (refine wpList_load_whole rfl 81 (.tmp 19) rfl rfl HT.out.2 Try.underlying81 Try.info81 HFt.out.1 ?_)
                      | (refine wpList_store_whole rfl 81 (.tmp 2) (.tmp 231) rfl rfl rfl HT.out.1.res Try.info81 HFt.out.1 (by rfl) HFt.out.2 ?_))
                    refine bodyPost_ret (v := .agg (arr .u8 (sha xs))) ?_ rfl ?_
                    · exact ret_whole (g := w.heap.size) rfl rfl (Whole.row HT.out.1.res _) Try.underlying81 Try.info81 HFt.out.1
                    · exact ⟨rfl, below_row HT.out.1.below (Nat.le_refl _) _⟩

end Go.Proofs.Yteloaidnfcmadaa
