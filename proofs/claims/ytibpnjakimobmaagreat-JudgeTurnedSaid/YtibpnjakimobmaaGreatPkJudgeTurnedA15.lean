import Derived.Test.YtibpnjakimobmaaGreatPkJudgeTurnedA14
import Derived.Test.YtibpnjakimobmaaGreatPkJudgeTurnedA06
namespace Go.Proofs.YtibpnjakimobmaaGreat
open Go.RowKit
set_option linter.unusedVariables false
set_option linter.unusedSimpArgs false
theorem checkA_zero {o a : DescS} (h : (goodD o && goodD a && decide (o.media.length = a.media.length)) = false) : checkA o a = 1 := by
 unfold checkA
 rw [h]
 rfl
theorem checkA_at {o a : DescS} {k : Nat} (h0 : (goodD o && goodD a && decide (o.media.length = a.media.length)) = true) (h2 : 2 ≤ k) (h8 : k ≤ 8) (hb : ∀ r, 2 ≤ r → r < k → ruleAll r o.media a.media = true) (hf : ruleAll k o.media a.media = false) : checkA o a = k := by
 unfold checkA
 rw [if_pos h0]
 have hk : k = 2 ∨ k = 3 ∨ k = 4 ∨ k = 5 ∨ k = 6 ∨ k = 7 ∨ k = 8 := by omega
 have p := fun r h1 h2 => hb r h1 h2
 rcases hk with rfl | rfl | rfl | rfl | rfl | rfl | rfl <;> simp [rulesFrom, p, hf]
theorem checkA_end {o a : DescS} (h0 : (goodD o && goodD a && decide (o.media.length = a.media.length)) = true) (hb : ∀ r, 2 ≤ r → r < 9 → ruleAll r o.media a.media = true) : checkA o a = if bundle9 o a = true then (if o.ver = a.ver then 0 else 10) else 9 := by
 unfold checkA
 rw [if_pos h0]
 simp [rulesFrom, hb]
theorem ruleAll_yes {O A : List MediaS} {n k : Nat} (ho : O.length = n) (ha : A.length = n) (h : ∀ j, j < n → holdsR k (O.getD j default) (A.getD j default) = true) : ruleAll k O A = true := by
 have := pairs_yes (q := holdsR k) ho ha h
 unfold pairsA at this
 rw [Bool.and_eq_true] at this
 exact this.2
theorem ruleAll_no {O A : List MediaS} {n k j : Nat} (ho : O.length = n) (ha : A.length = n) (hj : j < n) (h : holdsR k (O.getD j default) (A.getD j default) = false) : ruleAll k O A = false := by
 have := pairs_no (q := holdsR k) ho ha hj h
 unfold pairsA at this
 rw [ho, ha, decide_eq_true rfl, Bool.true_and] at this
 exact this
theorem taken_next {A : List MediaS} {i : Nat} {m : MediaS} (h : A[i]? = some m) : takenMids (A.take (i + 1)) = if tookT m = true then takenMids (A.take i) ++ [m.mid] else takenMids (A.take i) := by
 unfold takenMids
 rw [List.take_add_one, h, List.filter_append]
 by_cases ht : tookT m = true
 · rw [if_pos ht]
   simp [ht]
 · rw [if_neg ht]
   simp [ht]
theorem taken_le (A : List MediaS) : (takenMids A).length ≤ A.length := by
 unfold takenMids
 rw [List.length_map]
 exact List.length_filter_le _ _
set_option maxHeartbeats 12800000 in
set_option maxRecDepth 100000 in
theorem r10Check_any (X Y : Array Value) (o a : DescS) (vB vM uB uM : Value) (w : World) (h1 : DescV w w.heap.size X o vB vM) (hz1 : SizD o) (h2 : DescV w w.heap.size Y a uB uM) (hz2 : SizD a) :
 Calls Tryz.prog 8 #[.agg X, .agg Y] w fun e w' => e = .returned (.int .i64 (checkA o a : Nat)) ∧ Below w.heap.size w w' := by
 obtain ⟨hb0, hbx, hby⟩ := two_boxes w 26 X Y
 obtain ⟨AB, cB, rfl, -⟩ := Rows.form h1.bundle
 obtain ⟨AM, cM, rfl, hcM, hmM, -⟩ := Rows.form h1.media
 obtain ⟨AB2, cB2, rfl, -⟩ := Rows.form h2.bundle
 obtain ⟨AM2, cM2, rfl, hcM2, hmM2, -⟩ := Rows.form h2.media
 obtain ⟨nB, hnB⟩ : ∃ n, o.bundle.length = n := ⟨_, rfl⟩
 obtain ⟨nM, hnM⟩ : ∃ n, o.media.length = n := ⟨_, rfl⟩
 obtain ⟨nB2, hnB2⟩ : ∃ n, a.bundle.length = n := ⟨_, rfl⟩
 obtain ⟨nM2, hnM2⟩ : ∃ n, a.media.length = n := ⟨_, rfl⟩
 rw [hnB, hnM] at h1
 rw [hnB2, hnM2] at h2
 have HXC : Hid (X[1]? = some (.int .u64 o.ver) ∧ X[2]? = some (.slice AB nB cB) ∧ X[5]? = some (.slice AM nM cM)) := Lib.hid (by rw [h1.form]; exact ⟨rfl, rfl, rfl⟩)
 have HYC : Hid (Y[1]? = some (.int .u64 a.ver) ∧ Y[2]? = some (.slice AB2 nB2 cB2) ∧ Y[5]? = some (.slice AM2 nM2 cM2)) := Lib.hid (by rw [h2.form]; exact ⟨rfl, rfl, rfl⟩)
 have HG1 : Hid (∀ W, Below w.heap.size w W → Calls Tryz.prog 9 #[.agg X] W fun e w' => e = .returned (.bool (goodD o)) ∧ Below W.heap.size W w') := Lib.hid fun W hW => r8Good_any X o _ _ W (h1.under hW) hz1
 have HG2 : Hid (∀ W, Below w.heap.size w W → Calls Tryz.prog 9 #[.agg Y] W fun e w' => e = .returned (.bool (goodD a)) ∧ Below W.heap.size W w') := Lib.hid fun W hW => r8Good_any Y a _ _ W (h2.under hW) hz2
 have HSZ : Hid (X.size = 6 ∧ Y.size = 6) := Lib.hid ⟨by rw [h1.form]; rfl, by rw [h2.form]; rfl⟩
 have HZM : Hid ((∀ m ∈ o.media, SizM m) ∧ o.bundle.length ≤ 8796093021952) := Lib.hid ⟨hz1.media, hz1.count⟩
 have HL := Lib.hid (And.intro hnB (And.intro hnM (And.intro hnB2 hnM2)))
 have H0 := Lib.hid (And.intro hb0 (And.intro hbx hby))
 have HV := Lib.hid (And.intro h1 h2)
 obtain ⟨N, hN⟩ : ∃ N, w.heap.size = N := ⟨_, rfl⟩
 rw [hN] at H0 HV HG1 HG2
 have HN := Lib.hid hN
 obtain ⟨g1, hg1⟩ : ∃ b, goodD o = b := ⟨_, rfl⟩
 obtain ⟨g2, hg2⟩ : ∃ b, goodD a = b := ⟨_, rfl⟩
 rw [hg1] at HG1
 rw [hg2] at HG2
 have HGG := Lib.hid (And.intro hg1 hg2)
 obtain ⟨res, hres⟩ : ∃ n, checkA o a = n := ⟨_, rfl⟩
 have HRES := Lib.hid hres
 rw [hres]
 clear h1 h2 hb0 hbx hby hN hz1 hz2 hnB hnM hnB2 hnM2 hg1 hg2 hres
 go_enter Tryz.func8, Tryz.ntmps8
 go_upto_region 1 with fail
 simp only [HN.out, Nat.add_assoc, Nat.reduceAdd]
 generalize ((w.alloc (.cells X 26)).alloc (.cells Y 26)) = W0 at *
 have HN0 : Hid (N ≤ W0.heap.size) := Lib.hid (Nat.le_of_lt H0.out.2.1.lt)
 cases g1 with
 | false =>
   have HQ : Hid (res = 1) := Lib.hid (by rw [← HRES.out]; exact checkA_zero (by rw [HGG.out.1]; rfl))
   go_wp2_with (first | ((with_reducible refine wpList_load_allG ?_ 26 (.tmp 2) ?_ H0.out.2.1 ?_ Tryz.sizeDesc HSZ.out.1 Tryz.underlying26 rfl ?_); rfl; (with_reducible rfl); rfl) | ((with_reducible refine wpList_load_allG ?_ 26 (.tmp 3) ?_ H1.out.2.2 ?_ Tryz.sizeDesc HSZ.out.2 Tryz.underlying26 rfl ?_); rfl; (with_reducible rfl); rfl) | (go_at_call 9; (with_reducible refine (HG1.out _ H0.out.1).mono ?_); rintro e w1 ⟨rfl, hb1⟩; have H1 : Hid (Below N w w1 ∧ Whole w1 N 26 X ∧ Whole w1 (N + 1) 26 Y) := Lib.hid ⟨H0.out.1.trans (hb1.mono HN0.out), H0.out.2.1.under hb1, H0.out.2.2.under hb1⟩; clear hb1; have px5 : w1.cell? ⟨N, 5, none⟩ = some (.slice AM nM cM) := (H1.out.2.1.cell 5).trans HXC.out.2.2; have py5 : w1.cell? ⟨N + 1, 5, none⟩ = some (.slice AM2 nM2 cM2) := (H1.out.2.2.cell 5).trans HYC.out.2.2) | (go_at_call 9; (with_reducible refine (HG2.out _ H1.out.1).mono ?_); rintro e w2 ⟨rfl, hb2⟩; have H2 : Hid (Below N w w2 ∧ Whole w2 N 26 X ∧ Whole w2 (N + 1) 26 Y) := Lib.hid ⟨H1.out.1.trans (hb2.mono (Nat.le_of_lt H1.out.2.1.lt)), H1.out.2.1.under hb2, H1.out.2.2.under hb2⟩; clear hb2; have rx5 : w2.cell? ⟨N, 5, none⟩ = some (.slice AM nM cM) := (H2.out.2.1.cell 5).trans HXC.out.2.2; have ry5 : w2.cell? ⟨N + 1, 5, none⟩ = some (.slice AM2 nM2 cM2) := (H2.out.2.2.cell 5).trans HYC.out.2.2))
   go_ret
   exact ⟨by rw [HQ.out]; rfl, by rw [HN.out]; exact H1.out.1⟩
 | true =>
   cases g2 with
   | false =>
     have HQ : Hid (res = 1) := Lib.hid (by rw [← HRES.out]; exact checkA_zero (by rw [HGG.out.2]; simp))
     go_wp2_with (first | ((with_reducible refine wpList_load_allG ?_ 26 (.tmp 2) ?_ H0.out.2.1 ?_ Tryz.sizeDesc HSZ.out.1 Tryz.underlying26 rfl ?_); rfl; (with_reducible rfl); rfl) | ((with_reducible refine wpList_load_allG ?_ 26 (.tmp 3) ?_ H1.out.2.2 ?_ Tryz.sizeDesc HSZ.out.2 Tryz.underlying26 rfl ?_); rfl; (with_reducible rfl); rfl) | (go_at_call 9; (with_reducible refine (HG1.out _ H0.out.1).mono ?_); rintro e w1 ⟨rfl, hb1⟩; have H1 : Hid (Below N w w1 ∧ Whole w1 N 26 X ∧ Whole w1 (N + 1) 26 Y) := Lib.hid ⟨H0.out.1.trans (hb1.mono HN0.out), H0.out.2.1.under hb1, H0.out.2.2.under hb1⟩; clear hb1; have px5 : w1.cell? ⟨N, 5, none⟩ = some (.slice AM nM cM) := (H1.out.2.1.cell 5).trans HXC.out.2.2; have py5 : w1.cell? ⟨N + 1, 5, none⟩ = some (.slice AM2 nM2 cM2) := (H1.out.2.2.cell 5).trans HYC.out.2.2) | (go_at_call 9; (with_reducible refine (HG2.out _ H1.out.1).mono ?_); rintro e w2 ⟨rfl, hb2⟩; have H2 : Hid (Below N w w2 ∧ Whole w2 N 26 X ∧ Whole w2 (N + 1) 26 Y) := Lib.hid ⟨H1.out.1.trans (hb2.mono (Nat.le_of_lt H1.out.2.1.lt)), H1.out.2.1.under hb2, H1.out.2.2.under hb2⟩; clear hb2; have rx5 : w2.cell? ⟨N, 5, none⟩ = some (.slice AM nM cM) := (H2.out.2.1.cell 5).trans HXC.out.2.2; have ry5 : w2.cell? ⟨N + 1, 5, none⟩ = some (.slice AM2 nM2 cM2) := (H2.out.2.2.cell 5).trans HYC.out.2.2))
     go_ret
     exact ⟨by rw [HQ.out]; rfl, by rw [HN.out]; exact H2.out.1⟩
   | true =>
     by_cases hl : nM = nM2
     · subst hl
       have hl' : ((nM : Int) != (nM : Int)) = false := by simp
       have HG0 : Hid ((goodD o && goodD a && decide (o.media.length = a.media.length)) = true) := Lib.hid (by rw [HGG.out.1, HGG.out.2, HL.out.2.1, HL.out.2.2.2]; simp)
       have h8 : nM ≤ 8 := by rw [← HL.out.2.1]; exact (goodD_parts HGG.out.1).2.2.1
       have HGP : Hid ((∀ m ∈ o.media, goodM m = true) ∧ ∀ m ∈ a.media, goodM m = true) := Lib.hid ⟨(goodD_parts HGG.out.1).2.2.2.1, (goodD_parts HGG.out.2).2.2.2.1⟩
       go_upto_region 3 with (first | ((with_reducible refine wpList_load_allG ?_ 26 (.tmp 2) ?_ H0.out.2.1 ?_ Tryz.sizeDesc HSZ.out.1 Tryz.underlying26 rfl ?_); rfl; (with_reducible rfl); rfl) | ((with_reducible refine wpList_load_allG ?_ 26 (.tmp 3) ?_ H1.out.2.2 ?_ Tryz.sizeDesc HSZ.out.2 Tryz.underlying26 rfl ?_); rfl; (with_reducible rfl); rfl) | (go_at_call 9; (with_reducible refine (HG1.out _ H0.out.1).mono ?_); rintro e w1 ⟨rfl, hb1⟩; have H1 : Hid (Below N w w1 ∧ Whole w1 N 26 X ∧ Whole w1 (N + 1) 26 Y) := Lib.hid ⟨H0.out.1.trans (hb1.mono HN0.out), H0.out.2.1.under hb1, H0.out.2.2.under hb1⟩; clear hb1; have px5 : w1.cell? ⟨N, 5, none⟩ = some (.slice AM nM cM) := (H1.out.2.1.cell 5).trans HXC.out.2.2; have py5 : w1.cell? ⟨N + 1, 5, none⟩ = some (.slice AM2 nM cM2) := (H1.out.2.2.cell 5).trans HYC.out.2.2) | (go_at_call 9; (with_reducible refine (HG2.out _ H1.out.1).mono ?_); rintro e w2 ⟨rfl, hb2⟩; have H2 : Hid (Below N w w2 ∧ Whole w2 N 26 X ∧ Whole w2 (N + 1) 26 Y) := Lib.hid ⟨H1.out.1.trans (hb2.mono (Nat.le_of_lt H1.out.2.1.lt)), H1.out.2.1.under hb2, H1.out.2.2.under hb2⟩; clear hb2; have rx5 : w2.cell? ⟨N, 5, none⟩ = some (.slice AM nM cM) := (H2.out.2.1.cell 5).trans HXC.out.2.2; have ry5 : w2.cell? ⟨N + 1, 5, none⟩ = some (.slice AM2 nM cM2) := (H2.out.2.2.cell 5).trans HYC.out.2.2))
       clear px5 py5 rx5 ry5 H1 H0 HN0
       have HN2 : Hid (N ≤ w2.heap.size) := Lib.hid (Nat.le_of_lt H2.out.2.1.lt)
       have HF : Hid (∀ W, Below w2.heap.size w2 W → Below N w W ∧ Whole W N 26 X ∧ Whole W (N + 1) 26 Y) := Lib.hid fun W hW => ⟨H2.out.1.trans (hW.mono HN2.out), H2.out.2.1.under hW, H2.out.2.2.under hW⟩
       go_wp2
       go_loopw [5] (fun s5 wr => ∃ k : Nat, 2 ≤ k ∧ k ≤ 9 ∧ s5 = .int .i64 (k : Int) ∧ (∀ r, 2 ≤ r → r < k → ruleAll r o.media a.media = true) ∧ Below w2.heap.size w2 wr) (fun s5 _ => 9 - (intOf s5).toNat)
       case atStart => exact ⟨2, by omega, by omega, rfl, (fun r h1 h2 => by omega), Below.refl _ _⟩
       case round =>
        obtain ⟨k, hk2, hk9, rfl, hall, hb⟩ := hrel
        have HS := Lib.hid (And.intro hall hb)
        have HFR := Lib.hid (HF.out wr hb)
        clear hall hb
        by_cases hk8 : k ≤ 8
        · have hk8' : (k : Int) ≤ 8 := by omega
          have d5 : wr.cell? ⟨N, 5, none⟩ = some (.slice AM nM cM) := (HFR.out.2.1.cell 5).trans HXC.out.2.2
          go_wp2
          clear d5
          generalize wr = w4 at *
          go_loopw [33] (fun s33 wq => ∃ i : Nat, i ≤ nM ∧ s33 = .int .i64 (i : Int) ∧ (∀ j, j < i → holdsR k (o.media.getD j default) (a.media.getD j default) = true) ∧ Below w4.heap.size w4 wq) (fun s33 _ => nM - (intOf s33).toNat)
          case atStart => exact ⟨0, Nat.zero_le _, rfl, (fun j hj => by omega), Below.refl _ _⟩
          case round =>
           obtain ⟨i, hi, rfl, hall, hbq⟩ := hrel
           have HT : Hid ((∀ j, j < i → holdsR k (o.media.getD j default) (a.media.getD j default) = true) ∧ Below w2.heap.size w2 wr ∧ Below w4.heap.size w4 wr) := Lib.hid ⟨hall, HS.out.2.trans (hbq.mono HS.out.2.size), hbq⟩
           have HFT := Lib.hid (HF.out wr HT.out.2.1)
           clear hall hbq
           by_cases hlt : i < nM
           · obtain ⟨ad1, k1, X1, vC, vE, vR, vS, vY, e1, b1, hx, xs⟩ := MediasV.at_ (HV.out.1.media.below HFT.out.1) (i := i) (by rw [HL.out.2.1]; exact hlt)
             obtain ⟨ad2, k2, Y1, uC, uE, uR, uS, uY, e2, b2, hy, ys⟩ := MediasV.at_ (HV.out.2.media.below HFT.out.1) (i := i) (by rw [HL.out.2.2.2]; exact hlt)
             injection e1 with e1 e1n e1c; clear e1n e1c
             injection e2 with e2 e2n e2c; clear e2n e2c
             subst e1 e2
             have gx := getD_mem (L := o.media) (i := i) (by rw [HL.out.2.1]; exact hlt)
             have gy := getD_mem (L := a.media) (i := i) (by rw [HL.out.2.2.2]; exact hlt)
             obtain ⟨x, hx2⟩ : ∃ m, o.media.getD i default = m := ⟨_, rfl⟩
             obtain ⟨y, hy2⟩ : ∃ m, a.media.getD i default = m := ⟨_, rfl⟩
             rw [hx2] at hx gx
             rw [hy2] at hy gy
             have HXY := Lib.hid (And.intro hx2 hy2)
             have hi0 : (0 : Int) ≤ (i : Int) := by omega
             have hi1 : (i : Int) < (nM : Int) := by omega
             have HA5 : Hid (∀ W, Below wr.heap.size wr W → W.cell? ⟨N, 5, none⟩ = some (.slice (some ad1) nM cM)) := Lib.hid fun W hW => ((HFT.out.2.1.under hW).cell 5).trans HXC.out.2.2
             have HB5 : Hid (∀ W, Below wr.heap.size wr W → W.cell? ⟨N + 1, 5, none⟩ = some (.slice (some ad2) nM cM2)) := Lib.hid fun W hW => ((HFT.out.2.2.under hW).cell 5).trans HYC.out.2.2
             have hNW : N ≤ wr.heap.size := Nat.le_of_lt HFT.out.2.1.lt
             have HXL : Hid (∀ W, Below wr.heap.size wr W → ∀ j u, X1.toList[j]? = some u → W.cell? ((ad1.add (i * 11)).add j) = some u) := Lib.hid fun W hW j u hu => (hW.cell (p := (ad1.add (i * 11)).add j) (by rw [add_block, add_block]; omega)).trans (xs j u hu)
             have HYL : Hid (∀ W, Below wr.heap.size wr W → ∀ j u, Y1.toList[j]? = some u → W.cell? ((ad2.add (i * 11)).add j) = some u) := Lib.hid fun W hW j u hu => (hW.cell (p := (ad2.add (i * 11)).add j) (by rw [add_block, add_block]; omega)).trans (ys j u hu)
             have HXS : Hid ((Tryz.prog.info? 44).map (·.size) = some X1.toList.length) := Lib.hid (by rw [Array.length_toList, hx.size]; exact Tryz.sizeMedia)
             have HYS : Hid ((Tryz.prog.info? 44).map (·.size) = some Y1.toList.length) := Lib.hid (by rw [Array.length_toList, hy.size]; exact Tryz.sizeMedia)
             obtain ⟨b, hb⟩ : ∃ b, holdsR k x y = b := ⟨_, rfl⟩
             have HC : Hid (∀ W, Below wr.heap.size wr W → Calls Tryz.prog 12 #[.int .i64 (k : Int), .agg X1, .agg Y1] W fun e w' => e = .returned (.bool b) ∧ Below W.heap.size W w') := Lib.hid fun W hW => by
              have := r10holds_any k X1 Y1 x y vC vE vR vS vY uC uE uR uS uY W ((hx.below (hW.mono hNW)).more (Nat.le_trans hNW hW.size)) ((hy.below (hW.mono hNW)).more (Nat.le_trans hNW hW.size)) hk2 hk8 (HZM.out.1 x gx) (goodM_dir (HGP.out.1 x gx)) (goodM_dir (HGP.out.2 y gy))
              rw [hb] at this
              exact this
             have HBE := Lib.hid hb
             have HKB : Hid (∀ W W', Below wr.heap.size wr W → Below W.heap.size W W' → Below wr.heap.size wr W') := Lib.hid fun W W' h1 h2 => h1.trans (h2.mono h1.size)
             have HDR : Hid (Below wr.heap.size wr wr.drew) := Lib.hid (Below.refl _ _).drew
             clear hx hy xs ys b1 b2 gx gy hx2 hy2 hb hNW
             go_upto_region 9 with fail
             refine wp_region_held_drew (S := fun W => Below wr.heap.size wr W) (by kernel_rfl) HDR.out (fun hHeld => ?_)
             refine wpAnyH_take (i := 0) (v := _) rfl (by as_aux_lemma => kernel_rfl) (by as_aux_lemma => kernel_rfl) (by as_aux_lemma => kernel_rfl) (fun _ _ _ h => h) (Or.inl ⟨by rfl, fun w h => by have e0 := HA5.out w h; have e1 := HB5.out w h; clear h; go_simp; (try with_reducible rfl)⟩) (by assumption) ?_
             simp only [Act.put, List.getElem_toArray, List.getElem_cons_succ, List.getElem_cons_zero, List.setIfInBounds_toArray, List.set_cons_succ, List.set_cons_zero]
             refine wpAnyH_take (i := 1) (v := _) rfl (by as_aux_lemma => kernel_rfl) (by as_aux_lemma => kernel_rfl) (by as_aux_lemma => kernel_rfl) (fun _ _ _ h => h) (Or.inl ⟨by rfl, fun w h => by have e0 := HA5.out w h; have e1 := HB5.out w h; clear h; go_simp; (try with_reducible rfl)⟩) (by assumption) ?_
             simp only [Act.put, List.getElem_toArray, List.getElem_cons_succ, List.getElem_cons_zero, List.setIfInBounds_toArray, List.set_cons_succ, List.set_cons_zero]
             refine wpAnyH_take (i := 2) (v := _) rfl (by as_aux_lemma => kernel_rfl) (by as_aux_lemma => kernel_rfl) (by as_aux_lemma => kernel_rfl) (fun _ _ _ h => h) (Or.inl ⟨by rfl, fun w h => by have e0 := HA5.out w h; have e1 := HB5.out w h; clear h; go_simp; (try with_reducible rfl)⟩) (by assumption) ?_
             simp only [Act.put, List.getElem_toArray, List.getElem_cons_succ, List.getElem_cons_zero, List.setIfInBounds_toArray, List.set_cons_succ, List.set_cons_zero]
             refine wpAnyH_take (i := 3) (v := _) rfl (by as_aux_lemma => kernel_rfl) (by as_aux_lemma => kernel_rfl) (by as_aux_lemma => kernel_rfl) (fun _ _ _ h => h) (Or.inl ⟨by rfl, fun w h => by have e0 := HA5.out w h; have e1 := HB5.out w h; clear h; go_simp; (try with_reducible rfl)⟩) (by assumption) ?_
             simp only [Act.put, List.getElem_toArray, List.getElem_cons_succ, List.getElem_cons_zero, List.setIfInBounds_toArray, List.set_cons_succ, List.set_cons_zero]
             refine wpAnyH_take (i := 4) (v := _) rfl (by as_aux_lemma => kernel_rfl) (by as_aux_lemma => kernel_rfl) (by as_aux_lemma => kernel_rfl) (fun _ _ _ h => h) (Or.inl ⟨by rfl, fun w h => by have e0 := HA5.out w h; have e1 := HB5.out w h; clear h; go_simp; (try with_reducible rfl)⟩) (by assumption) ?_
             simp only [Act.put, List.getElem_toArray, List.getElem_cons_succ, List.getElem_cons_zero, List.setIfInBounds_toArray, List.set_cons_succ, List.set_cons_zero]
             refine wpAnyH_take (i := 5) (v := _) rfl (by as_aux_lemma => kernel_rfl) (by as_aux_lemma => kernel_rfl) (by as_aux_lemma => kernel_rfl) (fun _ _ _ h => h) (yieldsIf_load_at (by rfl) 44 (.tmp 40) rfl (ad1.add (i * 11)) rfl X1.toList _ (fun w h => HXL.out w h) Tryz.underlying44 rfl HXS.out) (by assumption) ?_
             simp only [Act.put, List.getElem_toArray, List.getElem_cons_succ, List.getElem_cons_zero, List.setIfInBounds_toArray, List.set_cons_succ, List.set_cons_zero]
             refine wpAnyH_take (i := 6) (v := _) rfl (by as_aux_lemma => kernel_rfl) (by as_aux_lemma => kernel_rfl) (by as_aux_lemma => kernel_rfl) (fun _ _ _ h => h) (Or.inl ⟨by rfl, fun w h => by have e0 := HA5.out w h; have e1 := HB5.out w h; clear h; go_simp; (try with_reducible rfl)⟩) (by assumption) ?_
             simp only [Act.put, List.getElem_toArray, List.getElem_cons_succ, List.getElem_cons_zero, List.setIfInBounds_toArray, List.set_cons_succ, List.set_cons_zero]
             refine wpAnyH_take (i := 7) (v := _) rfl (by as_aux_lemma => kernel_rfl) (by as_aux_lemma => kernel_rfl) (by as_aux_lemma => kernel_rfl) (fun _ _ _ h => h) (Or.inl ⟨by rfl, fun w h => by have e0 := HA5.out w h; have e1 := HB5.out w h; clear h; go_simp; (try with_reducible rfl)⟩) (by assumption) ?_
             simp only [Act.put, List.getElem_toArray, List.getElem_cons_succ, List.getElem_cons_zero, List.setIfInBounds_toArray, List.set_cons_succ, List.set_cons_zero]
             refine wpAnyH_take (i := 8) (v := _) rfl (by as_aux_lemma => kernel_rfl) (by as_aux_lemma => kernel_rfl) (by as_aux_lemma => kernel_rfl) (fun _ _ _ h => h) (Or.inl ⟨by rfl, fun w h => by have e0 := HA5.out w h; have e1 := HB5.out w h; clear h; go_simp; (try with_reducible rfl)⟩) (by assumption) ?_
             simp only [Act.put, List.getElem_toArray, List.getElem_cons_succ, List.getElem_cons_zero, List.setIfInBounds_toArray, List.set_cons_succ, List.set_cons_zero]
             refine wpAnyH_take (i := 9) (v := _) rfl (by as_aux_lemma => kernel_rfl) (by as_aux_lemma => kernel_rfl) (by as_aux_lemma => kernel_rfl) (fun _ _ _ h => h) (Or.inl ⟨by rfl, fun w h => by have e0 := HA5.out w h; have e1 := HB5.out w h; clear h; go_simp; (try with_reducible rfl)⟩) (by assumption) ?_
             simp only [Act.put, List.getElem_toArray, List.getElem_cons_succ, List.getElem_cons_zero, List.setIfInBounds_toArray, List.set_cons_succ, List.set_cons_zero]
             refine wpAnyH_take (i := 10) (v := _) rfl (by as_aux_lemma => kernel_rfl) (by as_aux_lemma => kernel_rfl) (by as_aux_lemma => kernel_rfl) (fun _ _ _ h => h) (yieldsIf_load_at (by rfl) 44 (.tmp 45) rfl (ad2.add (i * 11)) rfl Y1.toList _ (fun w h => HYL.out w h) Tryz.underlying44 rfl HYS.out) (by assumption) ?_
             simp only [Act.put, List.getElem_toArray, List.getElem_cons_succ, List.getElem_cons_zero, List.setIfInBounds_toArray, List.set_cons_succ, List.set_cons_zero]
             refine wpAnyH_ready (rs := [11]) (by as_aux_lemma => kernel_rfl) (by simp) ?_
             refine AllReadyH.cons (i := 11) rfl (fun K hK => ?_) AllReadyH.nil
             go_simp
             refine (HC.out _ hHeld).mono ?_
             rintro e w3 ⟨rfl, hb3⟩
             refine hK.out _ _ (HKB.out _ _ hHeld hb3) (fun hHeld4 => ?_)
             clear hK K hHeld
             have hHeld := hHeld4
             clear hHeld4
             try simp only [Act.put]
             refine wpAnyH_take (i := 12) (v := _) rfl (by as_aux_lemma => kernel_rfl) (by as_aux_lemma => kernel_rfl) (by as_aux_lemma => kernel_rfl) (fun _ _ _ h => h) (Or.inl ⟨by rfl, fun w h => by have e0 := HA5.out w h; have e1 := HB5.out w h; clear h; go_simp; (try with_reducible rfl)⟩) (by assumption) ?_
             simp only [Act.put, List.getElem_toArray, List.getElem_cons_succ, List.getElem_cons_zero, List.setIfInBounds_toArray, List.set_cons_succ, List.set_cons_zero]
             refine wpAnyH_done (by as_aux_lemma => kernel_rfl) ?_ _
             have HFIN := Lib.hid (And.intro (HT.out.2.1.trans (hHeld.mono HT.out.2.1.size)) (HT.out.2.2.trans (hHeld.mono HT.out.2.2.size)))
             clear hHeld
             cases b with
             | true =>
               go_wp2
               go_roundw
               case rel =>
                refine ⟨i + 1, by omega, by go_num, fun j hj => ?_, HFIN.out.2⟩
                by_cases e : j = i
                · subst e
                  rw [HXY.out.1, HXY.out.2]
                  exact HBE.out
                · exact HT.out.1 j (by omega)
               case measure => simp [intOf]; omega
             | false =>
               have HQ : Hid (res = k) := Lib.hid (by rw [← HRES.out]; exact checkA_at HG0.out hk2 hk8 HS.out.1 (ruleAll_no HL.out.2.1 HL.out.2.2.2 hlt (by rw [HXY.out.1, HXY.out.2]; exact HBE.out)))
               have HFI : Hid (Below N w w3) := Lib.hid (HF.out w3 HFIN.out.1).1
               go_wp2
               go_ret
               exact ⟨by rw [HQ.out]; rfl, by rw [HN.out]; exact HFI.out⟩
           · obtain rfl : i = nM := by omega
             have HRA : Hid (ruleAll k o.media a.media = true) := Lib.hid (ruleAll_yes HL.out.2.1 HL.out.2.2.2 HT.out.1)
             go_wp2
             go_roundw
             case rel =>
              refine ⟨k + 1, by omega, by omega, by go_num, fun r h1 h2 => ?_, HT.out.2.1⟩
              by_cases e : r = k
              · subst e
                exact HRA.out
              · exact HS.out.1 r h1 (by omega)
             case measure => simp [intOf]; omega
        · obtain rfl : k = 9 := by omega
          have hk8' : ¬ (((9 : Nat) : Int)) ≤ 8 := by omega
          have HEND : Hid (res = if bundle9 o a = true then (if o.ver = a.ver then 0 else 10) else 9) := Lib.hid (by rw [← HRES.out]; exact checkA_end HG0.out HS.out.1)
          have e5 : wr.cell? ⟨N + 1, 5, none⟩ = some (.slice AM2 nM cM2) := (HFR.out.2.2.cell 5).trans HYC.out.2.2
          have HB4 := Lib.hid HS.out.2
          clear HS hk2 hk9
          go_wp2
          clear e5
          generalize wr = w4 at *
          have HB4N : Hid (∀ W, Below w4.heap.size w4 W → Below N w W ∧ Whole W N 26 X ∧ Whole W (N + 1) 26 Y) := Lib.hid fun W hW => HF.out W (HB4.out.trans (hW.mono HB4.out.size))
          go_loopw [54, 7] (fun s54 s7 wq => ∃ i : Nat, i ≤ nM ∧ s54 = .int .i64 (i : Int) ∧ (Own wq w4.heap.size 9 1 s7 ((takenMids (a.media.take i)).map tcell) ∧ (takenMids (a.media.take i)).all (inT o.bundle) = true ∧ Below w4.heap.size w4 wq)) (fun s54 _ _ => nM - (intOf s54).toNat)
          case atStart => exact ⟨0, Nat.zero_le _, rfl, Own.nil _ _ _ _, rfl, Below.refl _ _⟩
          case round =>
           obtain ⟨i, hi, rfl, hst⟩ := hrel
           have HT := Lib.hid hst
           clear hst
           have HFT := Lib.hid (HB4N.out wr HT.out.2.2)
           obtain ⟨At, ct, hvt, -⟩ := Own.form HT.out.1
           obtain ⟨nt, hnt⟩ : ∃ n, ((takenMids (a.media.take i)).map tcell).length = n := ⟨_, rfl⟩
           rw [hnt] at hvt
           subst hvt
           have HNT : Hid (((takenMids (a.media.take i)).map tcell).length = nt ∧ nt ≤ 8) := Lib.hid ⟨hnt, by
            rw [← hnt, List.length_map]
            have := taken_le (a.media.take i)
            rw [List.length_take] at this
            omega⟩
           clear hnt
           by_cases hlt : i < nM
           · obtain ⟨ad2, k2, Y1, uC, uE, uR, uS, uY, e2, b2, hy, ys⟩ := MediasV.at_ (HV.out.2.media.below HFT.out.1) (i := i) (by rw [HL.out.2.2.2]; exact hlt)
             injection e2 with e2 e2n e2c; clear e2n e2c
             subst e2
             obtain ⟨y, hy2⟩ : ∃ m, a.media.getD i default = m := ⟨_, rfl⟩
             have hyi : a.media[i]? = some y := by rw [← hy2]; exact getD_of (by rw [HL.out.2.2.2]; exact hlt)
             rw [hy2] at hy
             have HYI := Lib.hid hyi
             have hi0 : (0 : Int) ≤ (i : Int) := by omega
             have hi1 : (i : Int) < (nM : Int) := by omega
             have q1 : wr.cell? ⟨(ad2.add (i * 11)).block, (ad2.add (i * 11)).off + 1, none⟩ = some (.int .i64 y.port) := by
              have := ys 1 (.int .i64 y.port) (by rw [hy.form]; rfl)
              rwa [add_next _ _ 1 (by decide)] at this
             have q2 : wr.cell? ⟨(ad2.add (i * 11)).block, (ad2.add (i * 11)).off + 2, none⟩ = some (.string y.mid) := by
              have := ys 2 (.string y.mid) (by rw [hy.form]; rfl)
              rwa [add_next _ _ 2 (by decide)] at this
             have HQ2 : Hid (∀ W, Below wr.heap.size wr W → W.cell? ⟨(ad2.add (i * 11)).block, (ad2.add (i * 11)).off + 2, none⟩ = some (.string y.mid)) := Lib.hid fun W hW => (hW.cell (p := ⟨(ad2.add (i * 11)).block, (ad2.add (i * 11)).off + 2, none⟩) (block_lt_of_cell q2)).trans q2
             have c5 : wr.cell? ⟨N + 1, 5, none⟩ = some (.slice (some ad2) nM cM2) := (HFT.out.2.2.cell 5).trans HYC.out.2.2
             clear hy ys b2 hy2 hyi
             obtain ⟨tk, htk⟩ : ∃ b, tookT y = b := ⟨_, rfl⟩
             have hpt : (y.port != 0) = tk := by
              rw [← htk]
              unfold tookT
              rw [Bool.eq_iff_iff]
              simp
             have HTN := Lib.hid (taken_next HYI.out)
             rw [htk] at HTN
             have HTK := Lib.hid htk
             clear htk
             generalize y.port = py at *
             cases tk with
             | false =>
               go_wp2
               go_roundw
               case rel => exact ⟨i + 1, by omega, by go_num, by rw [HTN.out]; exact HT.out.1, by rw [HTN.out]; exact HT.out.2.1, HT.out.2.2⟩
               case measure => simp [intOf]; omega
             | true =>
               have hnt8 := HNT.out.2
               have HNA : Hid (Own (wr.alloc (.cells #[.string y.mid] 9)) w4.heap.size 9 1 (.slice At nt ct) ((takenMids (a.media.take i)).map tcell) ∧ Whole (wr.alloc (.cells #[.string y.mid] 9)) wr.heap.size 9 #[.string y.mid] ∧ w4.heap.size ≤ (wr.alloc (.cells #[.string y.mid] 9)).heap.size ∧ Below w4.heap.size w4 (wr.alloc (.cells #[.string y.mid] 9))) := Lib.hid
                ⟨HT.out.1.alloc _, Whole.new _ _ _, Nat.le_trans HT.out.2.2.size (by rw [World.size_alloc]; omega), HT.out.2.2.alloc HT.out.2.2.size _⟩
               go_upto_region 18 with (at_builtin; refine wpList_appendE (r := [.string y.mid]) rfl (.tmp 64) (.tmp 71) rfl Tryz.underlying23 Tryz.infoStr rfl (Nat.zero_lt_succ _) rfl HNA.out.1 rfl HNA.out.2.1 rfl (fun u hu => by simp at hu; subst hu; rfl) (by rw [HNT.out.1]; omega) (by rw [HNT.out.1]; omega) HNA.out.2.2.1 ?_; intro v8 w8 ho8 hg8 hn8; have H8 : Hid (Own w8 w4.heap.size 9 1 v8 ((takenMids (a.media.take i)).map tcell ++ [tcell y.mid]) ∧ Below w4.heap.size w4 w8) := Lib.hid ⟨ho8, HNA.out.2.2.2.grown hg8 HNA.out.2.2.1 (fun j hj => (HNA.out.1.lt hj).1)⟩; clear ho8 hg8 hn8)
               have HF8 := Lib.hid (HB4N.out w8 H8.out.2)
               have x2 : w8.cell? ⟨N, 2, none⟩ = some (.slice AB nB cB) := (HF8.out.2.1.cell 2).trans HXC.out.2.1
               have x5 : w8.cell? ⟨N + 1, 5, none⟩ = some (.slice (some ad2) nM cM2) := (HF8.out.2.2.cell 5).trans HYC.out.2.2
               have m2 : w8.cell? ⟨(ad2.add (i * 11)).block, (ad2.add (i * 11)).off + 2, none⟩ = some (.string y.mid) := by
                obtain ⟨ad3, k3, Y3, _, _, _, _, _, e3, _, hy3, ys3⟩ := MediasV.at_ (HV.out.2.media.below HF8.out.1) (i := i) (by rw [HL.out.2.2.2]; exact hlt)
                injection e3 with e3 _ _
                obtain rfl := Option.some.inj e3
                have hyy : a.media.getD i default = y := by rw [List.getD_eq_getElem?_getD, HYI.out]; rfl
                rw [hyy] at hy3
                have := ys3 2 (.string y.mid) (by rw [hy3.form]; rfl)
                rwa [add_next _ _ 2 (by decide)] at this
               have HIN : Hid (∀ m, Calls Tryz.prog 13 #[.slice AB nB cB, .string y.mid] (w8.drewN m) fun e w' => e = .returned (.int .i64 (placeT o.bundle y.mid)) ∧ w' = w8.drewN m) := Lib.hid fun m => rIn_q AB nB cB y.mid o.bundle (w8.drewN m) ((HV.out.1.bundle.below (below_drewN' HF8.out.1 m)).more (Nat.le_of_lt HF8.out.2.1.lt)) HL.out.1 (by have := HZM.out.2; have := HL.out.1; omega)
               clear q1 q2 c5 HNA
               cases hin : inT o.bundle y.mid with
               | true =>
                 have hp := place_in hin
                 have HI := Lib.hid hin
                 clear hin
                 generalize placeT o.bundle y.mid = pl at *
                 go_quiet ((go_at_call 13; exact Calls.quiet_of_same (HIN.out _)))
                 go_wp2
                 go_roundw
                 case rel =>
                  refine ⟨i + 1, by omega, by go_num, by rw [HTN.out, if_pos rfl, List.map_append]; exact H8.out.1.drewN _, ?_, below_drewN' H8.out.2 _⟩
                  rw [HTN.out, if_pos rfl, List.all_append, HT.out.2.1]
                  simp [HI.out]
                 case measure => simp [intOf]; omega
               | false =>
                 have hp := place_out hin
                 have HQ : Hid (res = 9) := Lib.hid (by
                  rw [HEND.out, if_neg]
                  intro h
                  unfold bundle9 at h
                  rw [Bool.and_eq_true, List.all_eq_true] at h
                  have hm : y.mid ∈ takenMids a.media := by
                   unfold takenMids
                   refine List.mem_map.2 ⟨y, List.mem_filter.2 ⟨List.mem_of_getElem? HYI.out, ?_⟩, rfl⟩
                   exact HTK.out
                  have := h.1 _ hm
                  rw [hin] at this
                  cases this)
                 clear hin
                 generalize placeT o.bundle y.mid = pl at *
                 go_quiet ((go_at_call 13; exact Calls.quiet_of_same (HIN.out _)))
                 go_wp2
                 go_ret
                 exact ⟨by rw [HQ.out]; rfl, by rw [HN.out]; exact below_drewN' HF8.out.1 _⟩
           · obtain rfl : i = nM := by omega
             have htk : a.media.take i = a.media := List.take_of_length_le (by rw [HL.out.2.2.2]; exact Nat.le_refl _)
             rw [htk] at HT HNT
             clear htk
             have HTX : Hid (TextsV wr wr.heap.size (.slice At nt ct) (takenMids a.media)) := Lib.hid (HT.out.1.texts (Nat.le_refl _))
             have HTB : Hid (TextsV wr wr.heap.size (.slice AB2 nB2 cB2) a.bundle) := Lib.hid ((HV.out.2.bundle.below HFT.out.1).more (Nat.le_of_lt HFT.out.2.1.lt))
             obtain ⟨q, hq⟩ := sameBool (takenMids a.media) a.bundle
             have HCS : Hid (Calls Tryz.prog 14 #[.slice At nt ct, .slice AB2 nB2 cB2] wr fun e w' => e = .returned (.bool q) ∧ Below wr.heap.size wr w') := Lib.hid ((sameTexts_any _ _ (takenMids a.media) a.bundle wr HTX.out HTB.out).mono fun e w' h => h.fix hq)
             have HB9 : Hid (bundle9 o a = q) := Lib.hid (by
              unfold bundle9
              rw [HT.out.2.1, Bool.true_and, Bool.eq_iff_iff, hq, decide_eq_true_eq]
              constructor
              · intro h
                apply List.ext_getElem?
                intro j
                have := congrArg (fun l => l[j]?) h
                simp only [List.getElem?_map] at this
                match h1 : (takenMids a.media)[j]?, h2 : a.bundle[j]? with
                | none, none => rfl
                | some s, none => rw [h1, h2] at this; cases this
                | none, some s => rw [h1, h2] at this; cases this
                | some s, some t =>
                  rw [h1, h2] at this
                  rw [tx_inj (Option.some.inj this)]
              · intro h; rw [h])
             have c2 : wr.cell? ⟨N + 1, 2, none⟩ = some (.slice AB2 nB2 cB2) := (HFT.out.2.2.cell 2).trans HYC.out.2.1
             have HV1 : Hid (∀ W, Below wr.heap.size wr W → Below N w W ∧ W.cell? ⟨N, 1, none⟩ = some (.int .u64 o.ver) ∧ W.cell? ⟨N + 1, 1, none⟩ = some (.int .u64 a.ver)) := Lib.hid fun W hW => by
              have h := HB4N.out W (HT.out.2.2.trans (hW.mono HT.out.2.2.size))
              exact ⟨h.1, (h.2.1.cell 1).trans HXC.out.1, (h.2.2.cell 1).trans HYC.out.1⟩
             clear hq
             cases q with
             | false =>
               have HQ : Hid (res = 9) := Lib.hid (by rw [HEND.out, HB9.out]; rfl)
               go_wp2_with (go_at_call 14; (with_reducible refine HCS.out.mono ?_); rintro e w9 ⟨rfl, hb9⟩; have HE9 := Lib.hid (HV1.out w9 hb9); clear hb9)
               go_ret
               exact ⟨by rw [HQ.out]; rfl, by rw [HN.out]; exact HE9.out.1⟩
             | true =>
               obtain ⟨vb, hvb⟩ : ∃ b, ((o.ver : Int) == (a.ver : Int)) = b := ⟨_, rfl⟩
               have hvb' : ((o.ver : Int) != (a.ver : Int)) = !vb := by rw [← hvb]; rfl
               have HQ : Hid (res = if vb = true then 0 else 10) := Lib.hid (by
                rw [HEND.out, HB9.out, if_pos rfl, ← hvb]
                by_cases h : o.ver = a.ver
                · simp [h]
                · have : ¬ ((o.ver : Int) = (a.ver : Int)) := by omega
                  simp [h, this])
               cases vb with
               | true =>
                 go_wp2_with (go_at_call 14; (with_reducible refine HCS.out.mono ?_); rintro e w9 ⟨rfl, hb9⟩; have HE9 := Lib.hid (HV1.out w9 hb9); have v1 := HE9.out.2.1; have v2 := HE9.out.2.2; clear hb9)
                 go_ret
                 exact ⟨by rw [HQ.out]; rfl, by rw [HN.out]; exact HE9.out.1⟩
               | false =>
                 go_wp2_with (go_at_call 14; (with_reducible refine HCS.out.mono ?_); rintro e w9 ⟨rfl, hb9⟩; have HE9 := Lib.hid (HV1.out w9 hb9); have v1 := HE9.out.2.1; have v2 := HE9.out.2.2; clear hb9)
                 go_ret
                 exact ⟨by rw [HQ.out]; rfl, by rw [HN.out]; exact HE9.out.1⟩
     · have hl' : ((nM : Int) != (nM2 : Int)) = true := by simp; omega
       have HQ : Hid (res = 1) := Lib.hid (by rw [← HRES.out]; exact checkA_zero (by rw [HL.out.2.1, HL.out.2.2.2, decide_eq_false hl]; simp))
       go_wp2_with (first | ((with_reducible refine wpList_load_allG ?_ 26 (.tmp 2) ?_ H0.out.2.1 ?_ Tryz.sizeDesc HSZ.out.1 Tryz.underlying26 rfl ?_); rfl; (with_reducible rfl); rfl) | ((with_reducible refine wpList_load_allG ?_ 26 (.tmp 3) ?_ H1.out.2.2 ?_ Tryz.sizeDesc HSZ.out.2 Tryz.underlying26 rfl ?_); rfl; (with_reducible rfl); rfl) | (go_at_call 9; (with_reducible refine (HG1.out _ H0.out.1).mono ?_); rintro e w1 ⟨rfl, hb1⟩; have H1 : Hid (Below N w w1 ∧ Whole w1 N 26 X ∧ Whole w1 (N + 1) 26 Y) := Lib.hid ⟨H0.out.1.trans (hb1.mono HN0.out), H0.out.2.1.under hb1, H0.out.2.2.under hb1⟩; clear hb1; have px5 : w1.cell? ⟨N, 5, none⟩ = some (.slice AM nM cM) := (H1.out.2.1.cell 5).trans HXC.out.2.2; have py5 : w1.cell? ⟨N + 1, 5, none⟩ = some (.slice AM2 nM2 cM2) := (H1.out.2.2.cell 5).trans HYC.out.2.2) | (go_at_call 9; (with_reducible refine (HG2.out _ H1.out.1).mono ?_); rintro e w2 ⟨rfl, hb2⟩; have H2 : Hid (Below N w w2 ∧ Whole w2 N 26 X ∧ Whole w2 (N + 1) 26 Y) := Lib.hid ⟨H1.out.1.trans (hb2.mono (Nat.le_of_lt H1.out.2.1.lt)), H1.out.2.1.under hb2, H1.out.2.2.under hb2⟩; clear hb2; have rx5 : w2.cell? ⟨N, 5, none⟩ = some (.slice AM nM cM) := (H2.out.2.1.cell 5).trans HXC.out.2.2; have ry5 : w2.cell? ⟨N + 1, 5, none⟩ = some (.slice AM2 nM2 cM2) := (H2.out.2.2.cell 5).trans HYC.out.2.2))
       go_ret
       exact ⟨by rw [HQ.out]; rfl, by rw [HN.out]; exact H2.out.1⟩
end Go.Proofs.YtibpnjakimobmaaGreat
