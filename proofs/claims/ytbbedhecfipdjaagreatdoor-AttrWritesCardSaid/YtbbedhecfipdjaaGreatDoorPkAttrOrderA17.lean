import Derived.Test.YtbbedhecfipdjaaGreatDoorPkAttrOrderB
import Derived.Test.YtbbedhecfipdjaaGreatDoorPkAttrOrderA13
namespace Go.Proofs.YtbbedhecfipdjaaGreatDoor
open Go.RowKit
set_option linter.unusedVariables false
set_option linter.unusedSimpArgs false
set_option maxHeartbeats 12800000 in
set_option maxRecDepth 100000 in
theorem sw_nExt : SwCase fun nm => tx nm = nExt := by
 intro w w10 P ln cn nm vl hS tS fS m0 L T g13 cs vC vE vR vS vY hT hvl hL64 hHT h10 hn J K' Q' hK hP
 intros
 have HTK := Lib.hid hT
 have HLT64 := Lib.hid hL64
 have HHT := Lib.hid hHT
 have H10 := Lib.hid h10
 have HRN : Hid (∀ (s : ByteArray) (W : World), s.size ≤ 281474976710656 → Calls Tryz.prog 49 #[.string s] W fun e w' => e = .returned (.int .i64 (numR (tx s))) ∧ W = w') := Lib.hid fun s W hs => rnumber_any s W hs
 have y0 : w10.cell? ⟨g13, 0, none⟩ = some (.string nm) := H10.out.2.2.cell 0
 have y1 : w10.cell? ⟨g13, 1, none⟩ = some (.string vl) := H10.out.2.2.cell 1
 have HPQ := Lib.hid hP
 clear hT hvl hL64 hHT h10 hP
 conv => arg 2; whnf
 have HY := Lib.hid hn
 have hq0 : (nm.toList == [109, 105, 100]) = false := by rw [toList_tx, hn]; decide
 have hq1 : (nm.toList == [115, 101, 110, 100, 111, 110, 108, 121]) = false := by rw [toList_tx, hn]; decide
 have hq2 : (nm.toList == [114, 101, 99, 118, 111, 110, 108, 121]) = false := by rw [toList_tx, hn]; decide
 have hq3 : (nm.toList == [115, 101, 110, 100, 114, 101, 99, 118]) = false := by rw [toList_tx, hn]; decide
 have hq4 : (nm.toList == [114, 116, 112, 109, 97, 112]) = false := by rw [toList_tx, hn]; decide
 have hq5 : (nm.toList == [102, 109, 116, 112]) = false := by rw [toList_tx, hn]; decide
 have hq6 : (nm.toList == [114, 116, 99, 112, 45, 102, 98]) = false := by rw [toList_tx, hn]; decide
 have hq7 : (nm.toList == [101, 120, 116, 109, 97, 112]) = true := by rw [toList_tx, hn]; rfl
 clear hn
 obtain ⟨m, hm⟩ : ∃ m, L.foldl (rd rR) m0 = m := ⟨_, rfl⟩
 have HMM := Lib.hid hm
 rw [hm] at H10
 clear hm
 obtain ⟨AC, kC, hvC, -⟩ := Own.form H10.out.2.1.hC
 obtain ⟨lC, hlC⟩ : ∃ l, (cs.map fun c => ccell c.1 c.2).length = l := ⟨_, rfl⟩
 rw [hlC] at hvC
 subst hvC
 obtain ⟨AE, kE, hvE, -⟩ := Own.form H10.out.2.1.hE
 obtain ⟨lE, hlE⟩ : ∃ l, (m.exts.map ecell).length = l := ⟨_, rfl⟩
 rw [hlE] at hvE
 subst hvE
 obtain ⟨AR, kR, hvR, -⟩ := Own.form H10.out.2.1.hR
 obtain ⟨lR, hlR⟩ : ∃ l, (m.rids.map tcell).length = l := ⟨_, rfl⟩
 rw [hlR] at hvR
 subst hvR
 obtain ⟨AS, kS, hvS, -⟩ := Own.form H10.out.2.1.hS
 obtain ⟨lS, hlS⟩ : ∃ l, (m.sources.map ucell).length = l := ⟨_, rfl⟩
 rw [hlS] at hvS
 subst hvS
 obtain ⟨AY, kY, hvY, -⟩ := Own.form H10.out.2.1.hY
 obtain ⟨lY, hlY⟩ : ∃ l, (m.crypto.map cryC).length = l := ⟨_, rfl⟩
 rw [hlY] at hvY
 subst hvY
 clear hlC hlE hlR hlS hlY
 have HLL : Hid (L.length ≤ 64) := Lib.hid (Nat.le_of_lt HLT64.out)
 have HB10 : Hid (w.heap.size ≤ w10.heap.size) := Lib.hid H10.out.1.low.size
 have HDONE : Hid (∀ (m' : MediaS) (k : Nat) (W' : World), rd rR m ⟨nm, vl⟩ = m' → k ≤ L.length + 1 → (∃ cs vC vE vR vS vY, MW w.heap.size (w.heap.size + 3) k W' m' cs vC vE vR vS vY) → Rdt w.heap.size (w.heap.size + 3) w10 W' → RRI w P ln cn m0 T W') := Lib.hid fun m' k W' hm' hk hM hR => by
  have ht : T = L ++ [⟨nm, vl⟩] := HTK.out
  rw [ht]
  exact RRI.next H10.out.1 HLT64.out (by rw [HMM.out]; exact hm') hk H10.out.2.1.box ⟨hM, hR⟩
 have qf := H10.out.2.1.box.frz
 have hnu := fun W => HRN.out hS W (by have := HHT.out.2.2.2.2.1; omega)
 obtain ⟨z1, hz1'⟩ : ∃ z, numR (tx hS) = z := ⟨_, rfl⟩
 rw [hz1'] at hnu
 have HZ1 := Lib.hid hz1'
 have HU := Lib.hid hnu
 clear hnu hz1'
 go_upto_region 46 with fail
 have HMD : Hid (MW w.heap.size (w.heap.size + 3) L.length w10.drew m cs (.slice AC lC kC) (.slice AE lE kE) (.slice AR lR kR) (.slice AS lS kS) (.slice AY lY kY)) := Lib.hid H10.out.2.1.drew
 have HRD : Hid (Rdt w.heap.size (w.heap.size + 3) w10 w10.drew ∧ w.heap.size ≤ w10.drew.heap.size) := Lib.hid ⟨(Rdt.refl _ _ _).under (Below.refl _ w10).drew HB10.out, HB10.out⟩
 have HQ0 : Hid (∀ W, Ahead (TillOne (fun _ => True) (fun W => W.cell? ⟨w.heap.size + 3, 5, none⟩ = some (.slice AE lE kE)) 9) 9 W → W.cell? ⟨w.heap.size + 3, 5, none⟩ = some (.slice AE lE kE)) := Lib.hid fun W h => (TillOne.get h).2
 have HS0 : Hid (∀ L, (TillOne (fun _ => True) (fun W => W.cell? ⟨w.heap.size + 3, 5, none⟩ = some (.slice AE lE kE)) 9) L w10.drew) := Lib.hid fun L => TillOne.mk trivial (HMD.out.box.cell 5)
 refine wp_region_late (TillOne (fun _ => True) (fun W => W.cell? ⟨w.heap.size + 3, 5, none⟩ = some (.slice AE lE kE)) 9) (by as_aux_lemma => kernel_rfl) ?_
 change wpLate Tryz.prog .any _ _ _ 10 #[false, false, false, false, false, false, false, false, false, false] _ _
 generalize w10.drew = wd at *
 refine wpLate.take (i := 0) (q := 9) (oi := _) (v := ?_) rfl (by as_aux_lemma => kernel_rfl) (by as_aux_lemma => kernel_rfl) (by as_aux_lemma => kernel_rfl) (by as_aux_lemma => kernel_rfl) (by rfl) (fun _ _ _ h => HPQ.out _ _ _ _ (put_defers _ _ _) h) (TillOne.set (by decide)) (HS0.out _) (Or.inl ⟨by rfl, ?_⟩) ?_
 case refine_2 => intro W hw; have e0 := HQ0.out W hw; clear hw; go_simp; (try with_reducible rfl)
 simp only [Act.put, Ld, Le, Lf]
 refine wpLate.take (i := 1) (q := 9) (oi := _) (v := ?_) rfl (by as_aux_lemma => kernel_rfl) (by as_aux_lemma => kernel_rfl) (by as_aux_lemma => kernel_rfl) (by as_aux_lemma => kernel_rfl) (by rfl) (fun _ _ _ h => HPQ.out _ _ _ _ (put_defers _ _ _) h) (TillOne.set (by decide)) (HS0.out _) (Or.inl ⟨by rfl, ?_⟩) ?_
 case refine_2 => intro W hw; have e0 := HQ0.out W hw; clear hw; go_simp; (try with_reducible rfl)
 simp only [Act.put, Ld, Le, Lf]
 refine wpLate.take (i := 2) (q := 9) (oi := _) (v := ?_) rfl (by as_aux_lemma => kernel_rfl) (by as_aux_lemma => kernel_rfl) (by as_aux_lemma => kernel_rfl) (by as_aux_lemma => kernel_rfl) (by rfl) (fun _ _ _ h => HPQ.out _ _ _ _ (put_defers _ _ _) h) (TillOne.set (by decide)) (HS0.out _) (Or.inl ⟨by rfl, ?_⟩) ?_
 case refine_2 => intro W hw; have e0 := HQ0.out W hw; clear hw; go_simp; (try with_reducible rfl)
 simp only [Act.put, Ld, Le, Lf]
 refine wpLate.take (i := 4) (q := 9) (oi := _) (v := ?_) rfl (by as_aux_lemma => kernel_rfl) (by as_aux_lemma => kernel_rfl) (by as_aux_lemma => kernel_rfl) (by as_aux_lemma => kernel_rfl) (by rfl) (fun _ _ _ h => HPQ.out _ _ _ _ (put_defers _ _ _) h) (TillOne.set (by decide)) (HS0.out _) (Or.inl ⟨by rfl, ?_⟩) ?_
 case refine_2 => intro W hw; have e0 := HQ0.out W hw; clear hw; go_simp; (try with_reducible rfl)
 simp only [Act.put, Ld, Le, Lf]
 refine wpLate.ready (rs := [3]) (by as_aux_lemma => kernel_rfl) (by simp) (eachLate.cons rfl (fun K hK => ?_) eachLate.nil)
 go_simp
 refine (HU.out _).mono ?_
 rintro e w' ⟨rfl, rfl⟩
 refine hK.out _ _ (HS0.out _) ?_
 clear hK K
 try simp only [Act.put, Ld, Le, Lf]
 refine wpLate.take (i := 5) (q := 9) (oi := _) (v := ?_) rfl (by as_aux_lemma => kernel_rfl) (by as_aux_lemma => kernel_rfl) (by as_aux_lemma => kernel_rfl) (by as_aux_lemma => kernel_rfl) (by rfl) (fun _ _ _ h => HPQ.out _ _ _ _ (put_defers _ _ _) h) (TillOne.set (by decide)) (HS0.out _) (Or.inl ⟨by rfl, ?_⟩) ?_
 case refine_2 => intro W hw; have e0 := HQ0.out W hw; clear hw; go_simp; (try with_reducible rfl)
 simp only [Act.put, Ld, Le, Lf]
 refine wpLate.ready (rs := [6]) (by as_aux_lemma => kernel_rfl) (by simp) (eachLate.cons rfl (fun K hK => ?_) eachLate.nil)
 have H5 : Hid (MW w.heap.size (w.heap.size + 3) L.length (wd.alloc (.cells #[.int .i64 z1, .string tS] 84)) m cs (.slice AC lC kC) (.slice AE lE kE) (.slice AR lR kR) (.slice AS lS kS) (.slice AY lY kY) ∧ Whole (wd.alloc (.cells #[.int .i64 z1, .string tS] 84)) wd.heap.size 84 #[.int .i64 z1, .string tS] ∧ Rdt w.heap.size (w.heap.size + 3) w10 (wd.alloc (.cells #[.int .i64 z1, .string tS] 84)) ∧ w.heap.size ≤ (wd.alloc (.cells #[.int .i64 z1, .string tS] 84)).heap.size) := Lib.hid ⟨HMD.out.under ((Below.refl _ wd).alloc (Nat.le_refl _) _), Whole.new _ _ _, HRD.out.1.under ((Below.refl _ wd).alloc (Nat.le_refl _) _) HRD.out.2, by rw [World.size_alloc]; have := HRD.out.2; omega⟩
 have HT5 : Hid (∀ L, (TillOne (fun _ => True) (fun W => W.cell? ⟨w.heap.size + 3, 5, none⟩ = some (.slice AE lE kE)) 9) L (wd.alloc (.cells #[.int .i64 z1, .string tS] 84))) := Lib.hid fun L => TillOne.mk trivial (H5.out.1.box.cell 5)
 go_simp
 refine hK.out _ _ (HT5.out _) ?_
 clear hK K
 try simp only [Act.put, Ld, Le, Lf]
 generalize (wd.alloc (.cells #[.int .i64 z1, .string tS] 84)) = w11 at *
 generalize wd.heap.size = g7 at *
 refine wpLate.ready (rs := [7]) (by as_aux_lemma => kernel_rfl) (by simp) (eachLate.cons rfl (fun K hK => ?_) eachLate.nil)
 refine step_of rfl (wp_appendE (r := [.int .i64 z1, .string tS]) (.tmp 186) (.tmp 191) rfl Tryz.underlying23 Tryz.infoExt rfl (Nat.zero_lt_succ _) rfl H5.out.1.hE rfl H5.out.2.1 rfl (fun u hu => by simp at hu; rcases hu with rfl | rfl <;> rfl) (by rw [List.length_map]; have := H5.out.1.lens.2.1; have := HLL.out; omega) (by rw [List.length_map]; have := H5.out.1.lens.2.1; have := HLL.out; omega) H5.out.2.2.2 ?_)
 intro v8 w12 ho8 hg8 hn8
 have H8 := Lib.hid (H5.out.1.extA (x := ⟨z1, tS⟩) ho8 hg8 H5.out.2.2.2 HHT.out.2.2.2.2.2 HLL.out)
 have hbx8 : Whole w12 (w.heap.size + 3) 28 (mcell m (.slice AC lC kC) (.slice AE lE kE) (.slice AR lR kR) (.slice AS lS kS) (.slice AY lY kY)) := H5.out.1.box.grown hg8 (fun e => (H5.out.1.hE.apart H5.out.1.box (by decide)) e.symm)
 have c8 : w12.cell? ⟨w.heap.size + 3, 5, none⟩ = some (.slice AE lE kE) := hbx8.cell 5
 have f8 := hbx8.frz 5
 have HT8 : Hid (∀ L, (TillOne (fun _ => True) (fun W => W.cell? ⟨w.heap.size + 3, 5, none⟩ = some (.slice AE lE kE)) 9) L w12) := Lib.hid fun L => TillOne.mk trivial c8
 have HS9 : Hid (∀ L, L.getD 9 true = true → (TillOne (fun _ => True) (fun W => W.cell? ⟨w.heap.size + 3, 5, none⟩ = some (.slice AE lE kE)) 9) L (w12.setCell ⟨w.heap.size + 3, 5, none⟩ v8)) := Lib.hid fun L hL => TillOne.past trivial hL
 have HE : Hid (∀ W', W' = (w12.setCell ⟨w.heap.size + 3, 5, none⟩ v8) → RRI w P ln cn m0 T W') := Lib.hid fun W' hW => by
  subst hW
  exact HDONE.out _ (L.length + 1) _ (by rw [rdR_ext HY.out, HHT.out.1, HZ1.out, HHT.out.2.2.2.1]) (Nat.le_refl _) ⟨_, _, _, _, _, _, H8.out.1⟩ (H5.out.2.2.1.trans H8.out.2)
 obtain ⟨A8, l8, k8, hv8⟩ : ∃ A l k, v8 = .slice A l k := by obtain ⟨A, k, h, -⟩ := ho8.form; exact ⟨_, _, _, h⟩
 subst hv8
 clear ho8 hg8 hn8 hbx8 H5
 refine hK.out _ _ (HT8.out _) ?_
 clear hK K
 try simp only [Act.put, Ld, Le, Lf]
 refine wpLate.take (i := 8) (q := 9) (oi := _) (v := ?_) rfl (by as_aux_lemma => kernel_rfl) (by as_aux_lemma => kernel_rfl) (by as_aux_lemma => kernel_rfl) (by as_aux_lemma => kernel_rfl) (by rfl) (fun _ _ _ h => HPQ.out _ _ _ _ (put_defers _ _ _) h) (TillOne.set (by decide)) (HT8.out _) (Or.inl ⟨by rfl, ?_⟩) ?_
 case refine_2 => intro W hw; have e0 := HQ0.out W hw; clear hw; go_simp; (try with_reducible rfl)
 simp only [Act.put, Ld, Le, Lf]
 refine wpLate.ready (rs := [9]) (by as_aux_lemma => kernel_rfl) (by simp) (eachLate.cons rfl (fun K hK => ?_) eachLate.nil)
 go_simp
 refine hK.out _ _ (HS9.out _ rfl) ?_
 clear hK K
 try simp only [Act.put]
 refine wpLate.done (by as_aux_lemma => kernel_rfl) ?_ _
 go_wp2
 go_meet
 exact HE.out _ rfl
set_option maxHeartbeats 12800000 in
set_option maxRecDepth 100000 in
theorem sw_nRid : SwCase fun nm => tx nm = nRid := by
 intro w w10 P ln cn nm vl hS tS fS m0 L T g13 cs vC vE vR vS vY hT hvl hL64 hHT h10 hn J K' Q' hK hP
 intros
 have HTK := Lib.hid hT
 have HLT64 := Lib.hid hL64
 have HHT := Lib.hid hHT
 have H10 := Lib.hid h10
 have y0 : w10.cell? ⟨g13, 0, none⟩ = some (.string nm) := H10.out.2.2.cell 0
 have y1 : w10.cell? ⟨g13, 1, none⟩ = some (.string vl) := H10.out.2.2.cell 1
 clear hT hvl hL64 hHT h10 hP
 conv => arg 2; whnf
 have HY := Lib.hid hn
 have hq0 : (nm.toList == [109, 105, 100]) = false := by rw [toList_tx, hn]; decide
 have hq1 : (nm.toList == [115, 101, 110, 100, 111, 110, 108, 121]) = false := by rw [toList_tx, hn]; decide
 have hq2 : (nm.toList == [114, 101, 99, 118, 111, 110, 108, 121]) = false := by rw [toList_tx, hn]; decide
 have hq3 : (nm.toList == [115, 101, 110, 100, 114, 101, 99, 118]) = false := by rw [toList_tx, hn]; decide
 have hq4 : (nm.toList == [114, 116, 112, 109, 97, 112]) = false := by rw [toList_tx, hn]; decide
 have hq5 : (nm.toList == [102, 109, 116, 112]) = false := by rw [toList_tx, hn]; decide
 have hq6 : (nm.toList == [114, 116, 99, 112, 45, 102, 98]) = false := by rw [toList_tx, hn]; decide
 have hq7 : (nm.toList == [101, 120, 116, 109, 97, 112]) = false := by rw [toList_tx, hn]; decide
 have hq8 : (nm.toList == [114, 105, 100]) = true := by rw [toList_tx, hn]; rfl
 clear hn
 obtain ⟨m, hm⟩ : ∃ m, L.foldl (rd rR) m0 = m := ⟨_, rfl⟩
 have HMM := Lib.hid hm
 rw [hm] at H10
 clear hm
 obtain ⟨AC, kC, hvC, -⟩ := Own.form H10.out.2.1.hC
 obtain ⟨lC, hlC⟩ : ∃ l, (cs.map fun c => ccell c.1 c.2).length = l := ⟨_, rfl⟩
 rw [hlC] at hvC
 subst hvC
 obtain ⟨AE, kE, hvE, -⟩ := Own.form H10.out.2.1.hE
 obtain ⟨lE, hlE⟩ : ∃ l, (m.exts.map ecell).length = l := ⟨_, rfl⟩
 rw [hlE] at hvE
 subst hvE
 obtain ⟨AR, kR, hvR, -⟩ := Own.form H10.out.2.1.hR
 obtain ⟨lR, hlR⟩ : ∃ l, (m.rids.map tcell).length = l := ⟨_, rfl⟩
 rw [hlR] at hvR
 subst hvR
 obtain ⟨AS, kS, hvS, -⟩ := Own.form H10.out.2.1.hS
 obtain ⟨lS, hlS⟩ : ∃ l, (m.sources.map ucell).length = l := ⟨_, rfl⟩
 rw [hlS] at hvS
 subst hvS
 obtain ⟨AY, kY, hvY, -⟩ := Own.form H10.out.2.1.hY
 obtain ⟨lY, hlY⟩ : ∃ l, (m.crypto.map cryC).length = l := ⟨_, rfl⟩
 rw [hlY] at hvY
 subst hvY
 clear hlC hlE hlR hlS hlY
 have HLL : Hid (L.length ≤ 64) := Lib.hid (Nat.le_of_lt HLT64.out)
 have HB10 : Hid (w.heap.size ≤ w10.heap.size) := Lib.hid H10.out.1.low.size
 have HDONE : Hid (∀ (m' : MediaS) (k : Nat) (W' : World), rd rR m ⟨nm, vl⟩ = m' → k ≤ L.length + 1 → (∃ cs vC vE vR vS vY, MW w.heap.size (w.heap.size + 3) k W' m' cs vC vE vR vS vY) → Rdt w.heap.size (w.heap.size + 3) w10 W' → RRI w P ln cn m0 T W') := Lib.hid fun m' k W' hm' hk hM hR => by
  have ht : T = L ++ [⟨nm, vl⟩] := HTK.out
  rw [ht]
  exact RRI.next H10.out.1 HLT64.out (by rw [HMM.out]; exact hm') hk H10.out.2.1.box ⟨hM, hR⟩
 have qf := H10.out.2.1.box.frz
 have HSD : Hid ((tS.toList == [115, 101, 110, 100]) = decide (tx tS = wSend)) := Lib.hid (by
  rw [toList_tx]
  by_cases e : tx tS = wSend
  · rw [e]; rfl
  · rw [decide_eq_false e, beq_eq_false_iff_ne]; exact e)
 have HA : Hid (MW w.heap.size (w.heap.size + 3) L.length (w10.alloc (.cells #[.string hS] 9)) m cs (.slice AC lC kC) (.slice AE lE kE) (.slice AR lR kR) (.slice AS lS kS) (.slice AY lY kY) ∧ Whole (w10.alloc (.cells #[.string hS] 9)) w10.heap.size 9 #[.string hS] ∧ Rdt w.heap.size (w.heap.size + 3) w10 (w10.alloc (.cells #[.string hS] 9)) ∧ w.heap.size ≤ (w10.alloc (.cells #[.string hS] 9)).heap.size) := Lib.hid
  ⟨H10.out.2.1.under ((Below.refl _ w10).alloc (Nat.le_refl _) _), Whole.new _ _ _, (Rdt.refl _ _ _).under ((Below.refl _ w10).alloc (Nat.le_refl _) _) HB10.out, by rw [World.size_alloc]; have := HB10.out; omega⟩
 have e1 : w10.cell? ⟨w.heap.size + 3, 6, none⟩ = some (.slice AR lR kR) := H10.out.2.1.box.cell 6
 go_wp2_with (at_builtin; refine wpList_appendE (r := [.string hS]) rfl (.tmp 197) (.tmp 199) rfl Tryz.underlying24 Tryz.infoStr rfl (Nat.zero_lt_succ _) rfl HA.out.1.hR rfl HA.out.2.1 rfl (fun u hu => by simp at hu; subst hu; rfl) (by rw [List.length_map]; have := HA.out.1.lens.2.2.1; have := HLL.out; omega) (by rw [List.length_map]; have := HA.out.1.lens.2.2.1; have := HLL.out; omega) HA.out.2.2.2 ?_
              intro v8 w11 ho8 hg8 hn8
              have H8 := Lib.hid (HA.out.1.ridsA (x := hS) ho8 hg8 HA.out.2.2.2 HHT.out.2.2.2.2.1 HLL.out hn8)
              have hbx8 : Whole w11 (w.heap.size + 3) 28 (mcell m (.slice AC lC kC) (.slice AE lE kE) (.slice AR lR kR) (.slice AS lS kS) (.slice AY lY kY)) := HA.out.1.box.grown hg8 (fun e => (HA.out.1.hR.apart HA.out.1.box (by decide)) e.symm)
              have c8 : w11.cell? ⟨w.heap.size + 3, 6, none⟩ = some (.slice AR lR kR) := hbx8.cell 6
              have c9 : w11.cell? ⟨w.heap.size + 3, 7, none⟩ = some (.bool m.sending) := hbx8.cell 7
              have f8 := hbx8.frz
              have HE : Hid (∀ W', W' = ((w11.setCell ⟨w.heap.size + 3, 6, none⟩ v8).setCell ⟨w.heap.size + 3, 7, none⟩ (.bool (tS.toList == [115, 101, 110, 100]))) → RRI w P ln cn m0 T W') := Lib.hid fun W' hW => by
               subst hW
               exact HDONE.out _ (L.length + 1) _ (by rw [rdR_rid HY.out, HHT.out.2.2.1, HHT.out.2.1, ← HSD.out]) (Nat.le_refl _) ⟨_, _, _, _, _, _, H8.out.1.cell (m' := { m with rids := m.rids ++ [hS], sending := (tS.toList == [115, 101, 110, 100]) }) 7 _ rfl rfl rfl rfl rfl rfl H8.out.1.siz.mid⟩ (HA.out.2.2.1.trans (H8.out.2.cell H8.out.1.hbm 7 _))
              obtain ⟨A8, l8, k8, hv8⟩ : ∃ A l k, v8 = .slice A l k := by obtain ⟨A, k, h, -⟩ := ho8.form; exact ⟨_, _, _, h⟩
              subst hv8
              clear ho8 hg8 hn8 hbx8 e1)
 go_meet
 exact HE.out _ rfl
set_option maxHeartbeats 12800000 in
set_option maxRecDepth 100000 in
theorem sw_nSource : SwCase fun nm => tx nm = nSource := by
 intro w w10 P ln cn nm vl hS tS fS m0 L T g13 cs vC vE vR vS vY hT hvl hL64 hHT h10 hn J K' Q' hK hP
 intros
 have HTK := Lib.hid hT
 have HVL := Lib.hid hvl
 have HLT64 := Lib.hid hL64
 have H10 := Lib.hid h10
 have y0 : w10.cell? ⟨g13, 0, none⟩ = some (.string nm) := H10.out.2.2.cell 0
 have y1 : w10.cell? ⟨g13, 1, none⟩ = some (.string vl) := H10.out.2.2.cell 1
 clear hT hvl hL64 hHT h10 hP
 conv => arg 2; whnf
 have HY := Lib.hid hn
 have hq0 : (nm.toList == [109, 105, 100]) = false := by rw [toList_tx, hn]; decide
 have hq1 : (nm.toList == [115, 101, 110, 100, 111, 110, 108, 121]) = false := by rw [toList_tx, hn]; decide
 have hq2 : (nm.toList == [114, 101, 99, 118, 111, 110, 108, 121]) = false := by rw [toList_tx, hn]; decide
 have hq3 : (nm.toList == [115, 101, 110, 100, 114, 101, 99, 118]) = false := by rw [toList_tx, hn]; decide
 have hq4 : (nm.toList == [114, 116, 112, 109, 97, 112]) = false := by rw [toList_tx, hn]; decide
 have hq5 : (nm.toList == [102, 109, 116, 112]) = false := by rw [toList_tx, hn]; decide
 have hq6 : (nm.toList == [114, 116, 99, 112, 45, 102, 98]) = false := by rw [toList_tx, hn]; decide
 have hq7 : (nm.toList == [101, 120, 116, 109, 97, 112]) = false := by rw [toList_tx, hn]; decide
 have hq8 : (nm.toList == [114, 105, 100]) = false := by rw [toList_tx, hn]; decide
 have hq9 : (nm.toList == [115, 115, 114, 99]) = true := by rw [toList_tx, hn]; rfl
 clear hn
 obtain ⟨m, hm⟩ : ∃ m, L.foldl (rd rR) m0 = m := ⟨_, rfl⟩
 have HMM := Lib.hid hm
 rw [hm] at H10
 clear hm
 obtain ⟨AC, kC, hvC, -⟩ := Own.form H10.out.2.1.hC
 obtain ⟨lC, hlC⟩ : ∃ l, (cs.map fun c => ccell c.1 c.2).length = l := ⟨_, rfl⟩
 rw [hlC] at hvC
 subst hvC
 obtain ⟨AE, kE, hvE, -⟩ := Own.form H10.out.2.1.hE
 obtain ⟨lE, hlE⟩ : ∃ l, (m.exts.map ecell).length = l := ⟨_, rfl⟩
 rw [hlE] at hvE
 subst hvE
 obtain ⟨AR, kR, hvR, -⟩ := Own.form H10.out.2.1.hR
 obtain ⟨lR, hlR⟩ : ∃ l, (m.rids.map tcell).length = l := ⟨_, rfl⟩
 rw [hlR] at hvR
 subst hvR
 obtain ⟨AS, kS, hvS, -⟩ := Own.form H10.out.2.1.hS
 obtain ⟨lS, hlS⟩ : ∃ l, (m.sources.map ucell).length = l := ⟨_, rfl⟩
 rw [hlS] at hvS
 subst hvS
 obtain ⟨AY, kY, hvY, -⟩ := Own.form H10.out.2.1.hY
 obtain ⟨lY, hlY⟩ : ∃ l, (m.crypto.map cryC).length = l := ⟨_, rfl⟩
 rw [hlY] at hvY
 subst hvY
 clear hlC hlE hlR hlS hlY
 have HLL : Hid (L.length ≤ 64) := Lib.hid (Nat.le_of_lt HLT64.out)
 have HB10 : Hid (w.heap.size ≤ w10.heap.size) := Lib.hid H10.out.1.low.size
 have HDONE : Hid (∀ (m' : MediaS) (k : Nat) (W' : World), rd rR m ⟨nm, vl⟩ = m' → k ≤ L.length + 1 → (∃ cs vC vE vR vS vY, MW w.heap.size (w.heap.size + 3) k W' m' cs vC vE vR vS vY) → Rdt w.heap.size (w.heap.size + 3) w10 W' → RRI w P ln cn m0 T W') := Lib.hid fun m' k W' hm' hk hM hR => by
  have ht : T = L ++ [⟨nm, vl⟩] := HTK.out
  rw [ht]
  exact RRI.next H10.out.1 HLT64.out (by rw [HMM.out]; exact hm') hk H10.out.2.1.box ⟨hM, hR⟩
 have qf := H10.out.2.1.box.frz
 have hrd := fun W => readDigits_any vl 4294967295 W (by have := HVL.out; omega) (by decide) (by decide)
 rw [show ((4294967295 : Nat) : Int) = 4294967295 from rfl] at hrd
 have hsr : (okD (rdD 4294967295 (tx vl))).1 = ((srcR (tx vl) : Nat) : Int) := by
  unfold srcR
  cases rdD 4294967295 (tx vl) <;> rfl
 obtain ⟨bq, hbq⟩ : ∃ b, (okD (rdD 4294967295 (tx vl))).2 = b := ⟨_, rfl⟩
 rw [hsr, hbq] at hrd
 have hlt := srcR_lt (tx vl)
 obtain ⟨sq, hsq⟩ : ∃ q, srcR (tx vl) = q := ⟨_, rfl⟩
 rw [hsq] at hrd hlt
 have HSQ := Lib.hid hsq
 have HLT := Lib.hid hlt
 have hqw : IntKind.u32.wrap (sq : Int) = sq := by
  unfold IntKind.wrap
  simp [IntKind.bits, IntKind.signed]
  omega
 have HRD := Lib.hid hrd
 clear hrd hsr hbq hlt hsq
 go_upto_region 52 with (go_at_call 50; (with_reducible refine (HRD.out _).mono ?_); rintro e w10' ⟨rfl, rfl⟩; dsimp only)
 have HA : Hid (MW w.heap.size (w.heap.size + 3) L.length (w10.alloc (.cells #[.int .u32 sq] 85)) m cs (.slice AC lC kC) (.slice AE lE kE) (.slice AR lR kR) (.slice AS lS kS) (.slice AY lY kY) ∧ Whole (w10.alloc (.cells #[.int .u32 sq] 85)) w10.heap.size 85 #[.int .u32 sq] ∧ Rdt w.heap.size (w.heap.size + 3) w10 (w10.alloc (.cells #[.int .u32 sq] 85)) ∧ w.heap.size ≤ (w10.alloc (.cells #[.int .u32 sq] 85)).heap.size) := Lib.hid
  ⟨H10.out.2.1.under ((Below.refl _ w10).alloc (Nat.le_refl _) _), Whole.new _ _ _, (Rdt.refl _ _ _).under ((Below.refl _ w10).alloc (Nat.le_refl _) _) HB10.out, by rw [World.size_alloc]; have := HB10.out; omega⟩
 have e1 : w10.cell? ⟨w.heap.size + 3, 8, none⟩ = some (.slice AS lS kS) := H10.out.2.1.box.cell 8
 go_wp2_with (at_builtin; refine wpList_appendE (r := [.int .u32 sq]) rfl (.tmp 214) (.tmp 217) rfl Tryz.underlying25 Tryz.infoU32 rfl (Nat.zero_lt_succ _) rfl HA.out.1.hS rfl HA.out.2.1 rfl (fun u hu => by simp at hu; subst hu; rfl) (by rw [List.length_map]; have := HA.out.1.lens.2.2.2.1; have := HLL.out; omega) (by rw [List.length_map]; have := HA.out.1.lens.2.2.2.1; have := HLL.out; omega) HA.out.2.2.2 ?_
              intro v8 w11 ho8 hg8 hn8
              have H8 := Lib.hid (HA.out.1.sourcesA (x := sq) ho8 hg8 HA.out.2.2.2 HLT.out HLL.out)
              have hbx8 : Whole w11 (w.heap.size + 3) 28 (mcell m (.slice AC lC kC) (.slice AE lE kE) (.slice AR lR kR) (.slice AS lS kS) (.slice AY lY kY)) := HA.out.1.box.grown hg8 (fun e => (HA.out.1.hS.apart HA.out.1.box (by decide)) e.symm)
              have c8 : w11.cell? ⟨w.heap.size + 3, 8, none⟩ = some (.slice AS lS kS) := hbx8.cell 8
              have f8 := hbx8.frz 8
              have HE : Hid (∀ W', W' = (w11.setCell ⟨w.heap.size + 3, 8, none⟩ v8) → RRI w P ln cn m0 T W') := Lib.hid fun W' hW => by
               subst hW
               exact HDONE.out _ (L.length + 1) _ (by rw [rdR_ssrc HY.out, HSQ.out]) (Nat.le_refl _) ⟨_, _, _, _, _, _, H8.out.1⟩ (HA.out.2.2.1.trans H8.out.2)
              obtain ⟨A8, l8, k8, hv8⟩ : ∃ A l k, v8 = .slice A l k := by obtain ⟨A, k, h, -⟩ := ho8.form; exact ⟨_, _, _, h⟩
              subst hv8
              clear ho8 hg8 hn8 hbx8 e1)
 go_meet
 exact HE.out _ rfl
end Go.Proofs.YtbbedhecfipdjaaGreatDoor
