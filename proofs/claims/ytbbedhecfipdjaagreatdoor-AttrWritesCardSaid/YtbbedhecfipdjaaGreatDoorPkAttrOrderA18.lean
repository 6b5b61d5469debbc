import Derived.Test.YtbbedhecfipdjaaGreatDoorPkAttrOrderA13
namespace Go.Proofs.YtbbedhecfipdjaaGreatDoor
open Go.RowKit
set_option linter.unusedVariables false
set_option linter.unusedSimpArgs false
set_option maxHeartbeats 12800000 in
set_option maxRecDepth 100000 in
theorem sw_nCrypto : SwCase fun nm => tx nm = nCrypto := by
 intro w w10 P ln cn nm vl hS tS fS m0 L T g13 cs vC vE vR vS vY hT hvl hL64 hHT h10 hn J K' Q' hK hP
 intros
 have HTK := Lib.hid hT
 have HLT64 := Lib.hid hL64
 have HHT := Lib.hid hHT
 have H10 := Lib.hid h10
 have HSP : Hid (∀ (s : ByteArray) (c : UInt8) (W : World), s.size ≤ 281474976710656 → Calls Tryz.prog 48 #[.string s, .int .u8 (c.toNat : Int)] W fun e w' => e = .returned (.tuple #[.string (bs (cutS [c] (tx s)).1), .string (bs (cutS [c] (tx s)).2.1), .bool (cutS [c] (tx s)).2.2]) ∧ Below W.heap.size W w') := Lib.hid fun s c W hs => rsplit_any s c W hs
 have HCL : Hid (∀ (s : ByteArray) (c : UInt8), s.size ≤ 140737488355328 → (bs (cutS [c] (tx s)).1).size ≤ 140737488355328 ∧ (bs (cutS [c] (tx s)).2.1).size ≤ 140737488355328) := Lib.hid fun s c hs => cut_small s c hs
 have HRN : Hid (∀ (s : ByteArray) (W : World), s.size ≤ 281474976710656 → Calls Tryz.prog 49 #[.string s] W fun e w' => e = .returned (.int .i64 (numR (tx s))) ∧ W = w') := Lib.hid fun s W hs => rnumber_any s W hs
 have y0 : w10.cell? ⟨g13, 0, none⟩ = some (.string nm) := H10.out.2.2.cell 0
 have y1 : w10.cell? ⟨g13, 1, none⟩ = some (.string vl) := H10.out.2.2.cell 1
 clear hT hvl hL64 hHT h10 hP
 conv => arg 2; whnf
 have HY := Lib.hid hn
 have hq0 : (nm.toList == [109, 105, 100]) = false := by rw [toList_tx, hn]; decide
 have hq1 : (nm.toList == [115, 101, 110, 100, 111, 110, 108, 121]) = false := by rw [toList_tx, hn]; decide
 have hq2 : (nm.toList == [114, 101, 99, 118, 111, 110, 108, 121]) = false := by rw [toList_tx, hn]; decide
 have hq3 : (nm.toList == [115, 101, 110, 100, 114, 101, 99, 118]) = false := by rw [toList_tx, hn]; decide
 have hq4 : (nm.toList == [114, 116, 112, 109, 97, 112]) = false := by rw [toList_tx, hn]; decide
 have hq5 : (nm.toList == [102, 109, 116, 112]) = false := by rw [toList_tx, hn]; decide
 have hq6 : (nm.toList == [114, 116, 99, 112, 45, 102, 98]) = false := by rw [toList_tx, hn]; decide
 have hq7 : (nm.toList == [101, 120, 116, 109, 97, 112]) = false := by rw [toList_tx, hn]; decide
 have hq8 : (nm.toList == [114, 105, 100]) = false := by rw [toList_tx, hn]; decide
 have hq9 : (nm.toList == [115, 115, 114, 99]) = false := by rw [toList_tx, hn]; decide
 have hq10 : (nm.toList == [99, 114, 121, 112, 116, 111]) = true := by rw [toList_tx, hn]; rfl
 clear hn
 obtain ⟨m, hm⟩ : ∃ m, L.foldl (rd rR) m0 = m := ⟨_, rfl⟩
 have HMM := Lib.hid hm
 rw [hm] at H10
 clear hm
 obtain ⟨AC, kC, hvC, -⟩ := Own.form H10.out.2.1.hC
 obtain ⟨lC, hlC⟩ : ∃ l, (cs.map fun c => ccell c.1 c.2).length = l := ⟨_, rfl⟩
 rw [hlC] at hvC
 subst hvC
 obtain ⟨AE, kE, hvE, -⟩ := Own.form H10.out.2.1.hE
 obtain ⟨lE, hlE⟩ : ∃ l, (m.exts.map ecell).length = l := ⟨_, rfl⟩
 rw [hlE] at hvE
 subst hvE
 obtain ⟨AR, kR, hvR, -⟩ := Own.form H10.out.2.1.hR
 obtain ⟨lR, hlR⟩ : ∃ l, (m.rids.map tcell).length = l := ⟨_, rfl⟩
 rw [hlR] at hvR
 subst hvR
 obtain ⟨AS, kS, hvS, -⟩ := Own.form H10.out.2.1.hS
 obtain ⟨lS, hlS⟩ : ∃ l, (m.sources.map ucell).length = l := ⟨_, rfl⟩
 rw [hlS] at hvS
 subst hvS
 obtain ⟨AY, kY, hvY, -⟩ := Own.form H10.out.2.1.hY
 obtain ⟨lY, hlY⟩ : ∃ l, (m.crypto.map cryC).length = l := ⟨_, rfl⟩
 rw [hlY] at hvY
 subst hvY
 clear hlC hlE hlR hlS hlY
 have HLL : Hid (L.length ≤ 64) := Lib.hid (Nat.le_of_lt HLT64.out)
 have HB10 : Hid (w.heap.size ≤ w10.heap.size) := Lib.hid H10.out.1.low.size
 have HDONE : Hid (∀ (m' : MediaS) (k : Nat) (W' : World), rd rR m ⟨nm, vl⟩ = m' → k ≤ L.length + 1 → (∃ cs vC vE vR vS vY, MW w.heap.size (w.heap.size + 3) k W' m' cs vC vE vR vS vY) → Rdt w.heap.size (w.heap.size + 3) w10 W' → RRI w P ln cn m0 T W') := Lib.hid fun m' k W' hm' hk hM hR => by
  have ht : T = L ++ [⟨nm, vl⟩] := HTK.out
  rw [ht]
  exact RRI.next H10.out.1 HLT64.out (by rw [HMM.out]; exact hm') hk H10.out.2.1.box ⟨hM, hR⟩
 have qf := H10.out.2.1.box.frz
 have hz1 := HHT.out.2.2.2.2.1
 have hz2 := HHT.out.2.2.2.2.2
 have hnu := fun W => HRN.out hS W (by omega)
 obtain ⟨z1, hz1'⟩ : ∃ z, numR (tx hS) = z := ⟨_, rfl⟩
 rw [hz1'] at hnu
 have hsp1 := fun W => HSP.out tS 58 W (by omega)
 have hcl1 := HCL.out tS 58 hz2
 obtain ⟨t1, ht1⟩ : ∃ a, bs (cutS [58] (tx tS)).1 = a := ⟨_, rfl⟩
 obtain ⟨t2, ht2⟩ : ∃ a, bs (cutS [58] (tx tS)).2.1 = a := ⟨_, rfl⟩
 obtain ⟨t3, ht3⟩ : ∃ a, (cutS [58] (tx tS)).2.2 = a := ⟨_, rfl⟩
 rw [ht1, ht2] at hcl1
 rw [ht1, ht2, ht3] at hsp1
 have hub := fun W => unbase64_any t2 W (by omega)
 obtain ⟨k, hk⟩ : ∃ k, keyR (tx t2) = k := ⟨_, rfl⟩
 have HKL : Hid (k.length = 30) := Lib.hid (by rw [← hk]; exact keyR_len _)
 rw [hk] at hub
 have HCO : Hid (cryR (tx vl) = ⟨z1, k⟩) := Lib.hid (by
  unfold cryR
  have e3 : (cutS [58] (tx tS)).2.1 = tx t2 := by rw [← ht2, tx_bs]
  rw [HHT.out.1, HHT.out.2.1, hz1', e3, hk])
 have hsl := fun W => slice_cry z1 k HKL.out W
 have HYL := Lib.hid (cryC_len (c := ⟨z1, k⟩) HKL.out)
 have HYO : Hid (∀ u ∈ cryC (⟨z1, k⟩ : CryptoS), u.oneCell' = true) := Lib.hid fun u hu => List.all_eq_true.1 (cryC_one _) u hu
 obtain ⟨K0, hK0⟩ : ∃ K, (keyC k).toArray = K := ⟨_, rfl⟩
 obtain ⟨Y, hY⟩ : ∃ K, (cryC (⟨z1, k⟩ : CryptoS)).toArray = K := ⟨_, rfl⟩
 have HYE := Lib.hid hY
 have HYS : Hid (Y.size = 31) := Lib.hid (by rw [← hY, List.size_toArray]; exact HYL.out)
 have HKS : Hid (K0.size = 30 ∧ K0.all (·.oneCell') = true ∧ K0.toList = keyC k) := Lib.hid (by
  subst hK0
  refine ⟨by simp [keyC, HKL.out], ?_, by simp⟩
  refine all_oneCell_toArray fun v hv => ?_
  unfold keyC at hv
  obtain ⟨c, -, rfl⟩ := List.mem_map.1 hv
  rfl)
 rw [hK0] at hub
 simp only [hY] at hsl
 have HSC := Lib.hid hsl
 have HU := Lib.hid hnu
 have HS5 : Hid (∀ W : World, Calls Tryz.prog 48 #[.string tS, .int .u8 58] W fun e w' => e = .returned (.tuple #[.string t1, .string t2, .bool t3]) ∧ Below W.heap.size W w') := Lib.hid hsp1
 have HUB := Lib.hid hub
 clear hnu hsp1 hcl1 hub hsl hz1' ht1 ht2 ht3 hk hK0 hY hz1 hz2
 obtain ⟨Z, hz⟩ := zcry_letter
 have HZA := Lib.hid hz
 obtain ⟨ZC, hzc⟩ := zcry_letter1 z1
 have HZC := Lib.hid hzc
 clear hz hzc
 have HNEW : Hid (Whole (w10.alloc (.cells Z 88)) w10.heap.size 88 Z) := Lib.hid (Whole.new _ _ _)
 go_upto_region 55 with (first
  | (go_at_call 49; (with_reducible refine (HU.out _).mono ?_); rintro e w' ⟨rfl, rfl⟩; dsimp only)
  | ((with_reducible refine wpList_buildOneR ?_ (t := 88) (i := 0) (x := .tmp 223) (u := .int .i64 z1) ?_ ?_ (HZC.out.1 _) ?_); (with_reducible rfl); (with_reducible rfl); rfl)
  | ((with_reducible refine wpList_allocR ?_ (t := 88) ?_ (HZA.out.1 _) ?_); (with_reducible rfl); (with_reducible rfl))
  | ((with_reducible refine wpList_storeS ZC ?_ 88 (.tmp 26) (.tmp 224) ?_ ?_ ?_ HNEW.out Tryz.sizeCrypto HZC.out.2.1 HZA.out.2 HZC.out.2.2.1 ?_); (with_reducible rfl); (with_reducible rfl); rfl; rfl))
 have HG : Hid (Below w10.heap.size w10 ((w10.alloc (.cells Z 88)).setRow w10.heap.size ZC) ∧ Whole ((w10.alloc (.cells Z 88)).setRow w10.heap.size ZC) w10.heap.size 88 ZC ∧ w10.heap.size ≤ w10.heap.size) := Lib.hid ⟨below_row ((Below.refl _ w10).alloc (Nat.le_refl _) _) (Nat.le_refl _) _, HNEW.out.row _, Nat.le_refl _⟩
 clear HNEW
 obtain ⟨g26, hg26⟩ : ∃ g, w10.heap.size = g := ⟨_, rfl⟩
 have HG26 := Lib.hid hg26
 rw [hg26] at HG
 simp only [hg26]
 clear hg26
 generalize ((w10.alloc (.cells Z 88)).setRow w10.heap.size ZC) = w11 at *
 go_upto_region 56 with (go_at_call 48; ((with_reducible refine (HS5.out _).mono ?_); rintro e w12 ⟨rfl, hb1⟩; have H12 : Hid (Below g26 w10 w12 ∧ Whole w12 g26 88 ZC) := Lib.hid ⟨below_chain (Nat.le_of_eq HG26.out.symm) HG.out.1 hb1, HG.out.2.1.under hb1⟩; clear hb1; dsimp only))
 go_upto_region 57 with (first
  | (go_at_call 51; ((with_reducible refine (HUB.out _).mono ?_); rintro e w13 ⟨⟨bq, rfl⟩, hb1⟩; have H13 : Hid (Below g26 w10 w13 ∧ Whole w13 g26 88 ZC) := Lib.hid ⟨below_chain (Nat.le_of_eq HG26.out.symm) H12.out.1 hb1, H12.out.2.under hb1⟩; have HTH : Hid (w13.there g26 1 K0.size) := Lib.hid (by rw [HKS.out.1]; exact H13.out.2.there30 HZC.out.2.1); clear hb1; dsimp only))
  | ((with_reducible refine wpList_store_mid ?_ 86 (.tmp 236) (.tmp 234) ?_ g26 1 K0 ?_ ?_ HTH.out ?_ HKS.out.2.1 ?_); (with_reducible rfl); (with_reducible rfl); rfl; rfl; (rw [HKS.out.1]; exact Tryz.sizeKey)))
 have H14 : Hid (Below g26 w10 (w13.setCells g26 1 K0.toList) ∧ Whole (w13.setCells g26 1 K0.toList) g26 88 Y) := Lib.hid ⟨by
  rw [setCells_puts]; exact H13.out.1.trans (puts_below (Nat.le_refl _) _ _ _), by
  rw [HKS.out.2.2, ← HYE.out]; exact HZC.out.2.2.2 _ _ _ _ H13.out.2 HKL.out⟩
 clear H13 H12 HG HTH
 generalize w13.setCells g26 1 K0.toList = w14 at *
 have HM14 : Hid (MW w.heap.size (w.heap.size + 3) L.length w14 m cs (.slice AC lC kC) (.slice AE lE kE) (.slice AR lR kR) (.slice AS lS kS) (.slice AY lY kY) ∧ Rdt w.heap.size (w.heap.size + 3) w10 w14 ∧ w.heap.size ≤ w14.heap.size) := Lib.hid (by
  have hb : Below w10.heap.size w10 w14 := by rw [HG26.out]; exact H14.out.1
  exact ⟨H10.out.2.1.under hb, (Rdt.refl _ _ _).under hb HB10.out, Nat.le_trans HB10.out hb.size⟩)
 have HA : Hid (MW w.heap.size (w.heap.size + 3) L.length (w14.alloc (.cells Y 88)) m cs (.slice AC lC kC) (.slice AE lE kE) (.slice AR lR kR) (.slice AS lS kS) (.slice AY lY kY) ∧ Whole (w14.alloc (.cells Y 88)) w14.heap.size 88 Y ∧ Rdt w.heap.size (w.heap.size + 3) w10 (w14.alloc (.cells Y 88)) ∧ w.heap.size ≤ (w14.alloc (.cells Y 88)).heap.size) := Lib.hid
  ⟨HM14.out.1.under ((Below.refl _ w14).alloc (Nat.le_refl _) _), Whole.new _ _ _, HM14.out.2.1.under ((Below.refl _ w14).alloc (Nat.le_refl _) _) HM14.out.2.2, by rw [World.size_alloc]; have := HM14.out.2.2; omega⟩
 have e1 : w14.cell? ⟨w.heap.size + 3, 9, none⟩ = some (.slice AY lY kY) := HM14.out.1.box.cell 9
 go_wp2_with (first
  | ((with_reducible refine wpList_load_all ?_ 88 (.tmp 26) ?_ H14.out.2 ?_ Tryz.sizeCrypto HYS.out Tryz.underlying88 rfl ?_); (with_reducible rfl); (with_reducible rfl); rfl)
  | ((with_reducible refine wpList_sliceOne ?_ (t := 26) (n := 1) (i := 0) (x := .tmp 239) (u := .agg Y) ?_ ?_ (HSC.out _) ?_); (with_reducible rfl); (with_reducible rfl); rfl)
  | (at_builtin; refine wpList_appendE (r := cryC ⟨z1, k⟩) rfl (.tmp 238) (.tmp 240) rfl Tryz.underlying26 Tryz.infoCrypto rfl (Nat.zero_lt_succ _) rfl HA.out.1.hY rfl (by rw [HYE.out]; exact HA.out.2.1) HYL.out HYO.out (by rw [List.length_map]; have := HA.out.1.lens.2.2.2.2.1; have := HLL.out; omega) (by rw [List.length_map]; have := HA.out.1.lens.2.2.2.2.1; have := HLL.out; omega) HA.out.2.2.2 ?_
     intro v8 w16 ho8 hg8 hn8
     have H8 := Lib.hid (HA.out.1.cryptoA (x := ⟨z1, k⟩) ho8 hg8 HA.out.2.2.2 HKL.out HLL.out)
     have hbx8 : Whole w16 (w.heap.size + 3) 28 (mcell m (.slice AC lC kC) (.slice AE lE kE) (.slice AR lR kR) (.slice AS lS kS) (.slice AY lY kY)) := HA.out.1.box.grown hg8 (fun e => (HA.out.1.hY.apart HA.out.1.box (by decide)) e.symm)
     have c8 : w16.cell? ⟨w.heap.size + 3, 9, none⟩ = some (.slice AY lY kY) := hbx8.cell 9
     have f8 := hbx8.frz 9
     have HE : Hid (∀ W', W' = (w16.setCell ⟨w.heap.size + 3, 9, none⟩ v8) → RRI w P ln cn m0 T W') := Lib.hid fun W' hW => by
      subst hW
      exact HDONE.out _ (L.length + 1) _ (by rw [rdR_cry HY.out, HCO.out]) (Nat.le_refl _) ⟨_, _, _, _, _, _, H8.out.1⟩ (HA.out.2.2.1.trans H8.out.2)
     obtain ⟨A8, l8, k8, hv8⟩ : ∃ A l k, v8 = .slice A l k := by obtain ⟨A, k, h, -⟩ := ho8.form; exact ⟨_, _, _, h⟩
     subst hv8
     clear ho8 hg8 hn8 hbx8 e1))
 go_meet
 exact HE.out _ rfl
end Go.Proofs.YtbbedhecfipdjaaGreatDoor
