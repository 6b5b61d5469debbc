import Derived.Test.YtbbedhecfipdjaaGreatDoorPkAttrOrderA13
namespace Go.Proofs.YtbbedhecfipdjaaGreatDoor
open Go.RowKit
set_option linter.unusedVariables false
set_option linter.unusedSimpArgs false
set_option maxHeartbeats 12800000 in
set_option maxRecDepth 100000 in
theorem sw_nFormat : SwCase fun nm => tx nm = nFormat := by
 intro w w10 P ln cn nm vl hS tS fS m0 L T g13 cs vC vE vR vS vY hT hvl hL64 hHT h10 hn J K' Q' hK hP
 intros
 have HTK := Lib.hid hT
 have HLT64 := Lib.hid hL64
 have HHT := Lib.hid hHT
 have H10 := Lib.hid h10
 have y0 : w10.cell? ⟨g13, 0, none⟩ = some (.string nm) := H10.out.2.2.cell 0
 have y1 : w10.cell? ⟨g13, 1, none⟩ = some (.string vl) := H10.out.2.2.cell 1
 clear hT hvl hL64 hHT h10 hP
 conv => arg 2; whnf
 have HY := Lib.hid hn
 have hq0 : (nm.toList == [109, 105, 100]) = false := by rw [toList_tx, hn]; decide
 have hq1 : (nm.toList == [115, 101, 110, 100, 111, 110, 108, 121]) = false := by rw [toList_tx, hn]; decide
 have hq2 : (nm.toList == [114, 101, 99, 118, 111, 110, 108, 121]) = false := by rw [toList_tx, hn]; decide
 have hq3 : (nm.toList == [115, 101, 110, 100, 114, 101, 99, 118]) = false := by rw [toList_tx, hn]; decide
 have hq4 : (nm.toList == [114, 116, 112, 109, 97, 112]) = false := by rw [toList_tx, hn]; decide
 have hq5 : (nm.toList == [102, 109, 116, 112]) = true := by rw [toList_tx, hn]; rfl
 clear hn
 obtain ⟨m, hm⟩ : ∃ m, L.foldl (rd rR) m0 = m := ⟨_, rfl⟩
 have HMM := Lib.hid hm
 rw [hm] at H10
 clear hm
 obtain ⟨AC, kC, hvC, -⟩ := Own.form H10.out.2.1.hC
 obtain ⟨lC, hlC⟩ : ∃ l, (cs.map fun c => ccell c.1 c.2).length = l := ⟨_, rfl⟩
 rw [hlC] at hvC
 subst hvC
 obtain ⟨AE, kE, hvE, -⟩ := Own.form H10.out.2.1.hE
 obtain ⟨lE, hlE⟩ : ∃ l, (m.exts.map ecell).length = l := ⟨_, rfl⟩
 rw [hlE] at hvE
 subst hvE
 obtain ⟨AR, kR, hvR, -⟩ := Own.form H10.out.2.1.hR
 obtain ⟨lR, hlR⟩ : ∃ l, (m.rids.map tcell).length = l := ⟨_, rfl⟩
 rw [hlR] at hvR
 subst hvR
 obtain ⟨AS, kS, hvS, -⟩ := Own.form H10.out.2.1.hS
 obtain ⟨lS, hlS⟩ : ∃ l, (m.sources.map ucell).length = l := ⟨_, rfl⟩
 rw [hlS] at hvS
 subst hvS
 obtain ⟨AY, kY, hvY, -⟩ := Own.form H10.out.2.1.hY
 obtain ⟨lY, hlY⟩ : ∃ l, (m.crypto.map cryC).length = l := ⟨_, rfl⟩
 rw [hlY] at hvY
 subst hvY
 have HLC : Hid (cs.length = lC) := Lib.hid (by rw [← hlC, List.length_map])
 clear hlC hlE hlR hlS hlY
 have HLL : Hid (L.length ≤ 64) := Lib.hid (Nat.le_of_lt HLT64.out)
 have HDONE : Hid (∀ (m' : MediaS) (k : Nat) (W' : World), rd rR m ⟨nm, vl⟩ = m' → k ≤ L.length + 1 → (∃ cs vC vE vR vS vY, MW w.heap.size (w.heap.size + 3) k W' m' cs vC vE vR vS vY) → Rdt w.heap.size (w.heap.size + 3) w10 W' → RRI w P ln cn m0 T W') := Lib.hid fun m' k W' hm' hk hM hR => by
  have ht : T = L ++ [⟨nm, vl⟩] := HTK.out
  rw [ht]
  exact RRI.next H10.out.1 HLT64.out (by rw [HMM.out]; exact hm') hk H10.out.2.1.box ⟨hM, hR⟩
 have qf := H10.out.2.1.box.frz
 have hz2 := HHT.out.2.2.2.2.2
 rcases List.eq_nil_or_concat cs with hcs | ⟨cs0, c, hcs⟩
 · have hl0 : lC = 0 := by rw [← HLC.out, hcs]; rfl
   subst hl0
   have hgt : ¬ (0 : Int) < ((0 : Nat) : Int) := by decide
   have HE : Hid (RRI w P ln cn m0 T w10) := Lib.hid (by
    refine HDONE.out m L.length _ ?_ (Nat.le_succ _) ⟨_, _, _, _, _, _, H10.out.2.1⟩ (Rdt.refl _ _ _)
    rw [rdR_fmtp HY.out]
    have e : m.codecs = [] := by rw [H10.out.2.1.eqC, hcs]; rfl
    cases m
    simp only at e
    subst e
    rfl)
   have c4 : w10.cell? ⟨w.heap.size + 3, 4, none⟩ = some (.slice AC 0 kC) := H10.out.2.1.box.cell 4
   clear hcs
   go_wp2
   go_meet
   exact HE.out
 · rw [List.concat_eq_append] at hcs
   subst hcs
   have h := H10.out.2.1
   obtain ⟨g, k, hv, hg, -, -, hk, -, hat, -⟩ := Own.at_ h.hC (i := cs0.length) (r := ccell c.1 c.2) (by simp)
   obtain ⟨jj, hjj⟩ : ∃ jj, cs0.length = jj := ⟨_, rfl⟩
   have hlc : lC = jj + 1 := by rw [← HLC.out, ← hjj]; simp
   subst hlc
   injection hv with hv1 hv2 hv3
   subst hv1
   have HFX := Lib.hid (h.formatL hg hz2)
   rw [hjj] at HFX
   have e4 : w10.cell? ⟨w.heap.size + 3, 4, none⟩ = some (.slice (some ⟨g, 0, none⟩) (jj + 1) kC) := h.box.cell 4
   have e5 : w10.cell? ⟨g, jj * 6 + 4, none⟩ = some (.string c.1.format) := by rw [← hjj]; exact hat 4 (by decide)
   have q5 : w10.frozen? ⟨g, jj * 6 + 4, none⟩ = false := by obtain ⟨cc, hcc⟩ := h.hC.whole hg; exact hcc.frz _
   have hgt : (0 : Int) < ((jj + 1 : Nat) : Int) := by omega
   have hsub : ((jj + 1 : Nat) : Int) - 1 = (jj : Int) := by omega
   have hj00 : (0 : Int) ≤ (jj : Int) := by omega
   have hj01 : (jj : Int) < ((jj + 1 : Nat) : Int) := by omega
   have hj64 : jj ≤ 64 := by have := h.lens.1; rw [h.eqC] at this; simp at this; have := HLL.out; omega
   have HE : Hid (∀ W', W' = w10.setCell ⟨g, jj * 6 + 4, none⟩ (.string tS) → RRI w P ln cn m0 T W') := Lib.hid fun W' hW => by
    subst hW
    exact HDONE.out _ L.length _ (by rw [rdR_fmtp HY.out, HHT.out.2.2.2.1]) (Nat.le_succ _) ⟨_, _, _, _, _, _, HFX.out.1⟩ HFX.out.2
   clear h hat hg hk hv2 hv3 hz2
   go_wp2
   go_meet
   exact HE.out _ rfl
set_option maxHeartbeats 12800000 in
set_option maxRecDepth 100000 in
theorem sw_nFeedback : SwCase fun nm => tx nm = nFeedback := by
 intro w w10 P ln cn nm vl hS tS fS m0 L T g13 cs vC vE vR vS vY hT hvl hL64 hHT h10 hn J K' Q' hK hP
 intros
 have HTK := Lib.hid hT
 have HLT64 := Lib.hid hL64
 have HHT := Lib.hid hHT
 have H10 := Lib.hid h10
 have y0 : w10.cell? ⟨g13, 0, none⟩ = some (.string nm) := H10.out.2.2.cell 0
 have y1 : w10.cell? ⟨g13, 1, none⟩ = some (.string vl) := H10.out.2.2.cell 1
 clear hT hvl hL64 hHT h10 hP
 conv => arg 2; whnf
 have HY := Lib.hid hn
 have hq0 : (nm.toList == [109, 105, 100]) = false := by rw [toList_tx, hn]; decide
 have hq1 : (nm.toList == [115, 101, 110, 100, 111, 110, 108, 121]) = false := by rw [toList_tx, hn]; decide
 have hq2 : (nm.toList == [114, 101, 99, 118, 111, 110, 108, 121]) = false := by rw [toList_tx, hn]; decide
 have hq3 : (nm.toList == [115, 101, 110, 100, 114, 101, 99, 118]) = false := by rw [toList_tx, hn]; decide
 have hq4 : (nm.toList == [114, 116, 112, 109, 97, 112]) = false := by rw [toList_tx, hn]; decide
 have hq5 : (nm.toList == [102, 109, 116, 112]) = false := by rw [toList_tx, hn]; decide
 have hq6 : (nm.toList == [114, 116, 99, 112, 45, 102, 98]) = true := by rw [toList_tx, hn]; rfl
 clear hn
 obtain ⟨m, hm⟩ : ∃ m, L.foldl (rd rR) m0 = m := ⟨_, rfl⟩
 have HMM := Lib.hid hm
 rw [hm] at H10
 clear hm
 obtain ⟨AC, kC, hvC, -⟩ := Own.form H10.out.2.1.hC
 obtain ⟨lC, hlC⟩ : ∃ l, (cs.map fun c => ccell c.1 c.2).length = l := ⟨_, rfl⟩
 rw [hlC] at hvC
 subst hvC
 obtain ⟨AE, kE, hvE, -⟩ := Own.form H10.out.2.1.hE
 obtain ⟨lE, hlE⟩ : ∃ l, (m.exts.map ecell).length = l := ⟨_, rfl⟩
 rw [hlE] at hvE
 subst hvE
 obtain ⟨AR, kR, hvR, -⟩ := Own.form H10.out.2.1.hR
 obtain ⟨lR, hlR⟩ : ∃ l, (m.rids.map tcell).length = l := ⟨_, rfl⟩
 rw [hlR] at hvR
 subst hvR
 obtain ⟨AS, kS, hvS, -⟩ := Own.form H10.out.2.1.hS
 obtain ⟨lS, hlS⟩ : ∃ l, (m.sources.map ucell).length = l := ⟨_, rfl⟩
 rw [hlS] at hvS
 subst hvS
 obtain ⟨AY, kY, hvY, -⟩ := Own.form H10.out.2.1.hY
 obtain ⟨lY, hlY⟩ : ∃ l, (m.crypto.map cryC).length = l := ⟨_, rfl⟩
 rw [hlY] at hvY
 subst hvY
 have HLC : Hid (cs.length = lC) := Lib.hid (by rw [← hlC, List.length_map])
 clear hlC hlE hlR hlS hlY
 have HLL : Hid (L.length ≤ 64) := Lib.hid (Nat.le_of_lt HLT64.out)
 have HB10 : Hid (w.heap.size ≤ w10.heap.size) := Lib.hid H10.out.1.low.size
 have HDONE : Hid (∀ (m' : MediaS) (k : Nat) (W' : World), rd rR m ⟨nm, vl⟩ = m' → k ≤ L.length + 1 → (∃ cs vC vE vR vS vY, MW w.heap.size (w.heap.size + 3) k W' m' cs vC vE vR vS vY) → Rdt w.heap.size (w.heap.size + 3) w10 W' → RRI w P ln cn m0 T W') := Lib.hid fun m' k W' hm' hk hM hR => by
  have ht : T = L ++ [⟨nm, vl⟩] := HTK.out
  rw [ht]
  exact RRI.next H10.out.1 HLT64.out (by rw [HMM.out]; exact hm') hk H10.out.2.1.box ⟨hM, hR⟩
 have qf := H10.out.2.1.box.frz
 have hz1 := HHT.out.2.2.2.2.1
 have hz2 := HHT.out.2.2.2.2.2
 rcases List.eq_nil_or_concat cs with hcs | ⟨cs0, c, hcs⟩
 · have hl0 : lC = 0 := by rw [← HLC.out, hcs]; rfl
   subst hl0
   have hgt : ¬ (0 : Int) < ((0 : Nat) : Int) := by decide
   have HE : Hid (RRI w P ln cn m0 T w10) := Lib.hid (by
    refine HDONE.out m L.length _ ?_ (Nat.le_succ _) ⟨_, _, _, _, _, _, H10.out.2.1⟩ (Rdt.refl _ _ _)
    rw [rdR_feed HY.out]
    have e : m.codecs = [] := by rw [H10.out.2.1.eqC, hcs]; rfl
    cases m
    simp only at e
    subst e
    rfl)
   have c4 : w10.cell? ⟨w.heap.size + 3, 4, none⟩ = some (.slice AC 0 kC) := H10.out.2.1.box.cell 4
   clear hcs
   go_wp2
   go_meet
   exact HE.out
 · rw [List.concat_eq_append] at hcs
   subst hcs
   obtain ⟨cf, cv⟩ := c
   have h := H10.out.2.1
   obtain ⟨AF, kF, hvF, -⟩ := Own.form (h.hF (cf, cv) (by simp))
   have hvF : cv = .slice AF (cf.feedback.map tcell).length kF := hvF
   obtain ⟨lF, hlF⟩ : ∃ l, (cf.feedback.map tcell).length = l := ⟨_, rfl⟩
   rw [hlF] at hvF
   subst hvF
   clear hlF h
   have h := H10.out.2.1
   obtain ⟨g, k, hv, hg, -, -, hk, -, hat, -⟩ := Own.at_ h.hC (i := cs0.length) (r := ccell cf (.slice AF lF kF)) (by simp)
   obtain ⟨jj, hjj⟩ : ∃ jj, cs0.length = jj := ⟨_, rfl⟩
   have hlc : lC = jj + 1 := by rw [← HLC.out, ← hjj]; simp
   subst hlc
   injection hv with hv1 hv2 hv3
   subst hv1
   have HG := Lib.hid hg
   have HJJ := Lib.hid hjj
   have HZ2 := Lib.hid hz2
   have e4 : w10.cell? ⟨w.heap.size + 3, 4, none⟩ = some (.slice (some ⟨g, 0, none⟩) (jj + 1) kC) := h.box.cell 4
   have e5 : w10.cell? ⟨g, jj * 6 + 5, none⟩ = some (.slice AF lF kF) := by rw [← hjj]; exact hat 5 (by decide)
   have hgt : (0 : Int) < ((jj + 1 : Nat) : Int) := by omega
   have hsub : ((jj + 1 : Nat) : Int) - 1 = (jj : Int) := by omega
   have hj00 : (0 : Int) ≤ (jj : Int) := by omega
   have hj01 : (jj : Int) < ((jj + 1 : Nat) : Int) := by omega
   have hj64 : jj ≤ 64 := by have := h.lens.1; rw [h.eqC] at this; simp at this; have := HLL.out; omega
   have HA : Hid (MW w.heap.size (w.heap.size + 3) L.length (w10.alloc (.cells #[.string tS] 9)) m (cs0 ++ [(cf, .slice AF lF kF)]) (.slice (some ⟨g, 0, none⟩) (jj + 1) kC) (.slice AE lE kE) (.slice AR lR kR) (.slice AS lS kS) (.slice AY lY kY) ∧ Whole (w10.alloc (.cells #[.string tS] 9)) w10.heap.size 9 #[.string tS] ∧ Rdt w.heap.size (w.heap.size + 3) w10 (w10.alloc (.cells #[.string tS] 9)) ∧ w.heap.size ≤ (w10.alloc (.cells #[.string tS] 9)).heap.size) := Lib.hid
    ⟨H10.out.2.1.under ((Below.refl _ w10).alloc (Nat.le_refl _) _), Whole.new _ _ _, (Rdt.refl _ _ _).under ((Below.refl _ w10).alloc (Nat.le_refl _) _) HB10.out, by rw [World.size_alloc]; have := HB10.out; omega⟩
   clear h hat hg hk hv2 hv3 hjj hz1 hz2
   go_wp2_with (at_builtin; refine wpList_appendE (r := [.string tS]) rfl (.tmp 177) (.tmp 179) rfl Tryz.underlying24 Tryz.infoStr rfl (Nat.zero_lt_succ _) rfl (HA.out.1.hF (cf, .slice AF lF kF) (by simp)) rfl HA.out.2.1 rfl (fun u hu => by simp at hu; subst hu; rfl) (by rw [List.length_map]; have := HA.out.1.lens.2.2.2.2.2 cf (by rw [HA.out.1.eqC]; simp); have := HLL.out; show (cf.feedback.length + 1) * 16 ≤ _; omega) (by rw [List.length_map]; have := HA.out.1.lens.2.2.2.2.2 cf (by rw [HA.out.1.eqC]; simp); have := HLL.out; show cf.feedback.length + 1 ≤ _; omega) HA.out.2.2.2 ?_
                intro v8 w11 ho8 hg8 hn8
                have H8 := Lib.hid (HA.out.1.feedL HG.out ho8 hg8 HA.out.2.2.2 HZ2.out HLL.out hn8)
                rw [HJJ.out] at H8
                have hC8 := HA.out.1.hC.grown hg8 (HA.out.1.hC.apart2 (HA.out.1.hF (cf, .slice AF lF kF) (by simp)) (by decide))
                obtain ⟨g', k', hv', hg', -, -, -, -, hat, -⟩ := Own.at_ hC8 (i := cs0.length) (r := ccell cf (.slice AF lF kF)) (by simp)
                obtain rfl : g = g' := by have := HG.out.symm.trans hg'; exact Option.some.inj this
                rw [HJJ.out] at hat
                have c8 : w11.cell? ⟨g, jj * 6 + 5, none⟩ = some (.slice AF lF kF) := hat 5 (by decide)
                have f8 : w11.frozen? ⟨g, jj * 6 + 5, none⟩ = false := by obtain ⟨cc, hcc⟩ := hC8.whole HG.out; exact hcc.frz _
                have HE : Hid (∀ W', W' = (w11.setCell ⟨g, jj * 6 + 5, none⟩ v8) → RRI w P ln cn m0 T W') := Lib.hid fun W' hW => by
                 subst hW
                 exact HDONE.out _ (L.length + 1) _ (by rw [rdR_feed HY.out, HHT.out.2.2.2.1]) (Nat.le_refl _) ⟨_, _, _, _, _, _, H8.out.1⟩ (HA.out.2.2.1.trans H8.out.2)
                obtain ⟨A8, l8, k8, hv8⟩ : ∃ A l k, v8 = .slice A l k := by obtain ⟨A, k, h, -⟩ := ho8.form; exact ⟨_, _, _, h⟩
                subst hv8
                clear ho8 hg8 hn8 hC8 hv' hg' hat e5)
   go_meet
   exact HE.out _ rfl
end Go.Proofs.YtbbedhecfipdjaaGreatDoor
