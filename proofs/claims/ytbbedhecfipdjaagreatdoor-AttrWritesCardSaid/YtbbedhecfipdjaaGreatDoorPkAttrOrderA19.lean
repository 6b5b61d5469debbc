import Derived.Test.YtbbedhecfipdjaaGreatDoorPkAttrOrderA13
namespace Go.Proofs.YtbbedhecfipdjaaGreatDoor
open Go.RowKit
set_option linter.unusedVariables false
set_option linter.unusedSimpArgs false
set_option maxHeartbeats 12800000 in
set_option maxRecDepth 100000 in
theorem sw_nSctp : SwCase fun nm => tx nm = nSctp := by
 intro w w10 P ln cn nm vl hS tS fS m0 L T g13 cs vC vE vR vS vY hT hvl hL64 hHT h10 hn J K' Q' hK hP
 intros
 have HTK := Lib.hid hT
 have HVL := Lib.hid hvl
 have HLT64 := Lib.hid hL64
 have H10 := Lib.hid h10
 have HRN : Hid (∀ (s : ByteArray) (W : World), s.size ≤ 281474976710656 → Calls Tryz.prog 49 #[.string s] W fun e w' => e = .returned (.int .i64 (numR (tx s))) ∧ W = w') := Lib.hid fun s W hs => rnumber_any s W hs
 have y0 : w10.cell? ⟨g13, 0, none⟩ = some (.string nm) := H10.out.2.2.cell 0
 have y1 : w10.cell? ⟨g13, 1, none⟩ = some (.string vl) := H10.out.2.2.cell 1
 clear hT hvl hL64 hHT h10 hP
 conv => arg 2; whnf
 have HY := Lib.hid hn
 have hq0 : (nm.toList == [109, 105, 100]) = false := by rw [toList_tx, hn]; decide
 have hq1 : (nm.toList == [115, 101, 110, 100, 111, 110, 108, 121]) = false := by rw [toList_tx, hn]; decide
 have hq2 : (nm.toList == [114, 101, 99, 118, 111, 110, 108, 121]) = false := by rw [toList_tx, hn]; decide
 have hq3 : (nm.toList == [115, 101, 110, 100, 114, 101, 99, 118]) = false := by rw [toList_tx, hn]; decide
 have hq4 : (nm.toList == [114, 116, 112, 109, 97, 112]) = false := by rw [toList_tx, hn]; decide
 have hq5 : (nm.toList == [102, 109, 116, 112]) = false := by rw [toList_tx, hn]; decide
 have hq6 : (nm.toList == [114, 116, 99, 112, 45, 102, 98]) = false := by rw [toList_tx, hn]; decide
 have hq7 : (nm.toList == [101, 120, 116, 109, 97, 112]) = false := by rw [toList_tx, hn]; decide
 have hq8 : (nm.toList == [114, 105, 100]) = false := by rw [toList_tx, hn]; decide
 have hq9 : (nm.toList == [115, 115, 114, 99]) = false := by rw [toList_tx, hn]; decide
 have hq10 : (nm.toList == [99, 114, 121, 112, 116, 111]) = false := by rw [toList_tx, hn]; decide
 have hq11 : (nm.toList == [115, 99, 116, 112, 45, 112, 111, 114, 116]) = true := by rw [toList_tx, hn]; rfl
 clear hn
 obtain ⟨m, hm⟩ : ∃ m, L.foldl (rd rR) m0 = m := ⟨_, rfl⟩
 have HMM := Lib.hid hm
 rw [hm] at H10
 clear hm
 obtain ⟨AC, kC, hvC, -⟩ := Own.form H10.out.2.1.hC
 obtain ⟨lC, hlC⟩ : ∃ l, (cs.map fun c => ccell c.1 c.2).length = l := ⟨_, rfl⟩
 rw [hlC] at hvC
 subst hvC
 obtain ⟨AE, kE, hvE, -⟩ := Own.form H10.out.2.1.hE
 obtain ⟨lE, hlE⟩ : ∃ l, (m.exts.map ecell).length = l := ⟨_, rfl⟩
 rw [hlE] at hvE
 subst hvE
 obtain ⟨AR, kR, hvR, -⟩ := Own.form H10.out.2.1.hR
 obtain ⟨lR, hlR⟩ : ∃ l, (m.rids.map tcell).length = l := ⟨_, rfl⟩
 rw [hlR] at hvR
 subst hvR
 obtain ⟨AS, kS, hvS, -⟩ := Own.form H10.out.2.1.hS
 obtain ⟨lS, hlS⟩ : ∃ l, (m.sources.map ucell).length = l := ⟨_, rfl⟩
 rw [hlS] at hvS
 subst hvS
 obtain ⟨AY, kY, hvY, -⟩ := Own.form H10.out.2.1.hY
 obtain ⟨lY, hlY⟩ : ∃ l, (m.crypto.map cryC).length = l := ⟨_, rfl⟩
 rw [hlY] at hvY
 subst hvY
 clear hlC hlE hlR hlS hlY
 have HDONE : Hid (∀ (m' : MediaS) (k : Nat) (W' : World), rd rR m ⟨nm, vl⟩ = m' → k ≤ L.length + 1 → (∃ cs vC vE vR vS vY, MW w.heap.size (w.heap.size + 3) k W' m' cs vC vE vR vS vY) → Rdt w.heap.size (w.heap.size + 3) w10 W' → RRI w P ln cn m0 T W') := Lib.hid fun m' k W' hm' hk hM hR => by
  have ht : T = L ++ [⟨nm, vl⟩] := HTK.out
  rw [ht]
  exact RRI.next H10.out.1 HLT64.out (by rw [HMM.out]; exact hm') hk H10.out.2.1.box ⟨hM, hR⟩
 have qf := H10.out.2.1.box.frz
 have hrn := fun W => HRN.out vl W (by have := HVL.out; omega)
 obtain ⟨sq, hsq⟩ : ∃ q, numR (tx vl) = q := ⟨_, rfl⟩
 rw [hsq] at hrn
 have HSQ := Lib.hid hsq
 have HRV := Lib.hid hrn
 clear hrn hsq
 have c0 : w10.cell? ⟨w.heap.size + 3, 10, none⟩ = some (.int .i64 m.sctp) := H10.out.2.1.box.cell 10
 have HE : Hid (∀ W', W' = w10.setCell ⟨w.heap.size + 3, 10, none⟩ (.int .i64 sq) → RRI w P ln cn m0 T W') := Lib.hid fun W' hW => by
  subst hW
  exact HDONE.out _ L.length _ (by rw [rdR_sctp HY.out, HSQ.out]) (Nat.le_succ _) ⟨_, _, _, _, _, _, H10.out.2.1.cell (m' := { m with sctp := sq }) 10 _ rfl rfl rfl rfl rfl rfl H10.out.2.1.siz.mid⟩ ((Rdt.refl _ _ _).cell H10.out.2.1.hbm 10 _)
 go_wp2_with (go_at_call 49; (with_reducible refine (HRV.out _).mono ?_); rintro e w10' ⟨rfl, rfl⟩; dsimp only)
 go_meet
 exact HE.out _ rfl
set_option maxHeartbeats 12800000 in
set_option maxRecDepth 100000 in
theorem sw_else : SwCase fun nm => tx nm ≠ nMid ∧ tx nm ≠ nSendonly ∧ tx nm ≠ nRecvonly ∧ tx nm ≠ nSendrecv ∧ tx nm ≠ nCodec ∧ tx nm ≠ nFormat ∧ tx nm ≠ nFeedback ∧ tx nm ≠ nExt ∧ tx nm ≠ nRid ∧ tx nm ≠ nSource ∧ tx nm ≠ nCrypto ∧ tx nm ≠ nSctp := by
 intro w w10 P ln cn nm vl hS tS fS m0 L T g13 cs vC vE vR vS vY hT hvl hL64 hHT h10 hn J K' Q' hK hP
 intros
 obtain ⟨n99, n104, n107, n110, n113, n145, n160, n183, n194, n205, n220, n243⟩ := hn
 have HTK := Lib.hid hT
 have HLT64 := Lib.hid hL64
 have H10 := Lib.hid h10
 have y0 : w10.cell? ⟨g13, 0, none⟩ = some (.string nm) := H10.out.2.2.cell 0
 have y1 : w10.cell? ⟨g13, 1, none⟩ = some (.string vl) := H10.out.2.2.cell 1
 clear hT hvl hL64 hHT h10 hP
 conv => arg 2; whnf
 have hq0 : (nm.toList == [109, 105, 100]) = false := by rw [toList_tx, beq_eq_false_iff_ne]; exact n99
 have hq1 : (nm.toList == [115, 101, 110, 100, 111, 110, 108, 121]) = false := by rw [toList_tx, beq_eq_false_iff_ne]; exact n104
 have hq2 : (nm.toList == [114, 101, 99, 118, 111, 110, 108, 121]) = false := by rw [toList_tx, beq_eq_false_iff_ne]; exact n107
 have hq3 : (nm.toList == [115, 101, 110, 100, 114, 101, 99, 118]) = false := by rw [toList_tx, beq_eq_false_iff_ne]; exact n110
 have hq4 : (nm.toList == [114, 116, 112, 109, 97, 112]) = false := by rw [toList_tx, beq_eq_false_iff_ne]; exact n113
 have hq5 : (nm.toList == [102, 109, 116, 112]) = false := by rw [toList_tx, beq_eq_false_iff_ne]; exact n145
 have hq6 : (nm.toList == [114, 116, 99, 112, 45, 102, 98]) = false := by rw [toList_tx, beq_eq_false_iff_ne]; exact n160
 have hq7 : (nm.toList == [101, 120, 116, 109, 97, 112]) = false := by rw [toList_tx, beq_eq_false_iff_ne]; exact n183
 have hq8 : (nm.toList == [114, 105, 100]) = false := by rw [toList_tx, beq_eq_false_iff_ne]; exact n194
 have hq9 : (nm.toList == [115, 115, 114, 99]) = false := by rw [toList_tx, beq_eq_false_iff_ne]; exact n205
 have hq10 : (nm.toList == [99, 114, 121, 112, 116, 111]) = false := by rw [toList_tx, beq_eq_false_iff_ne]; exact n220
 have hq11 : (nm.toList == [115, 99, 116, 112, 45, 112, 111, 114, 116]) = false := by rw [toList_tx, beq_eq_false_iff_ne]; exact n243
 have N99 := Lib.hid n99
 have N104 := Lib.hid n104
 have N107 := Lib.hid n107
 have N110 := Lib.hid n110
 have N113 := Lib.hid n113
 have N145 := Lib.hid n145
 have N160 := Lib.hid n160
 have N183 := Lib.hid n183
 have N194 := Lib.hid n194
 have N205 := Lib.hid n205
 have N220 := Lib.hid n220
 have N243 := Lib.hid n243
 clear n99 n104 n107 n110 n113 n145 n160 n183 n194 n205 n220 n243
 obtain ⟨m, hm⟩ : ∃ m, L.foldl (rd rR) m0 = m := ⟨_, rfl⟩
 have HMM := Lib.hid hm
 rw [hm] at H10
 clear hm
 obtain ⟨AC, kC, hvC, -⟩ := Own.form H10.out.2.1.hC
 obtain ⟨lC, hlC⟩ : ∃ l, (cs.map fun c => ccell c.1 c.2).length = l := ⟨_, rfl⟩
 rw [hlC] at hvC
 subst hvC
 obtain ⟨AE, kE, hvE, -⟩ := Own.form H10.out.2.1.hE
 obtain ⟨lE, hlE⟩ : ∃ l, (m.exts.map ecell).length = l := ⟨_, rfl⟩
 rw [hlE] at hvE
 subst hvE
 obtain ⟨AR, kR, hvR, -⟩ := Own.form H10.out.2.1.hR
 obtain ⟨lR, hlR⟩ : ∃ l, (m.rids.map tcell).length = l := ⟨_, rfl⟩
 rw [hlR] at hvR
 subst hvR
 obtain ⟨AS, kS, hvS, -⟩ := Own.form H10.out.2.1.hS
 obtain ⟨lS, hlS⟩ : ∃ l, (m.sources.map ucell).length = l := ⟨_, rfl⟩
 rw [hlS] at hvS
 subst hvS
 obtain ⟨AY, kY, hvY, -⟩ := Own.form H10.out.2.1.hY
 obtain ⟨lY, hlY⟩ : ∃ l, (m.crypto.map cryC).length = l := ⟨_, rfl⟩
 rw [hlY] at hvY
 subst hvY
 clear hlC hlE hlR hlS hlY
 have HDONE : Hid (∀ (m' : MediaS) (k : Nat) (W' : World), rd rR m ⟨nm, vl⟩ = m' → k ≤ L.length + 1 → (∃ cs vC vE vR vS vY, MW w.heap.size (w.heap.size + 3) k W' m' cs vC vE vR vS vY) → Rdt w.heap.size (w.heap.size + 3) w10 W' → RRI w P ln cn m0 T W') := Lib.hid fun m' k W' hm' hk hM hR => by
  have ht : T = L ++ [⟨nm, vl⟩] := HTK.out
  rw [ht]
  exact RRI.next H10.out.1 HLT64.out (by rw [HMM.out]; exact hm') hk H10.out.2.1.box ⟨hM, hR⟩
 have qf := H10.out.2.1.box.frz
 have HE : Hid (RRI w P ln cn m0 T w10) := Lib.hid (HDONE.out m L.length _ (rdR_else N99.out N104.out N107.out N110.out N113.out N145.out N160.out N183.out N194.out N205.out N220.out N243.out) (Nat.le_succ _) ⟨_, _, _, _, _, _, H10.out.2.1⟩ (Rdt.refl _ _ _))
 go_wp2
 go_meet
 exact HE.out
end Go.Proofs.YtbbedhecfipdjaaGreatDoor
