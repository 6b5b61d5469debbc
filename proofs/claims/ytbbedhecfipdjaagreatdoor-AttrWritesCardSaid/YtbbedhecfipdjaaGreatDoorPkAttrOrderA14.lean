import Derived.Test.YtbbedhecfipdjaaGreatDoorPkAttrOrderA13
namespace Go.Proofs.YtbbedhecfipdjaaGreatDoor
open Go.RowKit
set_option linter.unusedVariables false
set_option linter.unusedSimpArgs false
set_option maxHeartbeats 12800000 in
set_option maxRecDepth 100000 in
theorem sw_nMid : SwCase fun nm => tx nm = nMid := by
 intro w w10 P ln cn nm vl hS tS fS m0 L T g13 cs vC vE vR vS vY hT hvl hL64 hHT h10 hn J K' Q' hK hP
 intros
 have HTK := Lib.hid hT
 have HVL := Lib.hid hvl
 have HLT64 := Lib.hid hL64
 have H10 := Lib.hid h10
 have y0 : w10.cell? ⟨g13, 0, none⟩ = some (.string nm) := H10.out.2.2.cell 0
 have y1 : w10.cell? ⟨g13, 1, none⟩ = some (.string vl) := H10.out.2.2.cell 1
 clear hT hvl hL64 hHT h10 hP
 conv => arg 2; whnf
 have HY := Lib.hid hn
 have hq0 : (nm.toList == [109, 105, 100]) = true := by rw [toList_tx, hn]; rfl
 clear hn
 obtain ⟨m, hm⟩ : ∃ m, L.foldl (rd rR) m0 = m := ⟨_, rfl⟩
 have HMM := Lib.hid hm
 rw [hm] at H10
 clear hm
 obtain ⟨AC, kC, hvC, -⟩ := Own.form H10.out.2.1.hC
 obtain ⟨lC, hlC⟩ : ∃ l, (cs.map fun c => ccell c.1 c.2).length = l := ⟨_, rfl⟩
 rw [hlC] at hvC
 subst hvC
 obtain ⟨AE, kE, hvE, -⟩ := Own.form H10.out.2.1.hE
 obtain ⟨lE, hlE⟩ : ∃ l, (m.exts.map ecell).length = l := ⟨_, rfl⟩
 rw [hlE] at hvE
 subst hvE
 obtain ⟨AR, kR, hvR, -⟩ := Own.form H10.out.2.1.hR
 obtain ⟨lR, hlR⟩ : ∃ l, (m.rids.map tcell).length = l := ⟨_, rfl⟩
 rw [hlR] at hvR
 subst hvR
 obtain ⟨AS, kS, hvS, -⟩ := Own.form H10.out.2.1.hS
 obtain ⟨lS, hlS⟩ : ∃ l, (m.sources.map ucell).length = l := ⟨_, rfl⟩
 rw [hlS] at hvS
 subst hvS
 obtain ⟨AY, kY, hvY, -⟩ := Own.form H10.out.2.1.hY
 obtain ⟨lY, hlY⟩ : ∃ l, (m.crypto.map cryC).length = l := ⟨_, rfl⟩
 rw [hlY] at hvY
 subst hvY
 clear hlC hlE hlR hlS hlY
 have HDONE : Hid (∀ (m' : MediaS) (k : Nat) (W' : World), rd rR m ⟨nm, vl⟩ = m' → k ≤ L.length + 1 → (∃ cs vC vE vR vS vY, MW w.heap.size (w.heap.size + 3) k W' m' cs vC vE vR vS vY) → Rdt w.heap.size (w.heap.size + 3) w10 W' → RRI w P ln cn m0 T W') := Lib.hid fun m' k W' hm' hk hM hR => by
  have ht : T = L ++ [⟨nm, vl⟩] := HTK.out
  rw [ht]
  exact RRI.next H10.out.1 HLT64.out (by rw [HMM.out]; exact hm') hk H10.out.2.1.box ⟨hM, hR⟩
 have qf := H10.out.2.1.box.frz
 have c0 : w10.cell? ⟨w.heap.size + 3, 2, none⟩ = some (.string m.mid) := H10.out.2.1.box.cell 2
 have HE : Hid (∀ W', W' = w10.setCell ⟨w.heap.size + 3, 2, none⟩ (.string vl) → RRI w P ln cn m0 T W') := Lib.hid fun W' hW => by
  subst hW
  exact HDONE.out _ L.length _ (rdR_mid HY.out) (Nat.le_succ _) ⟨_, _, _, _, _, _, H10.out.2.1.cell (m' := { m with mid := vl }) 2 _ rfl rfl rfl rfl rfl rfl HVL.out⟩ ((Rdt.refl _ _ _).cell H10.out.2.1.hbm 2 _)
 go_wp2
 go_meet
 exact HE.out _ rfl
set_option maxHeartbeats 12800000 in
set_option maxRecDepth 100000 in
theorem sw_nSendonly : SwCase fun nm => tx nm = nSendonly := by
 intro w w10 P ln cn nm vl hS tS fS m0 L T g13 cs vC vE vR vS vY hT hvl hL64 hHT h10 hn J K' Q' hK hP
 intros
 have HTK := Lib.hid hT
 have HLT64 := Lib.hid hL64
 have H10 := Lib.hid h10
 have y0 : w10.cell? ⟨g13, 0, none⟩ = some (.string nm) := H10.out.2.2.cell 0
 have y1 : w10.cell? ⟨g13, 1, none⟩ = some (.string vl) := H10.out.2.2.cell 1
 clear hT hvl hL64 hHT h10 hP
 conv => arg 2; whnf
 have HY := Lib.hid hn
 have hq0 : (nm.toList == [109, 105, 100]) = false := by rw [toList_tx, hn]; decide
 have hq1 : (nm.toList == [115, 101, 110, 100, 111, 110, 108, 121]) = true := by rw [toList_tx, hn]; rfl
 clear hn
 obtain ⟨m, hm⟩ : ∃ m, L.foldl (rd rR) m0 = m := ⟨_, rfl⟩
 have HMM := Lib.hid hm
 rw [hm] at H10
 clear hm
 obtain ⟨AC, kC, hvC, -⟩ := Own.form H10.out.2.1.hC
 obtain ⟨lC, hlC⟩ : ∃ l, (cs.map fun c => ccell c.1 c.2).length = l := ⟨_, rfl⟩
 rw [hlC] at hvC
 subst hvC
 obtain ⟨AE, kE, hvE, -⟩ := Own.form H10.out.2.1.hE
 obtain ⟨lE, hlE⟩ : ∃ l, (m.exts.map ecell).length = l := ⟨_, rfl⟩
 rw [hlE] at hvE
 subst hvE
 obtain ⟨AR, kR, hvR, -⟩ := Own.form H10.out.2.1.hR
 obtain ⟨lR, hlR⟩ : ∃ l, (m.rids.map tcell).length = l := ⟨_, rfl⟩
 rw [hlR] at hvR
 subst hvR
 obtain ⟨AS, kS, hvS, -⟩ := Own.form H10.out.2.1.hS
 obtain ⟨lS, hlS⟩ : ∃ l, (m.sources.map ucell).length = l := ⟨_, rfl⟩
 rw [hlS] at hvS
 subst hvS
 obtain ⟨AY, kY, hvY, -⟩ := Own.form H10.out.2.1.hY
 obtain ⟨lY, hlY⟩ : ∃ l, (m.crypto.map cryC).length = l := ⟨_, rfl⟩
 rw [hlY] at hvY
 subst hvY
 clear hlC hlE hlR hlS hlY
 have HDONE : Hid (∀ (m' : MediaS) (k : Nat) (W' : World), rd rR m ⟨nm, vl⟩ = m' → k ≤ L.length + 1 → (∃ cs vC vE vR vS vY, MW w.heap.size (w.heap.size + 3) k W' m' cs vC vE vR vS vY) → Rdt w.heap.size (w.heap.size + 3) w10 W' → RRI w P ln cn m0 T W') := Lib.hid fun m' k W' hm' hk hM hR => by
  have ht : T = L ++ [⟨nm, vl⟩] := HTK.out
  rw [ht]
  exact RRI.next H10.out.1 HLT64.out (by rw [HMM.out]; exact hm') hk H10.out.2.1.box ⟨hM, hR⟩
 have qf := H10.out.2.1.box.frz
 have c0 : w10.cell? ⟨w.heap.size + 3, 3, none⟩ = some (.int .i64 m.dir) := H10.out.2.1.box.cell 3
 have HE : Hid (∀ W', W' = w10.setCell ⟨w.heap.size + 3, 3, none⟩ (.int .i64 1) → RRI w P ln cn m0 T W') := Lib.hid fun W' hW => by
  subst hW
  exact HDONE.out _ L.length _ (rdR_sendonly HY.out) (Nat.le_succ _) ⟨_, _, _, _, _, _, H10.out.2.1.cell (m' := { m with dir := 1 }) 3 _ rfl rfl rfl rfl rfl rfl H10.out.2.1.siz.mid⟩ ((Rdt.refl _ _ _).cell H10.out.2.1.hbm 3 _)
 go_wp2
 go_meet
 exact HE.out _ rfl
set_option maxHeartbeats 12800000 in
set_option maxRecDepth 100000 in
theorem sw_nRecvonly : SwCase fun nm => tx nm = nRecvonly := by
 intro w w10 P ln cn nm vl hS tS fS m0 L T g13 cs vC vE vR vS vY hT hvl hL64 hHT h10 hn J K' Q' hK hP
 intros
 have HTK := Lib.hid hT
 have HLT64 := Lib.hid hL64
 have H10 := Lib.hid h10
 have y0 : w10.cell? ⟨g13, 0, none⟩ = some (.string nm) := H10.out.2.2.cell 0
 have y1 : w10.cell? ⟨g13, 1, none⟩ = some (.string vl) := H10.out.2.2.cell 1
 clear hT hvl hL64 hHT h10 hP
 conv => arg 2; whnf
 have HY := Lib.hid hn
 have hq0 : (nm.toList == [109, 105, 100]) = false := by rw [toList_tx, hn]; decide
 have hq1 : (nm.toList == [115, 101, 110, 100, 111, 110, 108, 121]) = false := by rw [toList_tx, hn]; decide
 have hq2 : (nm.toList == [114, 101, 99, 118, 111, 110, 108, 121]) = true := by rw [toList_tx, hn]; rfl
 clear hn
 obtain ⟨m, hm⟩ : ∃ m, L.foldl (rd rR) m0 = m := ⟨_, rfl⟩
 have HMM := Lib.hid hm
 rw [hm] at H10
 clear hm
 obtain ⟨AC, kC, hvC, -⟩ := Own.form H10.out.2.1.hC
 obtain ⟨lC, hlC⟩ : ∃ l, (cs.map fun c => ccell c.1 c.2).length = l := ⟨_, rfl⟩
 rw [hlC] at hvC
 subst hvC
 obtain ⟨AE, kE, hvE, -⟩ := Own.form H10.out.2.1.hE
 obtain ⟨lE, hlE⟩ : ∃ l, (m.exts.map ecell).length = l := ⟨_, rfl⟩
 rw [hlE] at hvE
 subst hvE
 obtain ⟨AR, kR, hvR, -⟩ := Own.form H10.out.2.1.hR
 obtain ⟨lR, hlR⟩ : ∃ l, (m.rids.map tcell).length = l := ⟨_, rfl⟩
 rw [hlR] at hvR
 subst hvR
 obtain ⟨AS, kS, hvS, -⟩ := Own.form H10.out.2.1.hS
 obtain ⟨lS, hlS⟩ : ∃ l, (m.sources.map ucell).length = l := ⟨_, rfl⟩
 rw [hlS] at hvS
 subst hvS
 obtain ⟨AY, kY, hvY, -⟩ := Own.form H10.out.2.1.hY
 obtain ⟨lY, hlY⟩ : ∃ l, (m.crypto.map cryC).length = l := ⟨_, rfl⟩
 rw [hlY] at hvY
 subst hvY
 clear hlC hlE hlR hlS hlY
 have HDONE : Hid (∀ (m' : MediaS) (k : Nat) (W' : World), rd rR m ⟨nm, vl⟩ = m' → k ≤ L.length + 1 → (∃ cs vC vE vR vS vY, MW w.heap.size (w.heap.size + 3) k W' m' cs vC vE vR vS vY) → Rdt w.heap.size (w.heap.size + 3) w10 W' → RRI w P ln cn m0 T W') := Lib.hid fun m' k W' hm' hk hM hR => by
  have ht : T = L ++ [⟨nm, vl⟩] := HTK.out
  rw [ht]
  exact RRI.next H10.out.1 HLT64.out (by rw [HMM.out]; exact hm') hk H10.out.2.1.box ⟨hM, hR⟩
 have qf := H10.out.2.1.box.frz
 have c0 : w10.cell? ⟨w.heap.size + 3, 3, none⟩ = some (.int .i64 m.dir) := H10.out.2.1.box.cell 3
 have HE : Hid (∀ W', W' = w10.setCell ⟨w.heap.size + 3, 3, none⟩ (.int .i64 2) → RRI w P ln cn m0 T W') := Lib.hid fun W' hW => by
  subst hW
  exact HDONE.out _ L.length _ (rdR_recvonly HY.out) (Nat.le_succ _) ⟨_, _, _, _, _, _, H10.out.2.1.cell (m' := { m with dir := 2 }) 3 _ rfl rfl rfl rfl rfl rfl H10.out.2.1.siz.mid⟩ ((Rdt.refl _ _ _).cell H10.out.2.1.hbm 3 _)
 go_wp2
 go_meet
 exact HE.out _ rfl
set_option maxHeartbeats 12800000 in
set_option maxRecDepth 100000 in
theorem sw_nSendrecv : SwCase fun nm => tx nm = nSendrecv := by
 intro w w10 P ln cn nm vl hS tS fS m0 L T g13 cs vC vE vR vS vY hT hvl hL64 hHT h10 hn J K' Q' hK hP
 intros
 have HTK := Lib.hid hT
 have HLT64 := Lib.hid hL64
 have H10 := Lib.hid h10
 have y0 : w10.cell? ⟨g13, 0, none⟩ = some (.string nm) := H10.out.2.2.cell 0
 have y1 : w10.cell? ⟨g13, 1, none⟩ = some (.string vl) := H10.out.2.2.cell 1
 clear hT hvl hL64 hHT h10 hP
 conv => arg 2; whnf
 have HY := Lib.hid hn
 have hq0 : (nm.toList == [109, 105, 100]) = false := by rw [toList_tx, hn]; decide
 have hq1 : (nm.toList == [115, 101, 110, 100, 111, 110, 108, 121]) = false := by rw [toList_tx, hn]; decide
 have hq2 : (nm.toList == [114, 101, 99, 118, 111, 110, 108, 121]) = false := by rw [toList_tx, hn]; decide
 have hq3 : (nm.toList == [115, 101, 110, 100, 114, 101, 99, 118]) = true := by rw [toList_tx, hn]; rfl
 clear hn
 obtain ⟨m, hm⟩ : ∃ m, L.foldl (rd rR) m0 = m := ⟨_, rfl⟩
 have HMM := Lib.hid hm
 rw [hm] at H10
 clear hm
 obtain ⟨AC, kC, hvC, -⟩ := Own.form H10.out.2.1.hC
 obtain ⟨lC, hlC⟩ : ∃ l, (cs.map fun c => ccell c.1 c.2).length = l := ⟨_, rfl⟩
 rw [hlC] at hvC
 subst hvC
 obtain ⟨AE, kE, hvE, -⟩ := Own.form H10.out.2.1.hE
 obtain ⟨lE, hlE⟩ : ∃ l, (m.exts.map ecell).length = l := ⟨_, rfl⟩
 rw [hlE] at hvE
 subst hvE
 obtain ⟨AR, kR, hvR, -⟩ := Own.form H10.out.2.1.hR
 obtain ⟨lR, hlR⟩ : ∃ l, (m.rids.map tcell).length = l := ⟨_, rfl⟩
 rw [hlR] at hvR
 subst hvR
 obtain ⟨AS, kS, hvS, -⟩ := Own.form H10.out.2.1.hS
 obtain ⟨lS, hlS⟩ : ∃ l, (m.sources.map ucell).length = l := ⟨_, rfl⟩
 rw [hlS] at hvS
 subst hvS
 obtain ⟨AY, kY, hvY, -⟩ := Own.form H10.out.2.1.hY
 obtain ⟨lY, hlY⟩ : ∃ l, (m.crypto.map cryC).length = l := ⟨_, rfl⟩
 rw [hlY] at hvY
 subst hvY
 clear hlC hlE hlR hlS hlY
 have HDONE : Hid (∀ (m' : MediaS) (k : Nat) (W' : World), rd rR m ⟨nm, vl⟩ = m' → k ≤ L.length + 1 → (∃ cs vC vE vR vS vY, MW w.heap.size (w.heap.size + 3) k W' m' cs vC vE vR vS vY) → Rdt w.heap.size (w.heap.size + 3) w10 W' → RRI w P ln cn m0 T W') := Lib.hid fun m' k W' hm' hk hM hR => by
  have ht : T = L ++ [⟨nm, vl⟩] := HTK.out
  rw [ht]
  exact RRI.next H10.out.1 HLT64.out (by rw [HMM.out]; exact hm') hk H10.out.2.1.box ⟨hM, hR⟩
 have qf := H10.out.2.1.box.frz
 have c0 : w10.cell? ⟨w.heap.size + 3, 3, none⟩ = some (.int .i64 m.dir) := H10.out.2.1.box.cell 3
 have HE : Hid (∀ W', W' = w10.setCell ⟨w.heap.size + 3, 3, none⟩ (.int .i64 3) → RRI w P ln cn m0 T W') := Lib.hid fun W' hW => by
  subst hW
  exact HDONE.out _ L.length _ (rdR_sendrecv HY.out) (Nat.le_succ _) ⟨_, _, _, _, _, _, H10.out.2.1.cell (m' := { m with dir := 3 }) 3 _ rfl rfl rfl rfl rfl rfl H10.out.2.1.siz.mid⟩ ((Rdt.refl _ _ _).cell H10.out.2.1.hbm 3 _)
 go_wp2
 go_meet
 exact HE.out _ rfl
end Go.Proofs.YtbbedhecfipdjaaGreatDoor
