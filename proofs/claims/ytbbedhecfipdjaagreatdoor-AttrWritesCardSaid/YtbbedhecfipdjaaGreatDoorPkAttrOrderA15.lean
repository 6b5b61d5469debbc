import Derived.Test.YtbbedhecfipdjaaGreatDoorPkAttrOrderA13
namespace Go.Proofs.YtbbedhecfipdjaaGreatDoor
open Go.RowKit
set_option linter.unusedVariables false
set_option linter.unusedSimpArgs false
set_option maxHeartbeats 12800000 in
set_option maxRecDepth 100000 in
theorem sw_nCodec : SwCase fun nm => tx nm = nCodec := by
 intro w w10 P ln cn nm vl hS tS fS m0 L T g13 cs vC vE vR vS vY hT hvl hL64 hHT h10 hn J K' Q' hK hP
 intros
 have HTK := Lib.hid hT
 have HLT64 := Lib.hid hL64
 have HHT := Lib.hid hHT
 have H10 := Lib.hid h10
 have HSP : Hid (∀ (s : ByteArray) (c : UInt8) (W : World), s.size ≤ 281474976710656 → Calls Tryz.prog 48 #[.string s, .int .u8 (c.toNat : Int)] W fun e w' => e = .returned (.tuple #[.string (bs (cutS [c] (tx s)).1), .string (bs (cutS [c] (tx s)).2.1), .bool (cutS [c] (tx s)).2.2]) ∧ Below W.heap.size W w') := Lib.hid fun s c W hs => rsplit_any s c W hs
 have HCL : Hid (∀ (s : ByteArray) (c : UInt8), s.size ≤ 140737488355328 → (bs (cutS [c] (tx s)).1).size ≤ 140737488355328 ∧ (bs (cutS [c] (tx s)).2.1).size ≤ 140737488355328) := Lib.hid fun s c hs => cut_small s c hs
 have HRN : Hid (∀ (s : ByteArray) (W : World), s.size ≤ 281474976710656 → Calls Tryz.prog 49 #[.string s] W fun e w' => e = .returned (.int .i64 (numR (tx s))) ∧ W = w') := Lib.hid fun s W hs => rnumber_any s W hs
 have y0 : w10.cell? ⟨g13, 0, none⟩ = some (.string nm) := H10.out.2.2.cell 0
 have y1 : w10.cell? ⟨g13, 1, none⟩ = some (.string vl) := H10.out.2.2.cell 1
 clear hT hvl hL64 hHT h10 hP
 conv => arg 2; whnf
 have HY := Lib.hid hn
 have hq0 : (nm.toList == [109, 105, 100]) = false := by rw [toList_tx, hn]; decide
 have hq1 : (nm.toList == [115, 101, 110, 100, 111, 110, 108, 121]) = false := by rw [toList_tx, hn]; decide
 have hq2 : (nm.toList == [114, 101, 99, 118, 111, 110, 108, 121]) = false := by rw [toList_tx, hn]; decide
 have hq3 : (nm.toList == [115, 101, 110, 100, 114, 101, 99, 118]) = false := by rw [toList_tx, hn]; decide
 have hq4 : (nm.toList == [114, 116, 112, 109, 97, 112]) = true := by rw [toList_tx, hn]; rfl
 clear hn
 obtain ⟨m, hm⟩ : ∃ m, L.foldl (rd rR) m0 = m := ⟨_, rfl⟩
 have HMM := Lib.hid hm
 rw [hm] at H10
 clear hm
 obtain ⟨AC, kC, hvC, -⟩ := Own.form H10.out.2.1.hC
 obtain ⟨lC, hlC⟩ : ∃ l, (cs.map fun c => ccell c.1 c.2).length = l := ⟨_, rfl⟩
 rw [hlC] at hvC
 subst hvC
 obtain ⟨AE, kE, hvE, -⟩ := Own.form H10.out.2.1.hE
 obtain ⟨lE, hlE⟩ : ∃ l, (m.exts.map ecell).length = l := ⟨_, rfl⟩
 rw [hlE] at hvE
 subst hvE
 obtain ⟨AR, kR, hvR, -⟩ := Own.form H10.out.2.1.hR
 obtain ⟨lR, hlR⟩ : ∃ l, (m.rids.map tcell).length = l := ⟨_, rfl⟩
 rw [hlR] at hvR
 subst hvR
 obtain ⟨AS, kS, hvS, -⟩ := Own.form H10.out.2.1.hS
 obtain ⟨lS, hlS⟩ : ∃ l, (m.sources.map ucell).length = l := ⟨_, rfl⟩
 rw [hlS] at hvS
 subst hvS
 obtain ⟨AY, kY, hvY, -⟩ := Own.form H10.out.2.1.hY
 obtain ⟨lY, hlY⟩ : ∃ l, (m.crypto.map cryC).length = l := ⟨_, rfl⟩
 rw [hlY] at hvY
 subst hvY
 clear hlC hlE hlR hlS hlY
 have HLL : Hid (L.length ≤ 64) := Lib.hid (Nat.le_of_lt HLT64.out)
 have HB10 : Hid (w.heap.size ≤ w10.heap.size) := Lib.hid H10.out.1.low.size
 have HDONE : Hid (∀ (m' : MediaS) (k : Nat) (W' : World), rd rR m ⟨nm, vl⟩ = m' → k ≤ L.length + 1 → (∃ cs vC vE vR vS vY, MW w.heap.size (w.heap.size + 3) k W' m' cs vC vE vR vS vY) → Rdt w.heap.size (w.heap.size + 3) w10 W' → RRI w P ln cn m0 T W') := Lib.hid fun m' k W' hm' hk hM hR => by
  have ht : T = L ++ [⟨nm, vl⟩] := HTK.out
  rw [ht]
  exact RRI.next H10.out.1 HLT64.out (by rw [HMM.out]; exact hm') hk H10.out.2.1.box ⟨hM, hR⟩
 have qf := H10.out.2.1.box.frz
 have hz1 := HHT.out.2.2.2.2.1
 have hz2 := HHT.out.2.2.2.2.2
 have hsp1 := fun W => HSP.out tS 47 W (by omega)
 have hcl1 := HCL.out tS 47 hz2
 obtain ⟨n1, hn1⟩ : ∃ a, bs (cutS [47] (tx tS)).1 = a := ⟨_, rfl⟩
 obtain ⟨r1', hr1'⟩ : ∃ a, bs (cutS [47] (tx tS)).2.1 = a := ⟨_, rfl⟩
 obtain ⟨f1', hf1'⟩ : ∃ a, (cutS [47] (tx tS)).2.2 = a := ⟨_, rfl⟩
 rw [hn1, hr1'] at hcl1
 rw [hn1, hr1', hf1'] at hsp1
 have hsp2 := fun W => HSP.out r1' 47 W (by omega)
 have hcl2 := HCL.out r1' 47 hcl1.2
 obtain ⟨ck, hck⟩ : ∃ a, bs (cutS [47] (tx r1')).1 = a := ⟨_, rfl⟩
 obtain ⟨two, htwo⟩ : ∃ a, bs (cutS [47] (tx r1')).2.1 = a := ⟨_, rfl⟩
 obtain ⟨okq, hokq⟩ : ∃ a, (cutS [47] (tx r1')).2.2 = a := ⟨_, rfl⟩
 rw [hck, htwo] at hcl2
 rw [hck, htwo, hokq] at hsp2
 have hnu1 := fun W => HRN.out hS W (by omega)
 have hnu2 := fun W => HRN.out ck W (by omega)
 obtain ⟨z1, hz1'⟩ : ∃ z, numR (tx hS) = z := ⟨_, rfl⟩
 obtain ⟨z2, hz2'⟩ : ∃ z, numR (tx ck) = z := ⟨_, rfl⟩
 rw [hz1'] at hnu1
 rw [hz2'] at hnu2
 obtain ⟨ch, hch⟩ : ∃ c : Int, (if tx two = [50] then (2 : Int) else 1) = c := ⟨_, rfl⟩
 have HCC := Lib.hid hch
 have HCO : Hid (codecOf rR (tx vl) = ⟨z1, n1, z2, ch, ⟨#[]⟩, []⟩ ∧ n1.size ≤ 140737488355328) := Lib.hid ⟨by
  show (⟨numR (hd (tx vl)), bs (cutS [47] (tl (tx vl))).1, numR (cutS [47] (cutS [47] (tl (tx vl))).2.1).1, if (cutS [47] (cutS [47] (tl (tx vl))).2.1).2.1 = [50] then 2 else 1, bs [], []⟩ : CodecS) = _
  have e3 : (cutS [47] (tx tS)).2.1 = tx r1' := by rw [← hr1', tx_bs]
  have e4 : (cutS [47] (tx r1')).1 = tx ck := by rw [← hck, tx_bs]
  have e5 : (cutS [47] (tx r1')).2.1 = tx two := by rw [← htwo, tx_bs]
  rw [HHT.out.1, HHT.out.2.1, e3, e4, e5, hz1', hn1, hz2', hch]
  rfl, hcl1.1⟩
 have HOK : Hid (okq = false → tx two ≠ [50]) := Lib.hid fun h e => by
  have h2 := (cutS_none [47] (tx r1') (by rw [hokq]; exact h)).2
  have e5 : (cutS [47] (tx r1')).2.1 = tx two := by rw [← htwo, tx_bs]
  rw [e5, e] at h2
  cases h2
 have HC1 : Hid (∀ W : World, Calls Tryz.prog 48 #[.string tS, .int .u8 47] W fun e w' => e = .returned (.tuple #[.string n1, .string r1', .bool f1']) ∧ Below W.heap.size W w') := Lib.hid hsp1
 have HC2 : Hid (∀ W : World, Calls Tryz.prog 48 #[.string r1', .int .u8 47] W fun e w' => e = .returned (.tuple #[.string ck, .string two, .bool okq]) ∧ Below W.heap.size W w') := Lib.hid hsp2
 have HU1 : Hid (∀ W : World, Calls Tryz.prog 49 #[.string hS] W fun e w' => e = .returned (.int .i64 z1) ∧ W = w') := Lib.hid hnu1
 have HU2 : Hid (∀ W : World, Calls Tryz.prog 49 #[.string ck] W fun e w' => e = .returned (.int .i64 z2) ∧ W = w') := Lib.hid hnu2
 have HQ2 : Hid ((two.toList == [50]) = true ↔ tx two = [50]) := Lib.hid (by rw [beq_iff_eq, toList_tx])
 clear hsp1 hsp2 hcl1 hcl2 hn1 hr1' hf1' hck htwo hokq hnu1 hnu2 hz1' hz2' hch hz1 hz2
 go_upto_region 33 with (go_at_call 48; (with_reducible refine (HC1.out _).mono ?_); rintro e w11 ⟨rfl, hb1⟩; have H11 := Lib.hid hb1; clear hb1; dsimp only)
 go_upto_region 34 with (go_at_call 48; (with_reducible refine (HC2.out _).mono ?_); rintro e w12 ⟨rfl, hb2⟩; have H12 : Hid (Below w10.heap.size w10 w12) := Lib.hid (below_chain (Nat.le_refl _) H11.out hb2); clear hb2; dsimp only)
 go_upto_region 35 with (first
  | (go_at_call 49; (with_reducible refine (HU1.out _).mono ?_); rintro e w' ⟨rfl, rfl⟩; dsimp only)
  | (go_at_call 49; (with_reducible refine (HU2.out _).mono ?_); rintro e w' ⟨rfl, rfl⟩; dsimp only))
 have HG : Hid (MW w.heap.size (w.heap.size + 3) L.length (w12.alloc (.cells #[.int .i64 z1, .string n1, .int .i64 z2, .int .i64 1, .string ⟨#[]⟩, .slice none 0 0] 58)) m cs (.slice AC lC kC) (.slice AE lE kE) (.slice AR lR kR) (.slice AS lS kS) (.slice AY lY kY) ∧ Whole (w12.alloc (.cells #[.int .i64 z1, .string n1, .int .i64 z2, .int .i64 1, .string ⟨#[]⟩, .slice none 0 0] 58)) w12.heap.size 58 #[.int .i64 z1, .string n1, .int .i64 z2, .int .i64 1, .string ⟨#[]⟩, .slice none 0 0] ∧ Rdt w.heap.size (w.heap.size + 3) w10 (w12.alloc (.cells #[.int .i64 z1, .string n1, .int .i64 z2, .int .i64 1, .string ⟨#[]⟩, .slice none 0 0] 58)) ∧ w.heap.size ≤ (w12.alloc (.cells #[.int .i64 z1, .string n1, .int .i64 z2, .int .i64 1, .string ⟨#[]⟩, .slice none 0 0] 58)).heap.size) := Lib.hid (by
  have hb := H12.out
  have hs := Nat.le_trans HB10.out hb.size
  exact ⟨(H10.out.2.1.under hb).under ((Below.refl _ w12).alloc (Nat.le_refl _) _), Whole.new _ _ _, ((Rdt.refl _ _ _).under hb HB10.out).under ((Below.refl _ w12).alloc (Nat.le_refl _) _) hs, by rw [World.size_alloc]; omega⟩)
 have H14 : Hid (MW w.heap.size (w.heap.size + 3) L.length ((w12.alloc (.cells #[.int .i64 z1, .string n1, .int .i64 z2, .int .i64 1, .string ⟨#[]⟩, .slice none 0 0] 58)).setCell ⟨w12.heap.size, 3, none⟩ (.int .i64 2)) m cs (.slice AC lC kC) (.slice AE lE kE) (.slice AR lR kR) (.slice AS lS kS) (.slice AY lY kY) ∧ Whole ((w12.alloc (.cells #[.int .i64 z1, .string n1, .int .i64 z2, .int .i64 1, .string ⟨#[]⟩, .slice none 0 0] 58)).setCell ⟨w12.heap.size, 3, none⟩ (.int .i64 2)) w12.heap.size 58 #[.int .i64 z1, .string n1, .int .i64 z2, .int .i64 2, .string ⟨#[]⟩, .slice none 0 0] ∧ Rdt w.heap.size (w.heap.size + 3) w10 ((w12.alloc (.cells #[.int .i64 z1, .string n1, .int .i64 z2, .int .i64 1, .string ⟨#[]⟩, .slice none 0 0] 58)).setCell ⟨w12.heap.size, 3, none⟩ (.int .i64 2)) ∧ w.heap.size ≤ ((w12.alloc (.cells #[.int .i64 z1, .string n1, .int .i64 z2, .int .i64 1, .string ⟨#[]⟩, .slice none 0 0] 58)).setCell ⟨w12.heap.size, 3, none⟩ (.int .i64 2)).heap.size) := Lib.hid (by
  have hb := H12.out
  have hs := Nat.le_trans HB10.out hb.size
  have hb2 := ((Below.refl w12.heap.size w12).alloc (Nat.le_refl _) (.cells #[.int .i64 z1, .string n1, .int .i64 z2, .int .i64 1, .string ⟨#[]⟩, .slice none 0 0] 58)).setCell (p := ⟨w12.heap.size, 3, none⟩) (Nat.le_refl _) (.int .i64 2)
  exact ⟨(H10.out.2.1.under hb).under hb2, (Whole.new w12 58 _).set 3 _, ((Rdt.refl _ _ _).under hb HB10.out).under hb2 hs, Nat.le_trans hs hb2.size⟩)
 clear H11 H12
 generalize (w12.alloc (.cells #[.int .i64 z1, .string n1, .int .i64 z2, .int .i64 1, .string ⟨#[]⟩, .slice none 0 0] 58)) = w13 at *
 generalize w12.heap.size = g22 at *
 cases okq with
 | false =>
   have HCH : Hid (ch = 1) := Lib.hid (by rw [← HCC.out, if_neg (HOK.out rfl)])
   clear HCC HQ2 HOK
   go_upto_region 37 with fail
   have H13 := HG
   clear HG H14
   obtain ⟨X, hX⟩ : ∃ X : Array Value, #[.int .i64 z1, .string n1, .int .i64 z2, .int .i64 1, .string ⟨#[]⟩, .slice none 0 0] = X := ⟨_, rfl⟩
   have HXE : Hid (([.int .i64 z1, .string n1, .int .i64 z2, .int .i64 1, .string ⟨#[]⟩, .slice none 0 0] : List Value).toArray = X ∧ X.size = 6) := Lib.hid ⟨hX, by rw [← hX]; rfl⟩
   have HSC : Hid (∀ W : World, (Instr.buildSlice 22 1 #[(0, .agg X)]).run Tryz.prog W = .ok (.slice (some ⟨W.heap.size, 0, none⟩) 1 1) (W.alloc (.cells X 58))) := Lib.hid (fun W => by rw [← hX]; exact slice_codec z1 z2 1 n1 W)
   rw [hX] at H13
   clear hX
   have e1 : w13.cell? ⟨w.heap.size + 3, 4, none⟩ = some (.slice AC lC kC) := H13.out.1.box.cell 4
   have HA : Hid (MW w.heap.size (w.heap.size + 3) L.length (w13.alloc (.cells X 58)) m cs (.slice AC lC kC) (.slice AE lE kE) (.slice AR lR kR) (.slice AS lS kS) (.slice AY lY kY) ∧ Whole (w13.alloc (.cells X 58)) w13.heap.size 58 X ∧ Rdt w.heap.size (w.heap.size + 3) w10 (w13.alloc (.cells X 58)) ∧ w.heap.size ≤ (w13.alloc (.cells X 58)).heap.size) := Lib.hid
    ⟨H13.out.1.under ((Below.refl _ w13).alloc (Nat.le_refl _) _), Whole.new _ _ _, H13.out.2.2.1.under ((Below.refl _ w13).alloc (Nat.le_refl _) _) H13.out.2.2.2, by rw [World.size_alloc]; have := H13.out.2.2.2; omega⟩
   go_wp2_with (first
    | ((with_reducible refine wpList_load_all ?_ 58 (.tmp 22) ?_ H13.out.2.1 ?_ Tryz.sizeCodec HXE.out.2 Tryz.underlying58 rfl ?_); (with_reducible rfl); (with_reducible rfl); rfl)
    | ((with_reducible refine wpList_sliceOne ?_ (t := 22) (n := 1) (i := 0) (x := .tmp 141) (u := .agg X) ?_ ?_ (HSC.out _) ?_); (with_reducible rfl); (with_reducible rfl); rfl)
    | (at_builtin; refine wpList_appendE (r := [.int .i64 z1, .string n1, .int .i64 z2, .int .i64 1, .string ⟨#[]⟩, .slice none 0 0]) rfl (.tmp 140) (.tmp 142) rfl Tryz.underlying22 Tryz.infoCodec rfl (Nat.zero_lt_succ _) rfl HA.out.1.hC rfl (by rw [HXE.out.1]; exact HA.out.2.1) rfl (fun u hu => by simp at hu; rcases hu with rfl | rfl | rfl | rfl | rfl | rfl <;> rfl) (by have := HA.out.1.lens.1; rw [HA.out.1.eqC] at this; rw [List.length_map] at this ⊢; have := HLL.out; omega) (by have := HA.out.1.lens.1; rw [HA.out.1.eqC] at this; rw [List.length_map] at this ⊢; have := HLL.out; omega) HA.out.2.2.2 ?_
       intro v8 w11 ho8 hg8 hn8
       have H8 := Lib.hid (HA.out.1.codecsA (x := ⟨z1, n1, z2, 1, ⟨#[]⟩, []⟩) ho8 hg8 HA.out.2.2.2 rfl ⟨HCO.out.2, Nat.zero_le _⟩ HLL.out)
       have hbx8 : Whole w11 (w.heap.size + 3) 28 (mcell m (.slice AC lC kC) (.slice AE lE kE) (.slice AR lR kR) (.slice AS lS kS) (.slice AY lY kY)) := HA.out.1.box.grown hg8 (fun e => (HA.out.1.hC.apart HA.out.1.box (by decide)) e.symm)
       have c8 : w11.cell? ⟨w.heap.size + 3, 4, none⟩ = some (.slice AC lC kC) := hbx8.cell 4
       have f8 := hbx8.frz 4
       have HE : Hid (∀ W', W' = (w11.setCell ⟨w.heap.size + 3, 4, none⟩ v8) → RRI w P ln cn m0 T W') := Lib.hid fun W' hW => by
        subst hW
        exact HDONE.out _ (L.length + 1) _ (by rw [rdR_rtpmap HY.out, HCO.out.1, HCH.out]) (Nat.le_refl _) ⟨_, _, _, _, _, _, H8.out.1⟩ (HA.out.2.2.1.trans H8.out.2)
       obtain ⟨A8, l8, k8, hv8⟩ : ∃ A l k, v8 = .slice A l k := by obtain ⟨A, k, h, -⟩ := ho8.form; exact ⟨_, _, _, h⟩
       subst hv8
       clear ho8 hg8 hn8 hbx8 e1))
   go_meet
   exact HE.out _ rfl
 | true =>
   obtain ⟨qb, hqb⟩ : ∃ q, (two.toList == [50]) = q := ⟨_, rfl⟩
   rw [hqb] at HQ2
   go_upto_if 137 with fail
   clear hqb
   cases qb with
   | false =>
     have HCH : Hid (ch = 1) := Lib.hid (by rw [← HCC.out, if_neg (fun h => by have := HQ2.out.2 h; cases this)])
     clear HCC HQ2 HOK
     go_upto_region 37 with fail
     have H13 := HG
     clear HG H14
     obtain ⟨X, hX⟩ : ∃ X : Array Value, #[.int .i64 z1, .string n1, .int .i64 z2, .int .i64 1, .string ⟨#[]⟩, .slice none 0 0] = X := ⟨_, rfl⟩
     have HXE : Hid (([.int .i64 z1, .string n1, .int .i64 z2, .int .i64 1, .string ⟨#[]⟩, .slice none 0 0] : List Value).toArray = X ∧ X.size = 6) := Lib.hid ⟨hX, by rw [← hX]; rfl⟩
     have HSC : Hid (∀ W : World, (Instr.buildSlice 22 1 #[(0, .agg X)]).run Tryz.prog W = .ok (.slice (some ⟨W.heap.size, 0, none⟩) 1 1) (W.alloc (.cells X 58))) := Lib.hid (fun W => by rw [← hX]; exact slice_codec z1 z2 1 n1 W)
     rw [hX] at H13
     clear hX
     have e1 : w13.cell? ⟨w.heap.size + 3, 4, none⟩ = some (.slice AC lC kC) := H13.out.1.box.cell 4
     have HA : Hid (MW w.heap.size (w.heap.size + 3) L.length (w13.alloc (.cells X 58)) m cs (.slice AC lC kC) (.slice AE lE kE) (.slice AR lR kR) (.slice AS lS kS) (.slice AY lY kY) ∧ Whole (w13.alloc (.cells X 58)) w13.heap.size 58 X ∧ Rdt w.heap.size (w.heap.size + 3) w10 (w13.alloc (.cells X 58)) ∧ w.heap.size ≤ (w13.alloc (.cells X 58)).heap.size) := Lib.hid
      ⟨H13.out.1.under ((Below.refl _ w13).alloc (Nat.le_refl _) _), Whole.new _ _ _, H13.out.2.2.1.under ((Below.refl _ w13).alloc (Nat.le_refl _) _) H13.out.2.2.2, by rw [World.size_alloc]; have := H13.out.2.2.2; omega⟩
     go_wp2_with (first
      | ((with_reducible refine wpList_load_all ?_ 58 (.tmp 22) ?_ H13.out.2.1 ?_ Tryz.sizeCodec HXE.out.2 Tryz.underlying58 rfl ?_); (with_reducible rfl); (with_reducible rfl); rfl)
      | ((with_reducible refine wpList_sliceOne ?_ (t := 22) (n := 1) (i := 0) (x := .tmp 141) (u := .agg X) ?_ ?_ (HSC.out _) ?_); (with_reducible rfl); (with_reducible rfl); rfl)
      | (at_builtin; refine wpList_appendE (r := [.int .i64 z1, .string n1, .int .i64 z2, .int .i64 1, .string ⟨#[]⟩, .slice none 0 0]) rfl (.tmp 140) (.tmp 142) rfl Tryz.underlying22 Tryz.infoCodec rfl (Nat.zero_lt_succ _) rfl HA.out.1.hC rfl (by rw [HXE.out.1]; exact HA.out.2.1) rfl (fun u hu => by simp at hu; rcases hu with rfl | rfl | rfl | rfl | rfl | rfl <;> rfl) (by have := HA.out.1.lens.1; rw [HA.out.1.eqC] at this; rw [List.length_map] at this ⊢; have := HLL.out; omega) (by have := HA.out.1.lens.1; rw [HA.out.1.eqC] at this; rw [List.length_map] at this ⊢; have := HLL.out; omega) HA.out.2.2.2 ?_
         intro v8 w11 ho8 hg8 hn8
         have H8 := Lib.hid (HA.out.1.codecsA (x := ⟨z1, n1, z2, 1, ⟨#[]⟩, []⟩) ho8 hg8 HA.out.2.2.2 rfl ⟨HCO.out.2, Nat.zero_le _⟩ HLL.out)
         have hbx8 : Whole w11 (w.heap.size + 3) 28 (mcell m (.slice AC lC kC) (.slice AE lE kE) (.slice AR lR kR) (.slice AS lS kS) (.slice AY lY kY)) := HA.out.1.box.grown hg8 (fun e => (HA.out.1.hC.apart HA.out.1.box (by decide)) e.symm)
         have c8 : w11.cell? ⟨w.heap.size + 3, 4, none⟩ = some (.slice AC lC kC) := hbx8.cell 4
         have f8 := hbx8.frz 4
         have HE : Hid (∀ W', W' = (w11.setCell ⟨w.heap.size + 3, 4, none⟩ v8) → RRI w P ln cn m0 T W') := Lib.hid fun W' hW => by
          subst hW
          exact HDONE.out _ (L.length + 1) _ (by rw [rdR_rtpmap HY.out, HCO.out.1, HCH.out]) (Nat.le_refl _) ⟨_, _, _, _, _, _, H8.out.1⟩ (HA.out.2.2.1.trans H8.out.2)
         obtain ⟨A8, l8, k8, hv8⟩ : ∃ A l k, v8 = .slice A l k := by obtain ⟨A, k, h, -⟩ := ho8.form; exact ⟨_, _, _, h⟩
         subst hv8
         clear ho8 hg8 hn8 hbx8 e1))
     go_meet
     exact HE.out _ rfl
   | true =>
     have HCH : Hid (ch = 2) := Lib.hid (by rw [← HCC.out, if_pos (HQ2.out.1 rfl)])
     clear HCC HQ2 HOK
     have d3 : w13.cell? ⟨g22, 3, none⟩ = some (.int .i64 1) := HG.out.2.1.cell 3
     have qg := HG.out.2.1.frz
     go_upto_region 37 with fail
     clear d3 qg HG
     generalize w13.setCell ⟨g22, 3, none⟩ (.int .i64 2) = w14 at *
     have H13 := H14
     clear H14
     obtain ⟨X, hX⟩ : ∃ X : Array Value, #[.int .i64 z1, .string n1, .int .i64 z2, .int .i64 2, .string ⟨#[]⟩, .slice none 0 0] = X := ⟨_, rfl⟩
     have HXE : Hid (([.int .i64 z1, .string n1, .int .i64 z2, .int .i64 2, .string ⟨#[]⟩, .slice none 0 0] : List Value).toArray = X ∧ X.size = 6) := Lib.hid ⟨hX, by rw [← hX]; rfl⟩
     have HSC : Hid (∀ W : World, (Instr.buildSlice 22 1 #[(0, .agg X)]).run Tryz.prog W = .ok (.slice (some ⟨W.heap.size, 0, none⟩) 1 1) (W.alloc (.cells X 58))) := Lib.hid (fun W => by rw [← hX]; exact slice_codec z1 z2 2 n1 W)
     rw [hX] at H13
     clear hX
     have e1 : w14.cell? ⟨w.heap.size + 3, 4, none⟩ = some (.slice AC lC kC) := H13.out.1.box.cell 4
     have HA : Hid (MW w.heap.size (w.heap.size + 3) L.length (w14.alloc (.cells X 58)) m cs (.slice AC lC kC) (.slice AE lE kE) (.slice AR lR kR) (.slice AS lS kS) (.slice AY lY kY) ∧ Whole (w14.alloc (.cells X 58)) w14.heap.size 58 X ∧ Rdt w.heap.size (w.heap.size + 3) w10 (w14.alloc (.cells X 58)) ∧ w.heap.size ≤ (w14.alloc (.cells X 58)).heap.size) := Lib.hid
      ⟨H13.out.1.under ((Below.refl _ w14).alloc (Nat.le_refl _) _), Whole.new _ _ _, H13.out.2.2.1.under ((Below.refl _ w14).alloc (Nat.le_refl _) _) H13.out.2.2.2, by rw [World.size_alloc]; have := H13.out.2.2.2; omega⟩
     go_wp2_with (first
      | ((with_reducible refine wpList_load_all ?_ 58 (.tmp 22) ?_ H13.out.2.1 ?_ Tryz.sizeCodec HXE.out.2 Tryz.underlying58 rfl ?_); (with_reducible rfl); (with_reducible rfl); rfl)
      | ((with_reducible refine wpList_sliceOne ?_ (t := 22) (n := 1) (i := 0) (x := .tmp 141) (u := .agg X) ?_ ?_ (HSC.out _) ?_); (with_reducible rfl); (with_reducible rfl); rfl)
      | (at_builtin; refine wpList_appendE (r := [.int .i64 z1, .string n1, .int .i64 z2, .int .i64 2, .string ⟨#[]⟩, .slice none 0 0]) rfl (.tmp 140) (.tmp 142) rfl Tryz.underlying22 Tryz.infoCodec rfl (Nat.zero_lt_succ _) rfl HA.out.1.hC rfl (by rw [HXE.out.1]; exact HA.out.2.1) rfl (fun u hu => by simp at hu; rcases hu with rfl | rfl | rfl | rfl | rfl | rfl <;> rfl) (by have := HA.out.1.lens.1; rw [HA.out.1.eqC] at this; rw [List.length_map] at this ⊢; have := HLL.out; omega) (by have := HA.out.1.lens.1; rw [HA.out.1.eqC] at this; rw [List.length_map] at this ⊢; have := HLL.out; omega) HA.out.2.2.2 ?_
         intro v8 w11 ho8 hg8 hn8
         have H8 := Lib.hid (HA.out.1.codecsA (x := ⟨z1, n1, z2, 2, ⟨#[]⟩, []⟩) ho8 hg8 HA.out.2.2.2 rfl ⟨HCO.out.2, Nat.zero_le _⟩ HLL.out)
         have hbx8 : Whole w11 (w.heap.size + 3) 28 (mcell m (.slice AC lC kC) (.slice AE lE kE) (.slice AR lR kR) (.slice AS lS kS) (.slice AY lY kY)) := HA.out.1.box.grown hg8 (fun e => (HA.out.1.hC.apart HA.out.1.box (by decide)) e.symm)
         have c8 : w11.cell? ⟨w.heap.size + 3, 4, none⟩ = some (.slice AC lC kC) := hbx8.cell 4
         have f8 := hbx8.frz 4
         have HE : Hid (∀ W', W' = (w11.setCell ⟨w.heap.size + 3, 4, none⟩ v8) → RRI w P ln cn m0 T W') := Lib.hid fun W' hW => by
          subst hW
          exact HDONE.out _ (L.length + 1) _ (by rw [rdR_rtpmap HY.out, HCO.out.1, HCH.out]) (Nat.le_refl _) ⟨_, _, _, _, _, _, H8.out.1⟩ (HA.out.2.2.1.trans H8.out.2)
         obtain ⟨A8, l8, k8, hv8⟩ : ∃ A l k, v8 = .slice A l k := by obtain ⟨A, k, h, -⟩ := ho8.form; exact ⟨_, _, _, h⟩
         subst hv8
         clear ho8 hg8 hn8 hbx8 e1))
     go_meet
     exact HE.out _ rfl
end Go.Proofs.YtbbedhecfipdjaaGreatDoor
