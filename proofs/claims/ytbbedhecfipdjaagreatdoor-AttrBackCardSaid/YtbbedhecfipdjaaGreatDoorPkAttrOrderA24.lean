import Derived.Test.YtbbedhecfipdjaaGreatDoorPkAttrOrderA20
import Derived.Test.YtbbedhecfipdjaaGreatDoorPkAttrOrderA13
import Derived.Test.YtbbedhecfipdjaaGreatDoorPkAttrOrderA21
import Derived.Test.YtbbedhecfipdjaaGreatDoorPkAttrOrderA23
import Derived.Deep.CutBlock
import Derived.Great.Walk
namespace Go.Proofs.YtbbedhecfipdjaaGreatDoor
open Go.RowKit
set_option linter.unusedVariables false
set_option linter.unusedSimpArgs false
def RReadO (p : PartS) (w : World) (e : Ending) (w' : World) : Prop := ∃ m vC vE vR vS vY er, e = .returned (.tuple #[.agg (mcell m vC vE vR vS vY), .int .i64 er]) ∧ Below w.heap.size w w' ∧
 ((er = 0 ∧ IsM p m ∧ TypedM m ∧ MediaV w' w'.heap.size (mcell m vC vE vR vS vY) m vC vE vR vS vY) ∨ (er = 2 ∧ mcell m vC vE vR vS vY = zeroM ∧ ∀ m', TypedM m' → ¬ IsM p m'))
theorem three_new (w : World) (P Q : Array Value) : Below w.heap.size w ((((w.alloc (.cells P 32)).alloc (.cells zeroM 28)).alloc (.cells Q 32)).alloc (.cells zeroM 28)) ∧
 Whole ((((w.alloc (.cells P 32)).alloc (.cells zeroM 28)).alloc (.cells Q 32)).alloc (.cells zeroM 28)) w.heap.size 32 P ∧
 Whole ((((w.alloc (.cells P 32)).alloc (.cells zeroM 28)).alloc (.cells Q 32)).alloc (.cells zeroM 28)) (w.heap.size + 1) 28 zeroM ∧
 Whole ((((w.alloc (.cells P 32)).alloc (.cells zeroM 28)).alloc (.cells Q 32)).alloc (.cells zeroM 28)) (w.heap.size + 2) 32 Q ∧
 Whole ((((w.alloc (.cells P 32)).alloc (.cells zeroM 28)).alloc (.cells Q 32)).alloc (.cells zeroM 28)) (w.heap.size + 3) 28 zeroM := by
 have sz : ∀ (W : World) (o : Obj) (k : Nat), W.heap.size = w.heap.size + k → (W.alloc o).heap.size = w.heap.size + (k + 1) := fun W o k h => by rw [World.size_alloc, h]; omega
 have s1 := sz w (.cells P 32) 0 rfl
 have s2 := sz _ (.cells zeroM 28) 1 s1
 have s3 := sz _ (.cells Q 32) 2 s2
 have n1 := Whole.new (w.alloc (.cells P 32)) 28 zeroM
 rw [s1] at n1
 have n2 := Whole.new ((w.alloc (.cells P 32)).alloc (.cells zeroM 28)) 32 Q
 rw [s2] at n2
 have n3 := Whole.new (((w.alloc (.cells P 32)).alloc (.cells zeroM 28)).alloc (.cells Q 32)) 28 zeroM
 rw [s3] at n3
 refine ⟨?_, (((Whole.new w _ _).alloc _).alloc _).alloc _, ((n1.alloc _).alloc _), n2.alloc _, n3⟩
 exact ((((Below.refl _ w).alloc (Nat.le_refl _) _).alloc (by rw [s1]; omega) _).alloc (by rw [s2]; omega) _).alloc (by rw [s3]; omega) _
set_option maxHeartbeats 12800000 in
set_option maxRecDepth 100000 in
theorem rRead_any (p : PartS) (vp : Value) (w : World) (h : AttrsV w w.heap.size vp p.attrs) (hz : SizR p) :
 Calls Tryz.prog 21 #[.agg #[.string p.line, .string p.conn, vp]] w (RReadO p w) := by
 obtain ⟨A, c, rfl, hc, hmx, -⟩ := h.form
 obtain ⟨n, hn⟩ : ∃ n, p.attrs.length = n := ⟨_, rfl⟩
 rw [hn]
 rw [hn] at h hc
 unfold maxLen at hmx
 have hnb : n ≤ 140737488355328 := by rw [← hn]; exact hz.len
 have HV := Lib.hid h
 have HNN := Lib.hid hn
 have HZ := Lib.hid hz
 obtain ⟨ln, hln⟩ : ∃ x, p.line = x := ⟨_, rfl⟩
 obtain ⟨cn, hcn⟩ : ∃ x, p.conn = x := ⟨_, rfl⟩
 have HLN := Lib.hid (And.intro hln hcn)
 rw [hln, hcn]
 have hlz : ln.size ≤ 140737488355328 := by rw [← hln]; exact hz.line
 have HSP : Hid (∀ (s : ByteArray) (c : UInt8) (W : World), s.size ≤ 281474976710656 → Calls Tryz.prog 48 #[.string s, .int .u8 (c.toNat : Int)] W fun e w' => e = .returned (.tuple #[.string (bs (cutS [c] (tx s)).1), .string (bs (cutS [c] (tx s)).2.1), .bool (cutS [c] (tx s)).2.2]) ∧ Below W.heap.size W w') := Lib.hid fun s c W hs => rsplit_any s c W hs
 have HCL : Hid (∀ (s : ByteArray) (c : UInt8), s.size ≤ 140737488355328 → (bs (cutS [c] (tx s)).1).size ≤ 140737488355328 ∧ (bs (cutS [c] (tx s)).2.1).size ≤ 140737488355328) := Lib.hid fun s c hs => by
  have h1 := (cutS_len [c] (tx s)).1
  have h2 := (cutS_len [c] (tx s)).2
  rw [tx_length] at h1 h2
  rw [bs_size, bs_size]
  omega
 have HRN : Hid (∀ (s : ByteArray) (W : World), s.size ≤ 281474976710656 → Calls Tryz.prog 49 #[.string s] W fun e w' => e = .returned (.int .i64 (numR (tx s))) ∧ W = w') := Lib.hid fun s W hs => rnumber_any s W hs
 obtain ⟨k1, hk1⟩ : ∃ a, bs (cutS [32] (tx ln)).1 = a := ⟨_, rfl⟩
 obtain ⟨r1, hr1⟩ : ∃ a, bs (cutS [32] (tx ln)).2.1 = a := ⟨_, rfl⟩
 obtain ⟨f1, hf1⟩ : ∃ a, (cutS [32] (tx ln)).2.2 = a := ⟨_, rfl⟩
 have hS1 := fun W => HSP.out ln 32 W (by omega)
 have hz1 := (HCL.out ln 32 hlz)
 rw [hk1, hr1] at hz1
 rw [hk1, hr1, hf1] at hS1
 have HS1 : Hid (∀ W : World, Calls Tryz.prog 48 #[.string ln, .int .u8 32] W fun e w' => e = .returned (.tuple #[.string k1, .string r1, .bool f1]) ∧ Below W.heap.size W w') := Lib.hid hS1
 obtain ⟨p1, hp1⟩ : ∃ a, bs (cutS [32] (tx r1)).1 = a := ⟨_, rfl⟩
 obtain ⟨p2, hp2⟩ : ∃ a, bs (cutS [32] (tx r1)).2.1 = a := ⟨_, rfl⟩
 obtain ⟨f2, hf2⟩ : ∃ a, (cutS [32] (tx r1)).2.2 = a := ⟨_, rfl⟩
 have hS2 := fun W => HSP.out r1 32 W (by omega)
 have hz2 := (HCL.out r1 32 hz1.2)
 rw [hp1, hp2] at hz2
 rw [hp1, hp2, hf2] at hS2
 have HS2 : Hid (∀ W : World, Calls Tryz.prog 48 #[.string r1, .int .u8 32] W fun e w' => e = .returned (.tuple #[.string p1, .string p2, .bool f2]) ∧ Below W.heap.size W w') := Lib.hid hS2
 obtain ⟨pn, hpn⟩ : ∃ z, numR (tx p1) = z := ⟨_, rfl⟩
 have hN1 := fun W => HRN.out p1 W (by omega)
 rw [hpn] at hN1
 have HN1 : Hid (∀ W : World, Calls Tryz.prog 49 #[.string p1] W fun e w' => e = .returned (.int .i64 pn) ∧ W = w') := Lib.hid hN1
 obtain ⟨m0, hm0⟩ : ∃ m, startM rR (tx ln) = m := ⟨_, rfl⟩
 have HM0 : Hid (startM rR (tx ln) = m0 ∧ m0 = { MediaS.zero with port := pn, kind := kindOf (tx k1) }) := Lib.hid ⟨hm0, by
  rw [← hm0, ← hpn, ← hp1, ← hr1, ← hk1, tx_bs, tx_bs, tx_bs]
  rfl⟩
 clear h hz hn hln hcn hc hS1 hS2 hN1 hk1 hr1 hf1 hp1 hp2 hf2 hpn hm0 hlz
 go_enter Tryz.func21, Tryz.ntmps21
 go_upto_region 3 with fail
 simp only [Nat.add_assoc, Nat.reduceAdd]
 have H0 := Lib.hid (three_new w #[.string ln, .string cn, .slice A n c] #[.string ln, .string cn, .slice none 0 0])
 unfold zeroM at H0
 generalize ((((w.alloc (.cells #[.string ln, .string cn, .slice A n c] 32)).alloc (.cells #[.int .i64 0, .int .i64 0, .string ⟨#[]⟩, .int .i64 0, .slice none 0 0, .slice none 0 0, .slice none 0 0, .bool false, .slice none 0 0, .slice none 0 0, .int .i64 0] 28)).alloc (.cells #[.string ln, .string cn, .slice none 0 0] 32)).alloc (.cells #[.int .i64 0, .int .i64 0, .string ⟨#[]⟩, .int .i64 0, .slice none 0 0, .slice none 0 0, .slice none 0 0, .bool false, .slice none 0 0, .slice none 0 0, .int .i64 0] 28)) = W0 at *
 obtain ⟨P, hP⟩ : ∃ P : Array Value, #[.string ln, .string cn, .slice A n c] = P := ⟨_, rfl⟩
 have HP := Lib.hid hP
 rw [hP] at H0
 clear hP
 have e0 : W0.cell? ⟨w.heap.size, 0, none⟩ = some (.string ln) := by rw [H0.out.2.1.cell 0, ← HP.out]; rfl
 go_upto_region 5 with (first
  | (go_at_call 48; (with_reducible refine (HS1.out _).mono ?_); rintro e w1 ⟨rfl, hb1⟩; have H1 := Lib.hid hb1; clear hb1; dsimp only)
  | (go_at_call 48; (with_reducible refine (HS2.out _).mono ?_); rintro e w2 ⟨rfl, hb2⟩; have H2 : Hid (Below W0.heap.size W0 w2) := Lib.hid (below_chain (Nat.le_refl _) H1.out hb2); clear hb2; dsimp only))
 have HX2 : Hid (RX w P ln cn [] w2 ∧ MW w.heap.size (w.heap.size + 3) 0 w2 MediaS.zero [] (.slice none 0 0) (.slice none 0 0) (.slice none 0 0) (.slice none 0 0) (.slice none 0 0)) := Lib.hid
  ⟨RX.under ⟨H0.out.1, H0.out.2.1, H0.out.2.2.1, _, H0.out.2.2.2.1, Own.nil _ _ _ _⟩ H2.out, (MW.zero H0.out.2.2.2.2 (by omega)).under H2.out⟩
 clear H0 H1 H2 e0
 have e1 : w2.cell? ⟨w.heap.size + 3, 1, none⟩ = some (.int .i64 0) := HX2.out.2.box.cell 1
 have q1 := HX2.out.2.box.frz
 go_upto_block 0 with (go_at_call 49; (with_reducible refine (HN1.out _).mono ?_); rintro e w3 ⟨rfl, rfl⟩; dsimp only)
 have H3 : Hid (RX w P ln cn [] (w2.setCell ⟨w.heap.size + 3, 1, none⟩ (.int .i64 pn)) ∧ MW w.heap.size (w.heap.size + 3) 0 (w2.setCell ⟨w.heap.size + 3, 1, none⟩ (.int .i64 pn)) { MediaS.zero with port := pn } [] (.slice none 0 0) (.slice none 0 0) (.slice none 0 0) (.slice none 0 0) (.slice none 0 0)) := Lib.hid
  ⟨HX2.out.1.rdt ((Rdt.refl _ _ _).cell HX2.out.2.hbm 1 _) HX2.out.2.box, HX2.out.2.cell (m' := { MediaS.zero with port := pn }) 1 _ rfl rfl rfl rfl rfl rfl HX2.out.2.siz.mid⟩
 clear HX2 e1 q1
 generalize w2.setCell ⟨w.heap.size + 3, 1, none⟩ (.int .i64 pn) = w4 at *
 go_cut [] (fun wc => RRI w P ln cn m0 [] wc)
 case first =>
  as_aux_lemma =>
  have HK : Hid (∀ kd : Int, kd = kindOf (tx k1) → ∀ W', W' = w4.setCell ⟨w.heap.size + 3, 0, none⟩ (.int .i64 kd) → RRI w P ln cn m0 [] W') := Lib.hid fun kd hkd W' hW => by
   subst hW
   refine ⟨H3.out.1.rdt ((Rdt.refl _ _ _).cell H3.out.2.hbm 0 _) H3.out.2.box, by simp, [], .slice none 0 0, .slice none 0 0, .slice none 0 0, .slice none 0 0, .slice none 0 0, ?_⟩
   show MW _ _ _ _ m0 _ _ _ _ _ _
   rw [HM0.out.2, ← hkd]
   exact H3.out.2.cell (m' := { MediaS.zero with port := pn, kind := kd }) 0 _ rfl rfl rfl rfl rfl rfl H3.out.2.siz.mid
  have e0 : w4.cell? ⟨w.heap.size + 3, 0, none⟩ = some (.int .i64 0) := H3.out.2.box.cell 0
  have q0 := H3.out.2.box.frz
  have HA : Hid ((k1.toList == [97, 117, 100, 105, 111]) = true ↔ tx k1 = wAudio) := Lib.hid (by rw [beq_iff_eq, toList_tx])
  have HVD : Hid ((k1.toList == [118, 105, 100, 101, 111]) = true ↔ tx k1 = wVideo) := Lib.hid (by rw [beq_iff_eq, toList_tx])
  have HAP : Hid ((k1.toList == [97, 112, 112, 108, 105, 99, 97, 116, 105, 111, 110]) = true ↔ tx k1 = wApplication) := Lib.hid (by rw [beq_iff_eq, toList_tx])
  obtain ⟨qa, hqa⟩ : ∃ q, (k1.toList == [97, 117, 100, 105, 111]) = q := ⟨_, rfl⟩
  rw [hqa] at HA
  go_upto_if 55 with fail
  clear hqa
  cases qa with
  | true =>
    have HE := Lib.hid (HK.out 1 (by unfold kindOf; rw [if_pos (HA.out.1 rfl)]))
    go_wp2
    go_meet
    exact HE.out _ rfl
  | false =>
    have HNA : Hid (tx k1 ≠ wAudio) := Lib.hid (fun h => by have := HA.out.2 h; cases this)
    obtain ⟨qv, hqv⟩ : ∃ q, (k1.toList == [118, 105, 100, 101, 111]) = q := ⟨_, rfl⟩
    rw [hqv] at HVD
    go_upto_if 58 with fail
    clear hqv
    cases qv with
    | true =>
      have HE := Lib.hid (HK.out 2 (by unfold kindOf; rw [if_neg HNA.out, if_pos (HVD.out.1 rfl)]))
      go_wp2
      go_meet
      exact HE.out _ rfl
    | false =>
      have HNV : Hid (tx k1 ≠ wVideo) := Lib.hid (fun h => by have := HVD.out.2 h; cases this)
      obtain ⟨qp, hqp⟩ : ∃ q, (k1.toList == [97, 112, 112, 108, 105, 99, 97, 116, 105, 111, 110]) = q := ⟨_, rfl⟩
      rw [hqp] at HAP
      go_upto_if 61 with fail
      clear hqp
      cases qp with
      | true =>
        have HE := Lib.hid (HK.out 3 (by unfold kindOf; rw [if_neg HNA.out, if_neg HNV.out, if_pos (HAP.out.1 rfl)]))
        go_wp2
        go_meet
        exact HE.out _ rfl
      | false =>
        have HE : Hid (RRI w P ln cn m0 [] w4) := Lib.hid ⟨H3.out.1, by simp, [], .slice none 0 0, .slice none 0 0, .slice none 0 0, .slice none 0 0, .slice none 0 0, by
         show MW _ _ _ _ m0 _ _ _ _ _ _
         rw [HM0.out.2]
         have : kindOf (tx k1) = 0 := by unfold kindOf; rw [if_neg HNA.out, if_neg HNV.out, if_neg (fun h => by have := HAP.out.2 h; cases this)]
         rw [this]
         exact H3.out.2⟩
        go_wp2
        go_meet
        exact HE.out
 case rest =>
  clear H3
  have HI := Lib.hid hcut
  clear hcut
  have e2 : wc.cell? ⟨w.heap.size, 2, none⟩ = some (.slice A n c) := by rw [HI.out.1.part.cell 2, ← HP.out]; rfl
  go_wp2
  go_loopw [67] (fun s67 wr => ∃ j : Nat, j ≤ n ∧ s67 = .int .i64 j ∧ RRI w P ln cn m0 ((p.attrs.take j).filter known) wr) (fun s67 _ => n - (intOf s67).toNat)
  case atStart => exact ⟨0, Nat.zero_le _, rfl, by simpa using HI.out⟩
  case round =>
   clear e2 HI
   obtain ⟨j, hj, rfl, hst⟩ := hrel
   have HS := Lib.hid hst
   clear hst
   by_cases hlt : j < n
   · have hlt' : j < p.attrs.length := by rw [HNN.out]; exact hlt
     obtain ⟨ad, c2, e1, had, x0, x1⟩ := (HV.out.below HS.out.1.low).at_ hlt'
     injection e1 with e1 e1n e1c
     clear e1n e1c
     subst e1
     have hLj := getD_of (L := p.attrs) (i := j) hlt'
     obtain ⟨a, ha⟩ : ∃ a, p.attrs.getD j default = a := ⟨_, rfl⟩
     rw [ha] at x0 x1 hLj
     obtain ⟨nm, vl⟩ := a
     have x0 : wr.cell? (ad.add (j * 2)) = some (.string nm) := x0
     have x1 : wr.cell? ⟨(ad.add (j * 2)).block, (ad.add (j * 2)).off + 1, none⟩ = some (.string vl) := x1
     have e2 : wr.cell? ⟨w.heap.size, 2, none⟩ = some (.slice (some ad) n c) := by rw [HS.out.1.part.cell 2, ← HP.out]; rfl
     have hj0 : (0 : Int) ≤ (j : Int) := by omega
     have hj1 : (j : Int) < (n : Int) := by omega
     have HTK := Lib.hid (take_known hLj)
     have HVL : Hid (vl.size ≤ 140737488355328) := Lib.hid (HZ.out.values _ (List.mem_of_getElem? hLj))
     obtain ⟨L, hL⟩ : ∃ L, (p.attrs.take j).filter known = L := ⟨_, rfl⟩
     rw [hL] at HS HTK
     have hba : Below wr.heap.size wr (wr.alloc (.cells #[.string nm, .string vl] 55)) := (Below.refl _ wr).alloc (Nat.le_refl _) _
     have H5 : Hid (RRI w P ln cn m0 L (wr.alloc (.cells #[.string nm, .string vl] 55)) ∧ Whole (wr.alloc (.cells #[.string nm, .string vl] 55)) wr.heap.size 55 #[.string nm, .string vl]) := Lib.hid ⟨HS.out.under hba, Whole.new _ _ _⟩
     have HG13 : Hid (∀ vb, Own wr w.heap.size 55 2 vb (L.map acell) → vb.ownBlock ≠ some wr.heap.size) := Lib.hid fun vb ho e => absurd (ho.lt e).2 (Nat.lt_irrefl _)
     have HSB : Hid (∃ vb, Whole wr (w.heap.size + 2) 32 #[.string ln, .string cn, vb] ∧ Own wr w.heap.size 55 2 vb (L.map acell)) := Lib.hid HS.out.1.bare
     clear ha had hlt' hba hLj
     go_upto_block 2 with fail
     go_cut [] (fun wc => RRI w P ln cn m0 ((p.attrs.take (j + 1)).filter known) wc)
     case rest =>
      have H11 := Lib.hid hcut
      clear hcut H5 HG13 HSB HS x0 x1 e2
      go_wp2
      go_roundw
      case rel => exact ⟨j + 1, by omega, by go_num, H11.out⟩
      case measure => simp [intOf]; omega
     clear hL
     go_upto_region 17 with fail
     obtain ⟨vb, hvb, hob⟩ := HSB.out
     have HVB : Hid (Whole (wr.alloc (.cells #[.string nm, .string vl] 55)) (w.heap.size + 2) 32 #[.string ln, .string cn, vb] ∧ Own (wr.alloc (.cells #[.string nm, .string vl] 55)) w.heap.size 55 2 vb (L.map acell) ∧ vb.ownBlock ≠ some wr.heap.size) := Lib.hid ⟨hvb.alloc _, hob.alloc _, HG13.out vb hob⟩
     clear hvb hob HSB HG13 HS x0 x1 e2
     generalize wr.alloc (.cells #[.string nm, .string vl] 55) = w5 at *
     generalize wr.heap.size = g13 at *
     have y0 : w5.cell? ⟨g13, 0, none⟩ = some (.string nm) := H5.out.2.cell 0
     have HKN := Lib.hid (fun W => known_any nm W)
     cases hkn : known ⟨nm, vl⟩ with
     | false =>
       have hk : knownN.contains (tx nm) = false := hkn
       rw [hk] at HKN
       rw [hkn] at HTK
       clear hk hkn
       go_wp2_with (go_at_call 25; (with_reducible refine (HKN.out _).mono ?_); rintro e w6 ⟨rfl, hb6⟩; have H6 : Hid (RRI w P ln cn m0 L w6) := Lib.hid (H5.out.1.under hb6); clear hb6; dsimp only)
       go_meet
       rw [HTK.out]
       simpa using H6.out
     | true =>
       have hk : knownN.contains (tx nm) = true := hkn
       rw [hk] at HKN
       rw [hkn] at HTK
       clear hk hkn
       obtain ⟨Ab, kb, hvb, -⟩ := HVB.out.2.1.form
       obtain ⟨lb, hlb⟩ : ∃ l, L.length = l := ⟨_, rfl⟩
       rw [List.length_map, hlb] at hvb
       subst hvb
       have HLB := Lib.hid hlb
       clear hlb
       go_upto_region 18 with (go_at_call 25; (with_reducible refine (HKN.out _).mono ?_); rintro e w6 ⟨rfl, hb6⟩; have H6 : Hid (RRI w P ln cn m0 L w6 ∧ Whole w6 g13 55 #[.string nm, .string vl] ∧ Whole w6 (w.heap.size + 2) 32 #[.string ln, .string cn, .slice Ab lb kb] ∧ Own w6 w.heap.size 55 2 (.slice Ab lb kb) (L.map acell)) := Lib.hid ⟨H5.out.1.under hb6, H5.out.2.under hb6, HVB.out.1.under hb6, HVB.out.2.1.under hb6⟩; clear hb6; dsimp only)
       have hb7 : Below w6.heap.size w6 (w6.alloc (.cells #[.string nm, .string vl] 55)) := (Below.refl _ w6).alloc (Nat.le_refl _) _
       have H7 : Hid (RRI w P ln cn m0 L (w6.alloc (.cells #[.string nm, .string vl] 55)) ∧ Whole (w6.alloc (.cells #[.string nm, .string vl] 55)) g13 55 #[.string nm, .string vl] ∧ Whole (w6.alloc (.cells #[.string nm, .string vl] 55)) (w.heap.size + 2) 32 #[.string ln, .string cn, .slice Ab lb kb] ∧ Own (w6.alloc (.cells #[.string nm, .string vl] 55)) w.heap.size 55 2 (.slice Ab lb kb) (L.map acell) ∧ Whole (w6.alloc (.cells #[.string nm, .string vl] 55)) w6.heap.size 55 #[.string nm, .string vl]) := Lib.hid
        ⟨H6.out.1.under hb7, H6.out.2.1.under hb7, H6.out.2.2.1.under hb7, H6.out.2.2.2.under hb7, Whole.new _ _ _⟩
       have y2 : w6.cell? ⟨w.heap.size + 2, 2, none⟩ = some (.slice Ab lb kb) := H6.out.2.2.1.cell 2
       have y0 : w6.cell? ⟨g13, 0, none⟩ = some (.string nm) := H6.out.2.1.cell 0
       have y1 : w6.cell? ⟨g13, 1, none⟩ = some (.string vl) := H6.out.2.1.cell 1
       have hlb64 : lb ≤ 64 := by have := HLB.out; have := H6.out.1.2.1; omega
       clear hb7
       go_upto_region 19 with (at_builtin; refine wpList_appendE (r := [.string nm, .string vl]) rfl (.tmp 80) (.tmp 82) rfl Tryz.underlying30 Tryz.infoRSAttr rfl (Nat.zero_lt_succ _) rfl H7.out.2.2.2.1 rfl H7.out.2.2.2.2 rfl (fun u hu => by simp at hu; rcases hu with rfl | rfl <;> rfl) (by rw [List.length_map, HLB.out]; omega) (by rw [List.length_map, HLB.out]; omega) H7.out.1.1.low.size ?_; intro v8 w8 ho8 hg8 hn8; have H8 := Lib.hid (H7.out.1.1.laid (a := ⟨nm, vl⟩) H7.out.2.2.1 H7.out.2.2.2.1 ho8 hg8); have HG8 : Hid (Whole (w8.setCell ⟨w.heap.size + 2, 2, none⟩ v8) g13 55 #[.string nm, .string vl]) := Lib.hid ((H7.out.2.1.grown hg8 (fun e => HVB.out.2.2 e.symm)).far (p := ⟨w.heap.size + 2, 2, none⟩) ((H7.out.2.1.grown hg8 (fun e => HVB.out.2.2 e.symm)).ne H8.out.2.1 (by decide)) _); have c8 : w8.cell? ⟨w.heap.size + 2, 2, none⟩ = some (.slice Ab lb kb) := H8.out.2.1.cell 2; have f8 := H8.out.2.1.frz; obtain ⟨A8, k8, hv8⟩ : ∃ A k, v8 = .slice A (lb + 1) k := (by obtain ⟨A, k, h, -⟩ := ho8.form; rw [List.length_append, List.length_map, HLB.out] at h; exact ⟨_, _, h⟩); subst hv8; clear ho8 hg8 hn8)
       obtain ⟨cs, vC, vE, vR, vS, vY, hM7⟩ := H7.out.1.2.2
       have H9 : Hid (RX w P ln cn (L ++ [⟨nm, vl⟩]) (w8.setCell ⟨w.heap.size + 2, 2, none⟩ (.slice A8 (lb + 1) k8)) ∧ MW w.heap.size (w.heap.size + 3) L.length (w8.setCell ⟨w.heap.size + 2, 2, none⟩ (.slice A8 (lb + 1) k8)) (L.foldl (rd rR) m0) cs vC vE vR vS vY) := Lib.hid
        ⟨H8.out.1, by
         have hk := H8.out.2.2
         have own : ∀ {e : TypeId} {sz : Nat} {v : Value} {rs : List (List Value)}, Own (w6.alloc (.cells #[.string nm, .string vl] 55)) w.heap.size e sz v rs → e ≠ 55 → e ≠ 32 → Own (w8.setCell ⟨w.heap.size + 2, 2, none⟩ (.slice A8 (lb + 1) k8)) w.heap.size e sz v rs := fun ho h1 h2 => ho.keep fun g ds _ hw => hk g _ ds h1 h2 hw
         exact ⟨hM7.eqC, hk _ _ _ (by decide) (by decide) hM7.box, own hM7.hC (by decide) (by decide), fun c hc => own (hM7.hF c hc) (by decide) (by decide), own hM7.hE (by decide) (by decide), own hM7.hR (by decide) (by decide), own hM7.hS (by decide) (by decide), own hM7.hY (by decide) (by decide), hM7.ap, hM7.hbm, hM7.siz, hM7.lens⟩⟩
       have HC9 : Hid ((w8.setCell ⟨w.heap.size + 2, 2, none⟩ (.slice A8 (lb + 1) k8)).cell? ⟨w.heap.size + 2, 2, none⟩ = some (.slice A8 (lb + 1) k8)) := Lib.hid ((H8.out.2.1.set 2 _).cell 2)
       clear H8 H7 H6 H5 HVB HKN hM7 y0 y1 y2 c8 f8
       generalize w8.setCell ⟨w.heap.size + 2, 2, none⟩ (.slice A8 (lb + 1) k8) = w9 at *
       have c9 : w9.cell? ⟨w.heap.size + 2, 2, none⟩ = some (.slice A8 (lb + 1) k8) := HC9.out
       by_cases h64 : lb = 64
       · have HMANY : Hid (64 < (p.attrs.filter known).length) := Lib.hid (by
          have h2 : ((p.attrs.take (j + 1)).filter known).length ≤ (p.attrs.filter known).length := ((List.take_sublist _ _).filter _).length_le
          rw [HTK.out, List.length_append, HLB.out] at h2
          simp at h2
          omega)
         have hgt : (64 : Int) < ((lb + 1 : Nat) : Int) := by omega
         have z0 : w9.cell? ⟨w.heap.size + 1, 0, none⟩ = some (.int .i64 0) := H9.out.1.res.cell 0
         have z1 : w9.cell? ⟨w.heap.size + 1, 1, none⟩ = some (.int .i64 0) := H9.out.1.res.cell 1
         have z2 : w9.cell? ⟨w.heap.size + 1, 2, none⟩ = some (.string ⟨#[]⟩) := H9.out.1.res.cell 2
         have z3 : w9.cell? ⟨w.heap.size + 1, 3, none⟩ = some (.int .i64 0) := H9.out.1.res.cell 3
         have z4 : w9.cell? ⟨w.heap.size + 1, 4, none⟩ = some (.slice none 0 0) := H9.out.1.res.cell 4
         have z5 : w9.cell? ⟨w.heap.size + 1, 5, none⟩ = some (.slice none 0 0) := H9.out.1.res.cell 5
         have z6 : w9.cell? ⟨w.heap.size + 1, 6, none⟩ = some (.slice none 0 0) := H9.out.1.res.cell 6
         have z7 : w9.cell? ⟨w.heap.size + 1, 7, none⟩ = some (.bool false) := H9.out.1.res.cell 7
         have z8 : w9.cell? ⟨w.heap.size + 1, 8, none⟩ = some (.slice none 0 0) := H9.out.1.res.cell 8
         have z9 : w9.cell? ⟨w.heap.size + 1, 9, none⟩ = some (.slice none 0 0) := H9.out.1.res.cell 9
         have z10 : w9.cell? ⟨w.heap.size + 1, 10, none⟩ = some (.int .i64 0) := H9.out.1.res.cell 10
         have zf := H9.out.1.res.frz
         have HFIN : Hid (∀ W', W' = puts w9 (w.heap.size + 1) [.int .i64 0, .int .i64 0, .string ⟨#[]⟩, .int .i64 0, .slice none 0 0, .slice none 0 0, .slice none 0 0, .bool false, .slice none 0 0, .slice none 0 0, .int .i64 0] 0 → Below w.heap.size w W' ∧ Whole W' (w.heap.size + 1) 28 zeroM) := Lib.hid fun W' hW => by
          subst hW
          exact ⟨H9.out.1.low.trans (puts_below (by omega) _ _ _), puts_zero H9.out.1.res⟩
         go_wp2_with ((with_reducible show bodyPost _ _ _ _ _ _); exact bodyPost_ret (ret_struct2 rfl rfl (HFIN.out _ rfl).2 Tryz.underlying28 rfl Tryz.sizeMedia rfl) rfl ⟨MediaS.zero, .slice none 0 0, .slice none 0 0, .slice none 0 0, .slice none 0 0, .slice none 0 0, 2, rfl, (HFIN.out _ rfl).1, .inr ⟨rfl, rfl, not_isM_many HMANY.out⟩⟩)
       · have hgt : ¬ (64 : Int) < ((lb + 1 : Nat) : Int) := by omega
         have HLT64 : Hid (L.length < 64) := Lib.hid (by rw [HLB.out]; omega)
         obtain ⟨hS, hhS⟩ : ∃ a, bs (hd (tx vl)) = a := ⟨_, rfl⟩
         obtain ⟨tS, htS⟩ : ∃ a, bs (tl (tx vl)) = a := ⟨_, rfl⟩
         obtain ⟨fS, hfS⟩ : ∃ a, (cutS [32] (tx vl)).2.2 = a := ⟨_, rfl⟩
         have hs3 := fun W => HSP.out vl 32 W (by have := HVL.out; omega)
         have hz3 := HCL.out vl 32 HVL.out
         have hd1 : bs (cutS [32] (tx vl)).1 = hS := hhS
         have hd2 : bs (cutS [32] (tx vl)).2.1 = tS := htS
         rw [hd1, hd2] at hz3
         rw [hd1, hd2, hfS] at hs3
         have HS3 : Hid (∀ W : World, Calls Tryz.prog 48 #[.string vl, .int .u8 32] W fun e w' => e = .returned (.tuple #[.string hS, .string tS, .bool fS]) ∧ Below W.heap.size W w') := Lib.hid hs3
         have HHT : Hid (hd (tx vl) = tx hS ∧ tl (tx vl) = tx tS ∧ bs (hd (tx vl)) = hS ∧ bs (tl (tx vl)) = tS ∧ hS.size ≤ 140737488355328 ∧ tS.size ≤ 140737488355328) := Lib.hid ⟨by rw [← hhS, tx_bs], by rw [← htS, tx_bs], hhS, htS, hz3.1, hz3.2⟩
         have y1 : w9.cell? ⟨g13, 1, none⟩ = some (.string vl) := HG8.out.cell 1
         clear hs3 hz3 hd1 hd2 hhS htS hfS
         go_upto_region 22 with (go_at_call 48; (with_reducible refine (HS3.out _).mono ?_); rintro e w10 ⟨rfl, hb10⟩; have H10 : Hid (RX w P ln cn (L ++ [⟨nm, vl⟩]) w10 ∧ MW w.heap.size (w.heap.size + 3) L.length w10 (L.foldl (rd rR) m0) cs vC vE vR vS vY ∧ Whole w10 g13 55 #[.string nm, .string vl]) := Lib.hid ⟨H9.out.1.under hb10, H9.out.2.under hb10, HG8.out.under hb10⟩; clear hb10; dsimp only)
         clear c9 y1 H9 HG8
         have y0 : w10.cell? ⟨g13, 0, none⟩ = some (.string nm) := H10.out.2.2.cell 0
         have y1 : w10.cell? ⟨g13, 1, none⟩ = some (.string vl) := H10.out.2.2.cell 1
         go_upto_block 3 with fail
         refine sw_any _ _ _ _ _ _ _ _ _ _ _ _ ?T _ _ _ _ _ _ _ ?hT HVL.out HLT64.out HHT.out H10.out trivial ?J _ _ ?hK ?hP _ _ _ _ _ _ _ _ _ _ _ _ _ _ _ _ _ _ _ _ _ _ _ _ _ _ _ _ _ _ _ _ _ _ _ _ _ _ _ _ _ _ _ _ _ _ _ _ _ _ _ _ _ _ _ _ _ _ _ _ _ _ _ _ _ _ _ _ _ _ _ _ _ _ _ _ _ _ _ _ _ _ _ _ _ _ _ _ _ _ _ _ _ _ _ _ _ _ _ _ _ _ _ _ _ _ _ _ _ _ _ _ _ _ _ _ _ _ _ _ _ _ _ _ _ _ _ _ _ _ _ _ _ _ _ _ _ _ _ _ _ _ _ _ _ _ _ _ _ _ _ _ _ _ _ _ _ _ _ _ _ _ _ _ _ _ _ _ _ _ _ _ _ _ _ _ _ _ _ _ _ _ _ _ _ _ _ _ _ _ _ _ _ _ _ _ _ _ _ _ _ _ _ _ _ _ _ _ _ _ _ _ _ _ _ _ _ _ _ _ _ _ _ _ _ _ _ _ _ _ _ _ _ _ _ _ _ _ _ _ _ _ _ _ _ _ _ _ _ _ _ _ _ _ _ _ _ _ _ ?hJ
         case hK => assumption
         case hJ => assumption
         case hT => rw [HTK.out]; simp
         case hP =>
          intro c1 a1 a2 q1 hd1 h1
          obtain ⟨h2, h3⟩ := h1
          exact ⟨by rw [← hd1]; exact h2, h3⟩
   · have hnlt : ¬ (j : Int) < (n : Int) := by omega
     have hjn : p.attrs.length ≤ j := by rw [HNN.out]; omega
     have ht : (p.attrs.take j).filter known = p.attrs.filter known := by rw [List.take_of_length_le hjn]
     rw [ht] at HS
     obtain ⟨L, hL⟩ : ∃ L, p.attrs.filter known = L := ⟨_, rfl⟩
     rw [hL] at HS
     obtain ⟨m, hm⟩ : ∃ m, L.foldl (rd rR) m0 = m := ⟨_, rfl⟩
     obtain ⟨hX, hl64, cs, vC, vE, vR, vS, vY, hM⟩ := HS.out
     rw [hm] at hM
     have HRM : Hid (readM rR p = m) := Lib.hid (by unfold readM; rw [hL, HLN.out.1, HM0.out.1]; exact hm)
     obtain ⟨vb, hvb, hob⟩ := hX.bare
     obtain ⟨Ab, kb, hvb2, -⟩ := hob.form
     obtain ⟨lb, hlb⟩ : ∃ l, (L.map acell).length = l := ⟨_, rfl⟩
     rw [hlb] at hvb2
     subst hvb2
     obtain ⟨AC, kC, hvC, -⟩ := Own.form hM.hC
     obtain ⟨lC, hlC⟩ : ∃ l, (cs.map fun c => ccell c.1 c.2).length = l := ⟨_, rfl⟩
     rw [hlC] at hvC
     subst hvC
     clear hlC
     obtain ⟨AE, kE, hvE, -⟩ := Own.form hM.hE
     obtain ⟨lE, hlE⟩ : ∃ l, (m.exts.map ecell).length = l := ⟨_, rfl⟩
     rw [hlE] at hvE
     subst hvE
     clear hlE
     obtain ⟨AR, kR, hvR, -⟩ := Own.form hM.hR
     obtain ⟨lR, hlR⟩ : ∃ l, (m.rids.map tcell).length = l := ⟨_, rfl⟩
     rw [hlR] at hvR
     subst hvR
     clear hlR
     obtain ⟨AS, kS, hvS, -⟩ := Own.form hM.hS
     obtain ⟨lS, hlS⟩ : ∃ l, (m.sources.map ucell).length = l := ⟨_, rfl⟩
     rw [hlS] at hvS
     subst hvS
     clear hlS
     obtain ⟨AY, kY, hvY, -⟩ := Own.form hM.hY
     obtain ⟨lY, hlY⟩ : ∃ l, (m.crypto.map cryC).length = l := ⟨_, rfl⟩
     rw [hlY] at hvY
     subst hvY
     clear hlY
     have HX := Lib.hid hX
     have HTY : Hid (TypedM m) := Lib.hid hM.siz.typed
     have HMW := Lib.hid hM
     have HKL := Lib.hid hL
     have HBP := Lib.hid (And.intro hvb hob)
     have HWR : Hid (Calls Tryz.prog 15 #[.agg (mcell m (.slice AC lC kC) (.slice AE lE kE) (.slice AR lR kR) (.slice AS lS kS) (.slice AY lY kY))] wr (WriteO 55 wr m)) := Lib.hid (rWrite_any _ m _ _ _ _ _ wr HMW.out.media HMW.out.siz (fun W2 h2 => rgood_any _ m _ _ _ _ _ W2 (HMW.out.media.under h2) HMW.out.siz) (fun hg W2 h2 => rwrite1_any _ m _ _ _ _ _ W2 (HMW.out.media.under h2) HMW.out.siz hg))
     unfold mcell at HWR
     have b0 : wr.cell? ⟨w.heap.size + 3, 0, none⟩ = some (.int .i64 m.kind) := hM.box.cell 0
     have b1 : wr.cell? ⟨w.heap.size + 3, 1, none⟩ = some (.int .i64 m.port) := hM.box.cell 1
     have b2 : wr.cell? ⟨w.heap.size + 3, 2, none⟩ = some (.string m.mid) := hM.box.cell 2
     have b3 : wr.cell? ⟨w.heap.size + 3, 3, none⟩ = some (.int .i64 m.dir) := hM.box.cell 3
     have b4 : wr.cell? ⟨w.heap.size + 3, 4, none⟩ = some ((.slice AC lC kC)) := hM.box.cell 4
     have b5 : wr.cell? ⟨w.heap.size + 3, 5, none⟩ = some ((.slice AE lE kE)) := hM.box.cell 5
     have b6 : wr.cell? ⟨w.heap.size + 3, 6, none⟩ = some ((.slice AR lR kR)) := hM.box.cell 6
     have b7 : wr.cell? ⟨w.heap.size + 3, 7, none⟩ = some (.bool m.sending) := hM.box.cell 7
     have b8 : wr.cell? ⟨w.heap.size + 3, 8, none⟩ = some ((.slice AS lS kS)) := hM.box.cell 8
     have b9 : wr.cell? ⟨w.heap.size + 3, 9, none⟩ = some ((.slice AY lY kY)) := hM.box.cell 9
     have b10 : wr.cell? ⟨w.heap.size + 3, 10, none⟩ = some (.int .i64 m.sctp) := hM.box.cell 10
     clear hX hM hm hL ht hjn hl64 hvb hob hlb HS
     go_upto_region 62 with (go_at_call 15; (with_reducible refine HWR.out.mono ?_); rintro e w3 hw3; obtain ⟨Ao, co, rfl, hwa, hb3⟩ := hw3.reads; have H3 := Lib.hid (And.intro hwa hb3); clear hw3 hwa hb3; dsimp only)
     have hb4 : Below w3.heap.size w3 (w3.alloc (.cells #[.string (partW m).line, .string (partW m).conn, .slice Ao (partW m).attrs.length co] 32)) := (Below.refl _ w3).alloc (Nat.le_refl _) _
     have H4 : Hid (Whole (w3.alloc (.cells #[.string (partW m).line, .string (partW m).conn, .slice Ao (partW m).attrs.length co] 32)) w3.heap.size 32 #[.string (partW m).line, .string (partW m).conn, .slice Ao (partW m).attrs.length co] ∧ Below wr.heap.size wr (w3.alloc (.cells #[.string (partW m).line, .string (partW m).conn, .slice Ao (partW m).attrs.length co] 32)) ∧ AttrsV (w3.alloc (.cells #[.string (partW m).line, .string (partW m).conn, .slice Ao (partW m).attrs.length co] 32)) w3.heap.size (.slice Ao (partW m).attrs.length co) (partW m).attrs) := Lib.hid
      ⟨Whole.new _ _ _, below_chain (Nat.le_refl _) H3.out.2 hb4, H3.out.1.below hb4⟩
     clear hb4 H3 HWR b0 b1 b2 b3 b4 b5 b6 b7 b8 b9 b10
     generalize (w3.alloc (.cells #[.string (partW m).line, .string (partW m).conn, .slice Ao (partW m).attrs.length co] 32)) = w4 at *
     have HG8 : Hid (w3.heap.size ≤ w4.heap.size) := Lib.hid (Nat.le_of_lt H4.out.1.lt)
     generalize w3.heap.size = g8 at *
     have HW5 : Hid (∀ w5, Below w4.heap.size w4 w5 → Whole w5 (w.heap.size + 1) 28 zeroM ∧ Below w.heap.size w w5 ∧ MW w.heap.size (w.heap.size + 3) L.length w5 m cs (.slice AC lC kC) (.slice AE lE kE) (.slice AR lR kR) (.slice AS lS kS) (.slice AY lY kY)) := Lib.hid fun w5 hb => by
      have hb' := below_chain (Nat.le_refl _) H4.out.2.1 hb
      exact ⟨HX.out.res.under hb', HX.out.low.trans (hb'.mono HX.out.low.size), HMW.out.under hb'⟩
     have HSE : Hid (Calls Tryz.prog 17 #[.agg #[.string (partW m).line, .string (partW m).conn, .slice Ao (partW m).attrs.length co], .agg #[.string ln, .string cn, .slice Ab lb kb]] w4 (SameB w4 (partW m) (⟨ln, cn, L⟩ : PartS))) := Lib.hid (samePart_any (partW m) ⟨ln, cn, L⟩ _ _ w4 (H4.out.2.2.more HG8.out) (by
      have := (HBP.out.2.under H4.out.2.1).reads (Nat.le_refl _)
      exact this))
     have c0 : w4.cell? ⟨g8, 0, none⟩ = some (.string (partW m).line) := H4.out.1.cell 0
     have c1 : w4.cell? ⟨g8, 1, none⟩ = some (.string (partW m).conn) := H4.out.1.cell 1
     have c2 : w4.cell? ⟨g8, 2, none⟩ = some (.slice Ao (partW m).attrs.length co) := H4.out.1.cell 2
     have p0 : w4.cell? ⟨w.heap.size + 2, 0, none⟩ = some (.string ln) := (HBP.out.1.under H4.out.2.1).cell 0
     have p1 : w4.cell? ⟨w.heap.size + 2, 1, none⟩ = some (.string cn) := (HBP.out.1.under H4.out.2.1).cell 1
     have p2 : w4.cell? ⟨w.heap.size + 2, 2, none⟩ = some (.slice Ab lb kb) := (HBP.out.1.under H4.out.2.1).cell 2
     have HIS : Hid (IsM p m ↔ errW m = 0 ∧ partW m = (⟨ln, cn, L⟩ : PartS)) := Lib.hid (by
      unfold IsM errW partW
      rw [HLN.out.1, HLN.out.2, HKL.out]
      by_cases hmm : mayM m = true
      · rw [if_pos hmm, if_pos hmm]
        show (_ ∧ _ ∧ _ ∧ _) ↔ (_ ∧ (⟨bs (lineM m), bs wConn, attrsM m⟩ : PartS) = _)
        constructor
        · rintro ⟨-, h2, h3, h4⟩
          exact ⟨rfl, by rw [h2, bs_tx, h4, ← h3]⟩
        · rintro ⟨-, h⟩
          injection h with h2 h3 h4
          exact ⟨hmm, by rw [← h2, tx_bs], h3.symm, h4⟩
      · rw [if_neg hmm, if_neg hmm]
        constructor
        · rintro ⟨h, -⟩; exact absurd h hmm
        · rintro ⟨h, -⟩; cases h)
     have HNO : Hid (¬ IsM p m → ∀ w5, Below w4.heap.size w4 w5 → ∀ W', W' = puts w5 (w.heap.size + 1) [.int .i64 0, .int .i64 0, .string ⟨#[]⟩, .int .i64 0, .slice none 0 0, .slice none 0 0, .slice none 0 0, .bool false, .slice none 0 0, .slice none 0 0, .int .i64 0] 0 → Below w.heap.size w W' ∧ Whole W' (w.heap.size + 1) 28 zeroM ∧ ∀ m', TypedM m' → ¬ IsM p m') := Lib.hid fun hn w5 hb W' hW => by
      subst hW
      obtain ⟨q1, q2, q3⟩ := HW5.out w5 hb
      exact ⟨q2.trans (puts_below (by omega) _ _ _), puts_zero q1, fun m' ht h => hn (by rw [← HRM.out, IsM.read rR_law h ht]; exact h)⟩
     have HYES : Hid (∀ w5, Below w4.heap.size w4 w5 → ∀ W', W' = puts w5 (w.heap.size + 1) [.int .i64 m.kind, .int .i64 m.port, .string m.mid, .int .i64 m.dir, (.slice AC lC kC), (.slice AE lE kE), (.slice AR lR kR), .bool m.sending, (.slice AS lS kS), (.slice AY lY kY), .int .i64 m.sctp] 0 → Below w.heap.size w W' ∧ Whole W' (w.heap.size + 1) 28 #[.int .i64 m.kind, .int .i64 m.port, .string m.mid, .int .i64 m.dir, (.slice AC lC kC), (.slice AE lE kE), (.slice AR lR kR), .bool m.sending, (.slice AS lS kS), (.slice AY lY kY), .int .i64 m.sctp] ∧ MediaV W' W'.heap.size (mcell m (.slice AC lC kC) (.slice AE lE kE) (.slice AR lR kR) (.slice AS lS kS) (.slice AY lY kY)) m (.slice AC lC kC) (.slice AE lE kE) (.slice AR lR kR) (.slice AS lS kS) (.slice AY lY kY)) := Lib.hid fun w5 hb W' hW => by
      subst hW
      obtain ⟨q1, q2, q3⟩ := HW5.out w5 hb
      exact ⟨q2.trans (puts_below (by omega) _ _ _), puts_zero q1, (q3.keepT (puts_far (by omega) _ _ _ q3.box) (fun g t ds h1 h2 hw => puts_far (hw.ne q1 h1) _ _ _ hw)).media⟩
     have hew : errW m = 0 ∨ errW m = 1 := by unfold errW; split <;> simp
     obtain ⟨er, her⟩ : ∃ e, errW m = e := ⟨_, rfl⟩
     rw [her] at HIS hew
     simp only [her]
     clear her HMW HX HBP H4 HG8 hnlt
     rcases hew with rfl | rfl
     · go_upto_if 262 with (go_at_call 17; (with_reducible refine HSE.out.mono ?_); rintro e w5 ⟨b, rfl, hb, hb5⟩; have H5 := Lib.hid (And.intro hb hb5); clear hb hb5; dsimp only)
       cases b with
       | false =>
         have z0 : w5.cell? ⟨w.heap.size + 1, 0, none⟩ = some (.int .i64 0) := (HW5.out w5 H5.out.2).1.cell 0
         have z1 : w5.cell? ⟨w.heap.size + 1, 1, none⟩ = some (.int .i64 0) := (HW5.out w5 H5.out.2).1.cell 1
         have z2 : w5.cell? ⟨w.heap.size + 1, 2, none⟩ = some (.string ⟨#[]⟩) := (HW5.out w5 H5.out.2).1.cell 2
         have z3 : w5.cell? ⟨w.heap.size + 1, 3, none⟩ = some (.int .i64 0) := (HW5.out w5 H5.out.2).1.cell 3
         have z4 : w5.cell? ⟨w.heap.size + 1, 4, none⟩ = some (.slice none 0 0) := (HW5.out w5 H5.out.2).1.cell 4
         have z5 : w5.cell? ⟨w.heap.size + 1, 5, none⟩ = some (.slice none 0 0) := (HW5.out w5 H5.out.2).1.cell 5
         have z6 : w5.cell? ⟨w.heap.size + 1, 6, none⟩ = some (.slice none 0 0) := (HW5.out w5 H5.out.2).1.cell 6
         have z7 : w5.cell? ⟨w.heap.size + 1, 7, none⟩ = some (.bool false) := (HW5.out w5 H5.out.2).1.cell 7
         have z8 : w5.cell? ⟨w.heap.size + 1, 8, none⟩ = some (.slice none 0 0) := (HW5.out w5 H5.out.2).1.cell 8
         have z9 : w5.cell? ⟨w.heap.size + 1, 9, none⟩ = some (.slice none 0 0) := (HW5.out w5 H5.out.2).1.cell 9
         have z10 : w5.cell? ⟨w.heap.size + 1, 10, none⟩ = some (.int .i64 0) := (HW5.out w5 H5.out.2).1.cell 10
         have zf := (HW5.out w5 H5.out.2).1.frz
         have hno := Lib.hid (HNO.out (fun h => by have := H5.out.1.2 (HIS.out.1 h).2; cases this) _ H5.out.2)
         go_wp2_with ((with_reducible show bodyPost _ _ _ _ _ _); exact bodyPost_ret (ret_struct2 rfl rfl (hno.out _ rfl).2.1 Tryz.underlying28 rfl Tryz.sizeMedia rfl) rfl ⟨MediaS.zero, .slice none 0 0, .slice none 0 0, .slice none 0 0, .slice none 0 0, .slice none 0 0, 2, rfl, (hno.out _ rfl).1, .inr ⟨rfl, rfl, (hno.out _ rfl).2.2⟩⟩)
       | true =>
         have z0 : w5.cell? ⟨w.heap.size + 1, 0, none⟩ = some (.int .i64 0) := (HW5.out w5 H5.out.2).1.cell 0
         have z1 : w5.cell? ⟨w.heap.size + 1, 1, none⟩ = some (.int .i64 0) := (HW5.out w5 H5.out.2).1.cell 1
         have z2 : w5.cell? ⟨w.heap.size + 1, 2, none⟩ = some (.string ⟨#[]⟩) := (HW5.out w5 H5.out.2).1.cell 2
         have z3 : w5.cell? ⟨w.heap.size + 1, 3, none⟩ = some (.int .i64 0) := (HW5.out w5 H5.out.2).1.cell 3
         have z4 : w5.cell? ⟨w.heap.size + 1, 4, none⟩ = some (.slice none 0 0) := (HW5.out w5 H5.out.2).1.cell 4
         have z5 : w5.cell? ⟨w.heap.size + 1, 5, none⟩ = some (.slice none 0 0) := (HW5.out w5 H5.out.2).1.cell 5
         have z6 : w5.cell? ⟨w.heap.size + 1, 6, none⟩ = some (.slice none 0 0) := (HW5.out w5 H5.out.2).1.cell 6
         have z7 : w5.cell? ⟨w.heap.size + 1, 7, none⟩ = some (.bool false) := (HW5.out w5 H5.out.2).1.cell 7
         have z8 : w5.cell? ⟨w.heap.size + 1, 8, none⟩ = some (.slice none 0 0) := (HW5.out w5 H5.out.2).1.cell 8
         have z9 : w5.cell? ⟨w.heap.size + 1, 9, none⟩ = some (.slice none 0 0) := (HW5.out w5 H5.out.2).1.cell 9
         have z10 : w5.cell? ⟨w.heap.size + 1, 10, none⟩ = some (.int .i64 0) := (HW5.out w5 H5.out.2).1.cell 10
         have zf := (HW5.out w5 H5.out.2).1.frz
         have m0 : w5.cell? ⟨w.heap.size + 3, 0, none⟩ = some (.int .i64 m.kind) := (HW5.out w5 H5.out.2).2.2.box.cell 0
         have m1 : w5.cell? ⟨w.heap.size + 3, 1, none⟩ = some (.int .i64 m.port) := (HW5.out w5 H5.out.2).2.2.box.cell 1
         have m2 : w5.cell? ⟨w.heap.size + 3, 2, none⟩ = some (.string m.mid) := (HW5.out w5 H5.out.2).2.2.box.cell 2
         have m3 : w5.cell? ⟨w.heap.size + 3, 3, none⟩ = some (.int .i64 m.dir) := (HW5.out w5 H5.out.2).2.2.box.cell 3
         have m4 : w5.cell? ⟨w.heap.size + 3, 4, none⟩ = some ((.slice AC lC kC)) := (HW5.out w5 H5.out.2).2.2.box.cell 4
         have m5 : w5.cell? ⟨w.heap.size + 3, 5, none⟩ = some ((.slice AE lE kE)) := (HW5.out w5 H5.out.2).2.2.box.cell 5
         have m6 : w5.cell? ⟨w.heap.size + 3, 6, none⟩ = some ((.slice AR lR kR)) := (HW5.out w5 H5.out.2).2.2.box.cell 6
         have m7 : w5.cell? ⟨w.heap.size + 3, 7, none⟩ = some (.bool m.sending) := (HW5.out w5 H5.out.2).2.2.box.cell 7
         have m8 : w5.cell? ⟨w.heap.size + 3, 8, none⟩ = some ((.slice AS lS kS)) := (HW5.out w5 H5.out.2).2.2.box.cell 8
         have m9 : w5.cell? ⟨w.heap.size + 3, 9, none⟩ = some ((.slice AY lY kY)) := (HW5.out w5 H5.out.2).2.2.box.cell 9
         have m10 : w5.cell? ⟨w.heap.size + 3, 10, none⟩ = some (.int .i64 m.sctp) := (HW5.out w5 H5.out.2).2.2.box.cell 10
         have hyes := Lib.hid (HYES.out w5 H5.out.2)
         go_wp2_with ((with_reducible show bodyPost _ _ _ _ _ _); exact bodyPost_ret (ret_struct2 rfl rfl (hyes.out _ rfl).2.1 Tryz.underlying28 rfl Tryz.sizeMedia rfl) rfl ⟨m, (.slice AC lC kC), (.slice AE lE kE), (.slice AR lR kR), (.slice AS lS kS), (.slice AY lY kY), 0, rfl, (hyes.out _ rfl).1, .inl ⟨rfl, HIS.out.2 ⟨rfl, H5.out.1.1 rfl⟩, HTY.out, (hyes.out _ rfl).2.2⟩⟩)
     ·
      have z0 : w4.cell? ⟨w.heap.size + 1, 0, none⟩ = some (.int .i64 0) := (HW5.out w4 (Below.refl _ _)).1.cell 0
      have z1 : w4.cell? ⟨w.heap.size + 1, 1, none⟩ = some (.int .i64 0) := (HW5.out w4 (Below.refl _ _)).1.cell 1
      have z2 : w4.cell? ⟨w.heap.size + 1, 2, none⟩ = some (.string ⟨#[]⟩) := (HW5.out w4 (Below.refl _ _)).1.cell 2
      have z3 : w4.cell? ⟨w.heap.size + 1, 3, none⟩ = some (.int .i64 0) := (HW5.out w4 (Below.refl _ _)).1.cell 3
      have z4 : w4.cell? ⟨w.heap.size + 1, 4, none⟩ = some (.slice none 0 0) := (HW5.out w4 (Below.refl _ _)).1.cell 4
      have z5 : w4.cell? ⟨w.heap.size + 1, 5, none⟩ = some (.slice none 0 0) := (HW5.out w4 (Below.refl _ _)).1.cell 5
      have z6 : w4.cell? ⟨w.heap.size + 1, 6, none⟩ = some (.slice none 0 0) := (HW5.out w4 (Below.refl _ _)).1.cell 6
      have z7 : w4.cell? ⟨w.heap.size + 1, 7, none⟩ = some (.bool false) := (HW5.out w4 (Below.refl _ _)).1.cell 7
      have z8 : w4.cell? ⟨w.heap.size + 1, 8, none⟩ = some (.slice none 0 0) := (HW5.out w4 (Below.refl _ _)).1.cell 8
      have z9 : w4.cell? ⟨w.heap.size + 1, 9, none⟩ = some (.slice none 0 0) := (HW5.out w4 (Below.refl _ _)).1.cell 9
      have z10 : w4.cell? ⟨w.heap.size + 1, 10, none⟩ = some (.int .i64 0) := (HW5.out w4 (Below.refl _ _)).1.cell 10
      have zf := (HW5.out w4 (Below.refl _ _)).1.frz
      have hno := Lib.hid (HNO.out (fun h => by have := (HIS.out.1 h).1; cases this) _ (Below.refl _ _))
      go_wp2_with ((with_reducible show bodyPost _ _ _ _ _ _); exact bodyPost_ret (ret_struct2 rfl rfl (hno.out _ rfl).2.1 Tryz.underlying28 rfl Tryz.sizeMedia rfl) rfl ⟨MediaS.zero, .slice none 0 0, .slice none 0 0, .slice none 0 0, .slice none 0 0, .slice none 0 0, 2, rfl, (hno.out _ rfl).1, .inr ⟨rfl, rfl, (hno.out _ rfl).2.2⟩⟩)
end Go.Proofs.YtbbedhecfipdjaaGreatDoor
