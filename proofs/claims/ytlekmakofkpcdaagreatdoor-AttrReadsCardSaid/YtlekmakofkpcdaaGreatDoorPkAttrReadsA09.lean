import Derived.Test.YtlekmakofkpcdaaGreatDoorPkAttrReadsA08
namespace Go.Proofs.YtlekmakofkpcdaaGreatDoor
open Go.RowKit
set_option linter.unusedVariables false
set_option linter.unusedSimpArgs false
theorem MediaV.forms {w : World} {B : Nat} {M : Array Value} {m : MediaS} {vC vE vR vS vY : Value} (h : MediaV w B M m vC vE vR vS vY) :
 ∃ AC kC AE kE AR kR AS kS AY kY, vC = .slice AC m.codecs.length kC ∧ vE = .slice AE m.exts.length kE ∧ vR = .slice AR m.rids.length kR ∧ vS = .slice AS m.sources.length kS ∧ vY = .slice AY m.crypto.length kY := by
 obtain ⟨AC, kC, e1, -⟩ := Rows.form h.codecs
 obtain ⟨AE, kE, e2, -⟩ := Rows.form h.exts
 obtain ⟨AR, kR, e3, -⟩ := Rows.form h.rids
 obtain ⟨AS, kS, e4, -⟩ := Rows.form h.sources
 obtain ⟨AY, kY, e5, -⟩ := Rows.form h.crypto
 exact ⟨AC, kC, AE, kE, AR, kR, AS, kS, AY, kY, e1, e2, e3, e4, e5⟩
set_option maxHeartbeats 6400000 in
set_option maxRecDepth 100000 in
theorem goodStreams_any (M : Array Value) (m : MediaS) (vC vE vR vS vY : Value) (w : World) (h : MediaV w w.heap.size M m vC vE vR vS vY) (hz : SizM m) :
 Calls Tryz.prog 65 #[.agg M] w fun e w' => e = .returned (.bool (goodStreams m)) ∧ Below w.heap.size w w' := by
 obtain ⟨AC, kC, AE, kE, AR, kR, AS, kS, AY, kY, rfl, rfl, rfl, rfl, rfl⟩ := h.forms
 obtain ⟨hform, hvC, hvE, hvR, hvS, hvY⟩ := h
 subst hform
 obtain ⟨nC, hnC⟩ : ∃ n, m.codecs.length = n := ⟨_, rfl⟩
 obtain ⟨nE, hnE⟩ : ∃ n, m.exts.length = n := ⟨_, rfl⟩
 obtain ⟨nR, hnR⟩ : ∃ n, m.rids.length = n := ⟨_, rfl⟩
 obtain ⟨nS, hnS⟩ : ∃ n, m.sources.length = n := ⟨_, rfl⟩
 obtain ⟨nY, hnY⟩ : ∃ n, m.crypto.length = n := ⟨_, rfl⟩
 obtain ⟨hc1, hc2, hc3, hc4, hc5⟩ := hz.counts
 rw [hnC] at hvC hc1
 rw [hnE] at hvE hc2
 rw [hnR] at hvR hc3
 rw [hnS] at hvS hc4
 rw [hnY] at hvY hc5
 rw [hnC, hnE, hnR, hnS, hnY]
 have hb0 : Below w.heap.size w (w.alloc (.cells #[.int .i64 m.kind, .int .i64 m.port, .string m.mid, .int .i64 m.dir, .slice AC nC kC, .slice AE nE kE, .slice AR nR kR, .bool m.sending, .slice AS nS kS, .slice AY nY kY, .int .i64 m.sctp] 32)) := (Below.refl _ w).alloc (Nat.le_refl _) _
 have hw := Whole.new w 32 #[.int .i64 m.kind, .int .i64 m.port, .string m.mid, .int .i64 m.dir, .slice AC nC kC, .slice AE nE kE, .slice AR nR kR, .bool m.sending, .slice AS nS kS, .slice AY nY kY, .int .i64 m.sctp]
 have hx : goodStreams m = (decide (1 ≤ nC) && ((decide (nC ≤ 16) && m.codecs.all goodC && unlike CodecS.type m.codecs) && ((decide (nE ≤ 14) && m.exts.all goodE && unlike ExtS.id m.exts) && ((decide (nR ≤ 3) && m.rids.all goodR && unlike tx m.rids) && ((decide (1 ≤ nR) || !m.sending) && ((decide (nS ≤ 16) && m.sources.all (fun _ => true) && unlike id m.sources) && ((decide (nY ≤ 1) && m.crypto.all goodY) && decide (m.sctp = 0)))))))) := by
  unfold goodStreams
  rw [hnC, hnE, hnR, hnS, hnY, show (m.sources.all fun _ => true) = true from List.all_eq_true.2 (fun _ _ => rfl)]
  simp [Bool.and_assoc]
 have HLC : Hid (∀ W, Below w.heap.size w W → Calls Tryz.prog 109 #[.slice AC nC kC, .int .i64 16, .func (.func 110) #[] #[], .func (.func 111) #[] #[]] W fun e w' => e = .returned (.bool (decide (nC ≤ 16) && m.codecs.all goodC && unlike CodecS.type m.codecs)) ∧ Below W.heap.size W w') := Lib.hid fun W hW =>
  goodListC_any AC nC kC m.codecs goodC W ((hvC.below hW).more hW.size) hnC (by omega) fun W' x vf _ hx hv => by
   obtain ⟨Af, kf, rfl, -⟩ := Rows.form hv
   exact goodCodec_any x Af _ kf W' (hv.more (Nat.le_trans (by omega) (by assumption : Below W.heap.size W W').size)) (hz.names x hx) (hz.feeds x hx)
 have HLE : Hid (∀ W, Below w.heap.size w W → Calls Tryz.prog 112 #[.slice AE nE kE, .int .i64 14, .func (.func 113) #[] #[], .func (.func 114) #[] #[]] W fun e w' => e = .returned (.bool (decide (nE ≤ 14) && m.exts.all goodE && unlike ExtS.id m.exts)) ∧ Below W.heap.size W w') := Lib.hid fun W hW =>
  goodListE_any AE nE kE m.exts goodE W ((hvE.below hW).more hW.size) hnE (by omega) fun W' x _ hx => goodExt_any x W' (by have := hz.uris x hx; unfold maxLen; omega)
 have HLR : Hid (∀ W, Below w.heap.size w W → Calls Tryz.prog 115 #[.slice AR nR kR, .int .i64 3, .func (.func 116) #[] #[], .func (.func 117) #[] #[]] W fun e w' => e = .returned (.bool (decide (nR ≤ 3) && m.rids.all goodR && unlike tx m.rids)) ∧ Below W.heap.size W w') := Lib.hid fun W hW =>
  goodListS_any AR nR kR m.rids goodR W ((hvR.below hW).more hW.size) hnR (by omega) fun W' x _ hx => (goodRid_any x W' (by have := hz.rids x hx; unfold maxLen; omega)).mono fun e w' ⟨h1, h2⟩ => ⟨h1, h2 ▸ Below.refl _ _⟩
 have HLS : Hid (∀ W, Below w.heap.size w W → Calls Tryz.prog 118 #[.slice AS nS kS, .int .i64 16, .func (.func 119) #[] #[], .func (.func 120) #[] #[]] W fun e w' => e = .returned (.bool (decide (nS ≤ 16) && m.sources.all (fun _ => true) && unlike id m.sources)) ∧ Below W.heap.size W w') := Lib.hid fun W hW =>
  goodListU_any AS nS kS m.sources (fun _ => true) W ((hvS.below hW).more hW.size) hnS (by omega) fun W' x _ hx => (anySource_any _ W').mono fun e w' ⟨h1, h2⟩ => ⟨h1, h2 ▸ Below.refl _ _⟩
 have HLY : Hid (∀ W, Below w.heap.size w W → Calls Tryz.prog 121 #[.slice AY nY kY, .int .i64 1, .func (.func 122) #[] #[], .func (.func 123) #[] #[]] W fun e w' => e = .returned (.bool (decide (nY ≤ 1) && m.crypto.all goodY)) ∧ Below W.heap.size W w') := Lib.hid fun W hW =>
  goodListY_any AY nY kY m.crypto W ((hvY.below hW).more hW.size) hnY (by omega)
 have HX := Lib.hid hx
 generalize goodStreams m = r at *
 generalize (decide (nC ≤ 16) && m.codecs.all goodC && unlike CodecS.type m.codecs) = tC at *
 generalize (decide (nE ≤ 14) && m.exts.all goodE && unlike ExtS.id m.exts) = tE at *
 generalize (decide (nR ≤ 3) && m.rids.all goodR && unlike tx m.rids) = tR at *
 generalize (decide (nS ≤ 16) && m.sources.all (fun _ => true) && unlike id m.sources) = tS at *
 generalize (decide (nY ≤ 1) && m.crypto.all goodY) = tY at *
 obtain ⟨sd, hsd⟩ : ∃ b, m.sending = b := ⟨_, rfl⟩
 obtain ⟨sc, hsc⟩ : ∃ b, m.sctp = b := ⟨_, rfl⟩
 rw [hsd] at HX
 rw [hsc] at HX
 simp only [hsd, hsc] at hb0 hw ⊢
 clear hx hvC hvE hvR hvS hvY hz hnC hnE hnR hnS hnY hsd hsc
 obtain ⟨N, hN⟩ : ∃ N, w.heap.size = N := ⟨_, rfl⟩
 have HBX := Lib.hid hw
 have HB := Lib.hid hb0
 rw [hN] at HBX HB HLC HLE HLR HLS HLY ⊢
 clear hb0 hw
 go_enter Tryz.func65, Tryz.ntmps65
 go_upto_region 1 with fail
 generalize w.alloc (.cells #[.int .i64 m.kind, .int .i64 m.port, .string m.mid, .int .i64 m.dir, .slice AC nC kC, .slice AE nE kE, .slice AR nR kR, .bool sd, .slice AS nS kS, .slice AY nY kY, .int .i64 sc] 32) = W0 at *
 have HN : Hid (N ≤ W0.heap.size) := Lib.hid (Nat.le_of_lt HBX.out.lt)
 clear hN
 have H0 : Hid (Below W0.heap.size W0 W0) := Lib.hid (Below.refl _ _)
 have c4 : W0.cell? ⟨N, 4, none⟩ = some (.slice AC nC kC) := HBX.out.cell 4
 by_cases hl1 : 1 ≤ nC
 · have hl10 : (0 : Int) < (nC : Int) := by omega
   cases tC with
   | false =>
     have HQ : Hid (r = false) := Lib.hid (by rw [HX.out]; simp)
     go_wp2_with (first
      | (go_at_call 109; (with_reducible refine (HLC.out _ (HB.out.trans (H0.out.mono HN.out))).mono ?_); rintro e w1 ⟨rfl, hb1⟩; have H1 : Hid (Below W0.heap.size W0 w1) := Lib.hid (H0.out.trans (hb1.mono H0.out.size)); clear hb1; have d5 : w1.cell? ⟨N, 5, none⟩ = some (.slice AE nE kE) := (HBX.out.under H1.out).cell 5))
     go_ret
     exact ⟨ret_bool HQ.out.symm, HB.out.trans (H1.out.mono HN.out)⟩
   | true =>
     cases tE with
     | false =>
       have HQ : Hid (r = false) := Lib.hid (by rw [HX.out]; simp)
       go_wp2_with (first
        | (go_at_call 109; (with_reducible refine (HLC.out _ (HB.out.trans (H0.out.mono HN.out))).mono ?_); rintro e w1 ⟨rfl, hb1⟩; have H1 : Hid (Below W0.heap.size W0 w1) := Lib.hid (H0.out.trans (hb1.mono H0.out.size)); clear hb1; have d5 : w1.cell? ⟨N, 5, none⟩ = some (.slice AE nE kE) := (HBX.out.under H1.out).cell 5)
        | (go_at_call 112; (with_reducible refine (HLE.out _ (HB.out.trans (H1.out.mono HN.out))).mono ?_); rintro e w2 ⟨rfl, hb2⟩; have H2 : Hid (Below W0.heap.size W0 w2) := Lib.hid (H1.out.trans (hb2.mono H1.out.size)); clear hb2; have d6 : w2.cell? ⟨N, 6, none⟩ = some (.slice AR nR kR) := (HBX.out.under H2.out).cell 6))
       go_ret
       exact ⟨ret_bool HQ.out.symm, HB.out.trans (H2.out.mono HN.out)⟩
     | true =>
       cases tR with
       | false =>
         have HQ : Hid (r = false) := Lib.hid (by rw [HX.out]; simp)
         go_wp2_with (first
          | (go_at_call 109; (with_reducible refine (HLC.out _ (HB.out.trans (H0.out.mono HN.out))).mono ?_); rintro e w1 ⟨rfl, hb1⟩; have H1 : Hid (Below W0.heap.size W0 w1) := Lib.hid (H0.out.trans (hb1.mono H0.out.size)); clear hb1; have d5 : w1.cell? ⟨N, 5, none⟩ = some (.slice AE nE kE) := (HBX.out.under H1.out).cell 5)
          | (go_at_call 112; (with_reducible refine (HLE.out _ (HB.out.trans (H1.out.mono HN.out))).mono ?_); rintro e w2 ⟨rfl, hb2⟩; have H2 : Hid (Below W0.heap.size W0 w2) := Lib.hid (H1.out.trans (hb2.mono H1.out.size)); clear hb2; have d6 : w2.cell? ⟨N, 6, none⟩ = some (.slice AR nR kR) := (HBX.out.under H2.out).cell 6)
          | (go_at_call 115; (with_reducible refine (HLR.out _ (HB.out.trans (H2.out.mono HN.out))).mono ?_); rintro e w3 ⟨rfl, hb3⟩; have H3 : Hid (Below W0.heap.size W0 w3) := Lib.hid (H2.out.trans (hb3.mono H2.out.size)); clear hb3; have d6 : w3.cell? ⟨N, 6, none⟩ = some (.slice AR nR kR) := (HBX.out.under H3.out).cell 6; have d7 : w3.cell? ⟨N, 7, none⟩ = some (.bool sd) := (HBX.out.under H3.out).cell 7; have d8 : w3.cell? ⟨N, 8, none⟩ = some (.slice AS nS kS) := (HBX.out.under H3.out).cell 8))
         go_ret
         exact ⟨ret_bool HQ.out.symm, HB.out.trans (H3.out.mono HN.out)⟩
       | true =>
         by_cases hlr : 1 ≤ nR
         · have hlr0 : (0 : Int) < (nR : Int) := by omega
           have hsx : (1 ≤ nR ∨ sd = false) := .inl hlr
           cases tS with
           | false =>
             have HQ : Hid (r = false) := Lib.hid (by rw [HX.out]; simp)
             go_wp2_with (first
              | (go_at_call 109; (with_reducible refine (HLC.out _ (HB.out.trans (H0.out.mono HN.out))).mono ?_); rintro e w1 ⟨rfl, hb1⟩; have H1 : Hid (Below W0.heap.size W0 w1) := Lib.hid (H0.out.trans (hb1.mono H0.out.size)); clear hb1; have d5 : w1.cell? ⟨N, 5, none⟩ = some (.slice AE nE kE) := (HBX.out.under H1.out).cell 5)
              | (go_at_call 112; (with_reducible refine (HLE.out _ (HB.out.trans (H1.out.mono HN.out))).mono ?_); rintro e w2 ⟨rfl, hb2⟩; have H2 : Hid (Below W0.heap.size W0 w2) := Lib.hid (H1.out.trans (hb2.mono H1.out.size)); clear hb2; have d6 : w2.cell? ⟨N, 6, none⟩ = some (.slice AR nR kR) := (HBX.out.under H2.out).cell 6)
              | (go_at_call 115; (with_reducible refine (HLR.out _ (HB.out.trans (H2.out.mono HN.out))).mono ?_); rintro e w3 ⟨rfl, hb3⟩; have H3 : Hid (Below W0.heap.size W0 w3) := Lib.hid (H2.out.trans (hb3.mono H2.out.size)); clear hb3; have d6 : w3.cell? ⟨N, 6, none⟩ = some (.slice AR nR kR) := (HBX.out.under H3.out).cell 6; have d7 : w3.cell? ⟨N, 7, none⟩ = some (.bool sd) := (HBX.out.under H3.out).cell 7; have d8 : w3.cell? ⟨N, 8, none⟩ = some (.slice AS nS kS) := (HBX.out.under H3.out).cell 8)
              | (go_at_call 118; (with_reducible refine (HLS.out _ (HB.out.trans (H3.out.mono HN.out))).mono ?_); rintro e w4 ⟨rfl, hb4⟩; have H4 : Hid (Below W0.heap.size W0 w4) := Lib.hid (H3.out.trans (hb4.mono H3.out.size)); clear hb4; have d9 : w4.cell? ⟨N, 9, none⟩ = some (.slice AY nY kY) := (HBX.out.under H4.out).cell 9))
             go_ret
             exact ⟨ret_bool HQ.out.symm, HB.out.trans (H4.out.mono HN.out)⟩
           | true =>
             cases tY with
             | false =>
               have HQ : Hid (r = false) := Lib.hid (by rw [HX.out]; simp)
               go_wp2_with (first
                | (go_at_call 109; (with_reducible refine (HLC.out _ (HB.out.trans (H0.out.mono HN.out))).mono ?_); rintro e w1 ⟨rfl, hb1⟩; have H1 : Hid (Below W0.heap.size W0 w1) := Lib.hid (H0.out.trans (hb1.mono H0.out.size)); clear hb1; have d5 : w1.cell? ⟨N, 5, none⟩ = some (.slice AE nE kE) := (HBX.out.under H1.out).cell 5)
                | (go_at_call 112; (with_reducible refine (HLE.out _ (HB.out.trans (H1.out.mono HN.out))).mono ?_); rintro e w2 ⟨rfl, hb2⟩; have H2 : Hid (Below W0.heap.size W0 w2) := Lib.hid (H1.out.trans (hb2.mono H1.out.size)); clear hb2; have d6 : w2.cell? ⟨N, 6, none⟩ = some (.slice AR nR kR) := (HBX.out.under H2.out).cell 6)
                | (go_at_call 115; (with_reducible refine (HLR.out _ (HB.out.trans (H2.out.mono HN.out))).mono ?_); rintro e w3 ⟨rfl, hb3⟩; have H3 : Hid (Below W0.heap.size W0 w3) := Lib.hid (H2.out.trans (hb3.mono H2.out.size)); clear hb3; have d6 : w3.cell? ⟨N, 6, none⟩ = some (.slice AR nR kR) := (HBX.out.under H3.out).cell 6; have d7 : w3.cell? ⟨N, 7, none⟩ = some (.bool sd) := (HBX.out.under H3.out).cell 7; have d8 : w3.cell? ⟨N, 8, none⟩ = some (.slice AS nS kS) := (HBX.out.under H3.out).cell 8)
                | (go_at_call 118; (with_reducible refine (HLS.out _ (HB.out.trans (H3.out.mono HN.out))).mono ?_); rintro e w4 ⟨rfl, hb4⟩; have H4 : Hid (Below W0.heap.size W0 w4) := Lib.hid (H3.out.trans (hb4.mono H3.out.size)); clear hb4; have d9 : w4.cell? ⟨N, 9, none⟩ = some (.slice AY nY kY) := (HBX.out.under H4.out).cell 9)
                | (go_at_call 121; (with_reducible refine (HLY.out _ (HB.out.trans (H4.out.mono HN.out))).mono ?_); rintro e w5 ⟨rfl, hb5⟩; have H5 : Hid (Below W0.heap.size W0 w5) := Lib.hid (H4.out.trans (hb5.mono H4.out.size)); clear hb5; have d10 : w5.cell? ⟨N, 10, none⟩ = some (.int .i64 sc) := (HBX.out.under H5.out).cell 10))
               go_ret
               exact ⟨ret_bool HQ.out.symm, HB.out.trans (H5.out.mono HN.out)⟩
             | true =>
               have HQ : Hid ((sc == 0) = r) := Lib.hid (by rw [HX.out]; rw [Bool.eq_iff_iff]; simp [hl1, hsx])
               go_wp2_with (first
                | (go_at_call 109; (with_reducible refine (HLC.out _ (HB.out.trans (H0.out.mono HN.out))).mono ?_); rintro e w1 ⟨rfl, hb1⟩; have H1 : Hid (Below W0.heap.size W0 w1) := Lib.hid (H0.out.trans (hb1.mono H0.out.size)); clear hb1; have d5 : w1.cell? ⟨N, 5, none⟩ = some (.slice AE nE kE) := (HBX.out.under H1.out).cell 5)
                | (go_at_call 112; (with_reducible refine (HLE.out _ (HB.out.trans (H1.out.mono HN.out))).mono ?_); rintro e w2 ⟨rfl, hb2⟩; have H2 : Hid (Below W0.heap.size W0 w2) := Lib.hid (H1.out.trans (hb2.mono H1.out.size)); clear hb2; have d6 : w2.cell? ⟨N, 6, none⟩ = some (.slice AR nR kR) := (HBX.out.under H2.out).cell 6)
                | (go_at_call 115; (with_reducible refine (HLR.out _ (HB.out.trans (H2.out.mono HN.out))).mono ?_); rintro e w3 ⟨rfl, hb3⟩; have H3 : Hid (Below W0.heap.size W0 w3) := Lib.hid (H2.out.trans (hb3.mono H2.out.size)); clear hb3; have d6 : w3.cell? ⟨N, 6, none⟩ = some (.slice AR nR kR) := (HBX.out.under H3.out).cell 6; have d7 : w3.cell? ⟨N, 7, none⟩ = some (.bool sd) := (HBX.out.under H3.out).cell 7; have d8 : w3.cell? ⟨N, 8, none⟩ = some (.slice AS nS kS) := (HBX.out.under H3.out).cell 8)
                | (go_at_call 118; (with_reducible refine (HLS.out _ (HB.out.trans (H3.out.mono HN.out))).mono ?_); rintro e w4 ⟨rfl, hb4⟩; have H4 : Hid (Below W0.heap.size W0 w4) := Lib.hid (H3.out.trans (hb4.mono H3.out.size)); clear hb4; have d9 : w4.cell? ⟨N, 9, none⟩ = some (.slice AY nY kY) := (HBX.out.under H4.out).cell 9)
                | (go_at_call 121; (with_reducible refine (HLY.out _ (HB.out.trans (H4.out.mono HN.out))).mono ?_); rintro e w5 ⟨rfl, hb5⟩; have H5 : Hid (Below W0.heap.size W0 w5) := Lib.hid (H4.out.trans (hb5.mono H4.out.size)); clear hb5; have d10 : w5.cell? ⟨N, 10, none⟩ = some (.int .i64 sc) := (HBX.out.under H5.out).cell 10))
               go_ret
               exact ⟨ret_bool HQ.out, HB.out.trans (H5.out.mono HN.out)⟩
         · have hlr0 : (nR : Int) ≤ 0 := by omega
           cases sd with
           | true =>
             have HQ : Hid (r = false) := Lib.hid (by rw [HX.out]; simp [hlr])
             go_wp2_with (first
              | (go_at_call 109; (with_reducible refine (HLC.out _ (HB.out.trans (H0.out.mono HN.out))).mono ?_); rintro e w1 ⟨rfl, hb1⟩; have H1 : Hid (Below W0.heap.size W0 w1) := Lib.hid (H0.out.trans (hb1.mono H0.out.size)); clear hb1; have d5 : w1.cell? ⟨N, 5, none⟩ = some (.slice AE nE kE) := (HBX.out.under H1.out).cell 5)
              | (go_at_call 112; (with_reducible refine (HLE.out _ (HB.out.trans (H1.out.mono HN.out))).mono ?_); rintro e w2 ⟨rfl, hb2⟩; have H2 : Hid (Below W0.heap.size W0 w2) := Lib.hid (H1.out.trans (hb2.mono H1.out.size)); clear hb2; have d6 : w2.cell? ⟨N, 6, none⟩ = some (.slice AR nR kR) := (HBX.out.under H2.out).cell 6)
              | (go_at_call 115; (with_reducible refine (HLR.out _ (HB.out.trans (H2.out.mono HN.out))).mono ?_); rintro e w3 ⟨rfl, hb3⟩; have H3 : Hid (Below W0.heap.size W0 w3) := Lib.hid (H2.out.trans (hb3.mono H2.out.size)); clear hb3; have d6 : w3.cell? ⟨N, 6, none⟩ = some (.slice AR nR kR) := (HBX.out.under H3.out).cell 6; have d7 : w3.cell? ⟨N, 7, none⟩ = some (.bool true) := (HBX.out.under H3.out).cell 7; have d8 : w3.cell? ⟨N, 8, none⟩ = some (.slice AS nS kS) := (HBX.out.under H3.out).cell 8))
             go_ret
             exact ⟨ret_bool HQ.out.symm, HB.out.trans (H3.out.mono HN.out)⟩
           | false =>
             have hsx : (1 ≤ nR ∨ false = false) := .inr rfl
             cases tS with
             | false =>
               have HQ : Hid (r = false) := Lib.hid (by rw [HX.out]; simp)
               go_wp2_with (first
                | (go_at_call 109; (with_reducible refine (HLC.out _ (HB.out.trans (H0.out.mono HN.out))).mono ?_); rintro e w1 ⟨rfl, hb1⟩; have H1 : Hid (Below W0.heap.size W0 w1) := Lib.hid (H0.out.trans (hb1.mono H0.out.size)); clear hb1; have d5 : w1.cell? ⟨N, 5, none⟩ = some (.slice AE nE kE) := (HBX.out.under H1.out).cell 5)
                | (go_at_call 112; (with_reducible refine (HLE.out _ (HB.out.trans (H1.out.mono HN.out))).mono ?_); rintro e w2 ⟨rfl, hb2⟩; have H2 : Hid (Below W0.heap.size W0 w2) := Lib.hid (H1.out.trans (hb2.mono H1.out.size)); clear hb2; have d6 : w2.cell? ⟨N, 6, none⟩ = some (.slice AR nR kR) := (HBX.out.under H2.out).cell 6)
                | (go_at_call 115; (with_reducible refine (HLR.out _ (HB.out.trans (H2.out.mono HN.out))).mono ?_); rintro e w3 ⟨rfl, hb3⟩; have H3 : Hid (Below W0.heap.size W0 w3) := Lib.hid (H2.out.trans (hb3.mono H2.out.size)); clear hb3; have d6 : w3.cell? ⟨N, 6, none⟩ = some (.slice AR nR kR) := (HBX.out.under H3.out).cell 6; have d7 : w3.cell? ⟨N, 7, none⟩ = some (.bool false) := (HBX.out.under H3.out).cell 7; have d8 : w3.cell? ⟨N, 8, none⟩ = some (.slice AS nS kS) := (HBX.out.under H3.out).cell 8)
                | (go_at_call 118; (with_reducible refine (HLS.out _ (HB.out.trans (H3.out.mono HN.out))).mono ?_); rintro e w4 ⟨rfl, hb4⟩; have H4 : Hid (Below W0.heap.size W0 w4) := Lib.hid (H3.out.trans (hb4.mono H3.out.size)); clear hb4; have d9 : w4.cell? ⟨N, 9, none⟩ = some (.slice AY nY kY) := (HBX.out.under H4.out).cell 9))
               go_ret
               exact ⟨ret_bool HQ.out.symm, HB.out.trans (H4.out.mono HN.out)⟩
             | true =>
               cases tY with
               | false =>
                 have HQ : Hid (r = false) := Lib.hid (by rw [HX.out]; simp)
                 go_wp2_with (first
                  | (go_at_call 109; (with_reducible refine (HLC.out _ (HB.out.trans (H0.out.mono HN.out))).mono ?_); rintro e w1 ⟨rfl, hb1⟩; have H1 : Hid (Below W0.heap.size W0 w1) := Lib.hid (H0.out.trans (hb1.mono H0.out.size)); clear hb1; have d5 : w1.cell? ⟨N, 5, none⟩ = some (.slice AE nE kE) := (HBX.out.under H1.out).cell 5)
                  | (go_at_call 112; (with_reducible refine (HLE.out _ (HB.out.trans (H1.out.mono HN.out))).mono ?_); rintro e w2 ⟨rfl, hb2⟩; have H2 : Hid (Below W0.heap.size W0 w2) := Lib.hid (H1.out.trans (hb2.mono H1.out.size)); clear hb2; have d6 : w2.cell? ⟨N, 6, none⟩ = some (.slice AR nR kR) := (HBX.out.under H2.out).cell 6)
                  | (go_at_call 115; (with_reducible refine (HLR.out _ (HB.out.trans (H2.out.mono HN.out))).mono ?_); rintro e w3 ⟨rfl, hb3⟩; have H3 : Hid (Below W0.heap.size W0 w3) := Lib.hid (H2.out.trans (hb3.mono H2.out.size)); clear hb3; have d6 : w3.cell? ⟨N, 6, none⟩ = some (.slice AR nR kR) := (HBX.out.under H3.out).cell 6; have d7 : w3.cell? ⟨N, 7, none⟩ = some (.bool false) := (HBX.out.under H3.out).cell 7; have d8 : w3.cell? ⟨N, 8, none⟩ = some (.slice AS nS kS) := (HBX.out.under H3.out).cell 8)
                  | (go_at_call 118; (with_reducible refine (HLS.out _ (HB.out.trans (H3.out.mono HN.out))).mono ?_); rintro e w4 ⟨rfl, hb4⟩; have H4 : Hid (Below W0.heap.size W0 w4) := Lib.hid (H3.out.trans (hb4.mono H3.out.size)); clear hb4; have d9 : w4.cell? ⟨N, 9, none⟩ = some (.slice AY nY kY) := (HBX.out.under H4.out).cell 9)
                  | (go_at_call 121; (with_reducible refine (HLY.out _ (HB.out.trans (H4.out.mono HN.out))).mono ?_); rintro e w5 ⟨rfl, hb5⟩; have H5 : Hid (Below W0.heap.size W0 w5) := Lib.hid (H4.out.trans (hb5.mono H4.out.size)); clear hb5; have d10 : w5.cell? ⟨N, 10, none⟩ = some (.int .i64 sc) := (HBX.out.under H5.out).cell 10))
                 go_ret
                 exact ⟨ret_bool HQ.out.symm, HB.out.trans (H5.out.mono HN.out)⟩
               | true =>
                 have HQ : Hid ((sc == 0) = r) := Lib.hid (by rw [HX.out]; rw [Bool.eq_iff_iff]; simp [hl1, hsx])
                 go_wp2_with (first
                  | (go_at_call 109; (with_reducible refine (HLC.out _ (HB.out.trans (H0.out.mono HN.out))).mono ?_); rintro e w1 ⟨rfl, hb1⟩; have H1 : Hid (Below W0.heap.size W0 w1) := Lib.hid (H0.out.trans (hb1.mono H0.out.size)); clear hb1; have d5 : w1.cell? ⟨N, 5, none⟩ = some (.slice AE nE kE) := (HBX.out.under H1.out).cell 5)
                  | (go_at_call 112; (with_reducible refine (HLE.out _ (HB.out.trans (H1.out.mono HN.out))).mono ?_); rintro e w2 ⟨rfl, hb2⟩; have H2 : Hid (Below W0.heap.size W0 w2) := Lib.hid (H1.out.trans (hb2.mono H1.out.size)); clear hb2; have d6 : w2.cell? ⟨N, 6, none⟩ = some (.slice AR nR kR) := (HBX.out.under H2.out).cell 6)
                  | (go_at_call 115; (with_reducible refine (HLR.out _ (HB.out.trans (H2.out.mono HN.out))).mono ?_); rintro e w3 ⟨rfl, hb3⟩; have H3 : Hid (Below W0.heap.size W0 w3) := Lib.hid (H2.out.trans (hb3.mono H2.out.size)); clear hb3; have d6 : w3.cell? ⟨N, 6, none⟩ = some (.slice AR nR kR) := (HBX.out.under H3.out).cell 6; have d7 : w3.cell? ⟨N, 7, none⟩ = some (.bool false) := (HBX.out.under H3.out).cell 7; have d8 : w3.cell? ⟨N, 8, none⟩ = some (.slice AS nS kS) := (HBX.out.under H3.out).cell 8)
                  | (go_at_call 118; (with_reducible refine (HLS.out _ (HB.out.trans (H3.out.mono HN.out))).mono ?_); rintro e w4 ⟨rfl, hb4⟩; have H4 : Hid (Below W0.heap.size W0 w4) := Lib.hid (H3.out.trans (hb4.mono H3.out.size)); clear hb4; have d9 : w4.cell? ⟨N, 9, none⟩ = some (.slice AY nY kY) := (HBX.out.under H4.out).cell 9)
                  | (go_at_call 121; (with_reducible refine (HLY.out _ (HB.out.trans (H4.out.mono HN.out))).mono ?_); rintro e w5 ⟨rfl, hb5⟩; have H5 : Hid (Below W0.heap.size W0 w5) := Lib.hid (H4.out.trans (hb5.mono H4.out.size)); clear hb5; have d10 : w5.cell? ⟨N, 10, none⟩ = some (.int .i64 sc) := (HBX.out.under H5.out).cell 10))
                 go_ret
                 exact ⟨ret_bool HQ.out, HB.out.trans (H5.out.mono HN.out)⟩
 · have hl10 : (nC : Int) ≤ 0 := by omega
   have HQ : Hid (r = false) := Lib.hid (by rw [HX.out]; simp [hl1])
   go_wp2
   go_ret
   exact ⟨ret_bool HQ.out.symm, HB.out⟩
set_option maxHeartbeats 3200000 in
set_option maxRecDepth 100000 in
theorem goodChannel_any (M : Array Value) (m : MediaS) (vC vE vR vS vY : Value) (w : World) (h : MediaV w w.heap.size M m vC vE vR vS vY) (hz : SizM m) :
 Calls Tryz.prog 66 #[.agg M] w fun e w' => e = .returned (.bool (goodChannel m)) ∧ Below w.heap.size w w' := by
 obtain ⟨AC, kC, AE, kE, AR, kR, AS, kS, AY, kY, rfl, rfl, rfl, rfl, rfl⟩ := h.forms
 obtain ⟨hform, hvC, hvE, hvR, hvS, hvY⟩ := h
 subst hform
 obtain ⟨nC, hnC⟩ : ∃ n, m.codecs.length = n := ⟨_, rfl⟩
 obtain ⟨nE, hnE⟩ : ∃ n, m.exts.length = n := ⟨_, rfl⟩
 obtain ⟨nR, hnR⟩ : ∃ n, m.rids.length = n := ⟨_, rfl⟩
 obtain ⟨nS, hnS⟩ : ∃ n, m.sources.length = n := ⟨_, rfl⟩
 obtain ⟨nY, hnY⟩ : ∃ n, m.crypto.length = n := ⟨_, rfl⟩
 obtain ⟨hc1, hc2, hc3, hc4, hc5⟩ := hz.counts
 rw [hnC] at hvC hc1
 rw [hnE] at hvE hc2
 rw [hnR] at hvR hc3
 rw [hnS] at hvS hc4
 rw [hnY] at hvY hc5
 rw [hnC, hnE, hnR, hnS, hnY]
 have hb0 : Below w.heap.size w (w.alloc (.cells #[.int .i64 m.kind, .int .i64 m.port, .string m.mid, .int .i64 m.dir, .slice AC nC kC, .slice AE nE kE, .slice AR nR kR, .bool m.sending, .slice AS nS kS, .slice AY nY kY, .int .i64 m.sctp] 32)) := (Below.refl _ w).alloc (Nat.le_refl _) _
 have hw := Whole.new w 32 #[.int .i64 m.kind, .int .i64 m.port, .string m.mid, .int .i64 m.dir, .slice AC nC kC, .slice AE nE kE, .slice AR nR kR, .bool m.sending, .slice AS nS kS, .slice AY nY kY, .int .i64 m.sctp]
 have hx : goodChannel m = (decide (nC + nE + nR + nS + nY = 0) && (!m.sending && (decide (1 ≤ m.sctp) && decide (m.sctp ≤ 65535)))) := by
  unfold goodChannel
  rw [hnC, hnE, hnR, hnS, hnY]
  simp [Bool.and_assoc]
 have HX := Lib.hid hx
 have HB := Lib.hid hb0
 have HW := Lib.hid (within_any m.sctp 1 65535 (w.alloc (.cells #[.int .i64 m.kind, .int .i64 m.port, .string m.mid, .int .i64 m.dir, .slice AC nC kC, .slice AE nE kE, .slice AR nR kR, .bool m.sending, .slice AS nS kS, .slice AY nY kY, .int .i64 m.sctp] 32)))
 have c4 := hw.cell 4
 have c5 := hw.cell 5
 have c6 := hw.cell 6
 have c7 := hw.cell 7
 have c8 := hw.cell 8
 have c9 := hw.cell 9
 have c10 := hw.cell 10
 simp only [List.getElem?_toArray, List.getElem?_cons_zero, List.getElem?_cons_succ] at c4 c5 c6 c7 c8 c9 c10
 generalize goodChannel m = r at *
 generalize (decide (1 ≤ m.sctp) && decide (m.sctp ≤ 65535)) = t at *
 generalize m.sctp = sc at *
 generalize m.sending = sd at *
 clear hx hvC hvE hvR hvS hvY hz hnC hnE hnR hnS hnY hb0 hw
 have w1 : IntKind.i64.wrap ((nC : Int) + (nE : Int)) = (nC : Int) + (nE : Int) := IntWalk.i64_in _ (by omega)
 have w2 : IntKind.i64.wrap ((nC : Int) + (nE : Int) + (nR : Int)) = (nC : Int) + (nE : Int) + (nR : Int) := IntWalk.i64_in _ (by omega)
 have w3 : IntKind.i64.wrap ((nC : Int) + (nE : Int) + (nR : Int) + (nS : Int)) = (nC : Int) + (nE : Int) + (nR : Int) + (nS : Int) := IntWalk.i64_in _ (by omega)
 have w4 : IntKind.i64.wrap ((nC : Int) + (nE : Int) + (nR : Int) + (nS : Int) + (nY : Int)) = (nC : Int) + (nE : Int) + (nR : Int) + (nS : Int) + (nY : Int) := IntWalk.i64_in _ (by omega)
 obtain ⟨N, hN⟩ : ∃ N, w.heap.size = N := ⟨_, rfl⟩
 rw [hN] at HB c4 c5 c6 c7 c8 c9 c10 ⊢
 by_cases hs : nC + nE + nR + nS + nY = 0
 · have hz : ((nC : Int) + (nE : Int) + (nR : Int) + (nS : Int) + (nY : Int) == 0) = true := by rw [beq_iff_eq]; omega
   cases sd with
   | false =>
     have HQ : Hid (t = r) := Lib.hid (by rw [HX.out, decide_eq_true hs]; simp)
     clear hs
     go_enter Tryz.func66, Tryz.ntmps66
     go_wp2_with (go_at_call 64; (with_reducible refine HW.out.mono ?_); rintro e w' ⟨rfl, rfl⟩)
     go_ret
     exact ⟨ret_bool HQ.out, HB.out⟩
   | true =>
     have HQ : Hid (r = false) := Lib.hid (by rw [HX.out]; simp)
     clear hs
     go_enter Tryz.func66, Tryz.ntmps66
     go_wp2
     go_ret
     exact ⟨ret_bool HQ.out.symm, HB.out⟩
 · have hz : ((nC : Int) + (nE : Int) + (nR : Int) + (nS : Int) + (nY : Int) == 0) = false := by rw [beq_eq_false_iff_ne]; omega
   have HQ : Hid (r = false) := Lib.hid (by rw [HX.out, decide_eq_false hs]; rfl)
   clear hs
   go_enter Tryz.func66, Tryz.ntmps66
   go_wp2
   go_ret
   exact ⟨ret_bool HQ.out.symm, HB.out⟩
set_option maxHeartbeats 6400000 in
set_option maxRecDepth 100000 in
theorem good_any (M : Array Value) (m : MediaS) (vC vE vR vS vY : Value) (w : World) (h : MediaV w w.heap.size M m vC vE vR vS vY) (hz : SizM m) :
 Calls Tryz.prog 30 #[.agg M] w fun e w' => e = .returned (.bool (goodM m)) ∧ Below w.heap.size w w' := by
 have hb0 : Below w.heap.size w (w.alloc (.cells M 32)) := (Below.refl _ w).alloc (Nat.le_refl _) _
 have hw := Whole.new w 32 M
 have h0 := h.under hb0
 have hform := h.form
 have c0 : (w.alloc (.cells M 32)).cell? ⟨w.heap.size, 0, none⟩ = some (.int .i64 m.kind) := (hw.cell 0).trans (by rw [hform]; rfl)
 have c1 : (w.alloc (.cells M 32)).cell? ⟨w.heap.size, 1, none⟩ = some (.int .i64 m.port) := (hw.cell 1).trans (by rw [hform]; rfl)
 have c2 : (w.alloc (.cells M 32)).cell? ⟨w.heap.size, 2, none⟩ = some (.string m.mid) := (hw.cell 2).trans (by rw [hform]; rfl)
 have c3 : (w.alloc (.cells M 32)).cell? ⟨w.heap.size, 3, none⟩ = some (.int .i64 m.dir) := (hw.cell 3).trans (by rw [hform]; rfl)
 have HS := Lib.hid (goodStreams_any M m vC vE vR vS vY _ h0 hz)
 have HCH := Lib.hid (goodChannel_any M m vC vE vR vS vY _ h0 hz)
 have HWO : Hid (Calls Tryz.prog 63 #[.string m.mid, .int .i64 16] (w.alloc (.cells M 32)) fun e w' => e = .returned (.bool (wordP 1 16 (tx m.mid))) ∧ (w.alloc (.cells M 32)) = w') := Lib.hid (wordOf_any m.mid 16 _ (by have := hz.mid; unfold maxLen; omega) (by decide))
 have HWI := Lib.hid (within_any m.dir 0 3 (w.alloc (.cells M 32)))
 have hx : goodM m = (((decide (m.port = 0) || decide (m.port = 9)) && (wordP 1 16 (tx m.mid) && (decide (0 ≤ m.dir) && decide (m.dir ≤ 3)))) && ((decide (m.kind = 1) || decide (m.kind = 2)) && goodStreams m || decide (m.kind = 3) && goodChannel m)) := by
  unfold goodM goodHead
  simp only [Bool.and_assoc]
 have HX := Lib.hid hx
 have HB := Lib.hid (And.intro hb0 (And.intro hw h.size))
 generalize goodM m = r at *
 generalize goodStreams m = gs at *
 generalize goodChannel m = gc at *
 generalize (decide (0 ≤ m.dir) && decide (m.dir ≤ 3)) = td at *
 generalize wordP 1 16 (tx m.mid) = tw at *
 generalize m.port = p at *
 generalize m.kind = k at *
 generalize m.dir = d at *
 generalize m.mid = md at *
 clear h h0 hz hx hb0 hw hform
 obtain ⟨N, hN⟩ : ∃ N, w.heap.size = N := ⟨_, rfl⟩
 have HSZ : Hid (N ≤ (w.alloc (.cells M 32)).heap.size) := Lib.hid (by rw [← hN]; exact HB.out.1.size)
 rw [hN] at c0 c1 c2 c3 HB ⊢
 have hgen : ∃ W0, w.alloc (.cells M 32) = W0 := ⟨_, rfl⟩
 go_enter Tryz.func30, Tryz.ntmps30
 go_upto_region 1 with fail
 generalize w.alloc (.cells M 32) = W0 at *
 clear hN hgen
 by_cases hp0 : p = 0
 · subst hp0
   cases tw with
   | false =>
     have HQ : Hid (r = false) := Lib.hid (by rw [HX.out]; simp)
     go_wp2_with (first
      | (go_at_call 63; (with_reducible refine HWO.out.mono ?_); rintro e w' ⟨rfl, rfl⟩))
     go_ret
     exact ⟨ret_bool HQ.out.symm, HB.out.1⟩
   | true =>
     cases td with
     | false =>
       have HQ : Hid (r = false) := Lib.hid (by rw [HX.out]; simp)
       go_wp2_with (first
        | (go_at_call 63; (with_reducible refine HWO.out.mono ?_); rintro e w' ⟨rfl, rfl⟩)
        | (go_at_call 64; (with_reducible refine HWI.out.mono ?_); rintro e w' ⟨rfl, rfl⟩))
       go_ret
       exact ⟨ret_bool HQ.out.symm, HB.out.1⟩
     | true =>
       by_cases hk1 : k = 1
       · subst hk1
         have HQ : Hid (gs = r) := Lib.hid (by rw [HX.out]; simp)
         go_wp2_with (first
          | (go_at_call 63; (with_reducible refine HWO.out.mono ?_); rintro e w' ⟨rfl, rfl⟩)
          | (go_at_call 64; (with_reducible refine HWI.out.mono ?_); rintro e w' ⟨rfl, rfl⟩)
          | ((with_reducible refine wpList_load_all ?_ 32 (.tmp 1) ?_ HB.out.2.1 ?_ Tryz.sizeMedia HB.out.2.2 Tryz.underlying32 ?_ ?_); (with_reducible rfl); (with_reducible rfl); rfl; rfl)
          | (go_at_call 65; (with_reducible refine HS.out.mono ?_); rintro e w2 ⟨rfl, hb2⟩))
         go_ret
         exact ⟨ret_bool HQ.out, HB.out.1.trans (hb2.mono HSZ.out)⟩
       · by_cases hk2 : k = 2
         · subst hk2
           have HQ : Hid (gs = r) := Lib.hid (by rw [HX.out]; simp)
           go_wp2_with (first
            | (go_at_call 63; (with_reducible refine HWO.out.mono ?_); rintro e w' ⟨rfl, rfl⟩)
            | (go_at_call 64; (with_reducible refine HWI.out.mono ?_); rintro e w' ⟨rfl, rfl⟩)
            | ((with_reducible refine wpList_load_all ?_ 32 (.tmp 1) ?_ HB.out.2.1 ?_ Tryz.sizeMedia HB.out.2.2 Tryz.underlying32 ?_ ?_); (with_reducible rfl); (with_reducible rfl); rfl; rfl)
            | (go_at_call 65; (with_reducible refine HS.out.mono ?_); rintro e w2 ⟨rfl, hb2⟩))
           go_ret
           exact ⟨ret_bool HQ.out, HB.out.1.trans (hb2.mono HSZ.out)⟩
         · by_cases hk3 : k = 3
           · subst hk3
             have HQ : Hid (gc = r) := Lib.hid (by rw [HX.out]; simp)
             go_wp2_with (first
              | (go_at_call 63; (with_reducible refine HWO.out.mono ?_); rintro e w' ⟨rfl, rfl⟩)
              | (go_at_call 64; (with_reducible refine HWI.out.mono ?_); rintro e w' ⟨rfl, rfl⟩)
              | ((with_reducible refine wpList_load_all ?_ 32 (.tmp 1) ?_ HB.out.2.1 ?_ Tryz.sizeMedia HB.out.2.2 Tryz.underlying32 ?_ ?_); (with_reducible rfl); (with_reducible rfl); rfl; rfl)
              | (go_at_call 66; (with_reducible refine HCH.out.mono ?_); rintro e w2 ⟨rfl, hb2⟩))
             go_ret
             exact ⟨ret_bool HQ.out, HB.out.1.trans (hb2.mono HSZ.out)⟩
           · have q1 : (k == 1) = false := by simpa using hk1
             have q2 : (k == 2) = false := by simpa using hk2
             have q3 : (k == 3) = false := by simpa using hk3
             have HQ : Hid (r = false) := Lib.hid (by rw [HX.out]; simp [hk1, hk2, hk3])
             go_wp2_with (first
              | (go_at_call 63; (with_reducible refine HWO.out.mono ?_); rintro e w' ⟨rfl, rfl⟩)
              | (go_at_call 64; (with_reducible refine HWI.out.mono ?_); rintro e w' ⟨rfl, rfl⟩))
             go_ret
             exact ⟨ret_bool HQ.out.symm, HB.out.1⟩
 · have q0 : (p == 0) = false := by simpa using hp0
   by_cases hp9 : p = 9
   · subst hp9
     cases tw with
     | false =>
       have HQ : Hid (r = false) := Lib.hid (by rw [HX.out]; simp)
       go_wp2_with (first
        | (go_at_call 63; (with_reducible refine HWO.out.mono ?_); rintro e w' ⟨rfl, rfl⟩))
       go_ret
       exact ⟨ret_bool HQ.out.symm, HB.out.1⟩
     | true =>
       cases td with
       | false =>
         have HQ : Hid (r = false) := Lib.hid (by rw [HX.out]; simp)
         go_wp2_with (first
          | (go_at_call 63; (with_reducible refine HWO.out.mono ?_); rintro e w' ⟨rfl, rfl⟩)
          | (go_at_call 64; (with_reducible refine HWI.out.mono ?_); rintro e w' ⟨rfl, rfl⟩))
         go_ret
         exact ⟨ret_bool HQ.out.symm, HB.out.1⟩
       | true =>
         by_cases hk1 : k = 1
         · subst hk1
           have HQ : Hid (gs = r) := Lib.hid (by rw [HX.out]; simp)
           go_wp2_with (first
            | (go_at_call 63; (with_reducible refine HWO.out.mono ?_); rintro e w' ⟨rfl, rfl⟩)
            | (go_at_call 64; (with_reducible refine HWI.out.mono ?_); rintro e w' ⟨rfl, rfl⟩)
            | ((with_reducible refine wpList_load_all ?_ 32 (.tmp 1) ?_ HB.out.2.1 ?_ Tryz.sizeMedia HB.out.2.2 Tryz.underlying32 ?_ ?_); (with_reducible rfl); (with_reducible rfl); rfl; rfl)
            | (go_at_call 65; (with_reducible refine HS.out.mono ?_); rintro e w2 ⟨rfl, hb2⟩))
           go_ret
           exact ⟨ret_bool HQ.out, HB.out.1.trans (hb2.mono HSZ.out)⟩
         · by_cases hk2 : k = 2
           · subst hk2
             have HQ : Hid (gs = r) := Lib.hid (by rw [HX.out]; simp)
             go_wp2_with (first
              | (go_at_call 63; (with_reducible refine HWO.out.mono ?_); rintro e w' ⟨rfl, rfl⟩)
              | (go_at_call 64; (with_reducible refine HWI.out.mono ?_); rintro e w' ⟨rfl, rfl⟩)
              | ((with_reducible refine wpList_load_all ?_ 32 (.tmp 1) ?_ HB.out.2.1 ?_ Tryz.sizeMedia HB.out.2.2 Tryz.underlying32 ?_ ?_); (with_reducible rfl); (with_reducible rfl); rfl; rfl)
              | (go_at_call 65; (with_reducible refine HS.out.mono ?_); rintro e w2 ⟨rfl, hb2⟩))
             go_ret
             exact ⟨ret_bool HQ.out, HB.out.1.trans (hb2.mono HSZ.out)⟩
           · by_cases hk3 : k = 3
             · subst hk3
               have HQ : Hid (gc = r) := Lib.hid (by rw [HX.out]; simp)
               go_wp2_with (first
                | (go_at_call 63; (with_reducible refine HWO.out.mono ?_); rintro e w' ⟨rfl, rfl⟩)
                | (go_at_call 64; (with_reducible refine HWI.out.mono ?_); rintro e w' ⟨rfl, rfl⟩)
                | ((with_reducible refine wpList_load_all ?_ 32 (.tmp 1) ?_ HB.out.2.1 ?_ Tryz.sizeMedia HB.out.2.2 Tryz.underlying32 ?_ ?_); (with_reducible rfl); (with_reducible rfl); rfl; rfl)
                | (go_at_call 66; (with_reducible refine HCH.out.mono ?_); rintro e w2 ⟨rfl, hb2⟩))
               go_ret
               exact ⟨ret_bool HQ.out, HB.out.1.trans (hb2.mono HSZ.out)⟩
             · have q1 : (k == 1) = false := by simpa using hk1
               have q2 : (k == 2) = false := by simpa using hk2
               have q3 : (k == 3) = false := by simpa using hk3
               have HQ : Hid (r = false) := Lib.hid (by rw [HX.out]; simp [hk1, hk2, hk3])
               go_wp2_with (first
                | (go_at_call 63; (with_reducible refine HWO.out.mono ?_); rintro e w' ⟨rfl, rfl⟩)
                | (go_at_call 64; (with_reducible refine HWI.out.mono ?_); rintro e w' ⟨rfl, rfl⟩))
               go_ret
               exact ⟨ret_bool HQ.out.symm, HB.out.1⟩
   · have q9 : (p == 9) = false := by simpa using hp9
     have HQ : Hid (r = false) := Lib.hid (by rw [HX.out]; simp [hp0, hp9])
     go_wp2
     go_ret
     exact ⟨ret_bool HQ.out.symm, HB.out.1⟩
end Go.Proofs.YtlekmakofkpcdaaGreatDoor
