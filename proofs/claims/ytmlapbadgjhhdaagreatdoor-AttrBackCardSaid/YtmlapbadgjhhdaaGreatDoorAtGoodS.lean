/- The program's Good. -/
import Derived.Test.YtmlapbadgjhhdaaGreatDoorAtGoodC
namespace Go.Proofs.YtmlapbadgjhhdaaGreatDoor
open Go.RowKit
set_option linter.unusedVariables false
set_option linter.unusedSimpArgs false

/-- A section's slices written out. -/
theorem MediaV.forms {w : World} {B : Nat} {M : Array Value} {m : MediaS} {vC vE vR vS vY : Value} (h : MediaV w B M m vC vE vR vS vY) :
    ∃ AC kC AE kE AR kR AS kS AY kY, vC = .slice AC m.codecs.length kC ∧ vE = .slice AE m.exts.length kE ∧ vR = .slice AR m.rids.length kR ∧ vS = .slice AS m.sources.length kS ∧ vY = .slice AY m.crypto.length kY := by
  obtain ⟨AC, kC, e1, -⟩ := Rows.form h.codecs
  obtain ⟨AE, kE, e2, -⟩ := Rows.form h.exts
  obtain ⟨AR, kR, e3, -⟩ := Rows.form h.rids
  obtain ⟨AS, kS, e4, -⟩ := Rows.form h.sources
  obtain ⟨AY, kY, e5, -⟩ := Rows.form h.crypto
  exact ⟨AC, kC, AE, kE, AR, kR, AS, kS, AY, kY, e1, e2, e3, e4, e5⟩
theorem getD_default {α : Type} [Inhabited α] {L : List α} {x : α} (h : x ∈ L) : x ∈ L := h

set_option maxHeartbeats 6400000 in
set_option maxRecDepth 100000 in
theorem goodStreams_any (M : Array Value) (m : MediaS) (vC vE vR vS vY : Value) (w : World) (h : MediaV w w.heap.size M m vC vE vR vS vY) (hz : SizM m) :
    Calls Tryz.prog 28 #[.agg M] w fun e w' => e = .returned (.bool (goodStreams m)) ∧ Below w.heap.size w w' := by
  obtain ⟨AC, kC, AE, kE, AR, kR, AS, kS, AY, kY, rfl, rfl, rfl, rfl, rfl⟩ := h.forms
  obtain ⟨hform, hvC, hvE, hvR, hvS, hvY⟩ := h
  subst hform
  obtain ⟨nC, hnC⟩ : ∃ n, m.codecs.length = n := ⟨_, rfl⟩
  obtain ⟨nE, hnE⟩ : ∃ n, m.exts.length = n := ⟨_, rfl⟩
  obtain ⟨nR, hnR⟩ : ∃ n, m.rids.length = n := ⟨_, rfl⟩
  obtain ⟨nS, hnS⟩ : ∃ n, m.sources.length = n := ⟨_, rfl⟩
  obtain ⟨nY, hnY⟩ : ∃ n, m.crypto.length = n := ⟨_, rfl⟩
  obtain ⟨hc1, hc2, hc3, hc4, hc5⟩ := hz.counts
  rw [hnC] at hvC hc1
  rw [hnE] at hvE hc2
  rw [hnR] at hvR hc3
  rw [hnS] at hvS hc4
  rw [hnY] at hvY hc5
  rw [hnC, hnE, hnR, hnS, hnY]
  have hb0 : Below w.heap.size w (w.alloc (.cells #[.int .i64 m.kind, .int .i64 m.port, .string m.mid, .int .i64 m.dir, .slice AC nC kC, .slice AE nE kE, .slice AR nR kR, .bool m.sending, .slice AS nS kS, .slice AY nY kY, .int .i64 m.sctp] 28)) := (Below.refl _ w).alloc (Nat.le_refl _) _
  have hw := Whole.new w 28 #[.int .i64 m.kind, .int .i64 m.port, .string m.mid, .int .i64 m.dir, .slice AC nC kC, .slice AE nE kE, .slice AR nR kR, .bool m.sending, .slice AS nS kS, .slice AY nY kY, .int .i64 m.sctp]
  have hx : goodStreams m = (decide (1 ≤ nC) && ((decide (nC ≤ 16) && m.codecs.all goodC && unlike CodecS.type m.codecs) && ((decide (nE ≤ 14) && m.exts.all goodE && unlike ExtS.id m.exts) && ((decide (nR ≤ 3) && m.rids.all goodR && unlike tx m.rids) && ((decide (1 ≤ nR) || !m.sending) && ((decide (nS ≤ 16) && m.sources.all (fun _ => true) && unlike id m.sources) && ((decide (nY ≤ 1) && m.crypto.all goodY) && decide (m.sctp = 0)))))))) := by
    unfold goodStreams
    rw [hnC, hnE, hnR, hnS, hnY, show (m.sources.all fun _ => true) = true from List.all_eq_true.2 (fun _ _ => rfl)]
    simp [Bool.and_assoc]
  have HLC : Hid (∀ W, Below w.heap.size w W → Calls Tryz.prog 53 #[.slice AC nC kC, .int .i64 16, .func (.func 54) #[] #[], .func (.func 55) #[] #[]] W fun e w' => e = .returned (.bool (decide (nC ≤ 16) && m.codecs.all goodC && unlike CodecS.type m.codecs)) ∧ Below W.heap.size W w') := Lib.hid fun W hW =>
    goodListC_any AC nC kC m.codecs goodC W ((hvC.below hW).more hW.size) hnC (by omega) fun W' x vf _ hx hv => by
      obtain ⟨Af, kf, rfl, -⟩ := Rows.form hv
      exact goodCodec_any x Af _ kf W' (hv.more (Nat.le_trans (by omega) (by assumption : Below W.heap.size W W').size)) (hz.names x hx) (hz.feeds x hx)
  have HLE : Hid (∀ W, Below w.heap.size w W → Calls Tryz.prog 56 #[.slice AE nE kE, .int .i64 14, .func (.func 57) #[] #[], .func (.func 58) #[] #[]] W fun e w' => e = .returned (.bool (decide (nE ≤ 14) && m.exts.all goodE && unlike ExtS.id m.exts)) ∧ Below W.heap.size W w') := Lib.hid fun W hW =>
    goodListE_any AE nE kE m.exts goodE W ((hvE.below hW).more hW.size) hnE (by omega) fun W' x _ hx => goodExt_any x W' (by have := hz.uris x hx; unfold maxLen; omega)
  have HLR : Hid (∀ W, Below w.heap.size w W → Calls Tryz.prog 59 #[.slice AR nR kR, .int .i64 3, .func (.func 60) #[] #[], .func (.func 61) #[] #[]] W fun e w' => e = .returned (.bool (decide (nR ≤ 3) && m.rids.all goodR && unlike tx m.rids)) ∧ Below W.heap.size W w') := Lib.hid fun W hW =>
    goodListS_any AR nR kR m.rids goodR W ((hvR.below hW).more hW.size) hnR (by omega) fun W' x _ hx => (goodRid_any x W' (by have := hz.rids x hx; unfold maxLen; omega)).mono fun e w' ⟨h1, h2⟩ => ⟨h1, h2 ▸ Below.refl _ _⟩
  have HLS : Hid (∀ W, Below w.heap.size w W → Calls Tryz.prog 62 #[.slice AS nS kS, .int .i64 16, .func (.func 63) #[] #[], .func (.func 64) #[] #[]] W fun e w' => e = .returned (.bool (decide (nS ≤ 16) && m.sources.all (fun _ => true) && unlike id m.sources)) ∧ Below W.heap.size W w') := Lib.hid fun W hW =>
    goodListU_any AS nS kS m.sources (fun _ => true) W ((hvS.below hW).more hW.size) hnS (by omega) fun W' x _ hx => (anySource_any _ W').mono fun e w' ⟨h1, h2⟩ => ⟨h1, h2 ▸ Below.refl _ _⟩
  have HLY : Hid (∀ W, Below w.heap.size w W → Calls Tryz.prog 65 #[.slice AY nY kY, .int .i64 1, .func (.func 66) #[] #[], .func (.func 67) #[] #[]] W fun e w' => e = .returned (.bool (decide (nY ≤ 1) && m.crypto.all goodY)) ∧ Below W.heap.size W w') := Lib.hid fun W hW =>
    goodListY_any AY nY kY m.crypto W ((hvY.below hW).more hW.size) hnY (by omega)
  have HX := Lib.hid hx
  generalize goodStreams m = r at *
  generalize (decide (nC ≤ 16) && m.codecs.all goodC && unlike CodecS.type m.codecs) = tC at *
  generalize (decide (nE ≤ 14) && m.exts.all goodE && unlike ExtS.id m.exts) = tE at *
  generalize (decide (nR ≤ 3) && m.rids.all goodR && unlike tx m.rids) = tR at *
  generalize (decide (nS ≤ 16) && m.sources.all (fun _ => true) && unlike id m.sources) = tS at *
  generalize (decide (nY ≤ 1) && m.crypto.all goodY) = tY at *
  obtain ⟨sd, hsd⟩ : ∃ b, m.sending = b := ⟨_, rfl⟩
  obtain ⟨sc, hsc⟩ : ∃ b, m.sctp = b := ⟨_, rfl⟩
  rw [hsd] at HX
  rw [hsc] at HX
  simp only [hsd, hsc] at hb0 hw ⊢
  clear hx hvC hvE hvR hvS hvY hz hnC hnE hnR hnS hnY hsd hsc
  obtain ⟨N, hN⟩ : ∃ N, w.heap.size = N := ⟨_, rfl⟩
  have HBX := Lib.hid hw
  have HB := Lib.hid hb0
  rw [hN] at HBX HB HLC HLE HLR HLS HLY ⊢
  clear hb0 hw
  go_enter Tryz.func28, Tryz.ntmps28
  go_upto_region 1 with fail
  generalize w.alloc (.cells #[.int .i64 m.kind, .int .i64 m.port, .string m.mid, .int .i64 m.dir, .slice AC nC kC, .slice AE nE kE, .slice AR nR kR, .bool sd, .slice AS nS kS, .slice AY nY kY, .int .i64 sc] 28) = W0 at *
  have HN : Hid (N ≤ W0.heap.size) := Lib.hid (Nat.le_of_lt HBX.out.lt)
  clear hN
  have H0 : Hid (Below W0.heap.size W0 W0) := Lib.hid (Below.refl _ _)
  have c4 : W0.cell? ⟨N, 4, none⟩ = some (.slice AC nC kC) := HBX.out.cell 4
  by_cases hl1 : 1 ≤ nC
  · have hl10 : (0 : Int) < (nC : Int) := by omega
    cases tC with
    | false =>
      have HQ : Hid (r = false) := Lib.hid (by rw [HX.out]; simp)
      go_wp2_with (first
          | (go_at_call 53; (with_reducible refine (HLC.out _ (HB.out.trans (H0.out.mono HN.out))).mono ?_); rintro e w1 ⟨rfl, hb1⟩; have H1 : Hid (Below W0.heap.size W0 w1) := Lib.hid (H0.out.trans (hb1.mono H0.out.size)); clear hb1; have d5 : w1.cell? ⟨N, 5, none⟩ = some (.slice AE nE kE) := (HBX.out.under H1.out).cell 5))
      go_ret
      exact ⟨ret_bool HQ.out.symm, HB.out.trans (H1.out.mono HN.out)⟩
    | true =>
      cases tE with
      | false =>
        have HQ : Hid (r = false) := Lib.hid (by rw [HX.out]; simp)
        go_wp2_with (first
            | (go_at_call 53; (with_reducible refine (HLC.out _ (HB.out.trans (H0.out.mono HN.out))).mono ?_); rintro e w1 ⟨rfl, hb1⟩; have H1 : Hid (Below W0.heap.size W0 w1) := Lib.hid (H0.out.trans (hb1.mono H0.out.size)); clear hb1; have d5 : w1.cell? ⟨N, 5, none⟩ = some (.slice AE nE kE) := (HBX.out.under H1.out).cell 5)
            | (go_at_call 56; (with_reducible refine (HLE.out _ (HB.out.trans (H1.out.mono HN.out))).mono ?_); rintro e w2 ⟨rfl, hb2⟩; have H2 : Hid (Below W0.heap.size W0 w2) := Lib.hid (H1.out.trans (hb2.mono H1.out.size)); clear hb2; have d6 : w2.cell? ⟨N, 6, none⟩ = some (.slice AR nR kR) := (HBX.out.under H2.out).cell 6))
        go_ret
        exact ⟨ret_bool HQ.out.symm, HB.out.trans (H2.out.mono HN.out)⟩
      | true =>
        cases tR with
        | false =>
          have HQ : Hid (r = false) := Lib.hid (by rw [HX.out]; simp)
          go_wp2_with (first
              | (go_at_call 53; (with_reducible refine (HLC.out _ (HB.out.trans (H0.out.mono HN.out))).mono ?_); rintro e w1 ⟨rfl, hb1⟩; have H1 : Hid (Below W0.heap.size W0 w1) := Lib.hid (H0.out.trans (hb1.mono H0.out.size)); clear hb1; have d5 : w1.cell? ⟨N, 5, none⟩ = some (.slice AE nE kE) := (HBX.out.under H1.out).cell 5)
              | (go_at_call 56; (with_reducible refine (HLE.out _ (HB.out.trans (H1.out.mono HN.out))).mono ?_); rintro e w2 ⟨rfl, hb2⟩; have H2 : Hid (Below W0.heap.size W0 w2) := Lib.hid (H1.out.trans (hb2.mono H1.out.size)); clear hb2; have d6 : w2.cell? ⟨N, 6, none⟩ = some (.slice AR nR kR) := (HBX.out.under H2.out).cell 6)
              | (go_at_call 59; (with_reducible refine (HLR.out _ (HB.out.trans (H2.out.mono HN.out))).mono ?_); rintro e w3 ⟨rfl, hb3⟩; have H3 : Hid (Below W0.heap.size W0 w3) := Lib.hid (H2.out.trans (hb3.mono H2.out.size)); clear hb3; have d6 : w3.cell? ⟨N, 6, none⟩ = some (.slice AR nR kR) := (HBX.out.under H3.out).cell 6; have d7 : w3.cell? ⟨N, 7, none⟩ = some (.bool sd) := (HBX.out.under H3.out).cell 7; have d8 : w3.cell? ⟨N, 8, none⟩ = some (.slice AS nS kS) := (HBX.out.under H3.out).cell 8))
          go_ret
          exact ⟨ret_bool HQ.out.symm, HB.out.trans (H3.out.mono HN.out)⟩
        | true =>
          by_cases hlr : 1 ≤ nR
          · have hlr0 : (0 : Int) < (nR : Int) := by omega
            have hsx : (1 ≤ nR ∨ sd = false) := .inl hlr
            cases tS with
            | false =>
              have HQ : Hid (r = false) := Lib.hid (by rw [HX.out]; simp)
              go_wp2_with (first
                  | (go_at_call 53; (with_reducible refine (HLC.out _ (HB.out.trans (H0.out.mono HN.out))).mono ?_); rintro e w1 ⟨rfl, hb1⟩; have H1 : Hid (Below W0.heap.size W0 w1) := Lib.hid (H0.out.trans (hb1.mono H0.out.size)); clear hb1; have d5 : w1.cell? ⟨N, 5, none⟩ = some (.slice AE nE kE) := (HBX.out.under H1.out).cell 5)
                  | (go_at_call 56; (with_reducible refine (HLE.out _ (HB.out.trans (H1.out.mono HN.out))).mono ?_); rintro e w2 ⟨rfl, hb2⟩; have H2 : Hid (Below W0.heap.size W0 w2) := Lib.hid (H1.out.trans (hb2.mono H1.out.size)); clear hb2; have d6 : w2.cell? ⟨N, 6, none⟩ = some (.slice AR nR kR) := (HBX.out.under H2.out).cell 6)
                  | (go_at_call 59; (with_reducible refine (HLR.out _ (HB.out.trans (H2.out.mono HN.out))).mono ?_); rintro e w3 ⟨rfl, hb3⟩; have H3 : Hid (Below W0.heap.size W0 w3) := Lib.hid (H2.out.trans (hb3.mono H2.out.size)); clear hb3; have d6 : w3.cell? ⟨N, 6, none⟩ = some (.slice AR nR kR) := (HBX.out.under H3.out).cell 6; have d7 : w3.cell? ⟨N, 7, none⟩ = some (.bool sd) := (HBX.out.under H3.out).cell 7; have d8 : w3.cell? ⟨N, 8, none⟩ = some (.slice AS nS kS) := (HBX.out.under H3.out).cell 8)
                  | (go_at_call 62; (with_reducible refine (HLS.out _ (HB.out.trans (H3.out.mono HN.out))).mono ?_); rintro e w4 ⟨rfl, hb4⟩; have H4 : Hid (Below W0.heap.size W0 w4) := Lib.hid (H3.out.trans (hb4.mono H3.out.size)); clear hb4; have d9 : w4.cell? ⟨N, 9, none⟩ = some (.slice AY nY kY) := (HBX.out.under H4.out).cell 9))
              go_ret
              exact ⟨ret_bool HQ.out.symm, HB.out.trans (H4.out.mono HN.out)⟩
            | true =>
              cases tY with
              | false =>
                have HQ : Hid (r = false) := Lib.hid (by rw [HX.out]; simp)
                go_wp2_with (first
                    | (go_at_call 53; (with_reducible refine (HLC.out _ (HB.out.trans (H0.out.mono HN.out))).mono ?_); rintro e w1 ⟨rfl, hb1⟩; have H1 : Hid (Below W0.heap.size W0 w1) := Lib.hid (H0.out.trans (hb1.mono H0.out.size)); clear hb1; have d5 : w1.cell? ⟨N, 5, none⟩ = some (.slice AE nE kE) := (HBX.out.under H1.out).cell 5)
                    | (go_at_call 56; (with_reducible refine (HLE.out _ (HB.out.trans (H1.out.mono HN.out))).mono ?_); rintro e w2 ⟨rfl, hb2⟩; have H2 : Hid (Below W0.heap.size W0 w2) := Lib.hid (H1.out.trans (hb2.mono H1.out.size)); clear hb2; have d6 : w2.cell? ⟨N, 6, none⟩ = some (.slice AR nR kR) := (HBX.out.under H2.out).cell 6)
                    | (go_at_call 59; (with_reducible refine (HLR.out _ (HB.out.trans (H2.out.mono HN.out))).mono ?_); rintro e w3 ⟨rfl, hb3⟩; have H3 : Hid (Below W0.heap.size W0 w3) := Lib.hid (H2.out.trans (hb3.mono H2.out.size)); clear hb3; have d6 : w3.cell? ⟨N, 6, none⟩ = some (.slice AR nR kR) := (HBX.out.under H3.out).cell 6; have d7 : w3.cell? ⟨N, 7, none⟩ = some (.bool sd) := (HBX.out.under H3.out).cell 7; have d8 : w3.cell? ⟨N, 8, none⟩ = some (.slice AS nS kS) := (HBX.out.under H3.out).cell 8)
                    | (go_at_call 62; (with_reducible refine (HLS.out _ (HB.out.trans (H3.out.mono HN.out))).mono ?_); rintro e w4 ⟨rfl, hb4⟩; have H4 : Hid (Below W0.heap.size W0 w4) := Lib.hid (H3.out.trans (hb4.mono H3.out.size)); clear hb4; have d9 : w4.cell? ⟨N, 9, none⟩ = some (.slice AY nY kY) := (HBX.out.under H4.out).cell 9)
                    | (go_at_call 65; (with_reducible refine (HLY.out _ (HB.out.trans (H4.out.mono HN.out))).mono ?_); rintro e w5 ⟨rfl, hb5⟩; have H5 : Hid (Below W0.heap.size W0 w5) := Lib.hid (H4.out.trans (hb5.mono H4.out.size)); clear hb5; have d10 : w5.cell? ⟨N, 10, none⟩ = some (.int .i64 sc) := (HBX.out.under H5.out).cell 10))
                go_ret
                exact ⟨ret_bool HQ.out.symm, HB.out.trans (H5.out.mono HN.out)⟩
              | true =>
                have HQ : Hid ((sc == 0) = r) := Lib.hid (by rw [HX.out]; rw [Bool.eq_iff_iff]; simp [hl1, hsx])
                go_wp2_with (first
                      | (go_at_call 53; (with_reducible refine (HLC.out _ (HB.out.trans (H0.out.mono HN.out))).mono ?_); rintro e w1 ⟨rfl, hb1⟩; have H1 : Hid (Below W0.heap.size W0 w1) := Lib.hid (H0.out.trans (hb1.mono H0.out.size)); clear hb1; have d5 : w1.cell? ⟨N, 5, none⟩ = some (.slice AE nE kE) := (HBX.out.under H1.out).cell 5)
                      | (go_at_call 56; (with_reducible refine (HLE.out _ (HB.out.trans (H1.out.mono HN.out))).mono ?_); rintro e w2 ⟨rfl, hb2⟩; have H2 : Hid (Below W0.heap.size W0 w2) := Lib.hid (H1.out.trans (hb2.mono H1.out.size)); clear hb2; have d6 : w2.cell? ⟨N, 6, none⟩ = some (.slice AR nR kR) := (HBX.out.under H2.out).cell 6)
                      | (go_at_call 59; (with_reducible refine (HLR.out _ (HB.out.trans (H2.out.mono HN.out))).mono ?_); rintro e w3 ⟨rfl, hb3⟩; have H3 : Hid (Below W0.heap.size W0 w3) := Lib.hid (H2.out.trans (hb3.mono H2.out.size)); clear hb3; have d6 : w3.cell? ⟨N, 6, none⟩ = some (.slice AR nR kR) := (HBX.out.under H3.out).cell 6; have d7 : w3.cell? ⟨N, 7, none⟩ = some (.bool sd) := (HBX.out.under H3.out).cell 7; have d8 : w3.cell? ⟨N, 8, none⟩ = some (.slice AS nS kS) := (HBX.out.under H3.out).cell 8)
                      | (go_at_call 62; (with_reducible refine (HLS.out _ (HB.out.trans (H3.out.mono HN.out))).mono ?_); rintro e w4 ⟨rfl, hb4⟩; have H4 : Hid (Below W0.heap.size W0 w4) := Lib.hid (H3.out.trans (hb4.mono H3.out.size)); clear hb4; have d9 : w4.cell? ⟨N, 9, none⟩ = some (.slice AY nY kY) := (HBX.out.under H4.out).cell 9)
                      | (go_at_call 65; (with_reducible refine (HLY.out _ (HB.out.trans (H4.out.mono HN.out))).mono ?_); rintro e w5 ⟨rfl, hb5⟩; have H5 : Hid (Below W0.heap.size W0 w5) := Lib.hid (H4.out.trans (hb5.mono H4.out.size)); clear hb5; have d10 : w5.cell? ⟨N, 10, none⟩ = some (.int .i64 sc) := (HBX.out.under H5.out).cell 10))
                go_ret
                exact ⟨ret_bool HQ.out, HB.out.trans (H5.out.mono HN.out)⟩
          · have hlr0 : (nR : Int) ≤ 0 := by omega
            cases sd with
            | true =>
              have HQ : Hid (r = false) := Lib.hid (by rw [HX.out]; simp [hlr])
              go_wp2_with (first
                | (go_at_call 53; (with_reducible refine (HLC.out _ (HB.out.trans (H0.out.mono HN.out))).mono ?_); rintro e w1 ⟨rfl, hb1⟩; have H1 : Hid (Below W0.heap.size W0 w1) := Lib.hid (H0.out.trans (hb1.mono H0.out.size)); clear hb1; have d5 : w1.cell? ⟨N, 5, none⟩ = some (.slice AE nE kE) := (HBX.out.under H1.out).cell 5)
                | (go_at_call 56; (with_reducible refine (HLE.out _ (HB.out.trans (H1.out.mono HN.out))).mono ?_); rintro e w2 ⟨rfl, hb2⟩; have H2 : Hid (Below W0.heap.size W0 w2) := Lib.hid (H1.out.trans (hb2.mono H1.out.size)); clear hb2; have d6 : w2.cell? ⟨N, 6, none⟩ = some (.slice AR nR kR) := (HBX.out.under H2.out).cell 6)
                | (go_at_call 59; (with_reducible refine (HLR.out _ (HB.out.trans (H2.out.mono HN.out))).mono ?_); rintro e w3 ⟨rfl, hb3⟩; have H3 : Hid (Below W0.heap.size W0 w3) := Lib.hid (H2.out.trans (hb3.mono H2.out.size)); clear hb3; have d6 : w3.cell? ⟨N, 6, none⟩ = some (.slice AR nR kR) := (HBX.out.under H3.out).cell 6; have d7 : w3.cell? ⟨N, 7, none⟩ = some (.bool true) := (HBX.out.under H3.out).cell 7; have d8 : w3.cell? ⟨N, 8, none⟩ = some (.slice AS nS kS) := (HBX.out.under H3.out).cell 8))
              go_ret
              exact ⟨ret_bool HQ.out.symm, HB.out.trans (H3.out.mono HN.out)⟩
            | false =>
              have hsx : (1 ≤ nR ∨ false = false) := .inr rfl
              cases tS with
              | false =>
                have HQ : Hid (r = false) := Lib.hid (by rw [HX.out]; simp)
                go_wp2_with (first
                    | (go_at_call 53; (with_reducible refine (HLC.out _ (HB.out.trans (H0.out.mono HN.out))).mono ?_); rintro e w1 ⟨rfl, hb1⟩; have H1 : Hid (Below W0.heap.size W0 w1) := Lib.hid (H0.out.trans (hb1.mono H0.out.size)); clear hb1; have d5 : w1.cell? ⟨N, 5, none⟩ = some (.slice AE nE kE) := (HBX.out.under H1.out).cell 5)
                    | (go_at_call 56; (with_reducible refine (HLE.out _ (HB.out.trans (H1.out.mono HN.out))).mono ?_); rintro e w2 ⟨rfl, hb2⟩; have H2 : Hid (Below W0.heap.size W0 w2) := Lib.hid (H1.out.trans (hb2.mono H1.out.size)); clear hb2; have d6 : w2.cell? ⟨N, 6, none⟩ = some (.slice AR nR kR) := (HBX.out.under H2.out).cell 6)
                    | (go_at_call 59; (with_reducible refine (HLR.out _ (HB.out.trans (H2.out.mono HN.out))).mono ?_); rintro e w3 ⟨rfl, hb3⟩; have H3 : Hid (Below W0.heap.size W0 w3) := Lib.hid (H2.out.trans (hb3.mono H2.out.size)); clear hb3; have d6 : w3.cell? ⟨N, 6, none⟩ = some (.slice AR nR kR) := (HBX.out.under H3.out).cell 6; have d7 : w3.cell? ⟨N, 7, none⟩ = some (.bool false) := (HBX.out.under H3.out).cell 7; have d8 : w3.cell? ⟨N, 8, none⟩ = some (.slice AS nS kS) := (HBX.out.under H3.out).cell 8)
                    | (go_at_call 62; (with_reducible refine (HLS.out _ (HB.out.trans (H3.out.mono HN.out))).mono ?_); rintro e w4 ⟨rfl, hb4⟩; have H4 : Hid (Below W0.heap.size W0 w4) := Lib.hid (H3.out.trans (hb4.mono H3.out.size)); clear hb4; have d9 : w4.cell? ⟨N, 9, none⟩ = some (.slice AY nY kY) := (HBX.out.under H4.out).cell 9))
                go_ret
                exact ⟨ret_bool HQ.out.symm, HB.out.trans (H4.out.mono HN.out)⟩
              | true =>
                cases tY with
                | false =>
                  have HQ : Hid (r = false) := Lib.hid (by rw [HX.out]; simp)
                  go_wp2_with (first
                      | (go_at_call 53; (with_reducible refine (HLC.out _ (HB.out.trans (H0.out.mono HN.out))).mono ?_); rintro e w1 ⟨rfl, hb1⟩; have H1 : Hid (Below W0.heap.size W0 w1) := Lib.hid (H0.out.trans (hb1.mono H0.out.size)); clear hb1; have d5 : w1.cell? ⟨N, 5, none⟩ = some (.slice AE nE kE) := (HBX.out.under H1.out).cell 5)
                      | (go_at_call 56; (with_reducible refine (HLE.out _ (HB.out.trans (H1.out.mono HN.out))).mono ?_); rintro e w2 ⟨rfl, hb2⟩; have H2 : Hid (Below W0.heap.size W0 w2) := Lib.hid (H1.out.trans (hb2.mono H1.out.size)); clear hb2; have d6 : w2.cell? ⟨N, 6, none⟩ = some (.slice AR nR kR) := (HBX.out.under H2.out).cell 6)
                      | (go_at_call 59; (with_reducible refine (HLR.out _ (HB.out.trans (H2.out.mono HN.out))).mono ?_); rintro e w3 ⟨rfl, hb3⟩; have H3 : Hid (Below W0.heap.size W0 w3) := Lib.hid (H2.out.trans (hb3.mono H2.out.size)); clear hb3; have d6 : w3.cell? ⟨N, 6, none⟩ = some (.slice AR nR kR) := (HBX.out.under H3.out).cell 6; have d7 : w3.cell? ⟨N, 7, none⟩ = some (.bool false) := (HBX.out.under H3.out).cell 7; have d8 : w3.cell? ⟨N, 8, none⟩ = some (.slice AS nS kS) := (HBX.out.under H3.out).cell 8)
                      | (go_at_call 62; (with_reducible refine (HLS.out _ (HB.out.trans (H3.out.mono HN.out))).mono ?_); rintro e w4 ⟨rfl, hb4⟩; have H4 : Hid (Below W0.heap.size W0 w4) := Lib.hid (H3.out.trans (hb4.mono H3.out.size)); clear hb4; have d9 : w4.cell? ⟨N, 9, none⟩ = some (.slice AY nY kY) := (HBX.out.under H4.out).cell 9)
                      | (go_at_call 65; (with_reducible refine (HLY.out _ (HB.out.trans (H4.out.mono HN.out))).mono ?_); rintro e w5 ⟨rfl, hb5⟩; have H5 : Hid (Below W0.heap.size W0 w5) := Lib.hid (H4.out.trans (hb5.mono H4.out.size)); clear hb5; have d10 : w5.cell? ⟨N, 10, none⟩ = some (.int .i64 sc) := (HBX.out.under H5.out).cell 10))
                  go_ret
                  exact ⟨ret_bool HQ.out.symm, HB.out.trans (H5.out.mono HN.out)⟩
                | true =>
                  have HQ : Hid ((sc == 0) = r) := Lib.hid (by rw [HX.out]; rw [Bool.eq_iff_iff]; simp [hl1, hsx])
                  go_wp2_with (first
                        | (go_at_call 53; (with_reducible refine (HLC.out _ (HB.out.trans (H0.out.mono HN.out))).mono ?_); rintro e w1 ⟨rfl, hb1⟩; have H1 : Hid (Below W0.heap.size W0 w1) := Lib.hid (H0.out.trans (hb1.mono H0.out.size)); clear hb1; have d5 : w1.cell? ⟨N, 5, none⟩ = some (.slice AE nE kE) := (HBX.out.under H1.out).cell 5)
                        | (go_at_call 56; (with_reducible refine (HLE.out _ (HB.out.trans (H1.out.mono HN.out))).mono ?_); rintro e w2 ⟨rfl, hb2⟩; have H2 : Hid (Below W0.heap.size W0 w2) := Lib.hid (H1.out.trans (hb2.mono H1.out.size)); clear hb2; have d6 : w2.cell? ⟨N, 6, none⟩ = some (.slice AR nR kR) := (HBX.out.under H2.out).cell 6)
                        | (go_at_call 59; (with_reducible refine (HLR.out _ (HB.out.trans (H2.out.mono HN.out))).mono ?_); rintro e w3 ⟨rfl, hb3⟩; have H3 : Hid (Below W0.heap.size W0 w3) := Lib.hid (H2.out.trans (hb3.mono H2.out.size)); clear hb3; have d6 : w3.cell? ⟨N, 6, none⟩ = some (.slice AR nR kR) := (HBX.out.under H3.out).cell 6; have d7 : w3.cell? ⟨N, 7, none⟩ = some (.bool false) := (HBX.out.under H3.out).cell 7; have d8 : w3.cell? ⟨N, 8, none⟩ = some (.slice AS nS kS) := (HBX.out.under H3.out).cell 8)
                        | (go_at_call 62; (with_reducible refine (HLS.out _ (HB.out.trans (H3.out.mono HN.out))).mono ?_); rintro e w4 ⟨rfl, hb4⟩; have H4 : Hid (Below W0.heap.size W0 w4) := Lib.hid (H3.out.trans (hb4.mono H3.out.size)); clear hb4; have d9 : w4.cell? ⟨N, 9, none⟩ = some (.slice AY nY kY) := (HBX.out.under H4.out).cell 9)
                        | (go_at_call 65; (with_reducible refine (HLY.out _ (HB.out.trans (H4.out.mono HN.out))).mono ?_); rintro e w5 ⟨rfl, hb5⟩; have H5 : Hid (Below W0.heap.size W0 w5) := Lib.hid (H4.out.trans (hb5.mono H4.out.size)); clear hb5; have d10 : w5.cell? ⟨N, 10, none⟩ = some (.int .i64 sc) := (HBX.out.under H5.out).cell 10))
                  go_ret
                  exact ⟨ret_bool HQ.out, HB.out.trans (H5.out.mono HN.out)⟩
  · have hl10 : (nC : Int) ≤ 0 := by omega
    have HQ : Hid (r = false) := Lib.hid (by rw [HX.out]; simp [hl1])
    go_wp2
    go_ret
    exact ⟨ret_bool HQ.out.symm, HB.out⟩
end Go.Proofs.YtmlapbadgjhhdaaGreatDoor
