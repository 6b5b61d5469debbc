import Derived.Test.YtibpnjakimobmaaGreatPkJudgeTurnedA00
namespace Go.Proofs.YtibpnjakimobmaaGreat
open Go.RowKit
set_option linter.unusedVariables false
set_option linter.unusedSimpArgs false
set_option maxHeartbeats 3200000 in
set_option maxRecDepth 100000 in
theorem goodChannel_any (M : Array Value) (m : MediaS) (vC vE vR vS vY : Value) (w : World) (h : MediaV w w.heap.size M m vC vE vR vS vY) (hz : SizM m) :
 Calls Tryz.prog 75 #[.agg M] w fun e w' => e = .returned (.bool (goodChannel m)) ∧ Below w.heap.size w w' := by
 obtain ⟨AC, kC, AE, kE, AR, kR, AS, kS, AY, kY, rfl, rfl, rfl, rfl, rfl⟩ := h.forms
 obtain ⟨hform, hvC, hvE, hvR, hvS, hvY⟩ := h
 subst hform
 obtain ⟨nC, hnC⟩ : ∃ n, m.codecs.length = n := ⟨_, rfl⟩
 obtain ⟨nE, hnE⟩ : ∃ n, m.exts.length = n := ⟨_, rfl⟩
 obtain ⟨nR, hnR⟩ : ∃ n, m.rids.length = n := ⟨_, rfl⟩
 obtain ⟨nS, hnS⟩ : ∃ n, m.sources.length = n := ⟨_, rfl⟩
 obtain ⟨nY, hnY⟩ : ∃ n, m.crypto.length = n := ⟨_, rfl⟩
 obtain ⟨hc1, hc2, hc3, hc4, hc5⟩ := hz.counts
 rw [hnC] at hvC hc1
 rw [hnE] at hvE hc2
 rw [hnR] at hvR hc3
 rw [hnS] at hvS hc4
 rw [hnY] at hvY hc5
 rw [hnC, hnE, hnR, hnS, hnY]
 have hb0 : Below w.heap.size w (w.alloc (.cells #[.int .i64 m.kind, .int .i64 m.port, .string m.mid, .int .i64 m.dir, .slice AC nC kC, .slice AE nE kE, .slice AR nR kR, .bool m.sending, .slice AS nS kS, .slice AY nY kY, .int .i64 m.sctp] 44)) := (Below.refl _ w).alloc (Nat.le_refl _) _
 have hw := Whole.new w 44 #[.int .i64 m.kind, .int .i64 m.port, .string m.mid, .int .i64 m.dir, .slice AC nC kC, .slice AE nE kE, .slice AR nR kR, .bool m.sending, .slice AS nS kS, .slice AY nY kY, .int .i64 m.sctp]
 have hx : goodChannel m = (decide (nC + nE + nR + nS + nY = 0) && (!m.sending && (decide (1 ≤ m.sctp) && decide (m.sctp ≤ 65535)))) := by
  unfold goodChannel
  rw [hnC, hnE, hnR, hnS, hnY]
  simp [Bool.and_assoc]
 have HX := Lib.hid hx
 have HB := Lib.hid hb0
 have HW := Lib.hid (within_any m.sctp 1 65535 (w.alloc (.cells #[.int .i64 m.kind, .int .i64 m.port, .string m.mid, .int .i64 m.dir, .slice AC nC kC, .slice AE nE kE, .slice AR nR kR, .bool m.sending, .slice AS nS kS, .slice AY nY kY, .int .i64 m.sctp] 44)))
 have c4 := hw.cell 4
 have c5 := hw.cell 5
 have c6 := hw.cell 6
 have c7 := hw.cell 7
 have c8 := hw.cell 8
 have c9 := hw.cell 9
 have c10 := hw.cell 10
 simp only [List.getElem?_toArray, List.getElem?_cons_zero, List.getElem?_cons_succ] at c4 c5 c6 c7 c8 c9 c10
 generalize goodChannel m = r at *
 generalize (decide (1 ≤ m.sctp) && decide (m.sctp ≤ 65535)) = t at *
 generalize m.sctp = sc at *
 generalize m.sending = sd at *
 clear hx hvC hvE hvR hvS hvY hz hnC hnE hnR hnS hnY hb0 hw
 have w1 : IntKind.i64.wrap ((nC : Int) + (nE : Int)) = (nC : Int) + (nE : Int) := IntWalk.i64_in _ (by omega)
 have w2 : IntKind.i64.wrap ((nC : Int) + (nE : Int) + (nR : Int)) = (nC : Int) + (nE : Int) + (nR : Int) := IntWalk.i64_in _ (by omega)
 have w3 : IntKind.i64.wrap ((nC : Int) + (nE : Int) + (nR : Int) + (nS : Int)) = (nC : Int) + (nE : Int) + (nR : Int) + (nS : Int) := IntWalk.i64_in _ (by omega)
 have w4 : IntKind.i64.wrap ((nC : Int) + (nE : Int) + (nR : Int) + (nS : Int) + (nY : Int)) = (nC : Int) + (nE : Int) + (nR : Int) + (nS : Int) + (nY : Int) := IntWalk.i64_in _ (by omega)
 obtain ⟨N, hN⟩ : ∃ N, w.heap.size = N := ⟨_, rfl⟩
 rw [hN] at HB c4 c5 c6 c7 c8 c9 c10 ⊢
 by_cases hs : nC + nE + nR + nS + nY = 0
 · have hz : ((nC : Int) + (nE : Int) + (nR : Int) + (nS : Int) + (nY : Int) == 0) = true := by rw [beq_iff_eq]; omega
   cases sd with
   | false =>
     have HQ : Hid (t = r) := Lib.hid (by rw [HX.out, decide_eq_true hs]; simp)
     clear hs
     go_enter Tryz.func75, Tryz.ntmps75
     go_wp2_with (go_at_call 73; (with_reducible refine HW.out.mono ?_); rintro e w' ⟨rfl, rfl⟩)
     go_ret
     exact ⟨ret_bool HQ.out, HB.out⟩
   | true =>
     have HQ : Hid (r = false) := Lib.hid (by rw [HX.out]; simp)
     clear hs
     go_enter Tryz.func75, Tryz.ntmps75
     go_wp2
     go_ret
     exact ⟨ret_bool HQ.out.symm, HB.out⟩
 · have hz : ((nC : Int) + (nE : Int) + (nR : Int) + (nS : Int) + (nY : Int) == 0) = false := by rw [beq_eq_false_iff_ne]; omega
   have HQ : Hid (r = false) := Lib.hid (by rw [HX.out, decide_eq_false hs]; rfl)
   clear hs
   go_enter Tryz.func75, Tryz.ntmps75
   go_wp2
   go_ret
   exact ⟨ret_bool HQ.out.symm, HB.out⟩
set_option maxHeartbeats 6400000 in
set_option maxRecDepth 100000 in
theorem good_any (M : Array Value) (m : MediaS) (vC vE vR vS vY : Value) (w : World) (h : MediaV w w.heap.size M m vC vE vR vS vY) (hz : SizM m) :
 Calls Tryz.prog 63 #[.agg M] w fun e w' => e = .returned (.bool (goodM m)) ∧ Below w.heap.size w w' := by
 have hb0 : Below w.heap.size w (w.alloc (.cells M 44)) := (Below.refl _ w).alloc (Nat.le_refl _) _
 have hw := Whole.new w 44 M
 have h0 := h.under hb0
 have hform := h.form
 have c0 : (w.alloc (.cells M 44)).cell? ⟨w.heap.size, 0, none⟩ = some (.int .i64 m.kind) := (hw.cell 0).trans (by rw [hform]; rfl)
 have c1 : (w.alloc (.cells M 44)).cell? ⟨w.heap.size, 1, none⟩ = some (.int .i64 m.port) := (hw.cell 1).trans (by rw [hform]; rfl)
 have c2 : (w.alloc (.cells M 44)).cell? ⟨w.heap.size, 2, none⟩ = some (.string m.mid) := (hw.cell 2).trans (by rw [hform]; rfl)
 have c3 : (w.alloc (.cells M 44)).cell? ⟨w.heap.size, 3, none⟩ = some (.int .i64 m.dir) := (hw.cell 3).trans (by rw [hform]; rfl)
 have HS := Lib.hid (goodStreams_any M m vC vE vR vS vY _ h0 hz)
 have HCH := Lib.hid (goodChannel_any M m vC vE vR vS vY _ h0 hz)
 have HWO : Hid (Calls Tryz.prog 72 #[.string m.mid, .int .i64 16] (w.alloc (.cells M 44)) fun e w' => e = .returned (.bool (wordP 1 16 (tx m.mid))) ∧ (w.alloc (.cells M 44)) = w') := Lib.hid (wordOf_any m.mid 16 _ (by have := hz.mid; unfold maxLen; omega) (by decide))
 have HWI := Lib.hid (within_any m.dir 0 3 (w.alloc (.cells M 44)))
 have hx : goodM m = (((decide (m.port = 0) || decide (m.port = 9)) && (wordP 1 16 (tx m.mid) && (decide (0 ≤ m.dir) && decide (m.dir ≤ 3)))) && ((decide (m.kind = 1) || decide (m.kind = 2)) && goodStreams m || decide (m.kind = 3) && goodChannel m)) := by
  unfold goodM goodHead
  simp only [Bool.and_assoc]
 have HX := Lib.hid hx
 have HB := Lib.hid (And.intro hb0 (And.intro hw h.size))
 generalize goodM m = r at *
 generalize goodStreams m = gs at *
 generalize goodChannel m = gc at *
 generalize (decide (0 ≤ m.dir) && decide (m.dir ≤ 3)) = td at *
 generalize wordP 1 16 (tx m.mid) = tw at *
 generalize m.port = p at *
 generalize m.kind = k at *
 generalize m.dir = d at *
 generalize m.mid = md at *
 clear h h0 hz hx hb0 hw hform
 obtain ⟨N, hN⟩ : ∃ N, w.heap.size = N := ⟨_, rfl⟩
 have HSZ : Hid (N ≤ (w.alloc (.cells M 44)).heap.size) := Lib.hid (by rw [← hN]; exact HB.out.1.size)
 rw [hN] at c0 c1 c2 c3 HB ⊢
 have hgen : ∃ W0, w.alloc (.cells M 44) = W0 := ⟨_, rfl⟩
 go_enter Tryz.func63, Tryz.ntmps63
 go_upto_region 1 with fail
 generalize w.alloc (.cells M 44) = W0 at *
 clear hN hgen
 by_cases hp0 : p = 0
 · subst hp0
   cases tw with
   | false =>
     have HQ : Hid (r = false) := Lib.hid (by rw [HX.out]; simp)
     go_wp2_with (first | (go_at_call 72; (with_reducible refine HWO.out.mono ?_); rintro e w' ⟨rfl, rfl⟩))
     go_ret
     exact ⟨ret_bool HQ.out.symm, HB.out.1⟩
   | true =>
     cases td with
     | false =>
       have HQ : Hid (r = false) := Lib.hid (by rw [HX.out]; simp)
       go_wp2_with (first | (go_at_call 72; (with_reducible refine HWO.out.mono ?_); rintro e w' ⟨rfl, rfl⟩) | (go_at_call 73; (with_reducible refine HWI.out.mono ?_); rintro e w' ⟨rfl, rfl⟩))
       go_ret
       exact ⟨ret_bool HQ.out.symm, HB.out.1⟩
     | true =>
       by_cases hk1 : k = 1
       · subst hk1
         have HQ : Hid (gs = r) := Lib.hid (by rw [HX.out]; simp)
         go_wp2_with (first | (go_at_call 72; (with_reducible refine HWO.out.mono ?_); rintro e w' ⟨rfl, rfl⟩) | (go_at_call 73; (with_reducible refine HWI.out.mono ?_); rintro e w' ⟨rfl, rfl⟩) | ((with_reducible refine wpList_load_all ?_ 44 (.tmp 1) ?_ HB.out.2.1 ?_ Tryz.sizeMedia HB.out.2.2 Tryz.underlying44 ?_ ?_); (with_reducible rfl); (with_reducible rfl); rfl; rfl) | (go_at_call 74; (with_reducible refine HS.out.mono ?_); rintro e w2 ⟨rfl, hb2⟩))
         go_ret
         exact ⟨ret_bool HQ.out, HB.out.1.trans (hb2.mono HSZ.out)⟩
       · by_cases hk2 : k = 2
         · subst hk2
           have HQ : Hid (gs = r) := Lib.hid (by rw [HX.out]; simp)
           go_wp2_with (first | (go_at_call 72; (with_reducible refine HWO.out.mono ?_); rintro e w' ⟨rfl, rfl⟩) | (go_at_call 73; (with_reducible refine HWI.out.mono ?_); rintro e w' ⟨rfl, rfl⟩) | ((with_reducible refine wpList_load_all ?_ 44 (.tmp 1) ?_ HB.out.2.1 ?_ Tryz.sizeMedia HB.out.2.2 Tryz.underlying44 ?_ ?_); (with_reducible rfl); (with_reducible rfl); rfl; rfl) | (go_at_call 74; (with_reducible refine HS.out.mono ?_); rintro e w2 ⟨rfl, hb2⟩))
           go_ret
           exact ⟨ret_bool HQ.out, HB.out.1.trans (hb2.mono HSZ.out)⟩
         · by_cases hk3 : k = 3
           · subst hk3
             have HQ : Hid (gc = r) := Lib.hid (by rw [HX.out]; simp)
             go_wp2_with (first | (go_at_call 72; (with_reducible refine HWO.out.mono ?_); rintro e w' ⟨rfl, rfl⟩) | (go_at_call 73; (with_reducible refine HWI.out.mono ?_); rintro e w' ⟨rfl, rfl⟩) | ((with_reducible refine wpList_load_all ?_ 44 (.tmp 1) ?_ HB.out.2.1 ?_ Tryz.sizeMedia HB.out.2.2 Tryz.underlying44 ?_ ?_); (with_reducible rfl); (with_reducible rfl); rfl; rfl) | (go_at_call 75; (with_reducible refine HCH.out.mono ?_); rintro e w2 ⟨rfl, hb2⟩))
             go_ret
             exact ⟨ret_bool HQ.out, HB.out.1.trans (hb2.mono HSZ.out)⟩
           · have q1 : (k == 1) = false := by simpa using hk1
             have q2 : (k == 2) = false := by simpa using hk2
             have q3 : (k == 3) = false := by simpa using hk3
             have HQ : Hid (r = false) := Lib.hid (by rw [HX.out]; simp [hk1, hk2, hk3])
             go_wp2_with (first | (go_at_call 72; (with_reducible refine HWO.out.mono ?_); rintro e w' ⟨rfl, rfl⟩) | (go_at_call 73; (with_reducible refine HWI.out.mono ?_); rintro e w' ⟨rfl, rfl⟩))
             go_ret
             exact ⟨ret_bool HQ.out.symm, HB.out.1⟩
 · have q0 : (p == 0) = false := by simpa using hp0
   by_cases hp9 : p = 9
   · subst hp9
     cases tw with
     | false =>
       have HQ : Hid (r = false) := Lib.hid (by rw [HX.out]; simp)
       go_wp2_with (first | (go_at_call 72; (with_reducible refine HWO.out.mono ?_); rintro e w' ⟨rfl, rfl⟩))
       go_ret
       exact ⟨ret_bool HQ.out.symm, HB.out.1⟩
     | true =>
       cases td with
       | false =>
         have HQ : Hid (r = false) := Lib.hid (by rw [HX.out]; simp)
         go_wp2_with (first | (go_at_call 72; (with_reducible refine HWO.out.mono ?_); rintro e w' ⟨rfl, rfl⟩) | (go_at_call 73; (with_reducible refine HWI.out.mono ?_); rintro e w' ⟨rfl, rfl⟩))
         go_ret
         exact ⟨ret_bool HQ.out.symm, HB.out.1⟩
       | true =>
         by_cases hk1 : k = 1
         · subst hk1
           have HQ : Hid (gs = r) := Lib.hid (by rw [HX.out]; simp)
           go_wp2_with (first | (go_at_call 72; (with_reducible refine HWO.out.mono ?_); rintro e w' ⟨rfl, rfl⟩) | (go_at_call 73; (with_reducible refine HWI.out.mono ?_); rintro e w' ⟨rfl, rfl⟩) | ((with_reducible refine wpList_load_all ?_ 44 (.tmp 1) ?_ HB.out.2.1 ?_ Tryz.sizeMedia HB.out.2.2 Tryz.underlying44 ?_ ?_); (with_reducible rfl); (with_reducible rfl); rfl; rfl) | (go_at_call 74; (with_reducible refine HS.out.mono ?_); rintro e w2 ⟨rfl, hb2⟩))
           go_ret
           exact ⟨ret_bool HQ.out, HB.out.1.trans (hb2.mono HSZ.out)⟩
         · by_cases hk2 : k = 2
           · subst hk2
             have HQ : Hid (gs = r) := Lib.hid (by rw [HX.out]; simp)
             go_wp2_with (first | (go_at_call 72; (with_reducible refine HWO.out.mono ?_); rintro e w' ⟨rfl, rfl⟩) | (go_at_call 73; (with_reducible refine HWI.out.mono ?_); rintro e w' ⟨rfl, rfl⟩) | ((with_reducible refine wpList_load_all ?_ 44 (.tmp 1) ?_ HB.out.2.1 ?_ Tryz.sizeMedia HB.out.2.2 Tryz.underlying44 ?_ ?_); (with_reducible rfl); (with_reducible rfl); rfl; rfl) | (go_at_call 74; (with_reducible refine HS.out.mono ?_); rintro e w2 ⟨rfl, hb2⟩))
             go_ret
             exact ⟨ret_bool HQ.out, HB.out.1.trans (hb2.mono HSZ.out)⟩
           · by_cases hk3 : k = 3
             · subst hk3
               have HQ : Hid (gc = r) := Lib.hid (by rw [HX.out]; simp)
               go_wp2_with (first | (go_at_call 72; (with_reducible refine HWO.out.mono ?_); rintro e w' ⟨rfl, rfl⟩) | (go_at_call 73; (with_reducible refine HWI.out.mono ?_); rintro e w' ⟨rfl, rfl⟩) | ((with_reducible refine wpList_load_all ?_ 44 (.tmp 1) ?_ HB.out.2.1 ?_ Tryz.sizeMedia HB.out.2.2 Tryz.underlying44 ?_ ?_); (with_reducible rfl); (with_reducible rfl); rfl; rfl) | (go_at_call 75; (with_reducible refine HCH.out.mono ?_); rintro e w2 ⟨rfl, hb2⟩))
               go_ret
               exact ⟨ret_bool HQ.out, HB.out.1.trans (hb2.mono HSZ.out)⟩
             · have q1 : (k == 1) = false := by simpa using hk1
               have q2 : (k == 2) = false := by simpa using hk2
               have q3 : (k == 3) = false := by simpa using hk3
               have HQ : Hid (r = false) := Lib.hid (by rw [HX.out]; simp [hk1, hk2, hk3])
               go_wp2_with (first | (go_at_call 72; (with_reducible refine HWO.out.mono ?_); rintro e w' ⟨rfl, rfl⟩) | (go_at_call 73; (with_reducible refine HWI.out.mono ?_); rintro e w' ⟨rfl, rfl⟩))
               go_ret
               exact ⟨ret_bool HQ.out.symm, HB.out.1⟩
   · have q9 : (p == 9) = false := by simpa using hp9
     have HQ : Hid (r = false) := Lib.hid (by rw [HX.out]; simp [hp0, hp9])
     go_wp2
     go_ret
     exact ⟨ret_bool HQ.out.symm, HB.out.1⟩
end Go.Proofs.YtibpnjakimobmaaGreat
