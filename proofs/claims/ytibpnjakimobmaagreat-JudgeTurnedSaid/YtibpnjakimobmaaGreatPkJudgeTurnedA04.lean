import Derived.Test.YtibpnjakimobmaaGreatPkJudgeTurnedA03
namespace Go.Proofs.YtibpnjakimobmaaGreat
open Go.RowKit
set_option linter.unusedVariables false
set_option linter.unusedSimpArgs false
theorem word_most (s : ByteArray) (lo hi : Nat) (w : World) (hs : s.size ≤ maxLen) : Calls Tryz.prog 15 #[.string s, .int .i64 (lo : Int), .int .i64 (hi : Int)] w fun e w' => e = .returned (.bool (wordP lo hi (tx s))) ∧ w = w' := by
 have := r1Word_any s lo hi w hs
 have e : ((tx s).all inWd && (decide ((lo : Int) ≤ (s.size : Int)) && decide ((s.size : Int) ≤ (hi : Int)))) = wordP lo hi (tx s) := by
  unfold wordP
  rw [tx_length]
  congr 2
  · rw [decide_eq_decide]; omega
  · rw [decide_eq_decide]; omega
 rw [e] at this
 exact this
set_option maxHeartbeats 6400000 in
set_option maxRecDepth 100000 in
theorem rgoodCodec_any (x : CodecS) (Af : Option Addr) (lf kf : Nat) (w : World) (h : TextsV w w.heap.size (.slice Af lf kf) x.feedback) (hs : x.name.size ≤ 140737488355328 ∧ x.format.size ≤ 140737488355328 ∧ ∀ f ∈ x.feedback, f.size ≤ 140737488355328) (hl : x.feedback.length ≤ 140737488355328) :
 Calls Tryz.prog 34 #[.agg #[.int .i64 x.type, .string x.name, .int .i64 x.clock, .int .i64 x.chans, .string x.format, .slice Af lf kf]] w fun e w' => e = .returned (.bool (goodC x)) ∧ Below w.heap.size w w' := by
 obtain ⟨ty, nm, ck, ch, fm, fb⟩ := x
 have hs : nm.size ≤ 140737488355328 ∧ fm.size ≤ 140737488355328 ∧ ∀ f ∈ fb, f.size ≤ 140737488355328 := hs
 have hl : fb.length ≤ 140737488355328 := hl
 have h : TextsV w w.heap.size (.slice Af lf kf) fb := h
 have hlf : lf = fb.length := by
  obtain ⟨_, _, e, -⟩ := Rows.form h
  injection e
 have hb0 : Below w.heap.size w (w.alloc (.cells #[.int .i64 ty, .string nm, .int .i64 ck, .int .i64 ch, .string fm, .slice Af lf kf] 47)) := (Below.refl _ w).alloc (Nat.le_refl _) _
 have hz := Whole.new w 47 #[.int .i64 ty, .string nm, .int .i64 ck, .int .i64 ch, .string fm, .slice Af lf kf]
 have c0 := hz.cell 0
 have c1 := hz.cell 1
 have c2 := hz.cell 2
 have c3 := hz.cell 3
 have c4 := hz.cell 4
 have c5 := hz.cell 5
 simp only [List.getElem?_toArray, List.getElem?_cons_zero, List.getElem?_cons_succ] at c0 c1 c2 c3 c4 c5
 have HB := Lib.hid (And.intro hb0 (And.intro (h.below hb0) hlf.symm))
 have hx : goodC ⟨ty, nm, ck, ch, fm, fb⟩ = (decide (0 ≤ ty) && (decide (ty ≤ 127) && (wordP 1 32 (tx nm) && (decide (1 ≤ ck) && (decide (ck ≤ 1000000) && (decide (1 ≤ ch) && (decide (ch ≤ 2) && (((tx fm).isEmpty || plainP (tx fm)) && (decide (lf ≤ 8) && fb.all fun f => plainP (tx f)))))))))) := by
  rw [hlf]
  unfold goodC
  simp only [Bool.and_assoc]
 show Calls _ _ _ _ fun e w' => e = .returned (.bool (goodC ⟨ty, nm, ck, ch, fm, fb⟩)) ∧ _
 have hmt : fm.toList.isEmpty = (tx fm).isEmpty := by rw [toList_tx]
 have HWO : Hid (Calls Tryz.prog 15 #[.string nm, .int .i64 1, .int .i64 32] (w.alloc (.cells #[.int .i64 ty, .string nm, .int .i64 ck, .int .i64 ch, .string fm, .slice Af lf kf] 47)) fun e w' => e = .returned (.bool (wordP 1 32 (tx nm))) ∧ (w.alloc (.cells #[.int .i64 ty, .string nm, .int .i64 ck, .int .i64 ch, .string fm, .slice Af lf kf] 47)) = w') := Lib.hid (word_most nm 1 32 _ (by unfold maxLen; omega))
 have HFO := Lib.hid (rplain_any fm (w.alloc (.cells #[.int .i64 ty, .string nm, .int .i64 ck, .int .i64 ch, .string fm, .slice Af lf kf] 47)) (by unfold maxLen; omega))
 have HFB : Hid (∀ f ∈ fb, ∀ W, Calls Tryz.prog 51 #[.string f, .int .i64 100] W fun e w' => e = .returned (.bool (plainP (tx f))) ∧ W = w') := Lib.hid fun f hf W => rplain_any f W (by have := hs.2.2 f hf; unfold maxLen; omega)
 have HX := Lib.hid hx
 have hlm : lf ≤ 140737488355328 := by omega
 clear hb0 hz h hx hs hl hlf
 generalize goodC ⟨ty, nm, ck, ch, fm, fb⟩ = r at *
 generalize wordP 1 32 (tx nm) = q1 at *
 generalize plainP (tx fm) = q2 at *
 generalize (tx fm).isEmpty = q3 at *
 obtain ⟨N, hN⟩ : ∃ N, w.heap.size = N := ⟨_, rfl⟩
 rw [hN] at c0 c1 c2 c3 c4 c5 HB ⊢
 go_enter Tryz.func34, Tryz.ntmps34
 go_upto_region 1 with fail
 generalize w.alloc (.cells #[.int .i64 ty, .string nm, .int .i64 ck, .int .i64 ch, .string fm, .slice Af lf kf] 47) = W at *
 clear hN
 by_cases g0 : 0 ≤ ty
 · skip
   by_cases g1 : ty ≤ 127
   · skip
     cases q1 with
     | false =>
       have HQ : Hid (r = false) := Lib.hid (by rw [HX.out]; simp [])
       go_wp2_with (first | (go_at_call 15; (with_reducible refine HWO.out.mono ?_); rintro e w' ⟨rfl, rfl⟩))
       go_ret
       exact ⟨ret_bool HQ.out.symm, HB.out.1⟩
     | true =>
       by_cases g3 : 1 ≤ ck
       · skip
         by_cases g4 : ck ≤ 1000000
         · skip
           by_cases g5 : 1 ≤ ch
           · skip
             by_cases g6 : ch ≤ 2
             · skip
               cases q3 with
               | true =>
                 by_cases g8 : lf ≤ 8
                 · have g8' : (lf : Int) ≤ 8 := by omega
                   have HR : Hid (r = fb.all fun f => plainP (tx f)) := Lib.hid (by rw [HX.out]; simp [g0, g1, g3, g4, g5, g6, g8])
                   go_wp2_with (first | (go_at_call 15; (with_reducible refine HWO.out.mono ?_); rintro e w' ⟨rfl, rfl⟩))
                   go_loop [56] (fun s56 => ∃ k : Nat, k ≤ lf ∧ s56 = .int .i64 k ∧ ∀ j, j < k → plainP (tx (fb.getD j default)) = true) (fun s56 => lf - (intOf s56).toNat)
                   case atStart => exact ⟨0, Nat.zero_le _, rfl, fun j hj => by omega⟩
                   case round =>
                    obtain ⟨k, hk, rfl, hst⟩ := hrel
                    have HS := Lib.hid hst
                    clear hst
                    by_cases hlt : k < lf
                    · have hlt' : k < fb.length := by rw [HB.out.2.2]; exact hlt
                      obtain ⟨ad, c', e1, had, d0⟩ := HB.out.2.1.at_ hlt'
                      injection e1 with e1 e1n e1c
                      clear e1n e1c
                      subst e1
                      obtain ⟨f, hf⟩ : ∃ f, fb.getD k default = f := ⟨_, rfl⟩
                      have HM : Hid (f ∈ fb ∧ fb.getD k default = f) := Lib.hid ⟨by rw [← hf]; exact getD_mem hlt', hf⟩
                      rw [hf] at d0
                      have HP := Lib.hid (HFB.out f HM.out.1 W)
                      have hk0 : (0 : Int) ≤ (k : Int) := by omega
                      have hk1 : (k : Int) < (lf : Int) := by omega
                      obtain ⟨b, hb⟩ : ∃ b, plainP (tx f) = b := ⟨_, rfl⟩
                      rw [hb] at HP
                      have HBF := Lib.hid hb
                      clear hb hf had hlt'
                      cases b with
                      | false =>
                        have HQ : Hid (r = false) := Lib.hid (by rw [HR.out]; exact all_no HM.out.1 HBF.out)
                        go_wp2_with (go_at_call 51; (with_reducible refine HP.out.mono ?_); rintro e w' ⟨rfl, rfl⟩)
                        go_ret
                        exact ⟨ret_bool HQ.out.symm, HB.out.1⟩
                      | true =>
                        go_wp2_with (go_at_call 51; (with_reducible refine HP.out.mono ?_); rintro e w' ⟨rfl, rfl⟩)
                        go_round
                        case rel =>
                         refine ⟨k + 1, by omega, by go_num, fun j hj => ?_⟩
                         by_cases e : j = k
                         · subst e
                           rw [HM.out.2]
                           exact HBF.out
                         · exact HS.out j (by omega)
                        case measure => simp [intOf]; omega
                    · have e : k = lf := by omega
                      subst e
                      have HQ : Hid (r = true) := Lib.hid (by rw [HR.out]; exact all_yesL (q := fun f => plainP (tx f)) HB.out.2.2 HS.out)
                      go_wp2
                      go_ret
                      exact ⟨ret_bool HQ.out.symm, HB.out.1⟩
                 · have g8' : 8 < (lf : Int) := by omega
                   have HQ : Hid (r = false) := Lib.hid (by rw [HX.out]; simp [g8])
                   go_wp2_with (first | (go_at_call 15; (with_reducible refine HWO.out.mono ?_); rintro e w' ⟨rfl, rfl⟩))
                   go_ret
                   exact ⟨ret_bool HQ.out.symm, HB.out.1⟩
               | false =>
                 cases q2 with
                 | false =>
                   have HQ : Hid (r = false) := Lib.hid (by rw [HX.out]; simp [])
                   go_wp2_with (first | (go_at_call 15; (with_reducible refine HWO.out.mono ?_); rintro e w' ⟨rfl, rfl⟩) | (go_at_call 51; (with_reducible refine HFO.out.mono ?_); rintro e w' ⟨rfl, rfl⟩))
                   go_ret
                   exact ⟨ret_bool HQ.out.symm, HB.out.1⟩
                 | true =>
                   by_cases g8 : lf ≤ 8
                   · have g8' : (lf : Int) ≤ 8 := by omega
                     have HR : Hid (r = fb.all fun f => plainP (tx f)) := Lib.hid (by rw [HX.out]; simp [g0, g1, g3, g4, g5, g6, g8])
                     go_wp2_with (first | (go_at_call 15; (with_reducible refine HWO.out.mono ?_); rintro e w' ⟨rfl, rfl⟩) | (go_at_call 51; (with_reducible refine HFO.out.mono ?_); rintro e w' ⟨rfl, rfl⟩))
                     go_loop [56] (fun s56 => ∃ k : Nat, k ≤ lf ∧ s56 = .int .i64 k ∧ ∀ j, j < k → plainP (tx (fb.getD j default)) = true) (fun s56 => lf - (intOf s56).toNat)
                     case atStart => exact ⟨0, Nat.zero_le _, rfl, fun j hj => by omega⟩
                     case round =>
                      obtain ⟨k, hk, rfl, hst⟩ := hrel
                      have HS := Lib.hid hst
                      clear hst
                      by_cases hlt : k < lf
                      · have hlt' : k < fb.length := by rw [HB.out.2.2]; exact hlt
                        obtain ⟨ad, c', e1, had, d0⟩ := HB.out.2.1.at_ hlt'
                        injection e1 with e1 e1n e1c
                        clear e1n e1c
                        subst e1
                        obtain ⟨f, hf⟩ : ∃ f, fb.getD k default = f := ⟨_, rfl⟩
                        have HM : Hid (f ∈ fb ∧ fb.getD k default = f) := Lib.hid ⟨by rw [← hf]; exact getD_mem hlt', hf⟩
                        rw [hf] at d0
                        have HP := Lib.hid (HFB.out f HM.out.1 W)
                        have hk0 : (0 : Int) ≤ (k : Int) := by omega
                        have hk1 : (k : Int) < (lf : Int) := by omega
                        obtain ⟨b, hb⟩ : ∃ b, plainP (tx f) = b := ⟨_, rfl⟩
                        rw [hb] at HP
                        have HBF := Lib.hid hb
                        clear hb hf had hlt'
                        cases b with
                        | false =>
                          have HQ : Hid (r = false) := Lib.hid (by rw [HR.out]; exact all_no HM.out.1 HBF.out)
                          go_wp2_with (go_at_call 51; (with_reducible refine HP.out.mono ?_); rintro e w' ⟨rfl, rfl⟩)
                          go_ret
                          exact ⟨ret_bool HQ.out.symm, HB.out.1⟩
                        | true =>
                          go_wp2_with (go_at_call 51; (with_reducible refine HP.out.mono ?_); rintro e w' ⟨rfl, rfl⟩)
                          go_round
                          case rel =>
                           refine ⟨k + 1, by omega, by go_num, fun j hj => ?_⟩
                           by_cases e : j = k
                           · subst e
                             rw [HM.out.2]
                             exact HBF.out
                           · exact HS.out j (by omega)
                          case measure => simp [intOf]; omega
                      · have e : k = lf := by omega
                        subst e
                        have HQ : Hid (r = true) := Lib.hid (by rw [HR.out]; exact all_yesL (q := fun f => plainP (tx f)) HB.out.2.2 HS.out)
                        go_wp2
                        go_ret
                        exact ⟨ret_bool HQ.out.symm, HB.out.1⟩
                   · have g8' : 8 < (lf : Int) := by omega
                     have HQ : Hid (r = false) := Lib.hid (by rw [HX.out]; simp [g8])
                     go_wp2_with (first | (go_at_call 15; (with_reducible refine HWO.out.mono ?_); rintro e w' ⟨rfl, rfl⟩) | (go_at_call 51; (with_reducible refine HFO.out.mono ?_); rintro e w' ⟨rfl, rfl⟩))
                     go_ret
                     exact ⟨ret_bool HQ.out.symm, HB.out.1⟩
             · have g6' : 2 < ch := by omega
               have HQ : Hid (r = false) := Lib.hid (by rw [HX.out]; simp [g6])
               go_wp2_with (first | (go_at_call 15; (with_reducible refine HWO.out.mono ?_); rintro e w' ⟨rfl, rfl⟩))
               go_ret
               exact ⟨ret_bool HQ.out.symm, HB.out.1⟩
           · have g5' : ch < 1 := by omega
             have HQ : Hid (r = false) := Lib.hid (by rw [HX.out]; simp [g5])
             go_wp2_with (first | (go_at_call 15; (with_reducible refine HWO.out.mono ?_); rintro e w' ⟨rfl, rfl⟩))
             go_ret
             exact ⟨ret_bool HQ.out.symm, HB.out.1⟩
         · have g4' : 1000000 < ck := by omega
           have HQ : Hid (r = false) := Lib.hid (by rw [HX.out]; simp [g4])
           go_wp2_with (first | (go_at_call 15; (with_reducible refine HWO.out.mono ?_); rintro e w' ⟨rfl, rfl⟩))
           go_ret
           exact ⟨ret_bool HQ.out.symm, HB.out.1⟩
       · have g3' : ck < 1 := by omega
         have HQ : Hid (r = false) := Lib.hid (by rw [HX.out]; simp [g3])
         go_wp2_with (first | (go_at_call 15; (with_reducible refine HWO.out.mono ?_); rintro e w' ⟨rfl, rfl⟩))
         go_ret
         exact ⟨ret_bool HQ.out.symm, HB.out.1⟩
   · have g1' : 127 < ty := by omega
     have HQ : Hid (r = false) := Lib.hid (by rw [HX.out]; simp [g1])
     go_wp2
     go_ret
     exact ⟨ret_bool HQ.out.symm, HB.out.1⟩
 · have g0' : ty < 0 := by omega
   have HQ : Hid (r = false) := Lib.hid (by rw [HX.out]; simp [g0])
   go_wp2
   go_ret
   exact ⟨ret_bool HQ.out.symm, HB.out.1⟩
end Go.Proofs.YtibpnjakimobmaaGreat
