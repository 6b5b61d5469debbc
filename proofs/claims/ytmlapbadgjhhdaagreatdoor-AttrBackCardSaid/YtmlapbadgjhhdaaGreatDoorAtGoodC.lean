/- The program's Good. -/
import Derived.Test.YtmlapbadgjhhdaaGreatDoorAtListY
namespace Go.Proofs.YtmlapbadgjhhdaaGreatDoor
open Go.RowKit
set_option linter.unusedVariables false
set_option linter.unusedSimpArgs false

theorem any_not {α : Type} (L : List α) (q : α → Bool) : (!(L.any fun x => !q x)) = L.all q := by
  induction L with
  | nil => rfl
  | cons a r ih => rw [List.any_cons, List.all_cons, ← ih]; cases q a <;> simp
set_option maxHeartbeats 6400000 in
set_option maxRecDepth 100000 in
theorem goodCodec_any (x : CodecS) (Af : Option Addr) (lf kf : Nat) (w : World) (h : TextsV w w.heap.size (.slice Af lf kf) x.feedback) (hs : x.name.size ≤ 140737488355328 ∧ x.format.size ≤ 140737488355328 ∧ ∀ f ∈ x.feedback, f.size ≤ 140737488355328) (hl : x.feedback.length ≤ 140737488355328) :
    Calls Tryz.prog 55 #[.agg #[.int .i64 x.type, .string x.name, .int .i64 x.clock, .int .i64 x.chans, .string x.format, .slice Af lf kf]] w fun e w' => e = .returned (.bool (goodC x)) ∧ Below w.heap.size w w' := by
  obtain ⟨ty, nm, ck, ch, fm, fb⟩ := x
  have hs : nm.size ≤ 140737488355328 ∧ fm.size ≤ 140737488355328 ∧ ∀ f ∈ fb, f.size ≤ 140737488355328 := hs
  have hl : fb.length ≤ 140737488355328 := hl
  have h : TextsV w w.heap.size (.slice Af lf kf) fb := h
  have hlf : lf = fb.length := by
    obtain ⟨_, _, e, -⟩ := Rows.form h
    injection e
  have hb0 : Below w.heap.size w (w.alloc (.cells #[.int .i64 ty, .string nm, .int .i64 ck, .int .i64 ch, .string fm, .slice Af lf kf] 58)) := (Below.refl _ w).alloc (Nat.le_refl _) _
  have hz := Whole.new w 58 #[.int .i64 ty, .string nm, .int .i64 ck, .int .i64 ch, .string fm, .slice Af lf kf]
  have c0 := hz.cell 0
  have c1 := hz.cell 1
  have c2 := hz.cell 2
  have c3 := hz.cell 3
  have c4 := hz.cell 4
  have c5 := hz.cell 5
  simp only [List.getElem?_toArray, List.getElem?_cons_zero, List.getElem?_cons_succ] at c0 c1 c2 c3 c4 c5
  have HB := Lib.hid (And.intro hb0 (h.below hb0))
  have hx : goodC ⟨ty, nm, ck, ch, fm, fb⟩ = ((decide (0 ≤ ty) && decide (ty ≤ 127)) && (wordP 1 32 (tx nm) && ((decide (1 ≤ ck) && decide (ck ≤ 1000000)) && ((decide (1 ≤ ch) && decide (ch ≤ 2)) && (((tx fm).isEmpty || plainP (tx fm)) && (decide (lf ≤ 8) && !(fb.any fun f => !plainP (tx f)))))))) := by
    rw [any_not, hlf]
    unfold goodC
    simp only [Bool.and_assoc]
  show Calls _ _ _ _ fun e w' => e = .returned (.bool (goodC ⟨ty, nm, ck, ch, fm, fb⟩)) ∧ _
  have hmt : fm.toList.isEmpty = (tx fm).isEmpty := by rw [toList_tx]
  have HWI : Hid (∀ n a b W, Calls Tryz.prog 27 #[.int .i64 n, .int .i64 a, .int .i64 b] W fun e w' => e = .returned (.bool (decide (a ≤ n) && decide (n ≤ b))) ∧ W = w') := Lib.hid fun n a b W => within_any n a b W
  have HWO := Lib.hid (word_any nm (w.alloc (.cells #[.int .i64 ty, .string nm, .int .i64 ck, .int .i64 ch, .string fm, .slice Af lf kf] 58)) (by unfold maxLen; omega))
  have HFO := Lib.hid (goodFormat_any fm (w.alloc (.cells #[.int .i64 ty, .string nm, .int .i64 ck, .int .i64 ch, .string fm, .slice Af lf kf] 58)) (by unfold maxLen; omega))
  have HCO : Hid (∀ W, Below w.heap.size w W → TextsV W w.heap.size (.slice Af lf kf) fb → Calls Tryz.prog 86 #[.slice Af lf kf, .func (.func 87) #[] #[]] W fun e w' => e = .returned (.bool (fb.any fun f => !plainP (tx f))) ∧ Below W.heap.size W w') := Lib.hid fun W hW hv =>
    containsB_any Af lf kf fb (fun f => !plainP (tx f)) W (hv.more hW.size) hlf.symm (by omega) fun W' f _ hf => (badFormat_any f W' (by have := hs.2.2 f hf; unfold maxLen; omega)).mono fun e w' ⟨h1, h2⟩ => ⟨h1, h2 ▸ Below.refl _ _⟩
  have HT1 := Lib.hid (HWI.out ty 0 127 (w.alloc (.cells #[.int .i64 ty, .string nm, .int .i64 ck, .int .i64 ch, .string fm, .slice Af lf kf] 58)))
  have HT2 := Lib.hid (HWI.out ck 1 1000000 (w.alloc (.cells #[.int .i64 ty, .string nm, .int .i64 ck, .int .i64 ch, .string fm, .slice Af lf kf] 58)))
  have HT3 := Lib.hid (HWI.out ch 1 2 (w.alloc (.cells #[.int .i64 ty, .string nm, .int .i64 ck, .int .i64 ch, .string fm, .slice Af lf kf] 58)))
  have HC1 := Lib.hid (HCO.out _ HB.out.1 HB.out.2)
  have HX := Lib.hid hx
  have hlm : lf ≤ 140737488355328 := by omega
  clear hb0 hz h HWI hx hs hl HCO hlf
  generalize goodC ⟨ty, nm, ck, ch, fm, fb⟩ = r at *
  generalize (decide ((0 : Int) ≤ ty) && decide (ty ≤ 127)) = t1 at *
  generalize (decide ((1 : Int) ≤ ck) && decide (ck ≤ 1000000)) = t2 at *
  generalize (decide ((1 : Int) ≤ ch) && decide (ch ≤ 2)) = t3 at *
  generalize (fb.any fun f => !plainP (tx f)) = t4 at *
  generalize wordP 1 32 (tx nm) = q1 at *
  generalize plainP (tx fm) = q2 at *
  generalize (tx fm).isEmpty = q3 at *
  obtain ⟨N, hN⟩ : ∃ N, w.heap.size = N := ⟨_, rfl⟩
  rw [hN] at c0 c1 c2 c3 c4 c5 HB ⊢
  go_enter Tryz.func55, Tryz.ntmps55
  go_upto_region 1 with fail
  generalize w.alloc (.cells #[.int .i64 ty, .string nm, .int .i64 ck, .int .i64 ch, .string fm, .slice Af lf kf] 58) = W at *
  have HSZ : Hid (N ≤ W.heap.size) := Lib.hid (by have := HB.out.1.size; omega)
  clear hN
  cases t1 with
  | false =>
    have HQ : Hid (r = false) := Lib.hid (by rw [HX.out]; simp)
    go_wp2_with (first
        | (go_at_call 27; (with_reducible refine HT1.out.mono ?_); rintro e w' ⟨rfl, rfl⟩))
    go_ret
    exact ⟨ret_bool HQ.out.symm, HB.out.1⟩
  | true =>
    cases q1 with
    | false =>
      have HQ : Hid (r = false) := Lib.hid (by rw [HX.out]; simp)
      go_wp2_with (first
          | (go_at_call 27; (with_reducible refine HT1.out.mono ?_); rintro e w' ⟨rfl, rfl⟩)
          | (go_at_call 52; (with_reducible refine HWO.out.mono ?_); rintro e w' ⟨rfl, rfl⟩))
      go_ret
      exact ⟨ret_bool HQ.out.symm, HB.out.1⟩
    | true =>
      cases t2 with
      | false =>
        have HQ : Hid (r = false) := Lib.hid (by rw [HX.out]; simp)
        go_wp2_with (first
            | (go_at_call 27; (with_reducible refine HT1.out.mono ?_); rintro e w' ⟨rfl, rfl⟩)
            | (go_at_call 52; (with_reducible refine HWO.out.mono ?_); rintro e w' ⟨rfl, rfl⟩)
            | (go_at_call 27; (with_reducible refine HT2.out.mono ?_); rintro e w' ⟨rfl, rfl⟩))
        go_ret
        exact ⟨ret_bool HQ.out.symm, HB.out.1⟩
      | true =>
        cases t3 with
        | false =>
          have HQ : Hid (r = false) := Lib.hid (by rw [HX.out]; simp)
          go_wp2_with (first
              | (go_at_call 27; (with_reducible refine HT1.out.mono ?_); rintro e w' ⟨rfl, rfl⟩)
              | (go_at_call 52; (with_reducible refine HWO.out.mono ?_); rintro e w' ⟨rfl, rfl⟩)
              | (go_at_call 27; (with_reducible refine HT2.out.mono ?_); rintro e w' ⟨rfl, rfl⟩)
              | (go_at_call 27; (with_reducible refine HT3.out.mono ?_); rintro e w' ⟨rfl, rfl⟩))
          go_ret
          exact ⟨ret_bool HQ.out.symm, HB.out.1⟩
        | true =>
          cases q3 with
          | true =>
            by_cases hlt : lf ≤ 8
            · have hl8 : (lf : Int) ≤ 8 := by omega
              have HQ : Hid ((!t4) = r) := Lib.hid (by rw [HX.out]; simp [hlt])
              go_wp2_with (first
                  | (go_at_call 27; (with_reducible refine HT1.out.mono ?_); rintro e w' ⟨rfl, rfl⟩)
                  | (go_at_call 52; (with_reducible refine HWO.out.mono ?_); rintro e w' ⟨rfl, rfl⟩)
                  | (go_at_call 27; (with_reducible refine HT2.out.mono ?_); rintro e w' ⟨rfl, rfl⟩)
                  | (go_at_call 27; (with_reducible refine HT3.out.mono ?_); rintro e w' ⟨rfl, rfl⟩)
                  | (go_at_call 86; (with_reducible refine HC1.out.mono ?_); rintro e w' ⟨rfl, hb4⟩))
              go_ret
              exact ⟨ret_bool HQ.out, HB.out.1.trans (hb4.mono HSZ.out)⟩
            · have hl8 : 8 < (lf : Int) := by omega
              have HQ : Hid (r = false) := Lib.hid (by rw [HX.out]; simp [hlt])
              go_wp2_with (first
                  | (go_at_call 27; (with_reducible refine HT1.out.mono ?_); rintro e w' ⟨rfl, rfl⟩)
                  | (go_at_call 52; (with_reducible refine HWO.out.mono ?_); rintro e w' ⟨rfl, rfl⟩)
                  | (go_at_call 27; (with_reducible refine HT2.out.mono ?_); rintro e w' ⟨rfl, rfl⟩)
                  | (go_at_call 27; (with_reducible refine HT3.out.mono ?_); rintro e w' ⟨rfl, rfl⟩))
              go_ret
              exact ⟨ret_bool HQ.out.symm, HB.out.1⟩
          | false =>
            cases q2 with
            | false =>
              have HQ : Hid (r = false) := Lib.hid (by rw [HX.out]; simp)
              go_wp2_with (first
                | (go_at_call 27; (with_reducible refine HT1.out.mono ?_); rintro e w' ⟨rfl, rfl⟩)
                | (go_at_call 52; (with_reducible refine HWO.out.mono ?_); rintro e w' ⟨rfl, rfl⟩)
                | (go_at_call 27; (with_reducible refine HT2.out.mono ?_); rintro e w' ⟨rfl, rfl⟩)
                | (go_at_call 27; (with_reducible refine HT3.out.mono ?_); rintro e w' ⟨rfl, rfl⟩)
                | (go_at_call 85; (with_reducible refine HFO.out.mono ?_); rintro e w' ⟨rfl, rfl⟩))
              go_ret
              exact ⟨ret_bool HQ.out.symm, HB.out.1⟩
            | true =>
              by_cases hlt : lf ≤ 8
              · have hl8 : (lf : Int) ≤ 8 := by omega
                have HQ : Hid ((!t4) = r) := Lib.hid (by rw [HX.out]; simp [hlt])
                go_wp2_with (first
                    | (go_at_call 27; (with_reducible refine HT1.out.mono ?_); rintro e w' ⟨rfl, rfl⟩)
                    | (go_at_call 52; (with_reducible refine HWO.out.mono ?_); rintro e w' ⟨rfl, rfl⟩)
                    | (go_at_call 27; (with_reducible refine HT2.out.mono ?_); rintro e w' ⟨rfl, rfl⟩)
                    | (go_at_call 27; (with_reducible refine HT3.out.mono ?_); rintro e w' ⟨rfl, rfl⟩)
                    | (go_at_call 85; (with_reducible refine HFO.out.mono ?_); rintro e w' ⟨rfl, rfl⟩)
                    | (go_at_call 86; (with_reducible refine HC1.out.mono ?_); rintro e w' ⟨rfl, hb4⟩))
                go_ret
                exact ⟨ret_bool HQ.out, HB.out.1.trans (hb4.mono HSZ.out)⟩
              · have hl8 : 8 < (lf : Int) := by omega
                have HQ : Hid (r = false) := Lib.hid (by rw [HX.out]; simp [hlt])
                go_wp2_with (first
                    | (go_at_call 27; (with_reducible refine HT1.out.mono ?_); rintro e w' ⟨rfl, rfl⟩)
                    | (go_at_call 52; (with_reducible refine HWO.out.mono ?_); rintro e w' ⟨rfl, rfl⟩)
                    | (go_at_call 27; (with_reducible refine HT2.out.mono ?_); rintro e w' ⟨rfl, rfl⟩)
                    | (go_at_call 27; (with_reducible refine HT3.out.mono ?_); rintro e w' ⟨rfl, rfl⟩)
                    | (go_at_call 85; (with_reducible refine HFO.out.mono ?_); rintro e w' ⟨rfl, rfl⟩))
                go_ret
                exact ⟨ret_bool HQ.out.symm, HB.out.1⟩
end Go.Proofs.YtmlapbadgjhhdaaGreatDoor
