/- A packet of the document's package is copied into one of the program's. -/
import Derived.Test.YtapbodiakkdfmaaRpYP
import Derived.Test.YtapbodiakkdfmaaLate
namespace Go.Proofs.Ytapbodiakkdfmaa
open Go.RowKit
set_option linter.unusedVariables false
set_option linter.unusedSimpArgs false

theorem own0 {w : World} {g : Nat} (h : Whole w g 5 #[]) : Own8 w 0 (.slice (some ⟨g, 0, none⟩) 0 0) [] := ⟨rfl, .inr ⟨g, 0, #[], rfl, Nat.zero_le _, h, Nat.le_refl _, Nat.zero_le _, rfl, rfl⟩⟩

set_option maxHeartbeats 6400000 in
set_option maxRecDepth 100000 in
theorem theirs12_any (M : Array Value) (X : PkX) (w : World) (h : InPk w M X) : Calls Try.prog 9 #[.agg M] w fun e w' => TheirsO X w e w' := by
  have hz : ∀ W, (zeroValue 37).run Try.prog W = .ok (.agg zP) W := fun W => by kernel_rfl
  have HZ9 : Hid (zP.size = 9) := Lib.hid rfl
  obtain ⟨Z, hZ⟩ : ∃ Z, zP = Z := ⟨_, rfl⟩
  have HZE := Lib.hid hZ
  simp only [hZ] at hz HZ9
  clear hZ
  have hg := Whole.new w 28 M
  have hb0 : Below w.heap.size w (w.alloc (.cells M 28)) := (Below.refl _ w).alloc (Nat.le_refl _) _
  have HM := Lib.hid (And.intro h (And.intro hg hb0))
  clear hg hb0 h
  obtain ⟨N, hN⟩ : ∃ N, w.heap.size = N := ⟨_, rfl⟩
  have HN := Lib.hid hN
  rw [hN] at HM
  go_enter Try.func9, Try.ntmps9
  go_upto_region 1 with fail
  have a0 : Whole ((w.alloc (.cells M 28)).alloc (.cells Z 37)) N 28 M := HM.out.2.1.alloc _
  have a1 : Whole ((w.alloc (.cells M 28)).alloc (.cells Z 37)) (N + 1) 37 Z := by rw [← HN.out]; exact Whole.new2 w _ _ _
  have a2 : Below N w ((w.alloc (.cells M 28)).alloc (.cells Z 37)) := HM.out.2.2.alloc (by simp [HN.out]) _
  have a3 : ((w.alloc (.cells M 28)).alloc (.cells Z 37)).heap.size = N + 2 := by simp [HN.out]
  generalize (w.alloc (.cells M 28)).alloc (.cells Z 37) = W1 at *
  clear hN
  try rw [HN.out]
  obtain ⟨W2, hW2⟩ : ∃ W, W1.drew = W := ⟨_, rfl⟩
  have HW := Lib.hid hW2
  obtain ⟨N0, hN0⟩ : ∃ k, N + 2 = k := ⟨_, rfl⟩
  have HN0 : Hid (W2.heap.size = N0) := Lib.hid (by rw [← hW2, ← hN0]; exact a3)
  have HNN : Hid (N + 2 = N0) := Lib.hid hN0
  have HB0 : Hid (Below N0 W2 W2) := Lib.hid (Below.refl _ _)
  have HA : Hid (Whole W2 N 28 M ∧ Whole W2 (N + 1) 37 Z ∧ Below N w W2) := Lib.hid (by rw [← hW2]; exact ⟨a0.drew, a1.drew, a2.drew⟩)
  have HBS : Hid (∀ W, Below N0 W2 W → N0 ≤ W.heap.size) := Lib.hid fun W hW => by have := hW.size; have := HN0.out; omega
  have HBOX : Hid (∀ W, Below N0 W2 W → Whole W N 28 M) := Lib.hid fun W hW => HA.out.1.below hW (by have := HNN.out; omega)
  have HCELL : ∀ W, Whole W N 28 M → W.cell? ⟨N, 0, none⟩ = some (.bool X.mr) ∧ W.cell? ⟨N, 1, none⟩ = some (.int .i64 X.ty) ∧ W.cell? ⟨N, 2, none⟩ = some (.int .u16 X.sq) ∧ W.cell? ⟨N, 3, none⟩ = some (.int .u32 X.ti) ∧ W.cell? ⟨N, 4, none⟩ = some (.int .u32 X.so) ∧
      W.cell? ⟨N, 5, none⟩ = some (.slice X.A5 X.us.length X.c5) ∧ W.cell? ⟨N, 6, none⟩ = some (.slice X.A6 X.xs.length X.c6) ∧ W.cell? ⟨N, 7, none⟩ = some (.slice X.A7 X.ys.length X.c7) ∧ W.cell? ⟨N, 8, none⟩ = some (.int .i64 X.pad) := fun W hW => by
    have hf := HM.out.1.form
    rw [hf] at hW
    exact pk_cells hW
  have HC0 : Hid (∀ W, Whole W N 28 M → W.cell? ⟨N, 0, none⟩ = some (.bool X.mr)) := Lib.hid fun W h => (HCELL W h).1
  have HC1 : Hid (∀ W, Whole W N 28 M → W.cell? ⟨N, 1, none⟩ = some (.int .i64 X.ty)) := Lib.hid fun W h => (HCELL W h).2.1
  have HC2 : Hid (∀ W, Whole W N 28 M → W.cell? ⟨N, 2, none⟩ = some (.int .u16 X.sq)) := Lib.hid fun W h => (HCELL W h).2.2.1
  have HC3 : Hid (∀ W, Whole W N 28 M → W.cell? ⟨N, 3, none⟩ = some (.int .u32 X.ti)) := Lib.hid fun W h => (HCELL W h).2.2.2.1
  have HC4 : Hid (∀ W, Whole W N 28 M → W.cell? ⟨N, 4, none⟩ = some (.int .u32 X.so)) := Lib.hid fun W h => (HCELL W h).2.2.2.2.1
  have HC5 : Hid (∀ W, Whole W N 28 M → W.cell? ⟨N, 5, none⟩ = some (.slice X.A5 X.us.length X.c5)) := Lib.hid fun W h => (HCELL W h).2.2.2.2.2.1
  have HC6 : Hid (∀ W, Whole W N 28 M → W.cell? ⟨N, 6, none⟩ = some (.slice X.A6 X.xs.length X.c6)) := Lib.hid fun W h => (HCELL W h).2.2.2.2.2.2.1
  have HC7 : Hid (∀ W, Whole W N 28 M → W.cell? ⟨N, 7, none⟩ = some (.slice X.A7 X.ys.length X.c7)) := Lib.hid fun W h => (HCELL W h).2.2.2.2.2.2.2.1
  have HC8 : Hid (∀ W, Whole W N 28 M → W.cell? ⟨N, 8, none⟩ = some (.int .i64 X.pad)) := Lib.hid fun W h => (HCELL W h).2.2.2.2.2.2.2.2
  have HWB : Hid (∀ W, Below N0 W2 W → Below w.heap.size w W) := Lib.hid fun W hW => by rw [HN.out]; exact HA.out.2.2.trans (hW.mono (by have := HNN.out; omega))
  have HU : Hid (∀ W, Below N0 W2 W → U32s W w.heap.size X.A5 X.us) := Lib.hid fun W hW => HM.out.1.us.below (HWB.out W hW)
  have HN5 := Lib.hid HM.out.1.none5
  have HL5 := Lib.hid HM.out.1.len5
  obtain ⟨Xys, hXys⟩ : ∃ l, X.ys = l := ⟨_, rfl⟩
  have hys := HM.out.1.ys
  have HY : Hid (∀ W, Below N0 W2 W → Bs W w.heap.size X.A7 X.ys.length Xys) := Lib.hid fun W hW => by
    obtain ⟨A', c', e, _, _, _, hb⟩ := hys
    cases e
    rw [← hXys]
    exact hb.below (HWB.out W hW)
  have HN7 : Hid (X.A7 = none → X.c7 = 0) := Lib.hid (by obtain ⟨A', c', e, _, _, hn, hb⟩ := hys; cases e; exact hn)
  have HL7 : Hid (([] : List Int).length + X.ys.length ≤ 140737488355328) := Lib.hid (by have := HM.out.1.len7; simp; omega)
  have HFIN : Hid (∀ (W : World) (g : Nat) (C P : Value), Below N0 W2 W → Whole W g 37 Z → N0 ≤ g → CpX N g M X C P w (W.setRow g (pk X.mr X.ty X.sq X.ti X.so C (.slice none 0 0) P X.pad)) (.slice none 0 0) [] [] ∧ Below N0 W2 (W.setRow g (pk X.mr X.ty X.sq X.ti X.so C (.slice none 0 0) P X.pad))) := Lib.hid fun W g C P hW hg hge => by
    have hN2 := HNN.out
    refine ⟨⟨((HA.out.1.below hW (by omega))).farRow (by omega) _, ?_, hg.row _, RowX.nil _ _ _, Els.nil _ _, below_row (HA.out.2.2.trans (hW.mono (by omega))) (by omega) _, by omega⟩, below_row hW hge _⟩
    rw [HZE.out]
    exact (HA.out.2.1.below hW (by omega)).farRow (by omega) _
  clear hys a0 a1 a2 a3 hN0 HCELL hXys
  go_cut [3] from 3 to 25 (fun s3 wc => ∃ g C P, s3 = .pointer (some ⟨g, 0, none⟩) ∧ C.oneCell' = true ∧ P.oneCell' = true ∧ CpX N g M X C P w wc (.slice none 0 0) [] [] ∧ Below N0 W2 wc)
  case first =>
    refine wp_region_held_drew (S := fun W => Whole W N 28 M) (by kernel_rfl) (by rw [hW2]; exact HA.out.1) (fun hHeld => ?_)
    rw [hW2] at hHeld ⊢
    clear hW2
    refine wpAnyH_take (i := 0) (v := _) rfl (by as_aux_lemma => kernel_rfl) (by as_aux_lemma => kernel_rfl) (by as_aux_lemma => kernel_rfl) (fun _ _ _ h => h) (Or.inl ⟨by rfl, fun w h => by have e0 := HC0.out w h; have e1 := HC1.out w h; have e2 := HC2.out w h; have e3 := HC3.out w h; have e4 := HC4.out w h; have e5 := HC5.out w h; have e6 := HC7.out w h; have e7 := HC8.out w h; clear h; go_simp; (try with_reducible rfl)⟩) (by assumption) ?_
    simp only [Act.put, List.getElem_toArray, List.getElem_cons_succ, List.getElem_cons_zero, List.setIfInBounds_toArray, List.set_cons_succ, List.set_cons_zero]
    refine wpAnyH_take (i := 1) (v := _) rfl (by as_aux_lemma => kernel_rfl) (by as_aux_lemma => kernel_rfl) (by as_aux_lemma => kernel_rfl) (fun _ _ _ h => h) (Or.inl ⟨by rfl, fun w h => by have e0 := HC0.out w h; have e1 := HC1.out w h; have e2 := HC2.out w h; have e3 := HC3.out w h; have e4 := HC4.out w h; have e5 := HC5.out w h; have e6 := HC7.out w h; have e7 := HC8.out w h; clear h; go_simp; (try with_reducible rfl)⟩) (by assumption) ?_
    simp only [Act.put, List.getElem_toArray, List.getElem_cons_succ, List.getElem_cons_zero, List.setIfInBounds_toArray, List.set_cons_succ, List.set_cons_zero]
    refine wpAnyH_take (i := 2) (v := _) rfl (by as_aux_lemma => kernel_rfl) (by as_aux_lemma => kernel_rfl) (by as_aux_lemma => kernel_rfl) (fun _ _ _ h => h) (Or.inl ⟨by rfl, fun w h => by have e0 := HC0.out w h; have e1 := HC1.out w h; have e2 := HC2.out w h; have e3 := HC3.out w h; have e4 := HC4.out w h; have e5 := HC5.out w h; have e6 := HC7.out w h; have e7 := HC8.out w h; clear h; go_simp; (try with_reducible rfl)⟩) (by assumption) ?_
    simp only [Act.put, List.getElem_toArray, List.getElem_cons_succ, List.getElem_cons_zero, List.setIfInBounds_toArray, List.set_cons_succ, List.set_cons_zero]
    refine wpAnyH_take (i := 3) (v := _) rfl (by as_aux_lemma => kernel_rfl) (by as_aux_lemma => kernel_rfl) (by as_aux_lemma => kernel_rfl) (fun _ _ _ h => h) (Or.inl ⟨by rfl, fun w h => by have e0 := HC0.out w h; have e1 := HC1.out w h; have e2 := HC2.out w h; have e3 := HC3.out w h; have e4 := HC4.out w h; have e5 := HC5.out w h; have e6 := HC7.out w h; have e7 := HC8.out w h; clear h; go_simp; (try with_reducible rfl)⟩) (by assumption) ?_
    simp only [Act.put, List.getElem_toArray, List.getElem_cons_succ, List.getElem_cons_zero, List.setIfInBounds_toArray, List.set_cons_succ, List.set_cons_zero]
    refine wpAnyH_take (i := 4) (v := _) rfl (by as_aux_lemma => kernel_rfl) (by as_aux_lemma => kernel_rfl) (by as_aux_lemma => kernel_rfl) (fun _ _ _ h => h) (Or.inl ⟨by rfl, fun w h => by have e0 := HC0.out w h; have e1 := HC1.out w h; have e2 := HC2.out w h; have e3 := HC3.out w h; have e4 := HC4.out w h; have e5 := HC5.out w h; have e6 := HC7.out w h; have e7 := HC8.out w h; clear h; go_simp; (try with_reducible rfl)⟩) (by assumption) ?_
    simp only [Act.put, List.getElem_toArray, List.getElem_cons_succ, List.getElem_cons_zero, List.setIfInBounds_toArray, List.set_cons_succ, List.set_cons_zero]
    refine wpAnyH_take (i := 5) (v := _) rfl (by as_aux_lemma => kernel_rfl) (by as_aux_lemma => kernel_rfl) (by as_aux_lemma => kernel_rfl) (fun _ _ _ h => h) (Or.inl ⟨by rfl, fun w h => by have e0 := HC0.out w h; have e1 := HC1.out w h; have e2 := HC2.out w h; have e3 := HC3.out w h; have e4 := HC4.out w h; have e5 := HC5.out w h; have e6 := HC7.out w h; have e7 := HC8.out w h; clear h; go_simp; (try with_reducible rfl)⟩) (by assumption) ?_
    simp only [Act.put, List.getElem_toArray, List.getElem_cons_succ, List.getElem_cons_zero, List.setIfInBounds_toArray, List.set_cons_succ, List.set_cons_zero]
    refine wpAnyH_take (i := 6) (v := _) rfl (by as_aux_lemma => kernel_rfl) (by as_aux_lemma => kernel_rfl) (by as_aux_lemma => kernel_rfl) (fun _ _ _ h => h) (Or.inl ⟨by rfl, fun w h => by have e0 := HC0.out w h; have e1 := HC1.out w h; have e2 := HC2.out w h; have e3 := HC3.out w h; have e4 := HC4.out w h; have e5 := HC5.out w h; have e6 := HC7.out w h; have e7 := HC8.out w h; clear h; go_simp; (try with_reducible rfl)⟩) (by assumption) ?_
    simp only [Act.put, List.getElem_toArray, List.getElem_cons_succ, List.getElem_cons_zero, List.setIfInBounds_toArray, List.set_cons_succ, List.set_cons_zero]
    refine wpAnyH_take (i := 7) (v := _) rfl (by as_aux_lemma => kernel_rfl) (by as_aux_lemma => kernel_rfl) (by as_aux_lemma => kernel_rfl) (fun _ _ _ h => h) (Or.inl ⟨by rfl, fun w h => by have e0 := HC0.out w h; have e1 := HC1.out w h; have e2 := HC2.out w h; have e3 := HC3.out w h; have e4 := HC4.out w h; have e5 := HC5.out w h; have e6 := HC7.out w h; have e7 := HC8.out w h; clear h; go_simp; (try with_reducible rfl)⟩) (by assumption) ?_
    simp only [Act.put, List.getElem_toArray, List.getElem_cons_succ, List.getElem_cons_zero, List.setIfInBounds_toArray, List.set_cons_succ, List.set_cons_zero]
    refine wpAnyH_take (i := 8) (v := _) rfl (by as_aux_lemma => kernel_rfl) (by as_aux_lemma => kernel_rfl) (by as_aux_lemma => kernel_rfl) (fun _ _ _ h => h) (Or.inl ⟨by rfl, fun w h => by have e0 := HC0.out w h; have e1 := HC1.out w h; have e2 := HC2.out w h; have e3 := HC3.out w h; have e4 := HC4.out w h; have e5 := HC5.out w h; have e6 := HC7.out w h; have e7 := HC8.out w h; clear h; go_simp; (try with_reducible rfl)⟩) (by assumption) ?_
    simp only [Act.put, List.getElem_toArray, List.getElem_cons_succ, List.getElem_cons_zero, List.setIfInBounds_toArray, List.set_cons_succ, List.set_cons_zero]
    refine wpAnyH_take (i := 9) (v := _) rfl (by as_aux_lemma => kernel_rfl) (by as_aux_lemma => kernel_rfl) (by as_aux_lemma => kernel_rfl) (fun _ _ _ h => h) (Or.inl ⟨by rfl, fun w h => by have e0 := HC0.out w h; have e1 := HC1.out w h; have e2 := HC2.out w h; have e3 := HC3.out w h; have e4 := HC4.out w h; have e5 := HC5.out w h; have e6 := HC7.out w h; have e7 := HC8.out w h; clear h; go_simp; (try with_reducible rfl)⟩) (by assumption) ?_
    simp only [Act.put, List.getElem_toArray, List.getElem_cons_succ, List.getElem_cons_zero, List.setIfInBounds_toArray, List.set_cons_succ, List.set_cons_zero]
    refine wpAnyH_take (i := 11) (v := _) rfl (by as_aux_lemma => kernel_rfl) (by as_aux_lemma => kernel_rfl) (by as_aux_lemma => kernel_rfl) (fun _ _ _ h => h) (Or.inl ⟨by rfl, fun w h => by have e0 := HC0.out w h; have e1 := HC1.out w h; have e2 := HC2.out w h; have e3 := HC3.out w h; have e4 := HC4.out w h; have e5 := HC5.out w h; have e6 := HC7.out w h; have e7 := HC8.out w h; clear h; go_simp; (try with_reducible rfl)⟩) (by assumption) ?_
    simp only [Act.put, List.getElem_toArray, List.getElem_cons_succ, List.getElem_cons_zero, List.setIfInBounds_toArray, List.set_cons_succ, List.set_cons_zero]
    refine wpAnyH_take (i := 12) (v := _) rfl (by as_aux_lemma => kernel_rfl) (by as_aux_lemma => kernel_rfl) (by as_aux_lemma => kernel_rfl) (fun _ _ _ h => h) (Or.inl ⟨by rfl, fun w h => by have e0 := HC0.out w h; have e1 := HC1.out w h; have e2 := HC2.out w h; have e3 := HC3.out w h; have e4 := HC4.out w h; have e5 := HC5.out w h; have e6 := HC7.out w h; have e7 := HC8.out w h; clear h; go_simp; (try with_reducible rfl)⟩) (by assumption) ?_
    simp only [Act.put, List.getElem_toArray, List.getElem_cons_succ, List.getElem_cons_zero, List.setIfInBounds_toArray, List.set_cons_succ, List.set_cons_zero]
    refine wpAnyH_take (i := 15) (v := _) rfl (by as_aux_lemma => kernel_rfl) (by as_aux_lemma => kernel_rfl) (by as_aux_lemma => kernel_rfl) (fun _ _ _ h => h) (Or.inl ⟨by rfl, fun w h => by have e0 := HC0.out w h; have e1 := HC1.out w h; have e2 := HC2.out w h; have e3 := HC3.out w h; have e4 := HC4.out w h; have e5 := HC5.out w h; have e6 := HC7.out w h; have e7 := HC8.out w h; clear h; go_simp; (try with_reducible rfl)⟩) (by assumption) ?_
    simp only [Act.put, List.getElem_toArray, List.getElem_cons_succ, List.getElem_cons_zero, List.setIfInBounds_toArray, List.set_cons_succ, List.set_cons_zero]
    refine wpAnyH_take (i := 16) (v := _) rfl (by as_aux_lemma => kernel_rfl) (by as_aux_lemma => kernel_rfl) (by as_aux_lemma => kernel_rfl) (fun _ _ _ h => h) (Or.inl ⟨by rfl, fun w h => by have e0 := HC0.out w h; have e1 := HC1.out w h; have e2 := HC2.out w h; have e3 := HC3.out w h; have e4 := HC4.out w h; have e5 := HC5.out w h; have e6 := HC7.out w h; have e7 := HC8.out w h; clear h; go_simp; (try with_reducible rfl)⟩) (by assumption) ?_
    simp only [Act.put, List.getElem_toArray, List.getElem_cons_succ, List.getElem_cons_zero, List.setIfInBounds_toArray, List.set_cons_succ, List.set_cons_zero]
    refine wpAnyH_take (i := 18) (v := _) rfl (by as_aux_lemma => kernel_rfl) (by as_aux_lemma => kernel_rfl) (by as_aux_lemma => kernel_rfl) (fun _ _ _ h => h) (Or.inl ⟨by rfl, fun w h => by have e0 := HC0.out w h; have e1 := HC1.out w h; have e2 := HC2.out w h; have e3 := HC3.out w h; have e4 := HC4.out w h; have e5 := HC5.out w h; have e6 := HC7.out w h; have e7 := HC8.out w h; clear h; go_simp; (try with_reducible rfl)⟩) (by assumption) ?_
    simp only [Act.put, List.getElem_toArray, List.getElem_cons_succ, List.getElem_cons_zero, List.setIfInBounds_toArray, List.set_cons_succ, List.set_cons_zero]
    refine wpAnyH_take (i := 19) (v := _) rfl (by as_aux_lemma => kernel_rfl) (by as_aux_lemma => kernel_rfl) (by as_aux_lemma => kernel_rfl) (fun _ _ _ h => h) (Or.inl ⟨by rfl, fun w h => by have e0 := HC0.out w h; have e1 := HC1.out w h; have e2 := HC2.out w h; have e3 := HC3.out w h; have e4 := HC4.out w h; have e5 := HC5.out w h; have e6 := HC7.out w h; have e7 := HC8.out w h; clear h; go_simp; (try with_reducible rfl)⟩) (by assumption) ?_
    simp only [Act.put, List.getElem_toArray, List.getElem_cons_succ, List.getElem_cons_zero, List.setIfInBounds_toArray, List.set_cons_succ, List.set_cons_zero]
    refine wpAnyH_ready (rs := [10, 14, 21]) (by as_aux_lemma => kernel_rfl) (by simp) ?_
    refine (AllReadyH.cons (i := 10) rfl (fun K hK => ?_) (AllReadyH.cons (i := 14) rfl (fun K hK => ?_) (AllReadyH.cons (i := 21) rfl (fun K hK => ?_) AllReadyH.nil)))
    · go_simp
      have HGE10 : Hid (N0 ≤ W2.heap.size) := Lib.hid (by have := HBS.out _ HB0.out; omega)
      have n_hb := HB0.out.alloc (by have := HBS.out _ HB0.out; omega) (Obj.cells #[] 24)
      have n_o10 := Whole.new W2 24 #[]
      generalize W2.alloc (Obj.cells #[] 24) = w_10_ at *
      generalize W2.heap.size = g10 at *
      have H_10_ := Lib.hid (And.intro n_hb (n_o10))
      clear n_hb n_o10
      refine hK.out _ _ (HBOX.out _ H_10_.out.1) (fun hHeld' => ?_)
      clear hK K hHeld
      have hHeld := hHeld'
      clear hHeld'
      try simp only [Act.put]
      refine wpAnyH_ready (rs := [13, 14, 21]) (by as_aux_lemma => kernel_rfl) (by simp) ?_
      refine (AllReadyH.cons (i := 13) rfl (fun K hK => ?_) (AllReadyH.cons (i := 14) rfl (fun K hK => ?_) (AllReadyH.cons (i := 21) rfl (fun K hK => ?_) AllReadyH.nil)))
      · refine step_of rfl (wp_append32 (.tmp 15) (.tmp 17) rfl rfl H_10_.out.2 rfl rfl (HU.out _ H_10_.out.1) HN5.out HL5.out ?_)
        intro A13 n13 c13 w_10_13_ k13
        have n_hb := H_10_.out.1.grown k13 (by have := HBS.out _ H_10_.out.1; omega) (fun j hj => by cases hj; exact HGE10.out)
        have H_10_13_ := Lib.hid (n_hb)
        clear n_hb
        refine hK.out _ _ (HBOX.out _ H_10_13_.out) (fun hHeld' => ?_)
        clear hK K hHeld
        have hHeld := hHeld'
        clear hHeld'
        try simp only [Act.put]
        refine wpAnyH_ready (rs := [14, 21]) (by as_aux_lemma => kernel_rfl) (by simp) ?_
        refine (AllReadyH.cons (i := 14) rfl (fun K hK => ?_) (AllReadyH.cons (i := 21) rfl (fun K hK => ?_) AllReadyH.nil))
        · go_simp
          have HGE14 : Hid (N0 ≤ w_10_13_.heap.size) := Lib.hid (by have := HBS.out _ H_10_13_.out; omega)
          have n_hb := H_10_13_.out.alloc (by have := HBS.out _ H_10_13_.out; omega) (Obj.cells #[] 5)
          have n_o14 := Whole.new w_10_13_ 5 #[]
          generalize w_10_13_.alloc (Obj.cells #[] 5) = w_10_13_14_ at *
          generalize w_10_13_.heap.size = g14 at *
          have H_10_13_14_ := Lib.hid (And.intro n_hb (n_o14))
          clear n_hb n_o14
          refine hK.out _ _ (HBOX.out _ H_10_13_14_.out.1) (fun hHeld' => ?_)
          clear hK K hHeld
          have hHeld := hHeld'
          clear hHeld'
          try simp only [Act.put]
          refine wpAnyH_ready (rs := [17, 21]) (by as_aux_lemma => kernel_rfl) (by simp) ?_
          refine (AllReadyH.cons (i := 17) rfl (fun K hK => ?_) (AllReadyH.cons (i := 21) rfl (fun K hK => ?_) AllReadyH.nil))
          · refine step_of rfl (wp_append8 (base := 0) (xs := []) (.tmp 19) (.tmp 21) rfl rfl (own0 H_10_13_14_.out.2) rfl (HY.out _ H_10_13_14_.out.1) HN7.out HL7.out (Nat.zero_le _) ?_)
            intro v17 w_10_13_14_17_ h17 k13 _
            obtain ⟨A17, c17, hv17, -⟩ := h17.form
            clear h17
            generalize ([] ++ Xys : List Int).length = n17 at hv17
            subst hv17
            have n_hb := H_10_13_14_.out.1.grown k13 (by have := HBS.out _ H_10_13_14_.out.1; omega) (fun j hj => by cases hj; exact HGE14.out)
            have H_10_13_14_17_ := Lib.hid (n_hb)
            clear n_hb
            refine hK.out _ _ (HBOX.out _ H_10_13_14_17_.out) (fun hHeld' => ?_)
            clear hK K hHeld
            have hHeld := hHeld'
            clear hHeld'
            try simp only [Act.put]
            refine wpAnyH_take (i := 20) (v := .agg (pk X.mr X.ty X.sq X.ti X.so (.slice A13 n13 c13) (.slice none 0 0) (.slice A17 n17 c17) X.pad)) rfl (by as_aux_lemma => kernel_rfl) (by as_aux_lemma => kernel_rfl) (by as_aux_lemma => kernel_rfl) (fun _ _ _ h => h) (Or.inl ⟨by rfl, fun w h => by clear h hz; go_simp; (try rfl)⟩) (by assumption) ?_
            simp only [Act.put, List.getElem_toArray, List.getElem_cons_succ, List.getElem_cons_zero, List.setIfInBounds_toArray, List.set_cons_succ, List.set_cons_zero]
            refine wpAnyH_ready (rs := [21]) (by as_aux_lemma => kernel_rfl) (by simp) ?_
            refine (AllReadyH.cons (i := 21) rfl (fun K hK => ?_) AllReadyH.nil)
            go_simp
            have HGE21 : Hid (N0 ≤ w_10_13_14_17_.heap.size) := Lib.hid (by have := HBS.out _ H_10_13_14_17_.out; omega)
            have n_hb := H_10_13_14_17_.out.alloc (by have := HBS.out _ H_10_13_14_17_.out; omega) (Obj.cells Z 37)
            have n_o21 := Whole.new w_10_13_14_17_ 37 Z
            generalize w_10_13_14_17_.alloc (Obj.cells Z 37) = w_10_13_14_17_21_ at *
            generalize w_10_13_14_17_.heap.size = g21 at *
            have H_10_13_14_17_21_ := Lib.hid (And.intro n_hb (n_o21))
            clear n_hb n_o21
            refine hK.out _ _ (HBOX.out _ H_10_13_14_17_21_.out.1) (fun hHeld' => ?_)
            clear hK K hHeld
            have hHeld := hHeld'
            clear hHeld'
            try simp only [Act.put]
            refine wpAnyH_ready (rs := [22]) (by as_aux_lemma => kernel_rfl) (by simp) ?_
            refine (AllReadyH.cons (i := 22) rfl (fun K hK => ?_) AllReadyH.nil)
            refine step_store_whole (cs := pk X.mr X.ty X.sq X.ti X.so (.slice A13 n13 c13) (.slice none 0 0) (.slice A17 n17 c17) X.pad) rfl 37 (.tmp 3) (.tmp 25) rfl rfl rfl H_10_13_14_17_21_.out.2 Try.sizePk rfl HZ9.out (pk_one rfl rfl rfl) ?_
            have n_fin := HFIN.out _ _ (.slice A13 n13 c13) (.slice A17 n17 c17) H_10_13_14_17_21_.out.1 H_10_13_14_17_21_.out.2 HGE21.out
            refine hK.out _ _ n_fin.1.box (fun hHeld' => ?_)
            clear hK K hHeld hHeld'
            try simp only [Act.put]
            refine wpAnyH_done (by as_aux_lemma => kernel_rfl) ?_ _
            go_wp2
            go_meet
            exact ⟨_, _, _, rfl, rfl, rfl, n_fin⟩
          · go_simp
            have HGE21 : Hid (N0 ≤ w_10_13_14_.heap.size) := Lib.hid (by have := HBS.out _ H_10_13_14_.out.1; omega)
            have n_hb := H_10_13_14_.out.1.alloc (by have := HBS.out _ H_10_13_14_.out.1; omega) (Obj.cells Z 37)
            have n_o14 := H_10_13_14_.out.2.alloc (Obj.cells Z 37)
            have n_o21 := Whole.new w_10_13_14_ 37 Z
            generalize w_10_13_14_.alloc (Obj.cells Z 37) = w_10_13_14_21_ at *
            generalize w_10_13_14_.heap.size = g21 at *
            have H_10_13_14_21_ := Lib.hid (And.intro n_hb (And.intro n_o14 (n_o21)))
            clear n_hb n_o14 n_o21
            refine hK.out _ _ (HBOX.out _ H_10_13_14_21_.out.1) (fun hHeld' => ?_)
            clear hK K hHeld
            have hHeld := hHeld'
            clear hHeld'
            try simp only [Act.put]
            refine wpAnyH_ready (rs := [17]) (by as_aux_lemma => kernel_rfl) (by simp) ?_
            refine (AllReadyH.cons (i := 17) rfl (fun K hK => ?_) AllReadyH.nil)
            refine step_of rfl (wp_append8 (base := 0) (xs := []) (.tmp 19) (.tmp 21) rfl rfl (own0 H_10_13_14_21_.out.2.1) rfl (HY.out _ H_10_13_14_21_.out.1) HN7.out HL7.out (Nat.zero_le _) ?_)
            intro v17 w_10_13_14_21_17_ h17 k13 _
            obtain ⟨A17, c17, hv17, -⟩ := h17.form
            clear h17
            generalize ([] ++ Xys : List Int).length = n17 at hv17
            subst hv17
            have n_hb := H_10_13_14_21_.out.1.grown k13 (by have := HBS.out _ H_10_13_14_21_.out.1; omega) (fun j hj => by cases hj; exact HGE14.out)
            have n_o21 := H_10_13_14_21_.out.2.2.grown k13 (fun q => H_10_13_14_21_.out.2.2.ne H_10_13_14_21_.out.2.1 (by decide) (Option.some.inj q))
            have H_10_13_14_21_17_ := Lib.hid (And.intro n_hb (n_o21))
            clear n_hb n_o21
            refine hK.out _ _ (HBOX.out _ H_10_13_14_21_17_.out.1) (fun hHeld' => ?_)
            clear hK K hHeld
            have hHeld := hHeld'
            clear hHeld'
            try simp only [Act.put]
            refine wpAnyH_take (i := 20) (v := .agg (pk X.mr X.ty X.sq X.ti X.so (.slice A13 n13 c13) (.slice none 0 0) (.slice A17 n17 c17) X.pad)) rfl (by as_aux_lemma => kernel_rfl) (by as_aux_lemma => kernel_rfl) (by as_aux_lemma => kernel_rfl) (fun _ _ _ h => h) (Or.inl ⟨by rfl, fun w h => by clear h hz; go_simp; (try rfl)⟩) (by assumption) ?_
            simp only [Act.put, List.getElem_toArray, List.getElem_cons_succ, List.getElem_cons_zero, List.setIfInBounds_toArray, List.set_cons_succ, List.set_cons_zero]
            refine wpAnyH_ready (rs := [22]) (by as_aux_lemma => kernel_rfl) (by simp) ?_
            refine (AllReadyH.cons (i := 22) rfl (fun K hK => ?_) AllReadyH.nil)
            refine step_store_whole (cs := pk X.mr X.ty X.sq X.ti X.so (.slice A13 n13 c13) (.slice none 0 0) (.slice A17 n17 c17) X.pad) rfl 37 (.tmp 3) (.tmp 25) rfl rfl rfl H_10_13_14_21_17_.out.2 Try.sizePk rfl HZ9.out (pk_one rfl rfl rfl) ?_
            have n_fin := HFIN.out _ _ (.slice A13 n13 c13) (.slice A17 n17 c17) H_10_13_14_21_17_.out.1 H_10_13_14_21_17_.out.2 HGE21.out
            refine hK.out _ _ n_fin.1.box (fun hHeld' => ?_)
            clear hK K hHeld hHeld'
            try simp only [Act.put]
            refine wpAnyH_done (by as_aux_lemma => kernel_rfl) ?_ _
            go_wp2
            go_meet
            exact ⟨_, _, _, rfl, rfl, rfl, n_fin⟩
        · go_simp
          have HGE21 : Hid (N0 ≤ w_10_13_.heap.size) := Lib.hid (by have := HBS.out _ H_10_13_.out; omega)
          have n_hb := H_10_13_.out.alloc (by have := HBS.out _ H_10_13_.out; omega) (Obj.cells Z 37)
          have n_o21 := Whole.new w_10_13_ 37 Z
          generalize w_10_13_.alloc (Obj.cells Z 37) = w_10_13_21_ at *
          generalize w_10_13_.heap.size = g21 at *
          have H_10_13_21_ := Lib.hid (And.intro n_hb (n_o21))
          clear n_hb n_o21
          refine hK.out _ _ (HBOX.out _ H_10_13_21_.out.1) (fun hHeld' => ?_)
          clear hK K hHeld
          have hHeld := hHeld'
          clear hHeld'
          try simp only [Act.put]
          refine wpAnyH_ready (rs := [14]) (by as_aux_lemma => kernel_rfl) (by simp) ?_
          refine (AllReadyH.cons (i := 14) rfl (fun K hK => ?_) AllReadyH.nil)
          go_simp
          have HGE14 : Hid (N0 ≤ w_10_13_21_.heap.size) := Lib.hid (by have := HBS.out _ H_10_13_21_.out.1; omega)
          have n_hb := H_10_13_21_.out.1.alloc (by have := HBS.out _ H_10_13_21_.out.1; omega) (Obj.cells #[] 5)
          have n_o14 := Whole.new w_10_13_21_ 5 #[]
          have n_o21 := H_10_13_21_.out.2.alloc (Obj.cells #[] 5)
          generalize w_10_13_21_.alloc (Obj.cells #[] 5) = w_10_13_21_14_ at *
          generalize w_10_13_21_.heap.size = g14 at *
          have H_10_13_21_14_ := Lib.hid (And.intro n_hb (And.intro n_o14 (n_o21)))
          clear n_hb n_o14 n_o21
          refine hK.out _ _ (HBOX.out _ H_10_13_21_14_.out.1) (fun hHeld' => ?_)
          clear hK K hHeld
          have hHeld := hHeld'
          clear hHeld'
          try simp only [Act.put]
          refine wpAnyH_ready (rs := [17]) (by as_aux_lemma => kernel_rfl) (by simp) ?_
          refine (AllReadyH.cons (i := 17) rfl (fun K hK => ?_) AllReadyH.nil)
          refine step_of rfl (wp_append8 (base := 0) (xs := []) (.tmp 19) (.tmp 21) rfl rfl (own0 H_10_13_21_14_.out.2.1) rfl (HY.out _ H_10_13_21_14_.out.1) HN7.out HL7.out (Nat.zero_le _) ?_)
          intro v17 w_10_13_21_14_17_ h17 k13 _
          obtain ⟨A17, c17, hv17, -⟩ := h17.form
          clear h17
          generalize ([] ++ Xys : List Int).length = n17 at hv17
          subst hv17
          have n_hb := H_10_13_21_14_.out.1.grown k13 (by have := HBS.out _ H_10_13_21_14_.out.1; omega) (fun j hj => by cases hj; exact HGE14.out)
          have n_o21 := H_10_13_21_14_.out.2.2.grown k13 (fun q => H_10_13_21_14_.out.2.2.ne H_10_13_21_14_.out.2.1 (by decide) (Option.some.inj q))
          have H_10_13_21_14_17_ := Lib.hid (And.intro n_hb (n_o21))
          clear n_hb n_o21
          refine hK.out _ _ (HBOX.out _ H_10_13_21_14_17_.out.1) (fun hHeld' => ?_)
          clear hK K hHeld
          have hHeld := hHeld'
          clear hHeld'
          try simp only [Act.put]
          refine wpAnyH_take (i := 20) (v := .agg (pk X.mr X.ty X.sq X.ti X.so (.slice A13 n13 c13) (.slice none 0 0) (.slice A17 n17 c17) X.pad)) rfl (by as_aux_lemma => kernel_rfl) (by as_aux_lemma => kernel_rfl) (by as_aux_lemma => kernel_rfl) (fun _ _ _ h => h) (Or.inl ⟨by rfl, fun w h => by clear h hz; go_simp; (try rfl)⟩) (by assumption) ?_
          simp only [Act.put, List.getElem_toArray, List.getElem_cons_succ, List.getElem_cons_zero, List.setIfInBounds_toArray, List.set_cons_succ, List.set_cons_zero]
          refine wpAnyH_ready (rs := [22]) (by as_aux_lemma => kernel_rfl) (by simp) ?_
          refine (AllReadyH.cons (i := 22) rfl (fun K hK => ?_) AllReadyH.nil)
          refine step_store_whole (cs := pk X.mr X.ty X.sq X.ti X.so (.slice A13 n13 c13) (.slice none 0 0) (.slice A17 n17 c17) X.pad) rfl 37 (.tmp 3) (.tmp 25) rfl rfl rfl H_10_13_21_14_17_.out.2 Try.sizePk rfl HZ9.out (pk_one rfl rfl rfl) ?_
          have n_fin := HFIN.out _ _ (.slice A13 n13 c13) (.slice A17 n17 c17) H_10_13_21_14_17_.out.1 H_10_13_21_14_17_.out.2 HGE21.out
          refine hK.out _ _ n_fin.1.box (fun hHeld' => ?_)
          clear hK K hHeld hHeld'
          try simp only [Act.put]
          refine wpAnyH_done (by as_aux_lemma => kernel_rfl) ?_ _
          go_wp2
          go_meet
          exact ⟨_, _, _, rfl, rfl, rfl, n_fin⟩
      · go_simp
        have HGE14 : Hid (N0 ≤ w_10_.heap.size) := Lib.hid (by have := HBS.out _ H_10_.out.1; omega)
        have n_hb := H_10_.out.1.alloc (by have := HBS.out _ H_10_.out.1; omega) (Obj.cells #[] 5)
        have n_o10 := H_10_.out.2.alloc (Obj.cells #[] 5)
        have n_o14 := Whole.new w_10_ 5 #[]
        generalize w_10_.alloc (Obj.cells #[] 5) = w_10_14_ at *
        generalize w_10_.heap.size = g14 at *
        have H_10_14_ := Lib.hid (And.intro n_hb (And.intro n_o10 (n_o14)))
        clear n_hb n_o10 n_o14
        refine hK.out _ _ (HBOX.out _ H_10_14_.out.1) (fun hHeld' => ?_)
        clear hK K hHeld
        have hHeld := hHeld'
        clear hHeld'
        try simp only [Act.put]
        refine wpAnyH_ready (rs := [13, 21]) (by as_aux_lemma => kernel_rfl) (by simp) ?_
        refine (AllReadyH.cons (i := 13) rfl (fun K hK => ?_) (AllReadyH.cons (i := 21) rfl (fun K hK => ?_) AllReadyH.nil))
        · refine step_of rfl (wp_append32 (.tmp 15) (.tmp 17) rfl rfl H_10_14_.out.2.1 rfl rfl (HU.out _ H_10_14_.out.1) HN5.out HL5.out ?_)
          intro A13 n13 c13 w_10_14_13_ k13
          have n_hb := H_10_14_.out.1.grown k13 (by have := HBS.out _ H_10_14_.out.1; omega) (fun j hj => by cases hj; exact HGE10.out)
          have n_o14 := H_10_14_.out.2.2.grown k13 (fun q => H_10_14_.out.2.2.ne H_10_14_.out.2.1 (by decide) (Option.some.inj q))
          have H_10_14_13_ := Lib.hid (And.intro n_hb (n_o14))
          clear n_hb n_o14
          refine hK.out _ _ (HBOX.out _ H_10_14_13_.out.1) (fun hHeld' => ?_)
          clear hK K hHeld
          have hHeld := hHeld'
          clear hHeld'
          try simp only [Act.put]
          refine wpAnyH_ready (rs := [17, 21]) (by as_aux_lemma => kernel_rfl) (by simp) ?_
          refine (AllReadyH.cons (i := 17) rfl (fun K hK => ?_) (AllReadyH.cons (i := 21) rfl (fun K hK => ?_) AllReadyH.nil))
          · refine step_of rfl (wp_append8 (base := 0) (xs := []) (.tmp 19) (.tmp 21) rfl rfl (own0 H_10_14_13_.out.2) rfl (HY.out _ H_10_14_13_.out.1) HN7.out HL7.out (Nat.zero_le _) ?_)
            intro v17 w_10_14_13_17_ h17 k13 _
            obtain ⟨A17, c17, hv17, -⟩ := h17.form
            clear h17
            generalize ([] ++ Xys : List Int).length = n17 at hv17
            subst hv17
            have n_hb := H_10_14_13_.out.1.grown k13 (by have := HBS.out _ H_10_14_13_.out.1; omega) (fun j hj => by cases hj; exact HGE14.out)
            have H_10_14_13_17_ := Lib.hid (n_hb)
            clear n_hb
            refine hK.out _ _ (HBOX.out _ H_10_14_13_17_.out) (fun hHeld' => ?_)
            clear hK K hHeld
            have hHeld := hHeld'
            clear hHeld'
            try simp only [Act.put]
            refine wpAnyH_take (i := 20) (v := .agg (pk X.mr X.ty X.sq X.ti X.so (.slice A13 n13 c13) (.slice none 0 0) (.slice A17 n17 c17) X.pad)) rfl (by as_aux_lemma => kernel_rfl) (by as_aux_lemma => kernel_rfl) (by as_aux_lemma => kernel_rfl) (fun _ _ _ h => h) (Or.inl ⟨by rfl, fun w h => by clear h hz; go_simp; (try rfl)⟩) (by assumption) ?_
            simp only [Act.put, List.getElem_toArray, List.getElem_cons_succ, List.getElem_cons_zero, List.setIfInBounds_toArray, List.set_cons_succ, List.set_cons_zero]
            refine wpAnyH_ready (rs := [21]) (by as_aux_lemma => kernel_rfl) (by simp) ?_
            refine (AllReadyH.cons (i := 21) rfl (fun K hK => ?_) AllReadyH.nil)
            go_simp
            have HGE21 : Hid (N0 ≤ w_10_14_13_17_.heap.size) := Lib.hid (by have := HBS.out _ H_10_14_13_17_.out; omega)
            have n_hb := H_10_14_13_17_.out.alloc (by have := HBS.out _ H_10_14_13_17_.out; omega) (Obj.cells Z 37)
            have n_o21 := Whole.new w_10_14_13_17_ 37 Z
            generalize w_10_14_13_17_.alloc (Obj.cells Z 37) = w_10_14_13_17_21_ at *
            generalize w_10_14_13_17_.heap.size = g21 at *
            have H_10_14_13_17_21_ := Lib.hid (And.intro n_hb (n_o21))
            clear n_hb n_o21
            refine hK.out _ _ (HBOX.out _ H_10_14_13_17_21_.out.1) (fun hHeld' => ?_)
            clear hK K hHeld
            have hHeld := hHeld'
            clear hHeld'
            try simp only [Act.put]
            refine wpAnyH_ready (rs := [22]) (by as_aux_lemma => kernel_rfl) (by simp) ?_
            refine (AllReadyH.cons (i := 22) rfl (fun K hK => ?_) AllReadyH.nil)
            refine step_store_whole (cs := pk X.mr X.ty X.sq X.ti X.so (.slice A13 n13 c13) (.slice none 0 0) (.slice A17 n17 c17) X.pad) rfl 37 (.tmp 3) (.tmp 25) rfl rfl rfl H_10_14_13_17_21_.out.2 Try.sizePk rfl HZ9.out (pk_one rfl rfl rfl) ?_
            have n_fin := HFIN.out _ _ (.slice A13 n13 c13) (.slice A17 n17 c17) H_10_14_13_17_21_.out.1 H_10_14_13_17_21_.out.2 HGE21.out
            refine hK.out _ _ n_fin.1.box (fun hHeld' => ?_)
            clear hK K hHeld hHeld'
            try simp only [Act.put]
            refine wpAnyH_done (by as_aux_lemma => kernel_rfl) ?_ _
            go_wp2
            go_meet
            exact ⟨_, _, _, rfl, rfl, rfl, n_fin⟩
          · go_simp
            have HGE21 : Hid (N0 ≤ w_10_14_13_.heap.size) := Lib.hid (by have := HBS.out _ H_10_14_13_.out.1; omega)
            have n_hb := H_10_14_13_.out.1.alloc (by have := HBS.out _ H_10_14_13_.out.1; omega) (Obj.cells Z 37)
            have n_o14 := H_10_14_13_.out.2.alloc (Obj.cells Z 37)
            have n_o21 := Whole.new w_10_14_13_ 37 Z
            generalize w_10_14_13_.alloc (Obj.cells Z 37) = w_10_14_13_21_ at *
            generalize w_10_14_13_.heap.size = g21 at *
            have H_10_14_13_21_ := Lib.hid (And.intro n_hb (And.intro n_o14 (n_o21)))
            clear n_hb n_o14 n_o21
            refine hK.out _ _ (HBOX.out _ H_10_14_13_21_.out.1) (fun hHeld' => ?_)
            clear hK K hHeld
            have hHeld := hHeld'
            clear hHeld'
            try simp only [Act.put]
            refine wpAnyH_ready (rs := [17]) (by as_aux_lemma => kernel_rfl) (by simp) ?_
            refine (AllReadyH.cons (i := 17) rfl (fun K hK => ?_) AllReadyH.nil)
            refine step_of rfl (wp_append8 (base := 0) (xs := []) (.tmp 19) (.tmp 21) rfl rfl (own0 H_10_14_13_21_.out.2.1) rfl (HY.out _ H_10_14_13_21_.out.1) HN7.out HL7.out (Nat.zero_le _) ?_)
            intro v17 w_10_14_13_21_17_ h17 k13 _
            obtain ⟨A17, c17, hv17, -⟩ := h17.form
            clear h17
            generalize ([] ++ Xys : List Int).length = n17 at hv17
            subst hv17
            have n_hb := H_10_14_13_21_.out.1.grown k13 (by have := HBS.out _ H_10_14_13_21_.out.1; omega) (fun j hj => by cases hj; exact HGE14.out)
            have n_o21 := H_10_14_13_21_.out.2.2.grown k13 (fun q => H_10_14_13_21_.out.2.2.ne H_10_14_13_21_.out.2.1 (by decide) (Option.some.inj q))
            have H_10_14_13_21_17_ := Lib.hid (And.intro n_hb (n_o21))
            clear n_hb n_o21
            refine hK.out _ _ (HBOX.out _ H_10_14_13_21_17_.out.1) (fun hHeld' => ?_)
            clear hK K hHeld
            have hHeld := hHeld'
            clear hHeld'
            try simp only [Act.put]
            refine wpAnyH_take (i := 20) (v := .agg (pk X.mr X.ty X.sq X.ti X.so (.slice A13 n13 c13) (.slice none 0 0) (.slice A17 n17 c17) X.pad)) rfl (by as_aux_lemma => kernel_rfl) (by as_aux_lemma => kernel_rfl) (by as_aux_lemma => kernel_rfl) (fun _ _ _ h => h) (Or.inl ⟨by rfl, fun w h => by clear h hz; go_simp; (try rfl)⟩) (by assumption) ?_
            simp only [Act.put, List.getElem_toArray, List.getElem_cons_succ, List.getElem_cons_zero, List.setIfInBounds_toArray, List.set_cons_succ, List.set_cons_zero]
            refine wpAnyH_ready (rs := [22]) (by as_aux_lemma => kernel_rfl) (by simp) ?_
            refine (AllReadyH.cons (i := 22) rfl (fun K hK => ?_) AllReadyH.nil)
            refine step_store_whole (cs := pk X.mr X.ty X.sq X.ti X.so (.slice A13 n13 c13) (.slice none 0 0) (.slice A17 n17 c17) X.pad) rfl 37 (.tmp 3) (.tmp 25) rfl rfl rfl H_10_14_13_21_17_.out.2 Try.sizePk rfl HZ9.out (pk_one rfl rfl rfl) ?_
            have n_fin := HFIN.out _ _ (.slice A13 n13 c13) (.slice A17 n17 c17) H_10_14_13_21_17_.out.1 H_10_14_13_21_17_.out.2 HGE21.out
            refine hK.out _ _ n_fin.1.box (fun hHeld' => ?_)
            clear hK K hHeld hHeld'
            try simp only [Act.put]
            refine wpAnyH_done (by as_aux_lemma => kernel_rfl) ?_ _
            go_wp2
            go_meet
            exact ⟨_, _, _, rfl, rfl, rfl, n_fin⟩
        · go_simp
          have HGE21 : Hid (N0 ≤ w_10_14_.heap.size) := Lib.hid (by have := HBS.out _ H_10_14_.out.1; omega)
          have n_hb := H_10_14_.out.1.alloc (by have := HBS.out _ H_10_14_.out.1; omega) (Obj.cells Z 37)
          have n_o10 := H_10_14_.out.2.1.alloc (Obj.cells Z 37)
          have n_o14 := H_10_14_.out.2.2.alloc (Obj.cells Z 37)
          have n_o21 := Whole.new w_10_14_ 37 Z
          generalize w_10_14_.alloc (Obj.cells Z 37) = w_10_14_21_ at *
          generalize w_10_14_.heap.size = g21 at *
          have H_10_14_21_ := Lib.hid (And.intro n_hb (And.intro n_o10 (And.intro n_o14 (n_o21))))
          clear n_hb n_o10 n_o14 n_o21
          refine hK.out _ _ (HBOX.out _ H_10_14_21_.out.1) (fun hHeld' => ?_)
          clear hK K hHeld
          have hHeld := hHeld'
          clear hHeld'
          try simp only [Act.put]
          refine wpAnyH_ready (rs := [13]) (by as_aux_lemma => kernel_rfl) (by simp) ?_
          refine (AllReadyH.cons (i := 13) rfl (fun K hK => ?_) AllReadyH.nil)
          refine step_of rfl (wp_append32 (.tmp 15) (.tmp 17) rfl rfl H_10_14_21_.out.2.1 rfl rfl (HU.out _ H_10_14_21_.out.1) HN5.out HL5.out ?_)
          intro A13 n13 c13 w_10_14_21_13_ k13
          have n_hb := H_10_14_21_.out.1.grown k13 (by have := HBS.out _ H_10_14_21_.out.1; omega) (fun j hj => by cases hj; exact HGE10.out)
          have n_o14 := H_10_14_21_.out.2.2.1.grown k13 (fun q => H_10_14_21_.out.2.2.1.ne H_10_14_21_.out.2.1 (by decide) (Option.some.inj q))
          have n_o21 := H_10_14_21_.out.2.2.2.grown k13 (fun q => H_10_14_21_.out.2.2.2.ne H_10_14_21_.out.2.1 (by decide) (Option.some.inj q))
          have H_10_14_21_13_ := Lib.hid (And.intro n_hb (And.intro n_o14 (n_o21)))
          clear n_hb n_o14 n_o21
          refine hK.out _ _ (HBOX.out _ H_10_14_21_13_.out.1) (fun hHeld' => ?_)
          clear hK K hHeld
          have hHeld := hHeld'
          clear hHeld'
          try simp only [Act.put]
          refine wpAnyH_ready (rs := [17]) (by as_aux_lemma => kernel_rfl) (by simp) ?_
          refine (AllReadyH.cons (i := 17) rfl (fun K hK => ?_) AllReadyH.nil)
          refine step_of rfl (wp_append8 (base := 0) (xs := []) (.tmp 19) (.tmp 21) rfl rfl (own0 H_10_14_21_13_.out.2.1) rfl (HY.out _ H_10_14_21_13_.out.1) HN7.out HL7.out (Nat.zero_le _) ?_)
          intro v17 w_10_14_21_13_17_ h17 k13 _
          obtain ⟨A17, c17, hv17, -⟩ := h17.form
          clear h17
          generalize ([] ++ Xys : List Int).length = n17 at hv17
          subst hv17
          have n_hb := H_10_14_21_13_.out.1.grown k13 (by have := HBS.out _ H_10_14_21_13_.out.1; omega) (fun j hj => by cases hj; exact HGE14.out)
          have n_o21 := H_10_14_21_13_.out.2.2.grown k13 (fun q => H_10_14_21_13_.out.2.2.ne H_10_14_21_13_.out.2.1 (by decide) (Option.some.inj q))
          have H_10_14_21_13_17_ := Lib.hid (And.intro n_hb (n_o21))
          clear n_hb n_o21
          refine hK.out _ _ (HBOX.out _ H_10_14_21_13_17_.out.1) (fun hHeld' => ?_)
          clear hK K hHeld
          have hHeld := hHeld'
          clear hHeld'
          try simp only [Act.put]
          refine wpAnyH_take (i := 20) (v := .agg (pk X.mr X.ty X.sq X.ti X.so (.slice A13 n13 c13) (.slice none 0 0) (.slice A17 n17 c17) X.pad)) rfl (by as_aux_lemma => kernel_rfl) (by as_aux_lemma => kernel_rfl) (by as_aux_lemma => kernel_rfl) (fun _ _ _ h => h) (Or.inl ⟨by rfl, fun w h => by clear h hz; go_simp; (try rfl)⟩) (by assumption) ?_
          simp only [Act.put, List.getElem_toArray, List.getElem_cons_succ, List.getElem_cons_zero, List.setIfInBounds_toArray, List.set_cons_succ, List.set_cons_zero]
          refine wpAnyH_ready (rs := [22]) (by as_aux_lemma => kernel_rfl) (by simp) ?_
          refine (AllReadyH.cons (i := 22) rfl (fun K hK => ?_) AllReadyH.nil)
          refine step_store_whole (cs := pk X.mr X.ty X.sq X.ti X.so (.slice A13 n13 c13) (.slice none 0 0) (.slice A17 n17 c17) X.pad) rfl 37 (.tmp 3) (.tmp 25) rfl rfl rfl H_10_14_21_13_17_.out.2 Try.sizePk rfl HZ9.out (pk_one rfl rfl rfl) ?_
          have n_fin := HFIN.out _ _ (.slice A13 n13 c13) (.slice A17 n17 c17) H_10_14_21_13_17_.out.1 H_10_14_21_13_17_.out.2 HGE21.out
          refine hK.out _ _ n_fin.1.box (fun hHeld' => ?_)
          clear hK K hHeld hHeld'
          try simp only [Act.put]
          refine wpAnyH_done (by as_aux_lemma => kernel_rfl) ?_ _
          go_wp2
          go_meet
          exact ⟨_, _, _, rfl, rfl, rfl, n_fin⟩
      · go_simp
        have HGE21 : Hid (N0 ≤ w_10_.heap.size) := Lib.hid (by have := HBS.out _ H_10_.out.1; omega)
        have n_hb := H_10_.out.1.alloc (by have := HBS.out _ H_10_.out.1; omega) (Obj.cells Z 37)
        have n_o10 := H_10_.out.2.alloc (Obj.cells Z 37)
        have n_o21 := Whole.new w_10_ 37 Z
        generalize w_10_.alloc (Obj.cells Z 37) = w_10_21_ at *
        generalize w_10_.heap.size = g21 at *
        have H_10_21_ := Lib.hid (And.intro n_hb (And.intro n_o10 (n_o21)))
        clear n_hb n_o10 n_o21
        refine hK.out _ _ (HBOX.out _ H_10_21_.out.1) (fun hHeld' => ?_)
        clear hK K hHeld
        have hHeld := hHeld'
        clear hHeld'
        try simp only [Act.put]
        refine wpAnyH_ready (rs := [13, 14]) (by as_aux_lemma => kernel_rfl) (by simp) ?_
        refine (AllReadyH.cons (i := 13) rfl (fun K hK => ?_) (AllReadyH.cons (i := 14) rfl (fun K hK => ?_) AllReadyH.nil))
        · refine step_of rfl (wp_append32 (.tmp 15) (.tmp 17) rfl rfl H_10_21_.out.2.1 rfl rfl (HU.out _ H_10_21_.out.1) HN5.out HL5.out ?_)
          intro A13 n13 c13 w_10_21_13_ k13
          have n_hb := H_10_21_.out.1.grown k13 (by have := HBS.out _ H_10_21_.out.1; omega) (fun j hj => by cases hj; exact HGE10.out)
          have n_o21 := H_10_21_.out.2.2.grown k13 (fun q => H_10_21_.out.2.2.ne H_10_21_.out.2.1 (by decide) (Option.some.inj q))
          have H_10_21_13_ := Lib.hid (And.intro n_hb (n_o21))
          clear n_hb n_o21
          refine hK.out _ _ (HBOX.out _ H_10_21_13_.out.1) (fun hHeld' => ?_)
          clear hK K hHeld
          have hHeld := hHeld'
          clear hHeld'
          try simp only [Act.put]
          refine wpAnyH_ready (rs := [14]) (by as_aux_lemma => kernel_rfl) (by simp) ?_
          refine (AllReadyH.cons (i := 14) rfl (fun K hK => ?_) AllReadyH.nil)
          go_simp
          have HGE14 : Hid (N0 ≤ w_10_21_13_.heap.size) := Lib.hid (by have := HBS.out _ H_10_21_13_.out.1; omega)
          have n_hb := H_10_21_13_.out.1.alloc (by have := HBS.out _ H_10_21_13_.out.1; omega) (Obj.cells #[] 5)
          have n_o14 := Whole.new w_10_21_13_ 5 #[]
          have n_o21 := H_10_21_13_.out.2.alloc (Obj.cells #[] 5)
          generalize w_10_21_13_.alloc (Obj.cells #[] 5) = w_10_21_13_14_ at *
          generalize w_10_21_13_.heap.size = g14 at *
          have H_10_21_13_14_ := Lib.hid (And.intro n_hb (And.intro n_o14 (n_o21)))
          clear n_hb n_o14 n_o21
          refine hK.out _ _ (HBOX.out _ H_10_21_13_14_.out.1) (fun hHeld' => ?_)
          clear hK K hHeld
          have hHeld := hHeld'
          clear hHeld'
          try simp only [Act.put]
          refine wpAnyH_ready (rs := [17]) (by as_aux_lemma => kernel_rfl) (by simp) ?_
          refine (AllReadyH.cons (i := 17) rfl (fun K hK => ?_) AllReadyH.nil)
          refine step_of rfl (wp_append8 (base := 0) (xs := []) (.tmp 19) (.tmp 21) rfl rfl (own0 H_10_21_13_14_.out.2.1) rfl (HY.out _ H_10_21_13_14_.out.1) HN7.out HL7.out (Nat.zero_le _) ?_)
          intro v17 w_10_21_13_14_17_ h17 k13 _
          obtain ⟨A17, c17, hv17, -⟩ := h17.form
          clear h17
          generalize ([] ++ Xys : List Int).length = n17 at hv17
          subst hv17
          have n_hb := H_10_21_13_14_.out.1.grown k13 (by have := HBS.out _ H_10_21_13_14_.out.1; omega) (fun j hj => by cases hj; exact HGE14.out)
          have n_o21 := H_10_21_13_14_.out.2.2.grown k13 (fun q => H_10_21_13_14_.out.2.2.ne H_10_21_13_14_.out.2.1 (by decide) (Option.some.inj q))
          have H_10_21_13_14_17_ := Lib.hid (And.intro n_hb (n_o21))
          clear n_hb n_o21
          refine hK.out _ _ (HBOX.out _ H_10_21_13_14_17_.out.1) (fun hHeld' => ?_)
          clear hK K hHeld
          have hHeld := hHeld'
          clear hHeld'
          try simp only [Act.put]
          refine wpAnyH_take (i := 20) (v := .agg (pk X.mr X.ty X.sq X.ti X.so (.slice A13 n13 c13) (.slice none 0 0) (.slice A17 n17 c17) X.pad)) rfl (by as_aux_lemma => kernel_rfl) (by as_aux_lemma => kernel_rfl) (by as_aux_lemma => kernel_rfl) (fun _ _ _ h => h) (Or.inl ⟨by rfl, fun w h => by clear h hz; go_simp; (try rfl)⟩) (by assumption) ?_
          simp only [Act.put, List.getElem_toArray, List.getElem_cons_succ, List.getElem_cons_zero, List.setIfInBounds_toArray, List.set_cons_succ, List.set_cons_zero]
          refine wpAnyH_ready (rs := [22]) (by as_aux_lemma => kernel_rfl) (by simp) ?_
          refine (AllReadyH.cons (i := 22) rfl (fun K hK => ?_) AllReadyH.nil)
          refine step_store_whole (cs := pk X.mr X.ty X.sq X.ti X.so (.slice A13 n13 c13) (.slice none 0 0) (.slice A17 n17 c17) X.pad) rfl 37 (.tmp 3) (.tmp 25) rfl rfl rfl H_10_21_13_14_17_.out.2 Try.sizePk rfl HZ9.out (pk_one rfl rfl rfl) ?_
          have n_fin := HFIN.out _ _ (.slice A13 n13 c13) (.slice A17 n17 c17) H_10_21_13_14_17_.out.1 H_10_21_13_14_17_.out.2 HGE21.out
          refine hK.out _ _ n_fin.1.box (fun hHeld' => ?_)
          clear hK K hHeld hHeld'
          try simp only [Act.put]
          refine wpAnyH_done (by as_aux_lemma => kernel_rfl) ?_ _
          go_wp2
          go_meet
          exact ⟨_, _, _, rfl, rfl, rfl, n_fin⟩
        · go_simp
          have HGE14 : Hid (N0 ≤ w_10_21_.heap.size) := Lib.hid (by have := HBS.out _ H_10_21_.out.1; omega)
          have n_hb := H_10_21_.out.1.alloc (by have := HBS.out _ H_10_21_.out.1; omega) (Obj.cells #[] 5)
          have n_o10 := H_10_21_.out.2.1.alloc (Obj.cells #[] 5)
          have n_o14 := Whole.new w_10_21_ 5 #[]
          have n_o21 := H_10_21_.out.2.2.alloc (Obj.cells #[] 5)
          generalize w_10_21_.alloc (Obj.cells #[] 5) = w_10_21_14_ at *
          generalize w_10_21_.heap.size = g14 at *
          have H_10_21_14_ := Lib.hid (And.intro n_hb (And.intro n_o10 (And.intro n_o14 (n_o21))))
          clear n_hb n_o10 n_o14 n_o21
          refine hK.out _ _ (HBOX.out _ H_10_21_14_.out.1) (fun hHeld' => ?_)
          clear hK K hHeld
          have hHeld := hHeld'
          clear hHeld'
          try simp only [Act.put]
          refine wpAnyH_ready (rs := [13]) (by as_aux_lemma => kernel_rfl) (by simp) ?_
          refine (AllReadyH.cons (i := 13) rfl (fun K hK => ?_) AllReadyH.nil)
          refine step_of rfl (wp_append32 (.tmp 15) (.tmp 17) rfl rfl H_10_21_14_.out.2.1 rfl rfl (HU.out _ H_10_21_14_.out.1) HN5.out HL5.out ?_)
          intro A13 n13 c13 w_10_21_14_13_ k13
          have n_hb := H_10_21_14_.out.1.grown k13 (by have := HBS.out _ H_10_21_14_.out.1; omega) (fun j hj => by cases hj; exact HGE10.out)
          have n_o14 := H_10_21_14_.out.2.2.1.grown k13 (fun q => H_10_21_14_.out.2.2.1.ne H_10_21_14_.out.2.1 (by decide) (Option.some.inj q))
          have n_o21 := H_10_21_14_.out.2.2.2.grown k13 (fun q => H_10_21_14_.out.2.2.2.ne H_10_21_14_.out.2.1 (by decide) (Option.some.inj q))
          have H_10_21_14_13_ := Lib.hid (And.intro n_hb (And.intro n_o14 (n_o21)))
          clear n_hb n_o14 n_o21
          refine hK.out _ _ (HBOX.out _ H_10_21_14_13_.out.1) (fun hHeld' => ?_)
          clear hK K hHeld
          have hHeld := hHeld'
          clear hHeld'
          try simp only [Act.put]
          refine wpAnyH_ready (rs := [17]) (by as_aux_lemma => kernel_rfl) (by simp) ?_
          refine (AllReadyH.cons (i := 17) rfl (fun K hK => ?_) AllReadyH.nil)
          refine step_of rfl (wp_append8 (base := 0) (xs := []) (.tmp 19) (.tmp 21) rfl rfl (own0 H_10_21_14_13_.out.2.1) rfl (HY.out _ H_10_21_14_13_.out.1) HN7.out HL7.out (Nat.zero_le _) ?_)
          intro v17 w_10_21_14_13_17_ h17 k13 _
          obtain ⟨A17, c17, hv17, -⟩ := h17.form
          clear h17
          generalize ([] ++ Xys : List Int).length = n17 at hv17
          subst hv17
          have n_hb := H_10_21_14_13_.out.1.grown k13 (by have := HBS.out _ H_10_21_14_13_.out.1; omega) (fun j hj => by cases hj; exact HGE14.out)
          have n_o21 := H_10_21_14_13_.out.2.2.grown k13 (fun q => H_10_21_14_13_.out.2.2.ne H_10_21_14_13_.out.2.1 (by decide) (Option.some.inj q))
          have H_10_21_14_13_17_ := Lib.hid (And.intro n_hb (n_o21))
          clear n_hb n_o21
          refine hK.out _ _ (HBOX.out _ H_10_21_14_13_17_.out.1) (fun hHeld' => ?_)
          clear hK K hHeld
          have hHeld := hHeld'
          clear hHeld'
          try simp only [Act.put]
          refine wpAnyH_take (i := 20) (v := .agg (pk X.mr X.ty X.sq X.ti X.so (.slice A13 n13 c13) (.slice none 0 0) (.slice A17 n17 c17) X.pad)) rfl (by as_aux_lemma => kernel_rfl) (by as_aux_lemma => kernel_rfl) (by as_aux_lemma => kernel_rfl) (fun _ _ _ h => h) (Or.inl ⟨by rfl, fun w h => by clear h hz; go_simp; (try rfl)⟩) (by assumption) ?_
          simp only [Act.put, List.getElem_toArray, List.getElem_cons_succ, List.getElem_cons_zero, List.setIfInBounds_toArray, List.set_cons_succ, List.set_cons_zero]
          refine wpAnyH_ready (rs := [22]) (by as_aux_lemma => kernel_rfl) (by simp) ?_
          refine (AllReadyH.cons (i := 22) rfl (fun K hK => ?_) AllReadyH.nil)
          refine step_store_whole (cs := pk X.mr X.ty X.sq X.ti X.so (.slice A13 n13 c13) (.slice none 0 0) (.slice A17 n17 c17) X.pad) rfl 37 (.tmp 3) (.tmp 25) rfl rfl rfl H_10_21_14_13_17_.out.2 Try.sizePk rfl HZ9.out (pk_one rfl rfl rfl) ?_
          have n_fin := HFIN.out _ _ (.slice A13 n13 c13) (.slice A17 n17 c17) H_10_21_14_13_17_.out.1 H_10_21_14_13_17_.out.2 HGE21.out
          refine hK.out _ _ n_fin.1.box (fun hHeld' => ?_)
          clear hK K hHeld hHeld'
          try simp only [Act.put]
          refine wpAnyH_done (by as_aux_lemma => kernel_rfl) ?_ _
          go_wp2
          go_meet
          exact ⟨_, _, _, rfl, rfl, rfl, n_fin⟩
    · go_simp
      have HGE14 : Hid (N0 ≤ W2.heap.size) := Lib.hid (by have := HBS.out _ HB0.out; omega)
      have n_hb := HB0.out.alloc (by have := HBS.out _ HB0.out; omega) (Obj.cells #[] 5)
      have n_o14 := Whole.new W2 5 #[]
      generalize W2.alloc (Obj.cells #[] 5) = w_14_ at *
      generalize W2.heap.size = g14 at *
      have H_14_ := Lib.hid (And.intro n_hb (n_o14))
      clear n_hb n_o14
      refine hK.out _ _ (HBOX.out _ H_14_.out.1) (fun hHeld' => ?_)
      clear hK K hHeld
      have hHeld := hHeld'
      clear hHeld'
      try simp only [Act.put]
      refine wpAnyH_ready (rs := [10, 21]) (by as_aux_lemma => kernel_rfl) (by simp) ?_
      refine (AllReadyH.cons (i := 10) rfl (fun K hK => ?_) (AllReadyH.cons (i := 21) rfl (fun K hK => ?_) AllReadyH.nil))
      · go_simp
        have HGE10 : Hid (N0 ≤ w_14_.heap.size) := Lib.hid (by have := HBS.out _ H_14_.out.1; omega)
        have n_hb := H_14_.out.1.alloc (by have := HBS.out _ H_14_.out.1; omega) (Obj.cells #[] 24)
        have n_o10 := Whole.new w_14_ 24 #[]
        have n_o14 := H_14_.out.2.alloc (Obj.cells #[] 24)
        generalize w_14_.alloc (Obj.cells #[] 24) = w_14_10_ at *
        generalize w_14_.heap.size = g10 at *
        have H_14_10_ := Lib.hid (And.intro n_hb (And.intro n_o10 (n_o14)))
        clear n_hb n_o10 n_o14
        refine hK.out _ _ (HBOX.out _ H_14_10_.out.1) (fun hHeld' => ?_)
        clear hK K hHeld
        have hHeld := hHeld'
        clear hHeld'
        try simp only [Act.put]
        refine wpAnyH_ready (rs := [13, 21]) (by as_aux_lemma => kernel_rfl) (by simp) ?_
        refine (AllReadyH.cons (i := 13) rfl (fun K hK => ?_) (AllReadyH.cons (i := 21) rfl (fun K hK => ?_) AllReadyH.nil))
        · refine step_of rfl (wp_append32 (.tmp 15) (.tmp 17) rfl rfl H_14_10_.out.2.1 rfl rfl (HU.out _ H_14_10_.out.1) HN5.out HL5.out ?_)
          intro A13 n13 c13 w_14_10_13_ k13
          have n_hb := H_14_10_.out.1.grown k13 (by have := HBS.out _ H_14_10_.out.1; omega) (fun j hj => by cases hj; exact HGE10.out)
          have n_o14 := H_14_10_.out.2.2.grown k13 (fun q => H_14_10_.out.2.2.ne H_14_10_.out.2.1 (by decide) (Option.some.inj q))
          have H_14_10_13_ := Lib.hid (And.intro n_hb (n_o14))
          clear n_hb n_o14
          refine hK.out _ _ (HBOX.out _ H_14_10_13_.out.1) (fun hHeld' => ?_)
          clear hK K hHeld
          have hHeld := hHeld'
          clear hHeld'
          try simp only [Act.put]
          refine wpAnyH_ready (rs := [17, 21]) (by as_aux_lemma => kernel_rfl) (by simp) ?_
          refine (AllReadyH.cons (i := 17) rfl (fun K hK => ?_) (AllReadyH.cons (i := 21) rfl (fun K hK => ?_) AllReadyH.nil))
          · refine step_of rfl (wp_append8 (base := 0) (xs := []) (.tmp 19) (.tmp 21) rfl rfl (own0 H_14_10_13_.out.2) rfl (HY.out _ H_14_10_13_.out.1) HN7.out HL7.out (Nat.zero_le _) ?_)
            intro v17 w_14_10_13_17_ h17 k13 _
            obtain ⟨A17, c17, hv17, -⟩ := h17.form
            clear h17
            generalize ([] ++ Xys : List Int).length = n17 at hv17
            subst hv17
            have n_hb := H_14_10_13_.out.1.grown k13 (by have := HBS.out _ H_14_10_13_.out.1; omega) (fun j hj => by cases hj; exact HGE14.out)
            have H_14_10_13_17_ := Lib.hid (n_hb)
            clear n_hb
            refine hK.out _ _ (HBOX.out _ H_14_10_13_17_.out) (fun hHeld' => ?_)
            clear hK K hHeld
            have hHeld := hHeld'
            clear hHeld'
            try simp only [Act.put]
            refine wpAnyH_take (i := 20) (v := .agg (pk X.mr X.ty X.sq X.ti X.so (.slice A13 n13 c13) (.slice none 0 0) (.slice A17 n17 c17) X.pad)) rfl (by as_aux_lemma => kernel_rfl) (by as_aux_lemma => kernel_rfl) (by as_aux_lemma => kernel_rfl) (fun _ _ _ h => h) (Or.inl ⟨by rfl, fun w h => by clear h hz; go_simp; (try rfl)⟩) (by assumption) ?_
            simp only [Act.put, List.getElem_toArray, List.getElem_cons_succ, List.getElem_cons_zero, List.setIfInBounds_toArray, List.set_cons_succ, List.set_cons_zero]
            refine wpAnyH_ready (rs := [21]) (by as_aux_lemma => kernel_rfl) (by simp) ?_
            refine (AllReadyH.cons (i := 21) rfl (fun K hK => ?_) AllReadyH.nil)
            go_simp
            have HGE21 : Hid (N0 ≤ w_14_10_13_17_.heap.size) := Lib.hid (by have := HBS.out _ H_14_10_13_17_.out; omega)
            have n_hb := H_14_10_13_17_.out.alloc (by have := HBS.out _ H_14_10_13_17_.out; omega) (Obj.cells Z 37)
            have n_o21 := Whole.new w_14_10_13_17_ 37 Z
            generalize w_14_10_13_17_.alloc (Obj.cells Z 37) = w_14_10_13_17_21_ at *
            generalize w_14_10_13_17_.heap.size = g21 at *
            have H_14_10_13_17_21_ := Lib.hid (And.intro n_hb (n_o21))
            clear n_hb n_o21
            refine hK.out _ _ (HBOX.out _ H_14_10_13_17_21_.out.1) (fun hHeld' => ?_)
            clear hK K hHeld
            have hHeld := hHeld'
            clear hHeld'
            try simp only [Act.put]
            refine wpAnyH_ready (rs := [22]) (by as_aux_lemma => kernel_rfl) (by simp) ?_
            refine (AllReadyH.cons (i := 22) rfl (fun K hK => ?_) AllReadyH.nil)
            refine step_store_whole (cs := pk X.mr X.ty X.sq X.ti X.so (.slice A13 n13 c13) (.slice none 0 0) (.slice A17 n17 c17) X.pad) rfl 37 (.tmp 3) (.tmp 25) rfl rfl rfl H_14_10_13_17_21_.out.2 Try.sizePk rfl HZ9.out (pk_one rfl rfl rfl) ?_
            have n_fin := HFIN.out _ _ (.slice A13 n13 c13) (.slice A17 n17 c17) H_14_10_13_17_21_.out.1 H_14_10_13_17_21_.out.2 HGE21.out
            refine hK.out _ _ n_fin.1.box (fun hHeld' => ?_)
            clear hK K hHeld hHeld'
            try simp only [Act.put]
            refine wpAnyH_done (by as_aux_lemma => kernel_rfl) ?_ _
            go_wp2
            go_meet
            exact ⟨_, _, _, rfl, rfl, rfl, n_fin⟩
          · go_simp
            have HGE21 : Hid (N0 ≤ w_14_10_13_.heap.size) := Lib.hid (by have := HBS.out _ H_14_10_13_.out.1; omega)
            have n_hb := H_14_10_13_.out.1.alloc (by have := HBS.out _ H_14_10_13_.out.1; omega) (Obj.cells Z 37)
            have n_o14 := H_14_10_13_.out.2.alloc (Obj.cells Z 37)
            have n_o21 := Whole.new w_14_10_13_ 37 Z
            generalize w_14_10_13_.alloc (Obj.cells Z 37) = w_14_10_13_21_ at *
            generalize w_14_10_13_.heap.size = g21 at *
            have H_14_10_13_21_ := Lib.hid (And.intro n_hb (And.intro n_o14 (n_o21)))
            clear n_hb n_o14 n_o21
            refine hK.out _ _ (HBOX.out _ H_14_10_13_21_.out.1) (fun hHeld' => ?_)
            clear hK K hHeld
            have hHeld := hHeld'
            clear hHeld'
            try simp only [Act.put]
            refine wpAnyH_ready (rs := [17]) (by as_aux_lemma => kernel_rfl) (by simp) ?_
            refine (AllReadyH.cons (i := 17) rfl (fun K hK => ?_) AllReadyH.nil)
            refine step_of rfl (wp_append8 (base := 0) (xs := []) (.tmp 19) (.tmp 21) rfl rfl (own0 H_14_10_13_21_.out.2.1) rfl (HY.out _ H_14_10_13_21_.out.1) HN7.out HL7.out (Nat.zero_le _) ?_)
            intro v17 w_14_10_13_21_17_ h17 k13 _
            obtain ⟨A17, c17, hv17, -⟩ := h17.form
            clear h17
            generalize ([] ++ Xys : List Int).length = n17 at hv17
            subst hv17
            have n_hb := H_14_10_13_21_.out.1.grown k13 (by have := HBS.out _ H_14_10_13_21_.out.1; omega) (fun j hj => by cases hj; exact HGE14.out)
            have n_o21 := H_14_10_13_21_.out.2.2.grown k13 (fun q => H_14_10_13_21_.out.2.2.ne H_14_10_13_21_.out.2.1 (by decide) (Option.some.inj q))
            have H_14_10_13_21_17_ := Lib.hid (And.intro n_hb (n_o21))
            clear n_hb n_o21
            refine hK.out _ _ (HBOX.out _ H_14_10_13_21_17_.out.1) (fun hHeld' => ?_)
            clear hK K hHeld
            have hHeld := hHeld'
            clear hHeld'
            try simp only [Act.put]
            refine wpAnyH_take (i := 20) (v := .agg (pk X.mr X.ty X.sq X.ti X.so (.slice A13 n13 c13) (.slice none 0 0) (.slice A17 n17 c17) X.pad)) rfl (by as_aux_lemma => kernel_rfl) (by as_aux_lemma => kernel_rfl) (by as_aux_lemma => kernel_rfl) (fun _ _ _ h => h) (Or.inl ⟨by rfl, fun w h => by clear h hz; go_simp; (try rfl)⟩) (by assumption) ?_
            simp only [Act.put, List.getElem_toArray, List.getElem_cons_succ, List.getElem_cons_zero, List.setIfInBounds_toArray, List.set_cons_succ, List.set_cons_zero]
            refine wpAnyH_ready (rs := [22]) (by as_aux_lemma => kernel_rfl) (by simp) ?_
            refine (AllReadyH.cons (i := 22) rfl (fun K hK => ?_) AllReadyH.nil)
            refine step_store_whole (cs := pk X.mr X.ty X.sq X.ti X.so (.slice A13 n13 c13) (.slice none 0 0) (.slice A17 n17 c17) X.pad) rfl 37 (.tmp 3) (.tmp 25) rfl rfl rfl H_14_10_13_21_17_.out.2 Try.sizePk rfl HZ9.out (pk_one rfl rfl rfl) ?_
            have n_fin := HFIN.out _ _ (.slice A13 n13 c13) (.slice A17 n17 c17) H_14_10_13_21_17_.out.1 H_14_10_13_21_17_.out.2 HGE21.out
            refine hK.out _ _ n_fin.1.box (fun hHeld' => ?_)
            clear hK K hHeld hHeld'
            try simp only [Act.put]
            refine wpAnyH_done (by as_aux_lemma => kernel_rfl) ?_ _
            go_wp2
            go_meet
            exact ⟨_, _, _, rfl, rfl, rfl, n_fin⟩
        · go_simp
          have HGE21 : Hid (N0 ≤ w_14_10_.heap.size) := Lib.hid (by have := HBS.out _ H_14_10_.out.1; omega)
          have n_hb := H_14_10_.out.1.alloc (by have := HBS.out _ H_14_10_.out.1; omega) (Obj.cells Z 37)
          have n_o10 := H_14_10_.out.2.1.alloc (Obj.cells Z 37)
          have n_o14 := H_14_10_.out.2.2.alloc (Obj.cells Z 37)
          have n_o21 := Whole.new w_14_10_ 37 Z
          generalize w_14_10_.alloc (Obj.cells Z 37) = w_14_10_21_ at *
          generalize w_14_10_.heap.size = g21 at *
          have H_14_10_21_ := Lib.hid (And.intro n_hb (And.intro n_o10 (And.intro n_o14 (n_o21))))
          clear n_hb n_o10 n_o14 n_o21
          refine hK.out _ _ (HBOX.out _ H_14_10_21_.out.1) (fun hHeld' => ?_)
          clear hK K hHeld
          have hHeld := hHeld'
          clear hHeld'
          try simp only [Act.put]
          refine wpAnyH_ready (rs := [13]) (by as_aux_lemma => kernel_rfl) (by simp) ?_
          refine (AllReadyH.cons (i := 13) rfl (fun K hK => ?_) AllReadyH.nil)
          refine step_of rfl (wp_append32 (.tmp 15) (.tmp 17) rfl rfl H_14_10_21_.out.2.1 rfl rfl (HU.out _ H_14_10_21_.out.1) HN5.out HL5.out ?_)
          intro A13 n13 c13 w_14_10_21_13_ k13
          have n_hb := H_14_10_21_.out.1.grown k13 (by have := HBS.out _ H_14_10_21_.out.1; omega) (fun j hj => by cases hj; exact HGE10.out)
          have n_o14 := H_14_10_21_.out.2.2.1.grown k13 (fun q => H_14_10_21_.out.2.2.1.ne H_14_10_21_.out.2.1 (by decide) (Option.some.inj q))
          have n_o21 := H_14_10_21_.out.2.2.2.grown k13 (fun q => H_14_10_21_.out.2.2.2.ne H_14_10_21_.out.2.1 (by decide) (Option.some.inj q))
          have H_14_10_21_13_ := Lib.hid (And.intro n_hb (And.intro n_o14 (n_o21)))
          clear n_hb n_o14 n_o21
          refine hK.out _ _ (HBOX.out _ H_14_10_21_13_.out.1) (fun hHeld' => ?_)
          clear hK K hHeld
          have hHeld := hHeld'
          clear hHeld'
          try simp only [Act.put]
          refine wpAnyH_ready (rs := [17]) (by as_aux_lemma => kernel_rfl) (by simp) ?_
          refine (AllReadyH.cons (i := 17) rfl (fun K hK => ?_) AllReadyH.nil)
          refine step_of rfl (wp_append8 (base := 0) (xs := []) (.tmp 19) (.tmp 21) rfl rfl (own0 H_14_10_21_13_.out.2.1) rfl (HY.out _ H_14_10_21_13_.out.1) HN7.out HL7.out (Nat.zero_le _) ?_)
          intro v17 w_14_10_21_13_17_ h17 k13 _
          obtain ⟨A17, c17, hv17, -⟩ := h17.form
          clear h17
          generalize ([] ++ Xys : List Int).length = n17 at hv17
          subst hv17
          have n_hb := H_14_10_21_13_.out.1.grown k13 (by have := HBS.out _ H_14_10_21_13_.out.1; omega) (fun j hj => by cases hj; exact HGE14.out)
          have n_o21 := H_14_10_21_13_.out.2.2.grown k13 (fun q => H_14_10_21_13_.out.2.2.ne H_14_10_21_13_.out.2.1 (by decide) (Option.some.inj q))
          have H_14_10_21_13_17_ := Lib.hid (And.intro n_hb (n_o21))
          clear n_hb n_o21
          refine hK.out _ _ (HBOX.out _ H_14_10_21_13_17_.out.1) (fun hHeld' => ?_)
          clear hK K hHeld
          have hHeld := hHeld'
          clear hHeld'
          try simp only [Act.put]
          refine wpAnyH_take (i := 20) (v := .agg (pk X.mr X.ty X.sq X.ti X.so (.slice A13 n13 c13) (.slice none 0 0) (.slice A17 n17 c17) X.pad)) rfl (by as_aux_lemma => kernel_rfl) (by as_aux_lemma => kernel_rfl) (by as_aux_lemma => kernel_rfl) (fun _ _ _ h => h) (Or.inl ⟨by rfl, fun w h => by clear h hz; go_simp; (try rfl)⟩) (by assumption) ?_
          simp only [Act.put, List.getElem_toArray, List.getElem_cons_succ, List.getElem_cons_zero, List.setIfInBounds_toArray, List.set_cons_succ, List.set_cons_zero]
          refine wpAnyH_ready (rs := [22]) (by as_aux_lemma => kernel_rfl) (by simp) ?_
          refine (AllReadyH.cons (i := 22) rfl (fun K hK => ?_) AllReadyH.nil)
          refine step_store_whole (cs := pk X.mr X.ty X.sq X.ti X.so (.slice A13 n13 c13) (.slice none 0 0) (.slice A17 n17 c17) X.pad) rfl 37 (.tmp 3) (.tmp 25) rfl rfl rfl H_14_10_21_13_17_.out.2 Try.sizePk rfl HZ9.out (pk_one rfl rfl rfl) ?_
          have n_fin := HFIN.out _ _ (.slice A13 n13 c13) (.slice A17 n17 c17) H_14_10_21_13_17_.out.1 H_14_10_21_13_17_.out.2 HGE21.out
          refine hK.out _ _ n_fin.1.box (fun hHeld' => ?_)
          clear hK K hHeld hHeld'
          try simp only [Act.put]
          refine wpAnyH_done (by as_aux_lemma => kernel_rfl) ?_ _
          go_wp2
          go_meet
          exact ⟨_, _, _, rfl, rfl, rfl, n_fin⟩
      · go_simp
        have HGE21 : Hid (N0 ≤ w_14_.heap.size) := Lib.hid (by have := HBS.out _ H_14_.out.1; omega)
        have n_hb := H_14_.out.1.alloc (by have := HBS.out _ H_14_.out.1; omega) (Obj.cells Z 37)
        have n_o14 := H_14_.out.2.alloc (Obj.cells Z 37)
        have n_o21 := Whole.new w_14_ 37 Z
        generalize w_14_.alloc (Obj.cells Z 37) = w_14_21_ at *
        generalize w_14_.heap.size = g21 at *
        have H_14_21_ := Lib.hid (And.intro n_hb (And.intro n_o14 (n_o21)))
        clear n_hb n_o14 n_o21
        refine hK.out _ _ (HBOX.out _ H_14_21_.out.1) (fun hHeld' => ?_)
        clear hK K hHeld
        have hHeld := hHeld'
        clear hHeld'
        try simp only [Act.put]
        refine wpAnyH_ready (rs := [10]) (by as_aux_lemma => kernel_rfl) (by simp) ?_
        refine (AllReadyH.cons (i := 10) rfl (fun K hK => ?_) AllReadyH.nil)
        go_simp
        have HGE10 : Hid (N0 ≤ w_14_21_.heap.size) := Lib.hid (by have := HBS.out _ H_14_21_.out.1; omega)
        have n_hb := H_14_21_.out.1.alloc (by have := HBS.out _ H_14_21_.out.1; omega) (Obj.cells #[] 24)
        have n_o10 := Whole.new w_14_21_ 24 #[]
        have n_o14 := H_14_21_.out.2.1.alloc (Obj.cells #[] 24)
        have n_o21 := H_14_21_.out.2.2.alloc (Obj.cells #[] 24)
        generalize w_14_21_.alloc (Obj.cells #[] 24) = w_14_21_10_ at *
        generalize w_14_21_.heap.size = g10 at *
        have H_14_21_10_ := Lib.hid (And.intro n_hb (And.intro n_o10 (And.intro n_o14 (n_o21))))
        clear n_hb n_o10 n_o14 n_o21
        refine hK.out _ _ (HBOX.out _ H_14_21_10_.out.1) (fun hHeld' => ?_)
        clear hK K hHeld
        have hHeld := hHeld'
        clear hHeld'
        try simp only [Act.put]
        refine wpAnyH_ready (rs := [13]) (by as_aux_lemma => kernel_rfl) (by simp) ?_
        refine (AllReadyH.cons (i := 13) rfl (fun K hK => ?_) AllReadyH.nil)
        refine step_of rfl (wp_append32 (.tmp 15) (.tmp 17) rfl rfl H_14_21_10_.out.2.1 rfl rfl (HU.out _ H_14_21_10_.out.1) HN5.out HL5.out ?_)
        intro A13 n13 c13 w_14_21_10_13_ k13
        have n_hb := H_14_21_10_.out.1.grown k13 (by have := HBS.out _ H_14_21_10_.out.1; omega) (fun j hj => by cases hj; exact HGE10.out)
        have n_o14 := H_14_21_10_.out.2.2.1.grown k13 (fun q => H_14_21_10_.out.2.2.1.ne H_14_21_10_.out.2.1 (by decide) (Option.some.inj q))
        have n_o21 := H_14_21_10_.out.2.2.2.grown k13 (fun q => H_14_21_10_.out.2.2.2.ne H_14_21_10_.out.2.1 (by decide) (Option.some.inj q))
        have H_14_21_10_13_ := Lib.hid (And.intro n_hb (And.intro n_o14 (n_o21)))
        clear n_hb n_o14 n_o21
        refine hK.out _ _ (HBOX.out _ H_14_21_10_13_.out.1) (fun hHeld' => ?_)
        clear hK K hHeld
        have hHeld := hHeld'
        clear hHeld'
        try simp only [Act.put]
        refine wpAnyH_ready (rs := [17]) (by as_aux_lemma => kernel_rfl) (by simp) ?_
        refine (AllReadyH.cons (i := 17) rfl (fun K hK => ?_) AllReadyH.nil)
        refine step_of rfl (wp_append8 (base := 0) (xs := []) (.tmp 19) (.tmp 21) rfl rfl (own0 H_14_21_10_13_.out.2.1) rfl (HY.out _ H_14_21_10_13_.out.1) HN7.out HL7.out (Nat.zero_le _) ?_)
        intro v17 w_14_21_10_13_17_ h17 k13 _
        obtain ⟨A17, c17, hv17, -⟩ := h17.form
        clear h17
        generalize ([] ++ Xys : List Int).length = n17 at hv17
        subst hv17
        have n_hb := H_14_21_10_13_.out.1.grown k13 (by have := HBS.out _ H_14_21_10_13_.out.1; omega) (fun j hj => by cases hj; exact HGE14.out)
        have n_o21 := H_14_21_10_13_.out.2.2.grown k13 (fun q => H_14_21_10_13_.out.2.2.ne H_14_21_10_13_.out.2.1 (by decide) (Option.some.inj q))
        have H_14_21_10_13_17_ := Lib.hid (And.intro n_hb (n_o21))
        clear n_hb n_o21
        refine hK.out _ _ (HBOX.out _ H_14_21_10_13_17_.out.1) (fun hHeld' => ?_)
        clear hK K hHeld
        have hHeld := hHeld'
        clear hHeld'
        try simp only [Act.put]
        refine wpAnyH_take (i := 20) (v := .agg (pk X.mr X.ty X.sq X.ti X.so (.slice A13 n13 c13) (.slice none 0 0) (.slice A17 n17 c17) X.pad)) rfl (by as_aux_lemma => kernel_rfl) (by as_aux_lemma => kernel_rfl) (by as_aux_lemma => kernel_rfl) (fun _ _ _ h => h) (Or.inl ⟨by rfl, fun w h => by clear h hz; go_simp; (try rfl)⟩) (by assumption) ?_
        simp only [Act.put, List.getElem_toArray, List.getElem_cons_succ, List.getElem_cons_zero, List.setIfInBounds_toArray, List.set_cons_succ, List.set_cons_zero]
        refine wpAnyH_ready (rs := [22]) (by as_aux_lemma => kernel_rfl) (by simp) ?_
        refine (AllReadyH.cons (i := 22) rfl (fun K hK => ?_) AllReadyH.nil)
        refine step_store_whole (cs := pk X.mr X.ty X.sq X.ti X.so (.slice A13 n13 c13) (.slice none 0 0) (.slice A17 n17 c17) X.pad) rfl 37 (.tmp 3) (.tmp 25) rfl rfl rfl H_14_21_10_13_17_.out.2 Try.sizePk rfl HZ9.out (pk_one rfl rfl rfl) ?_
        have n_fin := HFIN.out _ _ (.slice A13 n13 c13) (.slice A17 n17 c17) H_14_21_10_13_17_.out.1 H_14_21_10_13_17_.out.2 HGE21.out
        refine hK.out _ _ n_fin.1.box (fun hHeld' => ?_)
        clear hK K hHeld hHeld'
        try simp only [Act.put]
        refine wpAnyH_done (by as_aux_lemma => kernel_rfl) ?_ _
        go_wp2
        go_meet
        exact ⟨_, _, _, rfl, rfl, rfl, n_fin⟩
    · go_simp
      have HGE21 : Hid (N0 ≤ W2.heap.size) := Lib.hid (by have := HBS.out _ HB0.out; omega)
      have n_hb := HB0.out.alloc (by have := HBS.out _ HB0.out; omega) (Obj.cells Z 37)
      have n_o21 := Whole.new W2 37 Z
      generalize W2.alloc (Obj.cells Z 37) = w_21_ at *
      generalize W2.heap.size = g21 at *
      have H_21_ := Lib.hid (And.intro n_hb (n_o21))
      clear n_hb n_o21
      refine hK.out _ _ (HBOX.out _ H_21_.out.1) (fun hHeld' => ?_)
      clear hK K hHeld
      have hHeld := hHeld'
      clear hHeld'
      try simp only [Act.put]
      refine wpAnyH_ready (rs := [10, 14]) (by as_aux_lemma => kernel_rfl) (by simp) ?_
      refine (AllReadyH.cons (i := 10) rfl (fun K hK => ?_) (AllReadyH.cons (i := 14) rfl (fun K hK => ?_) AllReadyH.nil))
      · go_simp
        have HGE10 : Hid (N0 ≤ w_21_.heap.size) := Lib.hid (by have := HBS.out _ H_21_.out.1; omega)
        have n_hb := H_21_.out.1.alloc (by have := HBS.out _ H_21_.out.1; omega) (Obj.cells #[] 24)
        have n_o10 := Whole.new w_21_ 24 #[]
        have n_o21 := H_21_.out.2.alloc (Obj.cells #[] 24)
        generalize w_21_.alloc (Obj.cells #[] 24) = w_21_10_ at *
        generalize w_21_.heap.size = g10 at *
        have H_21_10_ := Lib.hid (And.intro n_hb (And.intro n_o10 (n_o21)))
        clear n_hb n_o10 n_o21
        refine hK.out _ _ (HBOX.out _ H_21_10_.out.1) (fun hHeld' => ?_)
        clear hK K hHeld
        have hHeld := hHeld'
        clear hHeld'
        try simp only [Act.put]
        refine wpAnyH_ready (rs := [13, 14]) (by as_aux_lemma => kernel_rfl) (by simp) ?_
        refine (AllReadyH.cons (i := 13) rfl (fun K hK => ?_) (AllReadyH.cons (i := 14) rfl (fun K hK => ?_) AllReadyH.nil))
        · refine step_of rfl (wp_append32 (.tmp 15) (.tmp 17) rfl rfl H_21_10_.out.2.1 rfl rfl (HU.out _ H_21_10_.out.1) HN5.out HL5.out ?_)
          intro A13 n13 c13 w_21_10_13_ k13
          have n_hb := H_21_10_.out.1.grown k13 (by have := HBS.out _ H_21_10_.out.1; omega) (fun j hj => by cases hj; exact HGE10.out)
          have n_o21 := H_21_10_.out.2.2.grown k13 (fun q => H_21_10_.out.2.2.ne H_21_10_.out.2.1 (by decide) (Option.some.inj q))
          have H_21_10_13_ := Lib.hid (And.intro n_hb (n_o21))
          clear n_hb n_o21
          refine hK.out _ _ (HBOX.out _ H_21_10_13_.out.1) (fun hHeld' => ?_)
          clear hK K hHeld
          have hHeld := hHeld'
          clear hHeld'
          try simp only [Act.put]
          refine wpAnyH_ready (rs := [14]) (by as_aux_lemma => kernel_rfl) (by simp) ?_
          refine (AllReadyH.cons (i := 14) rfl (fun K hK => ?_) AllReadyH.nil)
          go_simp
          have HGE14 : Hid (N0 ≤ w_21_10_13_.heap.size) := Lib.hid (by have := HBS.out _ H_21_10_13_.out.1; omega)
          have n_hb := H_21_10_13_.out.1.alloc (by have := HBS.out _ H_21_10_13_.out.1; omega) (Obj.cells #[] 5)
          have n_o14 := Whole.new w_21_10_13_ 5 #[]
          have n_o21 := H_21_10_13_.out.2.alloc (Obj.cells #[] 5)
          generalize w_21_10_13_.alloc (Obj.cells #[] 5) = w_21_10_13_14_ at *
          generalize w_21_10_13_.heap.size = g14 at *
          have H_21_10_13_14_ := Lib.hid (And.intro n_hb (And.intro n_o14 (n_o21)))
          clear n_hb n_o14 n_o21
          refine hK.out _ _ (HBOX.out _ H_21_10_13_14_.out.1) (fun hHeld' => ?_)
          clear hK K hHeld
          have hHeld := hHeld'
          clear hHeld'
          try simp only [Act.put]
          refine wpAnyH_ready (rs := [17]) (by as_aux_lemma => kernel_rfl) (by simp) ?_
          refine (AllReadyH.cons (i := 17) rfl (fun K hK => ?_) AllReadyH.nil)
          refine step_of rfl (wp_append8 (base := 0) (xs := []) (.tmp 19) (.tmp 21) rfl rfl (own0 H_21_10_13_14_.out.2.1) rfl (HY.out _ H_21_10_13_14_.out.1) HN7.out HL7.out (Nat.zero_le _) ?_)
          intro v17 w_21_10_13_14_17_ h17 k13 _
          obtain ⟨A17, c17, hv17, -⟩ := h17.form
          clear h17
          generalize ([] ++ Xys : List Int).length = n17 at hv17
          subst hv17
          have n_hb := H_21_10_13_14_.out.1.grown k13 (by have := HBS.out _ H_21_10_13_14_.out.1; omega) (fun j hj => by cases hj; exact HGE14.out)
          have n_o21 := H_21_10_13_14_.out.2.2.grown k13 (fun q => H_21_10_13_14_.out.2.2.ne H_21_10_13_14_.out.2.1 (by decide) (Option.some.inj q))
          have H_21_10_13_14_17_ := Lib.hid (And.intro n_hb (n_o21))
          clear n_hb n_o21
          refine hK.out _ _ (HBOX.out _ H_21_10_13_14_17_.out.1) (fun hHeld' => ?_)
          clear hK K hHeld
          have hHeld := hHeld'
          clear hHeld'
          try simp only [Act.put]
          refine wpAnyH_take (i := 20) (v := .agg (pk X.mr X.ty X.sq X.ti X.so (.slice A13 n13 c13) (.slice none 0 0) (.slice A17 n17 c17) X.pad)) rfl (by as_aux_lemma => kernel_rfl) (by as_aux_lemma => kernel_rfl) (by as_aux_lemma => kernel_rfl) (fun _ _ _ h => h) (Or.inl ⟨by rfl, fun w h => by clear h hz; go_simp; (try rfl)⟩) (by assumption) ?_
          simp only [Act.put, List.getElem_toArray, List.getElem_cons_succ, List.getElem_cons_zero, List.setIfInBounds_toArray, List.set_cons_succ, List.set_cons_zero]
          refine wpAnyH_ready (rs := [22]) (by as_aux_lemma => kernel_rfl) (by simp) ?_
          refine (AllReadyH.cons (i := 22) rfl (fun K hK => ?_) AllReadyH.nil)
          refine step_store_whole (cs := pk X.mr X.ty X.sq X.ti X.so (.slice A13 n13 c13) (.slice none 0 0) (.slice A17 n17 c17) X.pad) rfl 37 (.tmp 3) (.tmp 25) rfl rfl rfl H_21_10_13_14_17_.out.2 Try.sizePk rfl HZ9.out (pk_one rfl rfl rfl) ?_
          have n_fin := HFIN.out _ _ (.slice A13 n13 c13) (.slice A17 n17 c17) H_21_10_13_14_17_.out.1 H_21_10_13_14_17_.out.2 HGE21.out
          refine hK.out _ _ n_fin.1.box (fun hHeld' => ?_)
          clear hK K hHeld hHeld'
          try simp only [Act.put]
          refine wpAnyH_done (by as_aux_lemma => kernel_rfl) ?_ _
          go_wp2
          go_meet
          exact ⟨_, _, _, rfl, rfl, rfl, n_fin⟩
        · go_simp
          have HGE14 : Hid (N0 ≤ w_21_10_.heap.size) := Lib.hid (by have := HBS.out _ H_21_10_.out.1; omega)
          have n_hb := H_21_10_.out.1.alloc (by have := HBS.out _ H_21_10_.out.1; omega) (Obj.cells #[] 5)
          have n_o10 := H_21_10_.out.2.1.alloc (Obj.cells #[] 5)
          have n_o14 := Whole.new w_21_10_ 5 #[]
          have n_o21 := H_21_10_.out.2.2.alloc (Obj.cells #[] 5)
          generalize w_21_10_.alloc (Obj.cells #[] 5) = w_21_10_14_ at *
          generalize w_21_10_.heap.size = g14 at *
          have H_21_10_14_ := Lib.hid (And.intro n_hb (And.intro n_o10 (And.intro n_o14 (n_o21))))
          clear n_hb n_o10 n_o14 n_o21
          refine hK.out _ _ (HBOX.out _ H_21_10_14_.out.1) (fun hHeld' => ?_)
          clear hK K hHeld
          have hHeld := hHeld'
          clear hHeld'
          try simp only [Act.put]
          refine wpAnyH_ready (rs := [13]) (by as_aux_lemma => kernel_rfl) (by simp) ?_
          refine (AllReadyH.cons (i := 13) rfl (fun K hK => ?_) AllReadyH.nil)
          refine step_of rfl (wp_append32 (.tmp 15) (.tmp 17) rfl rfl H_21_10_14_.out.2.1 rfl rfl (HU.out _ H_21_10_14_.out.1) HN5.out HL5.out ?_)
          intro A13 n13 c13 w_21_10_14_13_ k13
          have n_hb := H_21_10_14_.out.1.grown k13 (by have := HBS.out _ H_21_10_14_.out.1; omega) (fun j hj => by cases hj; exact HGE10.out)
          have n_o14 := H_21_10_14_.out.2.2.1.grown k13 (fun q => H_21_10_14_.out.2.2.1.ne H_21_10_14_.out.2.1 (by decide) (Option.some.inj q))
          have n_o21 := H_21_10_14_.out.2.2.2.grown k13 (fun q => H_21_10_14_.out.2.2.2.ne H_21_10_14_.out.2.1 (by decide) (Option.some.inj q))
          have H_21_10_14_13_ := Lib.hid (And.intro n_hb (And.intro n_o14 (n_o21)))
          clear n_hb n_o14 n_o21
          refine hK.out _ _ (HBOX.out _ H_21_10_14_13_.out.1) (fun hHeld' => ?_)
          clear hK K hHeld
          have hHeld := hHeld'
          clear hHeld'
          try simp only [Act.put]
          refine wpAnyH_ready (rs := [17]) (by as_aux_lemma => kernel_rfl) (by simp) ?_
          refine (AllReadyH.cons (i := 17) rfl (fun K hK => ?_) AllReadyH.nil)
          refine step_of rfl (wp_append8 (base := 0) (xs := []) (.tmp 19) (.tmp 21) rfl rfl (own0 H_21_10_14_13_.out.2.1) rfl (HY.out _ H_21_10_14_13_.out.1) HN7.out HL7.out (Nat.zero_le _) ?_)
          intro v17 w_21_10_14_13_17_ h17 k13 _
          obtain ⟨A17, c17, hv17, -⟩ := h17.form
          clear h17
          generalize ([] ++ Xys : List Int).length = n17 at hv17
          subst hv17
          have n_hb := H_21_10_14_13_.out.1.grown k13 (by have := HBS.out _ H_21_10_14_13_.out.1; omega) (fun j hj => by cases hj; exact HGE14.out)
          have n_o21 := H_21_10_14_13_.out.2.2.grown k13 (fun q => H_21_10_14_13_.out.2.2.ne H_21_10_14_13_.out.2.1 (by decide) (Option.some.inj q))
          have H_21_10_14_13_17_ := Lib.hid (And.intro n_hb (n_o21))
          clear n_hb n_o21
          refine hK.out _ _ (HBOX.out _ H_21_10_14_13_17_.out.1) (fun hHeld' => ?_)
          clear hK K hHeld
          have hHeld := hHeld'
          clear hHeld'
          try simp only [Act.put]
          refine wpAnyH_take (i := 20) (v := .agg (pk X.mr X.ty X.sq X.ti X.so (.slice A13 n13 c13) (.slice none 0 0) (.slice A17 n17 c17) X.pad)) rfl (by as_aux_lemma => kernel_rfl) (by as_aux_lemma => kernel_rfl) (by as_aux_lemma => kernel_rfl) (fun _ _ _ h => h) (Or.inl ⟨by rfl, fun w h => by clear h hz; go_simp; (try rfl)⟩) (by assumption) ?_
          simp only [Act.put, List.getElem_toArray, List.getElem_cons_succ, List.getElem_cons_zero, List.setIfInBounds_toArray, List.set_cons_succ, List.set_cons_zero]
          refine wpAnyH_ready (rs := [22]) (by as_aux_lemma => kernel_rfl) (by simp) ?_
          refine (AllReadyH.cons (i := 22) rfl (fun K hK => ?_) AllReadyH.nil)
          refine step_store_whole (cs := pk X.mr X.ty X.sq X.ti X.so (.slice A13 n13 c13) (.slice none 0 0) (.slice A17 n17 c17) X.pad) rfl 37 (.tmp 3) (.tmp 25) rfl rfl rfl H_21_10_14_13_17_.out.2 Try.sizePk rfl HZ9.out (pk_one rfl rfl rfl) ?_
          have n_fin := HFIN.out _ _ (.slice A13 n13 c13) (.slice A17 n17 c17) H_21_10_14_13_17_.out.1 H_21_10_14_13_17_.out.2 HGE21.out
          refine hK.out _ _ n_fin.1.box (fun hHeld' => ?_)
          clear hK K hHeld hHeld'
          try simp only [Act.put]
          refine wpAnyH_done (by as_aux_lemma => kernel_rfl) ?_ _
          go_wp2
          go_meet
          exact ⟨_, _, _, rfl, rfl, rfl, n_fin⟩
      · go_simp
        have HGE14 : Hid (N0 ≤ w_21_.heap.size) := Lib.hid (by have := HBS.out _ H_21_.out.1; omega)
        have n_hb := H_21_.out.1.alloc (by have := HBS.out _ H_21_.out.1; omega) (Obj.cells #[] 5)
        have n_o14 := Whole.new w_21_ 5 #[]
        have n_o21 := H_21_.out.2.alloc (Obj.cells #[] 5)
        generalize w_21_.alloc (Obj.cells #[] 5) = w_21_14_ at *
        generalize w_21_.heap.size = g14 at *
        have H_21_14_ := Lib.hid (And.intro n_hb (And.intro n_o14 (n_o21)))
        clear n_hb n_o14 n_o21
        refine hK.out _ _ (HBOX.out _ H_21_14_.out.1) (fun hHeld' => ?_)
        clear hK K hHeld
        have hHeld := hHeld'
        clear hHeld'
        try simp only [Act.put]
        refine wpAnyH_ready (rs := [10]) (by as_aux_lemma => kernel_rfl) (by simp) ?_
        refine (AllReadyH.cons (i := 10) rfl (fun K hK => ?_) AllReadyH.nil)
        go_simp
        have HGE10 : Hid (N0 ≤ w_21_14_.heap.size) := Lib.hid (by have := HBS.out _ H_21_14_.out.1; omega)
        have n_hb := H_21_14_.out.1.alloc (by have := HBS.out _ H_21_14_.out.1; omega) (Obj.cells #[] 24)
        have n_o10 := Whole.new w_21_14_ 24 #[]
        have n_o14 := H_21_14_.out.2.1.alloc (Obj.cells #[] 24)
        have n_o21 := H_21_14_.out.2.2.alloc (Obj.cells #[] 24)
        generalize w_21_14_.alloc (Obj.cells #[] 24) = w_21_14_10_ at *
        generalize w_21_14_.heap.size = g10 at *
        have H_21_14_10_ := Lib.hid (And.intro n_hb (And.intro n_o10 (And.intro n_o14 (n_o21))))
        clear n_hb n_o10 n_o14 n_o21
        refine hK.out _ _ (HBOX.out _ H_21_14_10_.out.1) (fun hHeld' => ?_)
        clear hK K hHeld
        have hHeld := hHeld'
        clear hHeld'
        try simp only [Act.put]
        refine wpAnyH_ready (rs := [13]) (by as_aux_lemma => kernel_rfl) (by simp) ?_
        refine (AllReadyH.cons (i := 13) rfl (fun K hK => ?_) AllReadyH.nil)
        refine step_of rfl (wp_append32 (.tmp 15) (.tmp 17) rfl rfl H_21_14_10_.out.2.1 rfl rfl (HU.out _ H_21_14_10_.out.1) HN5.out HL5.out ?_)
        intro A13 n13 c13 w_21_14_10_13_ k13
        have n_hb := H_21_14_10_.out.1.grown k13 (by have := HBS.out _ H_21_14_10_.out.1; omega) (fun j hj => by cases hj; exact HGE10.out)
        have n_o14 := H_21_14_10_.out.2.2.1.grown k13 (fun q => H_21_14_10_.out.2.2.1.ne H_21_14_10_.out.2.1 (by decide) (Option.some.inj q))
        have n_o21 := H_21_14_10_.out.2.2.2.grown k13 (fun q => H_21_14_10_.out.2.2.2.ne H_21_14_10_.out.2.1 (by decide) (Option.some.inj q))
        have H_21_14_10_13_ := Lib.hid (And.intro n_hb (And.intro n_o14 (n_o21)))
        clear n_hb n_o14 n_o21
        refine hK.out _ _ (HBOX.out _ H_21_14_10_13_.out.1) (fun hHeld' => ?_)
        clear hK K hHeld
        have hHeld := hHeld'
        clear hHeld'
        try simp only [Act.put]
        refine wpAnyH_ready (rs := [17]) (by as_aux_lemma => kernel_rfl) (by simp) ?_
        refine (AllReadyH.cons (i := 17) rfl (fun K hK => ?_) AllReadyH.nil)
        refine step_of rfl (wp_append8 (base := 0) (xs := []) (.tmp 19) (.tmp 21) rfl rfl (own0 H_21_14_10_13_.out.2.1) rfl (HY.out _ H_21_14_10_13_.out.1) HN7.out HL7.out (Nat.zero_le _) ?_)
        intro v17 w_21_14_10_13_17_ h17 k13 _
        obtain ⟨A17, c17, hv17, -⟩ := h17.form
        clear h17
        generalize ([] ++ Xys : List Int).length = n17 at hv17
        subst hv17
        have n_hb := H_21_14_10_13_.out.1.grown k13 (by have := HBS.out _ H_21_14_10_13_.out.1; omega) (fun j hj => by cases hj; exact HGE14.out)
        have n_o21 := H_21_14_10_13_.out.2.2.grown k13 (fun q => H_21_14_10_13_.out.2.2.ne H_21_14_10_13_.out.2.1 (by decide) (Option.some.inj q))
        have H_21_14_10_13_17_ := Lib.hid (And.intro n_hb (n_o21))
        clear n_hb n_o21
        refine hK.out _ _ (HBOX.out _ H_21_14_10_13_17_.out.1) (fun hHeld' => ?_)
        clear hK K hHeld
        have hHeld := hHeld'
        clear hHeld'
        try simp only [Act.put]
        refine wpAnyH_take (i := 20) (v := .agg (pk X.mr X.ty X.sq X.ti X.so (.slice A13 n13 c13) (.slice none 0 0) (.slice A17 n17 c17) X.pad)) rfl (by as_aux_lemma => kernel_rfl) (by as_aux_lemma => kernel_rfl) (by as_aux_lemma => kernel_rfl) (fun _ _ _ h => h) (Or.inl ⟨by rfl, fun w h => by clear h hz; go_simp; (try rfl)⟩) (by assumption) ?_
        simp only [Act.put, List.getElem_toArray, List.getElem_cons_succ, List.getElem_cons_zero, List.setIfInBounds_toArray, List.set_cons_succ, List.set_cons_zero]
        refine wpAnyH_ready (rs := [22]) (by as_aux_lemma => kernel_rfl) (by simp) ?_
        refine (AllReadyH.cons (i := 22) rfl (fun K hK => ?_) AllReadyH.nil)
        refine step_store_whole (cs := pk X.mr X.ty X.sq X.ti X.so (.slice A13 n13 c13) (.slice none 0 0) (.slice A17 n17 c17) X.pad) rfl 37 (.tmp 3) (.tmp 25) rfl rfl rfl H_21_14_10_13_17_.out.2 Try.sizePk rfl HZ9.out (pk_one rfl rfl rfl) ?_
        have n_fin := HFIN.out _ _ (.slice A13 n13 c13) (.slice A17 n17 c17) H_21_14_10_13_17_.out.1 H_21_14_10_13_17_.out.2 HGE21.out
        refine hK.out _ _ n_fin.1.box (fun hHeld' => ?_)
        clear hK K hHeld hHeld'
        try simp only [Act.put]
        refine wpAnyH_done (by as_aux_lemma => kernel_rfl) ?_ _
        go_wp2
        go_meet
        exact ⟨_, _, _, rfl, rfl, rfl, n_fin⟩
  case rest =>
    obtain ⟨g, C, P, rfl, hC, hP, hcp, -⟩ := hcut
    have hf := HM.out.1.form
    have H2 := Lib.hid hcp
    have c6 : wc.cell? ⟨N, 6, none⟩ = some (.slice X.A6 X.xs.length X.c6) := HC6.out _ hcp.box
    obtain ⟨n, hn⟩ : ∃ x, X.xs.length = x := ⟨_, rfl⟩
    have HNL := Lib.hid hn
    have hs : n ≤ 4398046511102 := by rw [← hn]; exact HM.out.1.len6
    rw [hn] at c6
    have HSL := Lib.hid hs
    clear hcp hf hn hW2
    go_wp2
    go_loopw [29] (fun s29 wr => ∃ (k : Nat) (v : Value) (ps : List (Int × Value)), k ≤ n ∧ s29 = .int .i64 k ∧ CpX N g M X C P w wr v ps (X.xs.take k)) (fun s29 _ => n - (intOf s29).toNat)
    case atStart => exact ⟨0, _, _, by omega, rfl, H2.out⟩
    case round =>
      obtain ⟨k, v, ps, hk, rfl, hcp⟩ := hrel
      have hpl : ps.length = k := by rw [hcp.els.1, List.length_take, HNL.out]; omega
      by_cases hlt : k < n
      · have hlt' : k < X.xs.length := by rw [HNL.out]; exact hlt
        obtain ⟨ad, A', c', hAad, had, x0, x1, y0, y1, hnil, hbs⟩ := HM.out.1.xs.at_ hlt'
        have hfm := HM.out.1.form
        rw [hAad, HNL.out] at hfm
        rw [HN.out] at had hbs
        have hsn := seenX_of hfm hcp.box hcp.below had x0 x1
        have hvl := HM.out.1.vals6 _ (getD_memX hlt')
        have htk : X.xs.take (k + 1) = X.xs.take k ++ [X.xs.getD k default] := by
          rw [List.take_succ_eq_append_getElem hlt']
          simp [List.getD, hlt']
        obtain ⟨a, ha⟩ : ∃ a, X.xs.getD k default = a := ⟨_, rfl⟩
        rw [ha] at hsn hvl htk x0 x1 y0 hbs
        obtain ⟨Av, cv, rfl, -⟩ := hcp.row.form
        rw [hpl] at hcp
        have HC := Lib.hid (And.intro hcp (And.intro htk (And.intro hpl (And.intro had (And.intro x0 (And.intro x1 (And.intro y0 (And.intro y1 (And.intro hnil (And.intro hbs hvl))))))))))
        have HSN : Hid (∀ W v2 ps2 L2, CpX N g M X C P w W v2 ps2 L2 → SeenX N ad n X.c6 k a A' c' W) := Lib.hid fun W v2 ps2 L2 h => seenX_of hfm h.box h.below had x0 x1
        have HSM : Hid (∀ W, Whole W N 28 M → Below N w W → SeenX N ad n X.c6 k a A' c' W) := Lib.hid fun W h1 h2 => seenX_of hfm h1 h2 had x0 x1
        clear hcp htk hpl x0 x1 y0 y1 hnil hbs hvl ha c6 hsn had hfm hAad
        obtain ⟨c, hc⟩ : ∃ x, X.c6 = x := ⟨_, rfl⟩
        rw [hc] at HSN HSM
        clear hc
        go_upto_region 5 with fail
        have hgt := H2.out.gt
        have hb0 : (0 : Int) ≤ (k : Int) := by omega
        have hb1 : (k : Int) < (n : Int) := by omega
        have hsd := HSN.out _ _ _ _ HC.out.1.drew
        have hod := HC.out.1.drew.outc
        have HS0 : Hid (∀ L, TillOne (SeenX N ad n c k a A' c') (fun W => W.cell? ⟨g, 6, none⟩ = some (.slice Av k cv)) 20 L wr.drew) := Lib.hid fun L => TillOne.mk hsd hod
        have HTL : Hid (∀ W L ps2 L2, CpX N g M X C P w W (.slice Av k cv) ps2 L2 → TillOne (SeenX N ad n c k a A' c') (fun W => W.cell? ⟨g, 6, none⟩ = some (.slice Av k cv)) 20 L W) := Lib.hid fun W L ps2 L2 h => TillOne.mk (HSN.out _ _ _ _ h) (h.outc)
        have HG1 : Hid (∀ W, Ahead (TillOne (SeenX N ad n c k a A' c') (fun W => W.cell? ⟨g, 6, none⟩ = some (.slice Av k cv)) 20) 20 W → W.cell? ⟨N, 6, none⟩ = some (.slice (some ad) n c)) := Lib.hid fun W h => (TillOne.get h).1.1
        have HG2 : Hid (∀ W, Ahead (TillOne (SeenX N ad n c k a A' c') (fun W => W.cell? ⟨g, 6, none⟩ = some (.slice Av k cv)) 20) 20 W → W.cell? (ad.add (k * 2)) = some (.int .i64 a.ty)) := Lib.hid fun W h => (TillOne.get h).1.2.1
        have HG3 : Hid (∀ W, Ahead (TillOne (SeenX N ad n c k a A' c') (fun W => W.cell? ⟨g, 6, none⟩ = some (.slice Av k cv)) 20) 20 W → W.cell? ⟨(ad.add (k * 2)).block, (ad.add (k * 2)).off + 1, none⟩ = some (.slice A' a.val.length c')) := Lib.hid fun W h => (TillOne.get h).1.2.2
        have HG4 : Hid (∀ W, Ahead (TillOne (SeenX N ad n c k a A' c') (fun W => W.cell? ⟨g, 6, none⟩ = some (.slice Av k cv)) 20) 20 W → W.cell? ⟨g, 6, none⟩ = some (.slice Av k cv)) := Lib.hid fun W h => (TillOne.get h).2
        have HTL2 : Hid (∀ W, Whole W N 28 M → Below N w W → W.cell? ⟨g, 6, none⟩ = some (.slice Av k cv) → ∀ L, TillOne (SeenX N ad n c k a A' c') (fun W => W.cell? ⟨g, 6, none⟩ = some (.slice Av k cv)) 20 L W) := Lib.hid fun W h1 h2 h3 L => TillOne.mk (HSM.out W h1 h2) h3
        refine wp_region_late (TillOne (SeenX N ad n c k a A' c') (fun W => W.cell? ⟨g, 6, none⟩ = some (.slice Av k cv)) 20) (by as_aux_lemma => kernel_rfl) ?_
        change wpLate Try.prog .any _ _ _ 21 #[false, false, false, false, false, false, false, false, false, false, false, false, false, false, false, false, false, false, false, false, false] _ _
        refine wpLate.take (i := 0) (q := 20) (oi := _) (v := ?_) rfl (by as_aux_lemma => kernel_rfl) (by as_aux_lemma => kernel_rfl) (by as_aux_lemma => kernel_rfl) (by as_aux_lemma => kernel_rfl) (by rfl) (fun _ _ _ h => h) (TillOne.set (by decide)) (HS0.out _) (Or.inl ⟨by rfl, ?_⟩) ?_
        case refine_2 => intro W hw; have e1 := HG1.out W hw; have e2 := HG2.out W hw; have e3 := HG3.out W hw; have e4 := HG4.out W hw; clear hw; go_simp; (try with_reducible rfl)
        simp only [Act.put, List.setIfInBounds_toArray, List.set_cons_succ, List.set_cons_zero]
        refine wpLate.take (i := 1) (q := 20) (oi := _) (v := ?_) rfl (by as_aux_lemma => kernel_rfl) (by as_aux_lemma => kernel_rfl) (by as_aux_lemma => kernel_rfl) (by as_aux_lemma => kernel_rfl) (by rfl) (fun _ _ _ h => h) (TillOne.set (by decide)) (HS0.out _) (Or.inl ⟨by rfl, ?_⟩) ?_
        case refine_2 => intro W hw; have e1 := HG1.out W hw; have e2 := HG2.out W hw; have e3 := HG3.out W hw; have e4 := HG4.out W hw; clear hw; go_simp; (try with_reducible rfl)
        simp only [Act.put, List.setIfInBounds_toArray, List.set_cons_succ, List.set_cons_zero]
        refine wpLate.take (i := 2) (q := 20) (oi := _) (v := ?_) rfl (by as_aux_lemma => kernel_rfl) (by as_aux_lemma => kernel_rfl) (by as_aux_lemma => kernel_rfl) (by as_aux_lemma => kernel_rfl) (by rfl) (fun _ _ _ h => h) (TillOne.set (by decide)) (HS0.out _) (Or.inl ⟨by rfl, ?_⟩) ?_
        case refine_2 => intro W hw; have e1 := HG1.out W hw; have e2 := HG2.out W hw; have e3 := HG3.out W hw; have e4 := HG4.out W hw; clear hw; go_simp; (try with_reducible rfl)
        simp only [Act.put, List.setIfInBounds_toArray, List.set_cons_succ, List.set_cons_zero]
        refine wpLate.take (i := 3) (q := 20) (oi := _) (v := ?_) rfl (by as_aux_lemma => kernel_rfl) (by as_aux_lemma => kernel_rfl) (by as_aux_lemma => kernel_rfl) (by as_aux_lemma => kernel_rfl) (by rfl) (fun _ _ _ h => h) (TillOne.set (by decide)) (HS0.out _) (Or.inl ⟨by rfl, ?_⟩) ?_
        case refine_2 => intro W hw; have e1 := HG1.out W hw; have e2 := HG2.out W hw; have e3 := HG3.out W hw; have e4 := HG4.out W hw; clear hw; go_simp; (try with_reducible rfl)
        simp only [Act.put, List.setIfInBounds_toArray, List.set_cons_succ, List.set_cons_zero]
        refine wpLate.take (i := 4) (q := 20) (oi := _) (v := ?_) rfl (by as_aux_lemma => kernel_rfl) (by as_aux_lemma => kernel_rfl) (by as_aux_lemma => kernel_rfl) (by as_aux_lemma => kernel_rfl) (by rfl) (fun _ _ _ h => h) (TillOne.set (by decide)) (HS0.out _) (Or.inl ⟨by rfl, ?_⟩) ?_
        case refine_2 => intro W hw; have e1 := HG1.out W hw; have e2 := HG2.out W hw; have e3 := HG3.out W hw; have e4 := HG4.out W hw; clear hw; go_simp; (try with_reducible rfl)
        simp only [Act.put, List.setIfInBounds_toArray, List.set_cons_succ, List.set_cons_zero]
        refine wpLate.take (i := 5) (q := 20) (oi := _) (v := ?_) rfl (by as_aux_lemma => kernel_rfl) (by as_aux_lemma => kernel_rfl) (by as_aux_lemma => kernel_rfl) (by as_aux_lemma => kernel_rfl) (by rfl) (fun _ _ _ h => h) (TillOne.set (by decide)) (HS0.out _) (Or.inl ⟨by rfl, ?_⟩) ?_
        case refine_2 => intro W hw; have e1 := HG1.out W hw; have e2 := HG2.out W hw; have e3 := HG3.out W hw; have e4 := HG4.out W hw; clear hw; go_simp; (try with_reducible rfl)
        simp only [Act.put, List.setIfInBounds_toArray, List.set_cons_succ, List.set_cons_zero]
        refine wpLate.take (i := 6) (q := 20) (oi := _) (v := ?_) rfl (by as_aux_lemma => kernel_rfl) (by as_aux_lemma => kernel_rfl) (by as_aux_lemma => kernel_rfl) (by as_aux_lemma => kernel_rfl) (by rfl) (fun _ _ _ h => h) (TillOne.set (by decide)) (HS0.out _) (Or.inl ⟨by rfl, ?_⟩) ?_
        case refine_2 => intro W hw; have e1 := HG1.out W hw; have e2 := HG2.out W hw; have e3 := HG3.out W hw; have e4 := HG4.out W hw; clear hw; go_simp; (try with_reducible rfl)
        simp only [Act.put, List.setIfInBounds_toArray, List.set_cons_succ, List.set_cons_zero]
        refine wpLate.take (i := 7) (q := 20) (oi := _) (v := ?_) rfl (by as_aux_lemma => kernel_rfl) (by as_aux_lemma => kernel_rfl) (by as_aux_lemma => kernel_rfl) (by as_aux_lemma => kernel_rfl) (by rfl) (fun _ _ _ h => h) (TillOne.set (by decide)) (HS0.out _) (Or.inl ⟨by rfl, ?_⟩) ?_
        case refine_2 => intro W hw; have e1 := HG1.out W hw; have e2 := HG2.out W hw; have e3 := HG3.out W hw; have e4 := HG4.out W hw; clear hw; go_simp; (try with_reducible rfl)
        simp only [Act.put, List.setIfInBounds_toArray, List.set_cons_succ, List.set_cons_zero]
        refine wpLate.take (i := 9) (q := 20) (oi := _) (v := ?_) rfl (by as_aux_lemma => kernel_rfl) (by as_aux_lemma => kernel_rfl) (by as_aux_lemma => kernel_rfl) (by as_aux_lemma => kernel_rfl) (by rfl) (fun _ _ _ h => h) (TillOne.set (by decide)) (HS0.out _) (Or.inl ⟨by rfl, ?_⟩) ?_
        case refine_2 => intro W hw; have e1 := HG1.out W hw; have e2 := HG2.out W hw; have e3 := HG3.out W hw; have e4 := HG4.out W hw; clear hw; go_simp; (try with_reducible rfl)
        simp only [Act.put, List.setIfInBounds_toArray, List.set_cons_succ, List.set_cons_zero]
        refine wpLate.take (i := 10) (q := 20) (oi := _) (v := ?_) rfl (by as_aux_lemma => kernel_rfl) (by as_aux_lemma => kernel_rfl) (by as_aux_lemma => kernel_rfl) (by as_aux_lemma => kernel_rfl) (by rfl) (fun _ _ _ h => h) (TillOne.set (by decide)) (HS0.out _) (Or.inl ⟨by rfl, ?_⟩) ?_
        case refine_2 => intro W hw; have e1 := HG1.out W hw; have e2 := HG2.out W hw; have e3 := HG3.out W hw; have e4 := HG4.out W hw; clear hw; go_simp; (try with_reducible rfl)
        simp only [Act.put, List.setIfInBounds_toArray, List.set_cons_succ, List.set_cons_zero]
        refine wpLate.take (i := 11) (q := 20) (oi := _) (v := ?_) rfl (by as_aux_lemma => kernel_rfl) (by as_aux_lemma => kernel_rfl) (by as_aux_lemma => kernel_rfl) (by as_aux_lemma => kernel_rfl) (by rfl) (fun _ _ _ h => h) (TillOne.set (by decide)) (HS0.out _) (Or.inl ⟨by rfl, ?_⟩) ?_
        case refine_2 => intro W hw; have e1 := HG1.out W hw; have e2 := HG2.out W hw; have e3 := HG3.out W hw; have e4 := HG4.out W hw; clear hw; go_simp; (try with_reducible rfl)
        simp only [Act.put, List.setIfInBounds_toArray, List.set_cons_succ, List.set_cons_zero]
        refine wpLate.take (i := 12) (q := 20) (oi := _) (v := ?_) rfl (by as_aux_lemma => kernel_rfl) (by as_aux_lemma => kernel_rfl) (by as_aux_lemma => kernel_rfl) (by as_aux_lemma => kernel_rfl) (by rfl) (fun _ _ _ h => h) (TillOne.set (by decide)) (HS0.out _) (Or.inl ⟨by rfl, ?_⟩) ?_
        case refine_2 => intro W hw; have e1 := HG1.out W hw; have e2 := HG2.out W hw; have e3 := HG3.out W hw; have e4 := HG4.out W hw; clear hw; go_simp; (try with_reducible rfl)
        simp only [Act.put, List.setIfInBounds_toArray, List.set_cons_succ, List.set_cons_zero]
        refine wpLate.take (i := 13) (q := 20) (oi := _) (v := ?_) rfl (by as_aux_lemma => kernel_rfl) (by as_aux_lemma => kernel_rfl) (by as_aux_lemma => kernel_rfl) (by as_aux_lemma => kernel_rfl) (by rfl) (fun _ _ _ h => h) (TillOne.set (by decide)) (HS0.out _) (Or.inl ⟨by rfl, ?_⟩) ?_
        case refine_2 => intro W hw; have e1 := HG1.out W hw; have e2 := HG2.out W hw; have e3 := HG3.out W hw; have e4 := HG4.out W hw; clear hw; go_simp; (try with_reducible rfl)
        simp only [Act.put, List.setIfInBounds_toArray, List.set_cons_succ, List.set_cons_zero]
        refine wpLate.take (i := 14) (q := 20) (oi := _) (v := ?_) rfl (by as_aux_lemma => kernel_rfl) (by as_aux_lemma => kernel_rfl) (by as_aux_lemma => kernel_rfl) (by as_aux_lemma => kernel_rfl) (by rfl) (fun _ _ _ h => h) (TillOne.set (by decide)) (HS0.out _) (Or.inl ⟨by rfl, ?_⟩) ?_
        case refine_2 => intro W hw; have e1 := HG1.out W hw; have e2 := HG2.out W hw; have e3 := HG3.out W hw; have e4 := HG4.out W hw; clear hw; go_simp; (try with_reducible rfl)
        simp only [Act.put, List.setIfInBounds_toArray, List.set_cons_succ, List.set_cons_zero]
        have hmade := Own8.made wr.drew (Nat.le_refl _)
        have hal : Below wr.drew.heap.size wr.drew (wr.drew.alloc (.cells #[] 5)) := (Below.refl _ _).alloc (Nat.le_refl _) _
        have hcA := HC.out.1.drew.under hal
        have hbsA := HC.out.2.2.2.2.2.2.2.2.2.1.below hcA.below
        have HA := Lib.hid (And.intro hmade (And.intro hal (And.intro hcA hbsA)))
        clear hmade hal hcA hbsA hsd hod
        refine wpLate.ready (rs := [8]) (by as_aux_lemma => kernel_rfl) (by simp) (eachLate.cons rfl (fun K hK => ?_) eachLate.nil)
        go_simp
        refine hK.out _ _ (HTL.out _ _ _ _ HA.out.2.2.1) ?_
        clear hK K
        try simp only [Act.put]
        refine wpLate.ready (rs := [15]) (by as_aux_lemma => kernel_rfl) (by simp) (eachLate.cons rfl (fun K hK => ?_) eachLate.nil)
        refine step_of rfl (wp_append8 (.tmp 40) (.tmp 46) rfl rfl HA.out.1 rfl HA.out.2.2.2 HC.out.2.2.2.2.2.2.2.2.1 (by have := HC.out.2.2.2.2.2.2.2.2.2.2; simp; omega) HA.out.2.1.size ?_)
        intro v33 w33 h33 hg33 hh33
        rw [List.nil_append] at h33
        have hb33 : Below wr.drew.heap.size wr.drew w33 := HA.out.2.1.grown hg33 HA.out.2.1.size (fun k hk => (HA.out.1.lt hk).1)
        have hc33 := HC.out.1.drew.under hb33
        have hev : EV w33 N v33 a.val := .inr (h33.low (by have := HC.out.1.drew.size; omega))
        obtain ⟨A8, c8, hv8, -⟩ := h33.form
        subst hv8
        obtain ⟨l, hl⟩ : ∃ x, a.val.length = x := ⟨_, rfl⟩
        rw [hl] at hev ⊢
        have H33 := Lib.hid (And.intro hc33 (And.intro hev hb33.size))
        clear h33 hg33 hh33 hb33 hc33 hev
        refine hK.out _ _ (HTL.out _ _ _ _ H33.out.1) ?_
        clear hK K
        try simp only [Act.put]
        refine wpLate.ready (rs := [16]) (by as_aux_lemma => kernel_rfl) (by simp) (eachLate.cons rfl (fun K hK => ?_) eachLate.nil)
        go_simp
        refine hK.out _ _ (HTL.out _ _ _ _ H33.out.1) ?_
        clear hK K
        try simp only [Act.put]
        refine wpLate.ready (rs := [17]) (by as_aux_lemma => kernel_rfl) (by simp) (eachLate.cons rfl (fun K hK => ?_) eachLate.nil)
        go_simp
        refine hK.out _ _ (HTL.out _ _ _ _ (H33.out.1.alloc _)) ?_
        clear hK K
        try simp only [Act.put]
        have hnw := Whole.new w33 48 #[.int .i64 a.ty, .slice A8 l c8]
        have hc35 := H33.out.1.alloc (.cells #[.int .i64 a.ty, .slice A8 l c8] 48)
        have hev35 := H33.out.2.1.on ((Below.refl N w33).alloc (by have := H33.out.1.size; omega) (.cells #[.int .i64 a.ty, .slice A8 l c8] 48)) ((Kept8.refl _).alloc _)
        generalize w33.alloc (.cells #[.int .i64 a.ty, .slice A8 l c8] 48) = w35 at *
        generalize w33.heap.size = g35 at *
        have H35 := Lib.hid (And.intro hc35 (And.intro hev35 hnw))
        clear hc35 hev35 hnw
        refine wpLate.ready (rs := [18]) (by as_aux_lemma => kernel_rfl) (by simp) (eachLate.cons rfl (fun K hK => ?_) eachLate.nil)
        refine step_of rfl (wp_appendX (e := 48) (.tmp 33) (.tmp 49) rfl Try.underlying35 Try.infoExt12 rfl rfl H35.out.1.row rfl H35.out.2.2 rfl (by have := HC.out.2.2.1; omega) (by have := H35.out.1.size; omega) ?_)
        intro v36 w36 h36 hg36 hh36
        have hfin := H35.out.1.grow h36 hg36 H35.out.2.1
        have hr36 : Whole w36 g 37 (pk X.mr X.ty X.sq X.ti X.so C (.slice Av k cv) P X.pad) := H35.out.1.out.grown hg36 (fun e => H35.out.1.row.far H35.out.1.out (by decide) e.symm)
        have hb36 : Whole w36 N 28 M := H35.out.1.box.grown hg36 (fun e => H35.out.1.row.far H35.out.1.box (by decide) e.symm)
        have hbl36 : Below N w w36 := H35.out.1.below.grown hg36 (by have := H35.out.1.size; omega) (fun j hj => by have := (H35.out.1.row.lt hj).1; omega)
        obtain ⟨A9, c9, hv9, -⟩ := h36.form
        have hps : (ps ++ [(a.ty, Value.slice A8 l c8)]).length = k + 1 := by simp [HC.out.2.2.1]
        rw [hps] at hv9
        subst hv9
        have q1 : w36.cell? ⟨g, 6, none⟩ = some (.slice Av k cv) := hr36.cell 6
        have q2 := hr36.frz 6
        have HQ1 := Lib.hid (HTL2.out w36 hb36 hbl36 q1)
        have HFIN := Lib.hid hfin
        clear hfin hr36 hb36 hbl36 h36 hg36 hh36 hps
        refine hK.out _ _ (HQ1.out _) ?_
        clear hK K
        try simp only [Act.put]
        refine wpLate.ready (rs := [19]) (by as_aux_lemma => kernel_rfl) (by simp) (eachLate.cons rfl (fun K hK => ?_) eachLate.nil)
        go_simp
        refine hK.out _ _ (HQ1.out _) ?_
        clear hK K
        try simp only [Act.put]
        refine wpLate.ready (rs := [20]) (by as_aux_lemma => kernel_rfl) (by simp) (eachLate.cons rfl (fun K hK => ?_) eachLate.nil)
        go_simp
        refine hK.out _ _ (TillOne.past (HSN.out _ _ _ _ HFIN.out) rfl) ?_
        clear hK K
        try simp only [Act.put]
        refine wpLate.done (by as_aux_lemma => kernel_rfl) ?_ _
        go_wp2_with fail
        exact ⟨⟨k + 1, _, _, by omega, by go_num, by rw [HC.out.2.1]; exact HFIN.out⟩, by simp [intOf]; omega⟩
      · have htk : X.xs.take k = X.xs := List.take_of_length_le (by rw [HNL.out]; omega)
        rw [htk] at hcp
        obtain rfl : k = n := by omega
        obtain ⟨Av, cv, rfl, -⟩ := hcp.row.form
        have hcs := hcp.out
        have hfin := hcp.copied HN.out hC hP (pk X.mr X.ty X.sq X.ti X.so C (.slice Av ps.length cv) P X.pad)
        have hres := hcp.res
        have hone : (pk X.mr X.ty X.sq X.ti X.so C (.slice Av ps.length cv) P X.pad).all (·.oneCell') = true := pk_one hC rfl hP
        have hsz : (pk X.mr X.ty X.sq X.ti X.so C (.slice Av ps.length cv) P X.pad).size = 9 := rfl
        rw [HZE.out] at hres
        obtain ⟨M2, hM2⟩ : ∃ x, pk X.mr X.ty X.sq X.ti X.so C (.slice Av ps.length cv) P X.pad = x := ⟨_, rfl⟩
        rw [hM2] at hcs hone hsz hfin
        have HF := Lib.hid (And.intro hcs (And.intro hres (And.intro hone (And.intro hsz hfin))))
        clear hcp htk hcs hres hone hsz hfin hM2 c6
        go_wp2_with (first
          | (refine wpList_load_all rfl 37 (.tmp 3) rfl HF.out.1 rfl Try.sizePk HF.out.2.2.2.1 Try.underlying37 rfl ?_)
          | (refine wpList_store_whole rfl 37 (.tmp 2) (.tmp 53) rfl rfl rfl HF.out.2.1 Try.sizePk HF.out.2.2.2.1 HZ9.out HF.out.2.2.1 ?_))
        (try simp only [Exit.inBlock, Exit.then])
        exact bodyPost_ret (ret_struct rfl rfl HF.out.2.2.2.2.1 Try.underlying37 rfl Try.sizePk HF.out.2.2.2.1) rfl HF.out.2.2.2.2.2
end Go.Proofs.Ytapbodiakkdfmaa
