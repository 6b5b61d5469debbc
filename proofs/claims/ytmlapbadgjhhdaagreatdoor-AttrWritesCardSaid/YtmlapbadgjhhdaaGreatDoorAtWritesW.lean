/- The walk of the law on parts written. -/
import Derived.Test.YtmlapbadgjhhdaaGreatDoorAtAwake
import Derived.Test.YtmlapbadgjhhdaaGreatDoorAtRWr
import Derived.Test.YtmlapbadgjhhdaaGreatDoorAtRWrite
import Derived.Test.YtmlapbadgjhhdaaGreatDoorAtRGood
namespace Go.Proofs.YtmlapbadgjhhdaaGreatDoor
open Go.RowKit
set_option linter.unusedVariables false
set_option linter.unusedSimpArgs false

theorem attrsM_few {m : MediaS} (h : mayM m = true) : (attrsM m).length ≤ 64 := by
  unfold mayM at h
  rw [Bool.and_eq_true, decide_eq_true_eq] at h
  exact h.2
theorem partW_few (m : MediaS) : (partW m).attrs.length ≤ 64 := by
  unfold partW
  split
  · next h => exact attrsM_few h
  · simp
theorem WriteO.reads {E : TypeId} {w w' : World} {m : MediaS} {e : Ending} (h : WriteO E w m e w') : ∃ A c, e = .returned (.tuple #[.agg #[.string (partW m).line, .string (partW m).conn, .slice A (partW m).attrs.length c], .int .i64 (errW m)]) ∧ AttrsV w' w'.heap.size (.slice A (partW m).attrs.length c) (partW m).attrs ∧ Below w.heap.size w w' := by
  obtain ⟨v, rfl, ho, hb⟩ := h.part
  obtain ⟨A, c, hv, -⟩ := Own.form ho
  rw [List.length_map] at hv
  subst hv
  exact ⟨A, c, rfl, ho.reads (Nat.le_refl _), hb⟩
theorem listCells {w : World} {g : Nat} {t : TypeId} {cs : List Value} (h : Whole w g t cs.toArray) : ∀ j v, cs[j]? = some v → w.cell? ((⟨g, 0, none⟩ : Addr).add j) = some v := fun j v hv => by
  rw [Addr.add_lit, Nat.zero_add, h.cell j, List.getElem?_toArray]
  exact hv
set_option maxHeartbeats 6400000 in
set_option maxRecDepth 100000 in
theorem writes_walk (M : Array Value) (m : MediaS) (vC vE vR vS vY : Value) (w : World) (h : MediaV w w.heap.size M m vC vE vR vS vY) (hz : SizM m) (hE : Env w) (h7 : 7 ≤ w.heap.size) :
    Calls Tryz.prog 3 #[.agg M] w fun e w' => e = .returned (.bool true) ∧ Below w.heap.size w w' := by
  have hb0 : Below w.heap.size w (w.alloc (.cells M 28)) := (Below.refl _ w).alloc (Nat.le_refl _) _
  have H0 := Lib.hid (And.intro hb0 (Whole.new w 28 M))
  have HSZ := Lib.hid h.size
  have HSZL : Hid ((Tryz.prog.info? 28).map (·.size) = some M.toList.length) := Lib.hid (by rw [Tryz.sizeMedia]; have := HSZ.out; simp [this])
  have HU : Hid (∀ W, Below w.heap.size w W → MediaV W W.heap.size M m vC vE vR vS vY ∧ Env W ∧ 7 ≤ W.heap.size) := Lib.hid fun W hW => ⟨h.under hW, hE.under hW, Nat.le_trans h7 hW.size⟩
  have HAW : Hid (∀ W, Below w.heap.size w W → Calls Tryz.prog 8 #[] W fun e w' => e = .returned (.bool true) ∧ Below W.heap.size W w') := Lib.hid fun W hW => awake_any W (hE.under hW) (Nat.le_trans h7 hW.size)
  have HRW : Hid (∀ W, Below w.heap.size w W → Calls Tryz.prog 9 #[.agg M] W (WriteO 55 W m)) := Lib.hid fun W hW => rWrite_any M m vC vE vR vS vY W (h.under hW) hz
    (fun W2 h2 => rgood_any M m vC vE vR vS vY W2 ((h.under hW).under h2) hz) (fun hg W2 h2 => rwrite1_any M m vC vE vR vS vY W2 ((h.under hW).under h2) hz hg)
  have HPW : Hid (∀ W, Below w.heap.size w W → Calls Tryz.prog 10 #[.agg M] W (WriteO 53 W m)) := Lib.hid fun W hW => write_any M m vC vE vR vS vY W (h.under hW) hz (hE.under hW) (Nat.le_trans h7 hW.size)
  have HGD0 : Hid (∀ W, Below w.heap.size w W → Calls Tryz.prog 13 #[.agg M] W fun e w' => e = .returned (.bool (goodM m)) ∧ Below W.heap.size W w') := Lib.hid fun W hW => good_any M m vC vE vR vS vY W (h.under hW) hz
  have HRG0 : Hid (∀ W, Below w.heap.size w W → Calls Tryz.prog 14 #[.agg M] W fun e w' => e = .returned (.bool (goodM m)) ∧ Below W.heap.size W w') := Lib.hid fun W hW => rgood_any M m vC vE vR vS vY W (h.under hW) hz
  have HFEW := Lib.hid (partW_few m)
  have HRD : Hid (∀ E W e w', WriteO E W m e w' → ∃ A c, e = .returned (.tuple #[.agg #[.string (partW m).line, .string (partW m).conn, .slice A (partW m).attrs.length c], .int .i64 (errW m)]) ∧ AttrsV w' w'.heap.size (.slice A (partW m).attrs.length c) (partW m).attrs ∧ Below W.heap.size W w') := Lib.hid fun E W e w' h => h.reads
  generalize partW m = pm at *
  generalize errW m = er at *
  obtain ⟨nn, hnn⟩ : ∃ n, pm.attrs.length = n := ⟨_, rfl⟩
  rw [hnn] at HRD
  have HNN := Lib.hid hnn
  clear h hz hE h7 hb0 hnn
  obtain ⟨N, hN⟩ : ∃ N, w.heap.size = N := ⟨_, rfl⟩
  have HN := Lib.hid hN
  rw [hN] at H0
  clear hN
  go_enter Tryz.func3, Tryz.ntmps3
  go_upto_region 1 with fail
  simp only [HN.out]
  generalize w.alloc (.cells M 28) = W0 at *
  have HA0 := Lib.hid (HAW.out W0 (by rw [HN.out]; exact H0.out.1))
  go_upto_region 3 with (go_at_call 8; (with_reducible refine HA0.out.mono ?_); rintro e w1 ⟨rfl, hb1⟩; have H1 : Hid (Below w.heap.size w w1 ∧ Whole w1 N 28 M) := Lib.hid ⟨by rw [HN.out]; exact H0.out.1.trans (hb1.mono (by have := H0.out.1.size; rw [HN.out] at this; exact this)), H0.out.2.under hb1⟩; clear hb1; dsimp only)
  have HW1 := Lib.hid (HRW.out w1 H1.out.1)
  go_upto_region 4 with (first
    | ((with_reducible refine wpList_load_all ?_ 28 (.tmp 1) ?_ H1.out.2 ?_ Tryz.sizeMedia HSZ.out Tryz.underlying28 ?_ ?_); (with_reducible rfl); (with_reducible rfl); rfl; rfl)
    | (go_at_call 9; (with_reducible refine HW1.out.mono ?_); rintro e w2 hw2; obtain ⟨A3, c3, rfl, ha3, hb2⟩ := HRD.out _ _ _ _ hw2; clear hw2; have H2 : Hid (Below w.heap.size w w2 ∧ Whole w2 N 28 M ∧ AttrsV w2 w2.heap.size (.slice A3 nn c3) pm.attrs) := Lib.hid ⟨H1.out.1.trans (hb2.mono H1.out.1.size), H1.out.2.under hb2, ha3⟩; clear hb2 ha3; have HNEW : Hid (Whole (w2.alloc (.cells #[.string ⟨#[]⟩, .string ⟨#[]⟩, .slice none 0 0] 32)) w2.heap.size 32 #[.string ⟨#[]⟩, .string ⟨#[]⟩, .slice none 0 0]) := Lib.hid (Whole.new _ _ _); dsimp only)
    | ((with_reducible refine wpList_storeS #[.string pm.line, .string pm.conn, .slice A3 nn c3] ?_ 32 (.tmp 3) (.tmp 12) ?_ ?_ ?_ HNEW.out Tryz.sizeRsPart ?_ ?_ ?_ ?_); (with_reducible rfl); (with_reducible rfl); rfl; rfl; rfl; rfl; rfl))
  have HB3 : Hid (Below w2.heap.size w2 ((w2.alloc (.cells #[.string ⟨#[]⟩, .string ⟨#[]⟩, .slice none 0 0] 32)).setRow w2.heap.size #[.string pm.line, .string pm.conn, .slice A3 nn c3])) := Lib.hid (below_row ((Below.refl _ w2).alloc (Nat.le_refl _) _) (Nat.le_refl _) _)
  have H3 : Hid (Below w.heap.size w ((w2.alloc (.cells #[.string ⟨#[]⟩, .string ⟨#[]⟩, .slice none 0 0] 32)).setRow w2.heap.size #[.string pm.line, .string pm.conn, .slice A3 nn c3]) ∧ Whole ((w2.alloc (.cells #[.string ⟨#[]⟩, .string ⟨#[]⟩, .slice none 0 0] 32)).setRow w2.heap.size #[.string pm.line, .string pm.conn, .slice A3 nn c3]) N 28 M ∧ AttrsV ((w2.alloc (.cells #[.string ⟨#[]⟩, .string ⟨#[]⟩, .slice none 0 0] 32)).setRow w2.heap.size #[.string pm.line, .string pm.conn, .slice A3 nn c3]) w2.heap.size (.slice A3 nn c3) pm.attrs ∧ Whole ((w2.alloc (.cells #[.string ⟨#[]⟩, .string ⟨#[]⟩, .slice none 0 0] 32)).setRow w2.heap.size #[.string pm.line, .string pm.conn, .slice A3 nn c3]) w2.heap.size 32 #[.string pm.line, .string pm.conn, .slice A3 nn c3]) := Lib.hid ⟨H2.out.1.trans (HB3.out.mono H2.out.1.size), H2.out.2.1.under HB3.out, H2.out.2.2.below HB3.out, HNEW.out.row _⟩
  have HS3 : Hid (w2.heap.size ≤ ((w2.alloc (.cells #[.string ⟨#[]⟩, .string ⟨#[]⟩, .slice none 0 0] 32)).setRow w2.heap.size #[.string pm.line, .string pm.conn, .slice A3 nn c3]).heap.size) := Lib.hid HB3.out.size
  generalize ((w2.alloc (.cells #[.string ⟨#[]⟩, .string ⟨#[]⟩, .slice none 0 0] 32)).setRow w2.heap.size #[.string pm.line, .string pm.conn, .slice A3 nn c3]) = w3 at *
  generalize w2.heap.size = g3 at *
  clear HNEW HB3 H2 H1
  have HW3 := Lib.hid (HPW.out w3 H3.out.1)
  go_upto_region 5 with (first
    | ((with_reducible refine wpList_load_all ?_ 28 (.tmp 1) ?_ H3.out.2.1 ?_ Tryz.sizeMedia HSZ.out Tryz.underlying28 ?_ ?_); (with_reducible rfl); (with_reducible rfl); rfl; rfl)
    | (go_at_call 10; (with_reducible refine HW3.out.mono ?_); rintro e w4 hw4; obtain ⟨A5, c5, rfl, ha5, hb4⟩ := HRD.out _ _ _ _ hw4; clear hw4; have H4 : Hid (Below w3.heap.size w3 w4 ∧ AttrsV w4 w4.heap.size (.slice A5 nn c5) pm.attrs) := Lib.hid ⟨hb4, ha5⟩; clear hb4 ha5; have HNEW : Hid (Whole (w4.alloc (.cells #[.string ⟨#[]⟩, .string ⟨#[]⟩, .slice none 0 0] 38)) w4.heap.size 38 #[.string ⟨#[]⟩, .string ⟨#[]⟩, .slice none 0 0]) := Lib.hid (Whole.new _ _ _); dsimp only)
    | ((with_reducible refine wpList_storeS #[.string pm.line, .string pm.conn, .slice A5 nn c5] ?_ 38 (.tmp 5) (.tmp 17) ?_ ?_ ?_ HNEW.out Tryz.sizeSPart ?_ ?_ ?_ ?_); (with_reducible rfl); (with_reducible rfl); rfl; rfl; rfl; rfl; rfl))
  have HB5 : Hid (Below w4.heap.size w4 ((w4.alloc (.cells #[.string ⟨#[]⟩, .string ⟨#[]⟩, .slice none 0 0] 38)).setRow w4.heap.size #[.string pm.line, .string pm.conn, .slice A5 nn c5])) := Lib.hid (below_row ((Below.refl _ w4).alloc (Nat.le_refl _) _) (Nat.le_refl _) _)
  have HB35 : Hid (Below w3.heap.size w3 ((w4.alloc (.cells #[.string ⟨#[]⟩, .string ⟨#[]⟩, .slice none 0 0] 38)).setRow w4.heap.size #[.string pm.line, .string pm.conn, .slice A5 nn c5])) := Lib.hid (H4.out.1.trans (HB5.out.mono H4.out.1.size))
  have H5 : Hid (Below w.heap.size w ((w4.alloc (.cells #[.string ⟨#[]⟩, .string ⟨#[]⟩, .slice none 0 0] 38)).setRow w4.heap.size #[.string pm.line, .string pm.conn, .slice A5 nn c5]) ∧ Whole ((w4.alloc (.cells #[.string ⟨#[]⟩, .string ⟨#[]⟩, .slice none 0 0] 38)).setRow w4.heap.size #[.string pm.line, .string pm.conn, .slice A5 nn c5]) N 28 M ∧ AttrsV ((w4.alloc (.cells #[.string ⟨#[]⟩, .string ⟨#[]⟩, .slice none 0 0] 38)).setRow w4.heap.size #[.string pm.line, .string pm.conn, .slice A5 nn c5]) g3 (.slice A3 nn c3) pm.attrs ∧ Whole ((w4.alloc (.cells #[.string ⟨#[]⟩, .string ⟨#[]⟩, .slice none 0 0] 38)).setRow w4.heap.size #[.string pm.line, .string pm.conn, .slice A5 nn c5]) g3 32 #[.string pm.line, .string pm.conn, .slice A3 nn c3] ∧ AttrsV ((w4.alloc (.cells #[.string ⟨#[]⟩, .string ⟨#[]⟩, .slice none 0 0] 38)).setRow w4.heap.size #[.string pm.line, .string pm.conn, .slice A5 nn c5]) w4.heap.size (.slice A5 nn c5) pm.attrs ∧ Whole ((w4.alloc (.cells #[.string ⟨#[]⟩, .string ⟨#[]⟩, .slice none 0 0] 38)).setRow w4.heap.size #[.string pm.line, .string pm.conn, .slice A5 nn c5]) w4.heap.size 38 #[.string pm.line, .string pm.conn, .slice A5 nn c5] ∧ g3 ≤ ((w4.alloc (.cells #[.string ⟨#[]⟩, .string ⟨#[]⟩, .slice none 0 0] 38)).setRow w4.heap.size #[.string pm.line, .string pm.conn, .slice A5 nn c5]).heap.size ∧ w4.heap.size ≤ ((w4.alloc (.cells #[.string ⟨#[]⟩, .string ⟨#[]⟩, .slice none 0 0] 38)).setRow w4.heap.size #[.string pm.line, .string pm.conn, .slice A5 nn c5]).heap.size) := Lib.hid
    ⟨H3.out.1.trans (HB35.out.mono H3.out.1.size), H3.out.2.1.under HB35.out, H3.out.2.2.1.below (HB35.out.mono HS3.out), H3.out.2.2.2.under HB35.out, H4.out.2.below HB5.out, HNEW.out.row _, Nat.le_trans HS3.out HB35.out.size, HB5.out.size⟩
  generalize ((w4.alloc (.cells #[.string ⟨#[]⟩, .string ⟨#[]⟩, .slice none 0 0] 38)).setRow w4.heap.size #[.string pm.line, .string pm.conn, .slice A5 nn c5]) = w5 at *
  generalize w4.heap.size = g5 at *
  clear HNEW HB5 HB35 H4 H3 HS3 H0
  have HKB : Hid (∀ W W', Below w5.heap.size w5 W → Below W.heap.size W W' → Below w5.heap.size w5 W') := Lib.hid fun W W' h1 h2 => below_chain (Nat.le_refl _) h1 h2
  have HLO : Hid (∀ W, Below w5.heap.size w5 W → Below w.heap.size w W) := Lib.hid fun W hW => H5.out.1.trans (hW.mono H5.out.1.size)
  have HLM : Hid (∀ W, Below w5.heap.size w5 W → ∀ j v, M.toList[j]? = some v → W.cell? ((⟨N, 0, none⟩ : Addr).add j) = some v) := Lib.hid fun W hW => listCells (H5.out.2.1.under hW)
  have HL3 : Hid (∀ W, Below w5.heap.size w5 W → ∀ j v, ([.string pm.line, .string pm.conn, .slice A3 nn c3] : List Value)[j]? = some v → W.cell? ((⟨g3, 0, none⟩ : Addr).add j) = some v) := Lib.hid fun W hW => listCells (H5.out.2.2.2.1.under hW)
  have HL5 : Hid (∀ W, Below w5.heap.size w5 W → ∀ j v, ([.string pm.line, .string pm.conn, .slice A5 nn c5] : List Value)[j]? = some v → W.cell? ((⟨g5, 0, none⟩ : Addr).add j) = some v) := Lib.hid fun W hW => listCells (H5.out.2.2.2.2.2.1.under hW)
  have HOU : Hid (∀ W, Below w5.heap.size w5 W → Calls Tryz.prog 12 #[.agg #[.string pm.line, .string pm.conn, .slice A5 nn c5]] W fun e w' => ∃ A c, e = .returned (.agg #[.string pm.line, .string pm.conn, .slice A nn c]) ∧ AttrsV w' w'.heap.size (.slice A nn c) pm.attrs ∧ Below W.heap.size W w') := Lib.hid fun W hW =>
    (ours_any pm _ W ((H5.out.2.2.2.2.1.below (hW.mono H5.out.2.2.2.2.2.2.2)).more (Nat.le_trans H5.out.2.2.2.2.2.2.2 hW.size)) (by rw [HNN.out]; have := HFEW.out; rw [HNN.out] at this; omega)).mono fun e w' h => by
      obtain ⟨v, rfl, ho, hb⟩ := h
      obtain ⟨A, c, hv, -⟩ := Own.form ho
      rw [List.length_map, HNN.out] at hv
      subst hv
      exact ⟨A, c, rfl, ho.reads (Nat.le_refl _), hb⟩
  have HSP : Hid (∀ W A c, Below w5.heap.size w5 W → AttrsV W W.heap.size (.slice A nn c) pm.attrs → Calls Tryz.prog 11 #[.agg #[.string pm.line, .string pm.conn, .slice A nn c], .agg #[.string pm.line, .string pm.conn, .slice A3 nn c3]] W fun e w' => e = .returned (.bool true) ∧ Below W.heap.size W w') := Lib.hid fun W A c hW ha =>
    (samePart_any pm pm _ _ W ha ((H5.out.2.2.1.below (hW.mono H5.out.2.2.2.2.2.2.1)).more (Nat.le_trans H5.out.2.2.2.2.2.2.1 hW.size))).mono fun e w' h => by
      obtain ⟨b, rfl, hbb, hb⟩ := h
      rw [hbb.2 rfl]
      exact ⟨rfl, hb⟩
  have HGD : Hid (∀ W, Below w5.heap.size w5 W → Calls Tryz.prog 13 #[.agg M] W fun e w' => e = .returned (.bool (goodM m)) ∧ Below W.heap.size W w') := Lib.hid fun W hW => HGD0.out W (HLO.out W hW)
  have HRG : Hid (∀ W, Below w5.heap.size w5 W → Calls Tryz.prog 14 #[.agg M] W fun e w' => e = .returned (.bool (goodM m)) ∧ Below W.heap.size W w') := Lib.hid fun W hW => HRG0.out W (HLO.out W hW)
  generalize goodM m = gd at *
  have HR0 : Hid (Below w5.heap.size w5 w5.drew) := Lib.hid (Below.refl _ _).drew
  clear HGD0 HRG0 HPW HRW HAW HA0 HW1 HW3 HRD
  refine wp_region_held_drew (S := fun W => Below w5.heap.size w5 W) (by kernel_rfl) HR0.out (fun hHeld => ?_)
  refine wpAnyH_take (i := 0) (v := _) rfl (by as_aux_lemma => kernel_rfl) (by as_aux_lemma => kernel_rfl) (by as_aux_lemma => kernel_rfl) (fun _ _ _ h => h) (Or.inl ⟨by rfl, fun w h => by clear h; go_simp; (try with_reducible rfl)⟩) (by assumption) ?_
  simp only [Act.put, List.getElem_toArray, List.getElem_cons_succ, List.getElem_cons_zero, List.setIfInBounds_toArray, List.set_cons_succ, List.set_cons_zero]
  refine wpAnyH_take (i := 1) (v := _) rfl (by as_aux_lemma => kernel_rfl) (by as_aux_lemma => kernel_rfl) (by as_aux_lemma => kernel_rfl) (fun _ _ _ h => h) (Or.inl ⟨by rfl, fun w h => by clear h; go_simp; (try with_reducible rfl)⟩) (by assumption) ?_
  simp only [Act.put, List.getElem_toArray, List.getElem_cons_succ, List.getElem_cons_zero, List.setIfInBounds_toArray, List.set_cons_succ, List.set_cons_zero]
  refine wpAnyH_take (i := 2) (v := _) rfl (by as_aux_lemma => kernel_rfl) (by as_aux_lemma => kernel_rfl) (by as_aux_lemma => kernel_rfl) (fun _ _ _ h => h) (Or.inl ⟨by rfl, fun w h => by clear h; go_simp; (try with_reducible rfl)⟩) (by assumption) ?_
  simp only [Act.put, List.getElem_toArray, List.getElem_cons_succ, List.getElem_cons_zero, List.setIfInBounds_toArray, List.set_cons_succ, List.set_cons_zero]
  refine wpAnyH_take (i := 3) (v := _) rfl (by as_aux_lemma => kernel_rfl) (by as_aux_lemma => kernel_rfl) (by as_aux_lemma => kernel_rfl) (fun _ _ _ h => h) (Or.inl ⟨by rfl, fun w h => by clear h; go_simp; (try with_reducible rfl)⟩) (by assumption) ?_
  simp only [Act.put, List.getElem_toArray, List.getElem_cons_succ, List.getElem_cons_zero, List.setIfInBounds_toArray, List.set_cons_succ, List.set_cons_zero]
  refine wpAnyH_take (i := 4) (v := _) rfl (by as_aux_lemma => kernel_rfl) (by as_aux_lemma => kernel_rfl) (by as_aux_lemma => kernel_rfl) (fun _ _ _ h => h) (yieldsIf_load_at (by rfl) 38 (.tmp 5) rfl ⟨g5, 0, none⟩ rfl [.string pm.line, .string pm.conn, .slice A5 nn c5] _ (fun w h => HL5.out w h) Tryz.underlying38 rfl Tryz.sizeSPart) (by assumption) ?_
  simp only [Act.put, List.getElem_toArray, List.getElem_cons_succ, List.getElem_cons_zero, List.setIfInBounds_toArray, List.set_cons_succ, List.set_cons_zero]
  refine wpAnyH_take (i := 6) (v := _) rfl (by as_aux_lemma => kernel_rfl) (by as_aux_lemma => kernel_rfl) (by as_aux_lemma => kernel_rfl) (fun _ _ _ h => h) (yieldsIf_load_at (by rfl) 32 (.tmp 3) rfl ⟨g3, 0, none⟩ rfl [.string pm.line, .string pm.conn, .slice A3 nn c3] _ (fun w h => HL3.out w h) Tryz.underlying32 rfl Tryz.sizeRsPart) (by assumption) ?_
  simp only [Act.put, List.getElem_toArray, List.getElem_cons_succ, List.getElem_cons_zero, List.setIfInBounds_toArray, List.set_cons_succ, List.set_cons_zero]
  refine wpAnyH_ready (rs := [5]) (by as_aux_lemma => kernel_rfl) (by simp) ?_
  refine AllReadyH.cons (i := 5) rfl (fun K hK => ?_) AllReadyH.nil
  go_simp
  refine (HOU.out _ hHeld).mono ?_
  rintro e w9 ⟨A7, c7, rfl, ha9, hb9⟩
  refine hK.out _ _ (HKB.out _ _ hHeld hb9) (fun hHeld4 => ?_)
  have H7 := Lib.hid ha9
  clear ha9
  clear hK K hHeld
  have hHeld := hHeld4
  clear hHeld4
  generalize w9 = w7 at *
  refine wpAnyH_ready (rs := [7]) (by as_aux_lemma => kernel_rfl) (by simp) ?_
  refine AllReadyH.cons (i := 7) rfl (fun K hK => ?_) AllReadyH.nil
  go_simp
  refine (HSP.out _ A7 c7 hHeld H7.out).mono ?_
  rintro e w9 ⟨rfl, hb9⟩
  refine hK.out _ _ (HKB.out _ _ hHeld hb9) (fun hHeld4 => ?_)
  clear hK K hHeld
  have hHeld := hHeld4
  clear hHeld4
  generalize w9 = w8 at *
  refine wpAnyH_take (i := 8) (v := _) rfl (by as_aux_lemma => kernel_rfl) (by as_aux_lemma => kernel_rfl) (by as_aux_lemma => kernel_rfl) (fun _ _ _ h => h) (Or.inl ⟨by rfl, fun w h => by clear h; go_simp; (try with_reducible rfl)⟩) (by assumption) ?_
  simp only [Act.put, List.getElem_toArray, List.getElem_cons_succ, List.getElem_cons_zero, List.setIfInBounds_toArray, List.set_cons_succ, List.set_cons_zero]
  refine wpAnyH_take (i := 9) (v := _) rfl (by as_aux_lemma => kernel_rfl) (by as_aux_lemma => kernel_rfl) (by as_aux_lemma => kernel_rfl) (fun _ _ _ h => h) (Or.inl ⟨by rfl, fun w h => by clear h; go_simp; (try with_reducible rfl)⟩) (by assumption) ?_
  simp only [Act.put, List.getElem_toArray, List.getElem_cons_succ, List.getElem_cons_zero, List.setIfInBounds_toArray, List.set_cons_succ, List.set_cons_zero]
  refine wpAnyH_take (i := 10) (v := _) rfl (by as_aux_lemma => kernel_rfl) (by as_aux_lemma => kernel_rfl) (by as_aux_lemma => kernel_rfl) (fun _ _ _ h => h) (yieldsIf_load_at (by rfl) 28 (.tmp 1) rfl ⟨N, 0, none⟩ rfl M.toList _ (fun w h => HLM.out w h) Tryz.underlying28 rfl HSZL.out) (by assumption) ?_
  simp only [Act.put, List.getElem_toArray, List.getElem_cons_succ, List.getElem_cons_zero, List.setIfInBounds_toArray, List.set_cons_succ, List.set_cons_zero]
  refine wpAnyH_take (i := 12) (v := _) rfl (by as_aux_lemma => kernel_rfl) (by as_aux_lemma => kernel_rfl) (by as_aux_lemma => kernel_rfl) (fun _ _ _ h => h) (yieldsIf_load_at (by rfl) 28 (.tmp 1) rfl ⟨N, 0, none⟩ rfl M.toList _ (fun w h => HLM.out w h) Tryz.underlying28 rfl HSZL.out) (by assumption) ?_
  simp only [Act.put, List.getElem_toArray, List.getElem_cons_succ, List.getElem_cons_zero, List.setIfInBounds_toArray, List.set_cons_succ, List.set_cons_zero]
  refine wpAnyH_ready (rs := [11]) (by as_aux_lemma => kernel_rfl) (by simp) ?_
  refine AllReadyH.cons (i := 11) rfl (fun K hK => ?_) AllReadyH.nil
  go_simp
  refine (HGD.out _ hHeld).mono ?_
  rintro e w9 ⟨rfl, hb9⟩
  refine hK.out _ _ (HKB.out _ _ hHeld hb9) (fun hHeld4 => ?_)
  clear hK K hHeld
  have hHeld := hHeld4
  clear hHeld4
  generalize w9 = w10 at *
  refine wpAnyH_ready (rs := [13]) (by as_aux_lemma => kernel_rfl) (by simp) ?_
  refine AllReadyH.cons (i := 13) rfl (fun K hK => ?_) AllReadyH.nil
  go_simp
  refine (HRG.out _ hHeld).mono ?_
  rintro e w9 ⟨rfl, hb9⟩
  refine hK.out _ _ (HKB.out _ _ hHeld hb9) (fun hHeld4 => ?_)
  clear hK K hHeld
  have hHeld := hHeld4
  clear hHeld4
  generalize w9 = w11 at *
  refine wpAnyH_take (i := 14) (v := _) rfl (by as_aux_lemma => kernel_rfl) (by as_aux_lemma => kernel_rfl) (by as_aux_lemma => kernel_rfl) (fun _ _ _ h => h) (Or.inl ⟨by rfl, fun w h => by clear h; go_simp; (try with_reducible rfl)⟩) (by assumption) ?_
  simp only [Act.put, List.getElem_toArray, List.getElem_cons_succ, List.getElem_cons_zero, List.setIfInBounds_toArray, List.set_cons_succ, List.set_cons_zero]
  refine wpAnyH_take (i := 15) (v := _) rfl (by as_aux_lemma => kernel_rfl) (by as_aux_lemma => kernel_rfl) (by as_aux_lemma => kernel_rfl) (fun _ _ _ h => h) (Or.inl ⟨by rfl, fun w h => by clear h; go_simp; (try with_reducible rfl)⟩) (by assumption) ?_
  simp only [Act.put, List.getElem_toArray, List.getElem_cons_succ, List.getElem_cons_zero, List.setIfInBounds_toArray, List.set_cons_succ, List.set_cons_zero]
  refine wpAnyH_take (i := 16) (v := _) rfl (by as_aux_lemma => kernel_rfl) (by as_aux_lemma => kernel_rfl) (by as_aux_lemma => kernel_rfl) (fun _ _ _ h => h) (Or.inl ⟨by rfl, fun w h => by clear h; go_simp; (try with_reducible rfl)⟩) (by assumption) ?_
  simp only [Act.put, List.getElem_toArray, List.getElem_cons_succ, List.getElem_cons_zero, List.setIfInBounds_toArray, List.set_cons_succ, List.set_cons_zero]
  refine wpAnyH_done (by as_aux_lemma => kernel_rfl) ?_ _
  have HFIN := Lib.hid (HLO.out _ hHeld)
  clear hHeld
  go_wp2
  go_ret
  exact ⟨rfl, HFIN.out⟩
end Go.Proofs.YtmlapbadgjhhdaaGreatDoor
