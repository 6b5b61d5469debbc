/- SdpBack: the law's walk. -/
import Derived.Test.YthijpfnfkelmbaaSdpPr5
import Derived.Test.YthijpfnfkelmbaaSdpParses
namespace Go.Proofs.Ythijpfnfkelmbaa
open Go.RowKit
set_option linter.unusedVariables false
set_option linter.unusedSimpArgs false

theorem Runs.err_le {st : PSt} {k : Nat} {l : Tx} {r : Res} (h : Runs st k l r) : ∀ j er, r = .err j er → k ≤ j := by
  induction h with
  | done h => intro j er e; cases e
  | torn h hc => intro j er e; cases e; exact Nat.le_refl _
  | bad hc hs => intro j er e; cases e; exact Nat.le_refl _
  | step hc hs hr ih => intro j er e; have := ih j er e; omega
theorem Parsed.err_at {l : Tx} {k : Nat} {er : Int} (h : Parsed l (.err k er)) (he : er = 2) : 1 ≤ k := by
  rcases h with ⟨_, h⟩ | ⟨_, h⟩
  · injection h with h1 h2
    omega
  · exact h.err_le k er rfl
theorem HasText.parsed {x : SesS} {t : ByteArray} (h : HasText x) (ht : tx t = textS x) : Parsed (tx t) (.ok x) := by
  rw [ht]
  exact parsed_print h.1 h.2
theorem Parsed.has {s : ByteArray} {x : SesS} (h : Parsed (tx s) (.ok x)) : HasText x ∧ textS x = tx s := by
  obtain ⟨h1, h2, h3⟩ := h.text
  exact ⟨⟨h1, by rw [h2]; exact h3⟩, h2⟩
theorem PrO.back {s u : ByteArray} {x : SesS} {er : Int} (h : PrO x u er) (hx : Parsed (tx s) (.ok x)) : er = 0 ∧ u = s := by
  obtain ⟨h1, h2⟩ := hx.has
  rcases h with ⟨_, h3, h4⟩ | ⟨h3, _⟩
  · exact ⟨h3, tx_inj (by rw [h4, h2])⟩
  · exact (h3 h1).elim
set_option maxHeartbeats 6400000 in
set_option maxRecDepth 100000 in
theorem sback_any (X : Array Value) (x : SesS) (a1 p1 : Value) (s : ByteArray) (w : World) (hm : MaxL w) (h : SesV w w.heap.size X x a1 p1) (hz : SizS x) (hf : Fits x) (hs0 : s.size ≤ 140737488351232) :
    Calls Try.prog 5 #[.agg X, .string s] w fun e w' => e = .returned (.bool true) ∧ Below w.heap.size w w' := by
  have hs : s.size ≤ maxLen := by unfold maxLen; omega
  clear hs0
  obtain ⟨e1, va1, vp1⟩ := h
  subst e1
  obtain ⟨A, k1, rfl, -⟩ := va1.form
  obtain ⟨P, j1, rfl, hj1, hm1, -⟩ := vp1.form
  obtain ⟨n1, hn1⟩ : ∃ n, x.attrs.length = n := ⟨_, rfl⟩
  obtain ⟨n, hn⟩ : ∃ n, x.parts.length = n := ⟨_, rfl⟩
  rw [hn1] at va1
  rw [hn] at vp1 hj1
  rw [hn1, hn]
  have hb : Below w.heap.size w (w.alloc (.cells #[.string x.origin, .string x.name, .string x.time, .slice A n1 k1, .slice P n j1] 26)) := (Below.refl _ w).alloc (Nat.le_refl _) _
  have g1 := Whole.new w 26 #[.string x.origin, .string x.name, .string x.time, .slice A n1 k1, .slice P n j1]
  have va := (va1.below hb).more hb.size
  have vp := (vp1.below hb).more hb.size
  have HM0 := Lib.hid (hm.under hb)
  have HZ := Lib.hid hz
  have HF := Lib.hid hf
  have HN := Lib.hid (And.intro hn1 hn)
  have HSS := Lib.hid hs
  clear hn1 hn va1 vp1 hz hf hm hs
  obtain ⟨B, hB⟩ : ∃ B, w.heap.size = B := ⟨_, rfl⟩
  have HBE := Lib.hid hB
  go_enter Try.func5, Try.ntmps5
  go_upto_region 1 with fail
  rw [hB] at g1
  generalize hw0 : w.alloc (.cells #[.string x.origin, .string x.name, .string x.time, .slice A n1 k1, .slice P n j1] 26) = w0 at *
  try rw [hB]
  clear hw0 hB
  have HAW := Lib.hid (awake_any w0 HM0.out)
  have H0 := Lib.hid (And.intro hb (And.intro g1 (And.intro va vp)))
  clear hb g1 va vp
  go_upto_if 24 with (first
    | (go_at_call 8; (with_reducible refine HAW.out.mono ?_); rintro e w2 ⟨rfl, hb2⟩; have H2 : Hid (Below w.heap.size w w2 ∧ Whole w2 B 26 #[.string x.origin, .string x.name, .string x.time, .slice A n1 k1, .slice P n j1] ∧ AttrsV w2 w2.heap.size (.slice A n1 k1) x.attrs ∧ PartsV w2 w2.heap.size (.slice P n j1) x.parts ∧ MaxL w2) := Lib.hid ⟨H0.out.1.trans (hb2.mono H0.out.1.size), H0.out.2.1.under hb2, (H0.out.2.2.1.below hb2).more hb2.size, (H0.out.2.2.2.below hb2).more hb2.size, HM0.out.under hb2⟩; have HTH : Hid (Calls Try.prog 15 #[.agg #[.string x.origin, .string x.name, .string x.time, .slice A n1 k1, .slice P n j1]] w2 (CopyO w2 x)) := Lib.hid (theirs_any _ x _ _ w2 ⟨rfl, H2.out.2.2.1, H2.out.2.2.2.1⟩ HF.out); clear hb2)
    | ((with_reducible refine wpList_load_all ?_ 26 (.tmp 2) ?_ H2.out.2.1 ?_ Try.sizeRsSes ?_ Try.underlying26 ?_ ?_); (with_reducible rfl); (with_reducible rfl); rfl; rfl; rfl)
    | (go_at_call 15; (with_reducible refine HTH.out.mono ?_); rintro e w3 ⟨Y, uA, uP, rfl, hY, hb3⟩; have HPR := Lib.hid (print_any Y x uA uP w3 hY HZ.out); have HB3 := Lib.hid hb3; clear hY hb3)
    | (go_at_call 14; (with_reducible refine HPR.out.mono ?_); rintro e w4 ⟨t, er, rfl, hpr, hb4⟩; have H4 : Hid (PrO x t er ∧ Below w2.heap.size w2 w4) := Lib.hid ⟨hpr, HB3.out.trans (hb4.mono HB3.out.size)⟩; clear hpr hb4))
  have H5 : Hid (Below w.heap.size w w4 ∧ Whole w4 B 26 #[.string x.origin, .string x.name, .string x.time, .slice A n1 k1, .slice P n j1] ∧ AttrsV w4 w4.heap.size (.slice A n1 k1) x.attrs ∧ PartsV w4 w4.heap.size (.slice P n j1) x.parts ∧ MaxL w4) := Lib.hid
    ⟨H2.out.1.trans (H4.out.2.mono H2.out.1.size), H2.out.2.1.under H4.out.2, (H2.out.2.2.1.below H4.out.2).more H4.out.2.size, (H2.out.2.2.2.1.below H4.out.2).more H4.out.2.size, H2.out.2.2.2.2.under H4.out.2⟩
  have HPO := Lib.hid H4.out.1
  clear H4 H2 H0 HPR HTH HB3
  go_cut [7] from 7 to 44 (fun s7 wc => MaxL wc ∧ Below w.heap.size w wc)
  case first =>
    rcases HPO.out with ⟨hh, rfl, ht⟩ | ⟨_, rfl, _⟩
    · have hxp := hh.parsed ht
      have hts : t.size ≤ maxLen := by
        have h1 := hh.2
        rw [← ht, tx_length] at h1
        unfold maxLen; omega
      have HP : Hid (∀ W, MaxL W → Calls Try.prog 10 #[.string t] W (OkO W x)) := Lib.hid fun W hW => (parse_any t W hW hts).mono fun e w' h => h.ok hxp
      clear hxp hts hh ht
      unfold OkO at HP
      rw [HN.out.1, HN.out.2] at HP
      go_upto_region 6 with (first
        | (go_at_call 10; (with_reducible refine (HP.out _ H5.out.2.2.2.2).mono ?_); rintro e w6 ⟨A6, P6, ca6, cp6, rfl, hA6, hP6, hb6⟩; have hal6 := (Below.refl w6.heap.size w6).alloc (Nat.le_refl _) (.cells #[.string ⟨#[]⟩, .string ⟨#[]⟩, .string ⟨#[]⟩, .slice none 0 0, .slice none 0 0] 33); have HW6 : Hid (Whole (w6.alloc (.cells #[.string ⟨#[]⟩, .string ⟨#[]⟩, .string ⟨#[]⟩, .slice none 0 0, .slice none 0 0] 33)) w6.heap.size 33 #[.string ⟨#[]⟩, .string ⟨#[]⟩, .string ⟨#[]⟩, .slice none 0 0, .slice none 0 0]) := Lib.hid (Whole.new _ _ _))
        | ((with_reducible refine wpList_storeS #[.string x.origin, .string x.name, .string x.time, .slice A6 n1 ca6, .slice P6 n cp6] ?_ 33 (.tmp 7) (.tmp 28) ?_ ?_ ?_ HW6.out Try.sizeSSes ?_ ?_ ?_ ?_); (with_reducible rfl); (with_reducible rfl); rfl; rfl; rfl; rfl; rfl))
      have hr6 := HW6.out.row #[.string x.origin, .string x.name, .string x.time, .slice A6 n1 ca6, .slice P6 n cp6]
      have hb6' := below_row hal6 (Nat.le_refl _) #[.string x.origin, .string x.name, .string x.time, .slice A6 n1 ca6, .slice P6 n cp6]
      have hb46 := hb6.trans (hb6'.mono hb6.size)
      have hA6' := (hA6.below hb6').more hb6'.size
      have hP6' := (hP6.below hb6').more hb6'.size
      have hA3' := (H5.out.2.2.1.below hb46).more hb46.size
      have hP3' := (H5.out.2.2.2.1.below hb46).more hb46.size
      have hr3 := H5.out.2.1.under hb46
      have HB6 := Lib.hid (And.intro (H5.out.1.trans (hb46.mono H5.out.1.size)) (H5.out.2.2.2.2.under hb46))
      clear hA6 hP6 hal6 HW6 hb6 hb6' hb46
      generalize hg6 : w6.heap.size = g6 at *
      generalize ((w6.alloc (.cells #[.string ⟨#[]⟩, .string ⟨#[]⟩, .string ⟨#[]⟩, .slice none 0 0, .slice none 0 0] 33)).setRow g6 #[.string x.origin, .string x.name, .string x.time, .slice A6 n1 ca6, .slice P6 n cp6]) = W4 at *
      clear hg6
      obtain ⟨N, hN4⟩ : ∃ N, W4.heap.size = N := ⟨_, rfl⟩
      rw [hN4] at hA3' hP3' hA6' hP6'
      have HN4 := Lib.hid hN4
      have hlt : B < N ∧ g6 < N := by rw [← hN4]; exact ⟨hr3.lt, hr6.lt⟩
      have hNs : ∀ W, Below N W4 W → N ≤ W.heap.size := fun W h => by have := h.size; rwa [hN4] at this
      have HX : Hid (∀ W, Below N W4 W → Whole W B 26 #[.string x.origin, .string x.name, .string x.time, .slice A n1 k1, .slice P n j1] ∧ Whole W g6 33 #[.string x.origin, .string x.name, .string x.time, .slice A6 n1 ca6, .slice P6 n cp6]) := Lib.hid fun W h => ⟨hr3.below h hlt.1, hr6.below h hlt.2⟩
      have HKB : Hid (∀ W W', Below N W4 W → Below W.heap.size W W' → Below N W4 W') := Lib.hid fun W W' h1 h2 => h1.trans (h2.mono (hNs W h1))
      have HO : Hid (∀ W, Below N W4 W → Calls Try.prog 12 #[.agg #[.string x.origin, .string x.name, .string x.time, .slice A6 n1 ca6, .slice P6 n cp6]] W (CopyO W x)) := Lib.hid fun W h => ours_any _ x _ _ W ⟨by rw [], (hA6'.below h).more (hNs W h), (hP6'.below h).more (hNs W h)⟩ HF.out
      have HSA : Hid (∀ W, Below N W4 W → ∀ Y vA vP, SesV W W.heap.size Y x vA vP → Calls Try.prog 11 #[.agg Y, .agg #[.string x.origin, .string x.name, .string x.time, .slice A n1 k1, .slice P n j1]] W fun e w' => e = .returned (.bool true) ∧ Below W.heap.size W w') := Lib.hid fun W h Y vA vP hY =>
        (same_any Y _ x x vA vP _ _ W hY ⟨by rw [], (hA3'.below h).more (hNs W h), (hP3'.below h).more (hNs W h)⟩).mono fun e w' ⟨b, h1, h2, h3⟩ => by
          cases b with
          | true => exact ⟨h1, h3⟩
          | false => have := h2.2 rfl; cases this
      have HR0 : Hid (Below N W4 W4.drew) := Lib.hid (Below.refl _ _).drew
      clear hr3 hr6 hA3' hP3' hA6' hP6' hN4 hlt hNs
      refine wp_region_held_drew (S := fun W => Below N W4 W) (by kernel_rfl) HR0.out (fun hHeld => ?_)
      refine wpAnyH_take (i := 0) (v := _) rfl (by as_aux_lemma => kernel_rfl) (by as_aux_lemma => kernel_rfl) (by as_aux_lemma => kernel_rfl) (fun _ _ _ h => h) (Or.inl ⟨by rfl, fun w h => by clear h; go_simp; (try with_reducible rfl)⟩) (by assumption) ?_
      simp only [Act.put, List.getElem_toArray, List.getElem_cons_succ, List.getElem_cons_zero, List.setIfInBounds_toArray, List.set_cons_succ, List.set_cons_zero]
      refine wpAnyH_take (i := 1) (v := _) rfl (by as_aux_lemma => kernel_rfl) (by as_aux_lemma => kernel_rfl) (by as_aux_lemma => kernel_rfl) (fun _ _ _ h => h) (Or.inl ⟨by rfl, fun w h => by clear h; go_simp; (try with_reducible rfl)⟩) (by assumption) ?_
      simp only [Act.put, List.getElem_toArray, List.getElem_cons_succ, List.getElem_cons_zero, List.setIfInBounds_toArray, List.set_cons_succ, List.set_cons_zero]
      refine wpAnyH_take (i := 2) (v := _) rfl (by as_aux_lemma => kernel_rfl) (by as_aux_lemma => kernel_rfl) (by as_aux_lemma => kernel_rfl) (fun _ _ _ h => h) (Or.inl ⟨by rfl, fun w h => by clear h; go_simp; (try with_reducible rfl)⟩) (by assumption) ?_
      simp only [Act.put, List.getElem_toArray, List.getElem_cons_succ, List.getElem_cons_zero, List.setIfInBounds_toArray, List.set_cons_succ, List.set_cons_zero]
      refine wpAnyH_take (i := 3) (v := _) rfl (by as_aux_lemma => kernel_rfl) (by as_aux_lemma => kernel_rfl) (by as_aux_lemma => kernel_rfl) (fun _ _ _ h => h) (Or.inl ⟨by rfl, fun w h => by clear h; go_simp; (try with_reducible rfl)⟩) (by assumption) ?_
      simp only [Act.put, List.getElem_toArray, List.getElem_cons_succ, List.getElem_cons_zero, List.setIfInBounds_toArray, List.set_cons_succ, List.set_cons_zero]
      refine wpAnyH_take (i := 4) (v := _) rfl (by as_aux_lemma => kernel_rfl) (by as_aux_lemma => kernel_rfl) (by as_aux_lemma => kernel_rfl) (fun _ _ _ h => h) (Or.inl ⟨by rfl, fun w h => by clear h; go_simp; (try with_reducible rfl)⟩) (by assumption) ?_
      simp only [Act.put, List.getElem_toArray, List.getElem_cons_succ, List.getElem_cons_zero, List.setIfInBounds_toArray, List.set_cons_succ, List.set_cons_zero]
      refine wpAnyH_take (i := 5) (v := _) rfl (by as_aux_lemma => kernel_rfl) (by as_aux_lemma => kernel_rfl) (by as_aux_lemma => kernel_rfl) (fun _ _ _ h => h) (Or.inl ⟨by rfl, fun w h => by clear h; go_simp; (try with_reducible rfl)⟩) (by assumption) ?_
      simp only [Act.put, List.getElem_toArray, List.getElem_cons_succ, List.getElem_cons_zero, List.setIfInBounds_toArray, List.set_cons_succ, List.set_cons_zero]
      refine wpAnyH_take (i := 6) (v := _) rfl (by as_aux_lemma => kernel_rfl) (by as_aux_lemma => kernel_rfl) (by as_aux_lemma => kernel_rfl) (fun _ _ _ h => h) (Or.inl ⟨by rfl, fun w h => by clear h; go_simp; (try with_reducible rfl)⟩) (by assumption) ?_
      simp only [Act.put, List.getElem_toArray, List.getElem_cons_succ, List.getElem_cons_zero, List.setIfInBounds_toArray, List.set_cons_succ, List.set_cons_zero]
      refine wpAnyH_take (i := 7) (v := _) rfl (by as_aux_lemma => kernel_rfl) (by as_aux_lemma => kernel_rfl) (by as_aux_lemma => kernel_rfl) (fun _ _ _ h => h) (yieldsIf_load_mid (by rfl) 33 (.tmp 7) rfl g6 0 rfl ([.string x.origin, .string x.name, .string x.time, .slice A6 n1 ca6, .slice P6 n cp6] : List Value) _ (fun W h => Whole.rangeA (HX.out W h).2) Try.underlying33 rfl Try.sizeSSes) (by assumption) ?_
      simp only [Act.put, List.getElem_toArray, List.getElem_cons_succ, List.getElem_cons_zero, List.setIfInBounds_toArray, List.set_cons_succ, List.set_cons_zero]
      refine wpAnyH_take (i := 9) (v := _) rfl (by as_aux_lemma => kernel_rfl) (by as_aux_lemma => kernel_rfl) (by as_aux_lemma => kernel_rfl) (fun _ _ _ h => h) (yieldsIf_load_mid (by rfl) 26 (.tmp 2) rfl B 0 rfl ([.string x.origin, .string x.name, .string x.time, .slice A n1 k1, .slice P n j1] : List Value) _ (fun W h => Whole.rangeA (HX.out W h).1) Try.underlying26 rfl Try.sizeRsSes) (by assumption) ?_
      simp only [Act.put, List.getElem_toArray, List.getElem_cons_succ, List.getElem_cons_zero, List.setIfInBounds_toArray, List.set_cons_succ, List.set_cons_zero]
      refine wpAnyH_ready (rs := [8]) (by as_aux_lemma => kernel_rfl) (by simp) ?_
      refine AllReadyH.cons (i := 8) rfl (fun K hK => ?_) AllReadyH.nil
      go_simp
      refine (HO.out _ hHeld).mono ?_
      rintro e w7 ⟨Y2, vA2, vP2, rfl, hY2, hb7⟩
      have hs7 := HKB.out _ _ hHeld hb7
      have hY' := hY2
      obtain ⟨rfl, hYA, hYP⟩ := hY'
      have HSM := Lib.hid (HSA.out _ hs7 _ _ _ hY2)
      refine hK.out _ _ hs7 (fun hHeld' => ?_)
      clear hK K hHeld hY2 hYA hYP hb7 hs7
      have hHeld := hHeld'
      clear hHeld'
      try simp only [Act.put]
      refine wpAnyH_ready (rs := [10]) (by as_aux_lemma => kernel_rfl) (by simp) ?_
      refine AllReadyH.cons (i := 10) rfl (fun K hK => ?_) AllReadyH.nil
      go_simp
      refine HSM.out.mono ?_
      rintro e w8 ⟨rfl, hb8⟩
      refine hK.out _ _ (HKB.out _ _ hHeld hb8) (fun hHeld' => ?_)
      clear hK K hHeld hb8
      have hHeld := hHeld'
      clear hHeld'
      try simp only [Act.put]
      refine wpAnyH_take (i := 11) (v := _) rfl (by as_aux_lemma => kernel_rfl) (by as_aux_lemma => kernel_rfl) (by as_aux_lemma => kernel_rfl) (fun _ _ _ h => h) (Or.inl ⟨by rfl, fun w h => by clear h; go_simp; (try with_reducible rfl)⟩) (by assumption) ?_
      simp only [Act.put, List.getElem_toArray, List.getElem_cons_succ, List.getElem_cons_zero, List.setIfInBounds_toArray, List.set_cons_succ, List.set_cons_zero]
      refine wpAnyH_take (i := 12) (v := _) rfl (by as_aux_lemma => kernel_rfl) (by as_aux_lemma => kernel_rfl) (by as_aux_lemma => kernel_rfl) (fun _ _ _ h => h) (Or.inl ⟨by rfl, fun w h => by clear h; go_simp; (try with_reducible rfl)⟩) (by assumption) ?_
      simp only [Act.put, List.getElem_toArray, List.getElem_cons_succ, List.getElem_cons_zero, List.setIfInBounds_toArray, List.set_cons_succ, List.set_cons_zero]
      refine wpAnyH_done (by as_aux_lemma => kernel_rfl) ?_ _
      have HFIN : Hid (MaxL w8 ∧ Below w.heap.size w w8) := Lib.hid ⟨HB6.out.2.under (by rw [HN4.out]; exact hHeld), HB6.out.1.trans (hHeld.mono (by rw [← HN4.out]; exact HB6.out.1.size))⟩
      clear hHeld
      go_wp2
      go_meet
      exact HFIN.out
    · go_wp2
      go_meet
      exact ⟨H5.out.2.2.2.2, H5.out.1⟩
  case rest =>
    have H6 := Lib.hid hcut
    clear hcut H5
    obtain ⟨r, hr⟩ := Parsed.total (tx s)
    cases r with
    | err k er =>
      have HP : Hid (Calls Try.prog 10 #[.string s] wc (ErrO wc k er)) := Lib.hid ((parse_any s wc H6.out.1 HSS.out).mono fun e w' h => h.err hr)
      have HE : Hid (er = 2 → 1 ≤ k) := Lib.hid hr.err_at
      clear hr
      go_upto_region 9 with (first
        | (go_at_call 10; (with_reducible refine HP.out.mono ?_); rintro e w6 ⟨A6, P6, ca6, cp6, rfl, -, -, her, hb6⟩; have hal6 := (Below.refl w6.heap.size w6).alloc (Nat.le_refl _) (.cells #[.string ⟨#[]⟩, .string ⟨#[]⟩, .string ⟨#[]⟩, .slice none 0 0, .slice none 0 0] 33); have HW6 : Hid (Whole (w6.alloc (.cells #[.string ⟨#[]⟩, .string ⟨#[]⟩, .string ⟨#[]⟩, .slice none 0 0, .slice none 0 0] 33)) w6.heap.size 33 #[.string ⟨#[]⟩, .string ⟨#[]⟩, .string ⟨#[]⟩, .slice none 0 0, .slice none 0 0]) := Lib.hid (Whole.new _ _ _))
        | ((with_reducible refine wpList_storeS #[.string (bs []), .string (bs []), .string (bs []), .slice A6 0 ca6, .slice P6 0 cp6] ?_ 33 (.tmp 10) (.tmp 47) ?_ ?_ ?_ HW6.out Try.sizeSSes ?_ ?_ ?_ ?_); (with_reducible rfl); (with_reducible rfl); rfl; rfl; rfl; rfl; rfl))
      have hr6 := HW6.out.row #[.string (bs []), .string (bs []), .string (bs []), .slice A6 0 ca6, .slice P6 0 cp6]
      have hb6' := below_row hal6 (Nat.le_refl _) #[.string (bs []), .string (bs []), .string (bs []), .slice A6 0 ca6, .slice P6 0 cp6]
      have HB6 := Lib.hid (H6.out.2.trans ((hb6.trans (hb6'.mono hb6.size)).mono H6.out.2.size))
      clear hal6 HW6 hb6 hb6'
      generalize hg6 : w6.heap.size = g6 at *
      generalize ((w6.alloc (.cells #[.string ⟨#[]⟩, .string ⟨#[]⟩, .string ⟨#[]⟩, .slice none 0 0, .slice none 0 0] 33)).setRow g6 #[.string (bs []), .string (bs []), .string (bs []), .slice A6 0 ca6, .slice P6 0 cp6]) = W4 at *
      clear hg6
      have c4 := hr6.cell 4
      simp only [List.getElem?_toArray, List.getElem?_cons_zero, List.getElem?_cons_succ] at c4
      clear hr6
      rcases her with rfl | rfl
      · have hk1 : (1 : Int) ≤ (k : Int) := by have := HE.out rfl; omega
        go_wp2
        go_ret
        exact ⟨rfl, HB6.out⟩
      · go_wp2
        go_ret
        exact ⟨rfl, HB6.out⟩
    | ok z =>
      have HP : Hid (Calls Try.prog 10 #[.string s] wc (OkO wc z)) := Lib.hid ((parse_any s wc H6.out.1 HSS.out).mono fun e w' h => h.ok hr)
      have HSZ := Lib.hid (okS_siz hr.text.1)
      have HBK : Hid (∀ (u : ByteArray) (er : Int), PrO z u er → er = 0 ∧ u = s) := Lib.hid fun u er h => h.back hr
      clear hr
      obtain ⟨m1, hm1⟩ : ∃ n, z.attrs.length = n := ⟨_, rfl⟩
      obtain ⟨m, hm⟩ : ∃ n, z.parts.length = n := ⟨_, rfl⟩
      unfold OkO at HP
      rw [hm1, hm] at HP
      have HMM := Lib.hid (And.intro hm1 hm)
      clear hm1 hm
      go_upto_region 9 with (first
        | (go_at_call 10; (with_reducible refine HP.out.mono ?_); rintro e w6 ⟨A6, P6, ca6, cp6, rfl, hA6, hP6, hb6⟩; have hal6 := (Below.refl w6.heap.size w6).alloc (Nat.le_refl _) (.cells #[.string ⟨#[]⟩, .string ⟨#[]⟩, .string ⟨#[]⟩, .slice none 0 0, .slice none 0 0] 33); have HW6 : Hid (Whole (w6.alloc (.cells #[.string ⟨#[]⟩, .string ⟨#[]⟩, .string ⟨#[]⟩, .slice none 0 0, .slice none 0 0] 33)) w6.heap.size 33 #[.string ⟨#[]⟩, .string ⟨#[]⟩, .string ⟨#[]⟩, .slice none 0 0, .slice none 0 0]) := Lib.hid (Whole.new _ _ _))
        | ((with_reducible refine wpList_storeS #[.string z.origin, .string z.name, .string z.time, .slice A6 m1 ca6, .slice P6 m cp6] ?_ 33 (.tmp 10) (.tmp 47) ?_ ?_ ?_ HW6.out Try.sizeSSes ?_ ?_ ?_ ?_); (with_reducible rfl); (with_reducible rfl); rfl; rfl; rfl; rfl; rfl))
      have hr6 := HW6.out.row #[.string z.origin, .string z.name, .string z.time, .slice A6 m1 ca6, .slice P6 m cp6]
      have hb6' := below_row hal6 (Nat.le_refl _) #[.string z.origin, .string z.name, .string z.time, .slice A6 m1 ca6, .slice P6 m cp6]
      have hA6' := (hA6.below hb6').more hb6'.size
      have hP6' := (hP6.below hb6').more hb6'.size
      have HB6 := Lib.hid (H6.out.2.trans ((hb6.trans (hb6'.mono hb6.size)).mono H6.out.2.size))
      clear hA6 hP6 hal6 HW6 hb6 hb6'
      generalize hg6 : w6.heap.size = g6 at *
      generalize ((w6.alloc (.cells #[.string ⟨#[]⟩, .string ⟨#[]⟩, .string ⟨#[]⟩, .slice none 0 0, .slice none 0 0] 33)).setRow g6 #[.string z.origin, .string z.name, .string z.time, .slice A6 m1 ca6, .slice P6 m cp6]) = W4 at *
      clear hg6
      have HR6 := Lib.hid hr6
      have HPR : Hid (Calls Try.prog 14 #[.agg #[.string z.origin, .string z.name, .string z.time, .slice A6 m1 ca6, .slice P6 m cp6]] W4 (PrintO W4 z)) := Lib.hid (print_any _ z _ _ W4 ⟨by rw [], hA6', hP6'⟩ HSZ.out)
      clear hr6 hA6' hP6'
      have hq : (s.toList == s.toList) = true := by simp
      go_wp2_with (first
        | ((with_reducible refine wpList_load_all ?_ 33 (.tmp 10) ?_ HR6.out ?_ Try.sizeSSes ?_ Try.underlying33 ?_ ?_); (with_reducible rfl); (with_reducible rfl); rfl; rfl; rfl)
        | (go_at_call 14; (with_reducible refine HPR.out.mono ?_); rintro e w7 ⟨u, er, rfl, hpr, hb7⟩; obtain ⟨he0, hus⟩ := HBK.out _ _ hpr; subst he0 hus; have HB7 := Lib.hid (HB6.out.trans (hb7.mono HB6.out.size)); clear hpr hb7))
      go_ret
      exact ⟨rfl, HB7.out⟩
end Go.Proofs.Ythijpfnfkelmbaa
