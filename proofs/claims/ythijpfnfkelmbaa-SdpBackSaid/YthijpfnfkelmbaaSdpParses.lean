/- SdpParses: the law's walk. -/
import Derived.Test.YthijpfnfkelmbaaSdpAwake
namespace Go.Proofs.Ythijpfnfkelmbaa
open Go.RowKit
set_option linter.unusedVariables false
set_option linter.unusedSimpArgs false

/-- What both parsers answer. -/
def KO (w : World) (x : SesS) (k : Nat) (er : Int) (e : Ending) (w' : World) : Prop := ∃ (A P : Option Addr) (ca cp : Nat), e = .returned (.tuple #[.agg #[.string x.origin, .string x.name, .string x.time, .slice A x.attrs.length ca, .slice P x.parts.length cp], .int .i64 k, .int .i64 er]) ∧
  AttrsV w' w'.heap.size (.slice A x.attrs.length ca) x.attrs ∧ PartsV w' w'.heap.size (.slice P x.parts.length cp) x.parts ∧ Below w.heap.size w w'
theorem okS_fits {x : SesS} (h : okS x = true) : Fits x := by
  obtain ⟨_, _, _, h4, h5, h6⟩ := okS_parts h
  refine ⟨by have := okA_len h4; omega, by omega, fun i p hp => ?_⟩
  have := okA_len (okP_parts (h6 p (List.mem_of_getElem? hp))).2.2
  omega
theorem known (l : Tx) : ∃ (x : SesS) (k : Nat) (er : Int), Fits x ∧ ∀ w e w', ParseO w l e w' → KO w x k er e w' := by
  obtain ⟨r, hr⟩ := Parsed.total l
  cases r with
  | ok x =>
    refine ⟨x, 0, 0, okS_fits hr.text.1, fun w e w' h => ?_⟩
    exact h.ok hr
  | err k er =>
    refine ⟨SesS.none, k, er, ⟨by simp [SesS.none], by simp [SesS.none], fun i p h => by simp [SesS.none] at h⟩, fun w e w' h => ?_⟩
    obtain ⟨A, P, ca, cp, h1, h2, h3, _, h4⟩ := h.err hr
    exact ⟨A, P, ca, cp, h1, h2, h3, h4⟩
set_option maxHeartbeats 3200000 in
set_option maxRecDepth 100000 in
theorem parses_any (s : ByteArray) (w : World) (hm : MaxL w) (hs0 : s.size ≤ 140737488351232) : Calls Try.prog 3 #[.string s] w fun e w' => e = .returned (.bool true) ∧ Below w.heap.size w w' := by
  have hs : s.size ≤ maxLen := by unfold maxLen; omega
  clear hs0
  obtain ⟨x, k, er, hf, hk⟩ := known (tx s)
  have HAW := Lib.hid (awake_any w hm)
  have HR : Hid (∀ W, Calls Try.prog 9 #[.string s] W (KO W x k er)) := Lib.hid fun W => (rparse_any s W hs).mono fun e w' h => hk _ _ _ h
  have HP : Hid (∀ W, MaxL W → Calls Try.prog 10 #[.string s] W (KO W x k er)) := Lib.hid fun W h => (parse_any s W h hs).mono fun e w' h => hk _ _ _ h
  have HM := Lib.hid hm
  have HF := Lib.hid hf
  clear hm hf hk
  have hze : (er == er) = true := by simp
  have hzk : ((k : Int) == (k : Int)) = true := by simp
  go_enter Try.func3, Try.ntmps3
  go_upto_region 3 with (go_at_call 8; (with_reducible refine HAW.out.mono ?_); rintro e w2 ⟨rfl, hb2⟩; have HM2 := Lib.hid (HM.out.under hb2); have HB2 := Lib.hid hb2; clear hb2)
  obtain ⟨n1, hn1⟩ : ∃ n, x.attrs.length = n := ⟨_, rfl⟩
  obtain ⟨n, hn⟩ : ∃ n, x.parts.length = n := ⟨_, rfl⟩
  unfold KO at HR HP
  rw [hn1, hn] at HR HP
  go_upto_region 4 with (first
    | (go_at_call 9; (with_reducible refine (HR.out _).mono ?_); rintro e w3 ⟨A3, P3, ca3, cp3, rfl, hA3, hP3, hb3⟩; have hal3 := (Below.refl w3.heap.size w3).alloc (Nat.le_refl _) (.cells #[.string ⟨#[]⟩, .string ⟨#[]⟩, .string ⟨#[]⟩, .slice none 0 0, .slice none 0 0] 26); have HW3 : Hid (Whole (w3.alloc (.cells #[.string ⟨#[]⟩, .string ⟨#[]⟩, .string ⟨#[]⟩, .slice none 0 0, .slice none 0 0] 26)) w3.heap.size 26 #[.string ⟨#[]⟩, .string ⟨#[]⟩, .string ⟨#[]⟩, .slice none 0 0, .slice none 0 0]) := Lib.hid (Whole.new _ _ _))
    | ((with_reducible refine wpList_storeS #[.string x.origin, .string x.name, .string x.time, .slice A3 n1 ca3, .slice P3 n cp3] ?_ 26 (.tmp 3) (.tmp 14) ?_ ?_ ?_ HW3.out Try.sizeRsSes ?_ ?_ ?_ ?_); (with_reducible rfl); (with_reducible rfl); rfl; rfl; rfl; rfl; rfl))
  have hr3 := HW3.out.row #[.string x.origin, .string x.name, .string x.time, .slice A3 n1 ca3, .slice P3 n cp3]
  have hb3' := below_row hal3 (Nat.le_refl _) #[.string x.origin, .string x.name, .string x.time, .slice A3 n1 ca3, .slice P3 n cp3]
  have hA3' := (hA3.below hb3').more hb3'.size
  have hP3' := (hP3.below hb3').more hb3'.size
  have HM3 := Lib.hid ((HM2.out.under hb3).under hb3')
  have hb33 := hb3.trans (hb3'.mono hb3.size)
  have HB3 := Lib.hid (HB2.out.trans (hb33.mono HB2.out.size))
  clear hA3 hP3 hal3 HW3 HM2 hb3 hb3' hb33
  generalize hg3 : w3.heap.size = g3 at *
  generalize ((w3.alloc (.cells #[.string ⟨#[]⟩, .string ⟨#[]⟩, .string ⟨#[]⟩, .slice none 0 0, .slice none 0 0] 26)).setRow g3 #[.string x.origin, .string x.name, .string x.time, .slice A3 n1 ca3, .slice P3 n cp3]) = W3 at *
  clear hg3
  have H3 := Lib.hid (And.intro hr3 (And.intro hA3' hP3'))
  clear hr3 hA3' hP3'
  go_upto_region 5 with (first
    | (go_at_call 10; (with_reducible refine (HP.out _ HM3.out).mono ?_); rintro e w6 ⟨A6, P6, ca6, cp6, rfl, hA6, hP6, hb6⟩; have hal6 := (Below.refl w6.heap.size w6).alloc (Nat.le_refl _) (.cells #[.string ⟨#[]⟩, .string ⟨#[]⟩, .string ⟨#[]⟩, .slice none 0 0, .slice none 0 0] 33); have HW6 : Hid (Whole (w6.alloc (.cells #[.string ⟨#[]⟩, .string ⟨#[]⟩, .string ⟨#[]⟩, .slice none 0 0, .slice none 0 0] 33)) w6.heap.size 33 #[.string ⟨#[]⟩, .string ⟨#[]⟩, .string ⟨#[]⟩, .slice none 0 0, .slice none 0 0]) := Lib.hid (Whole.new _ _ _))
    | ((with_reducible refine wpList_storeS #[.string x.origin, .string x.name, .string x.time, .slice A6 n1 ca6, .slice P6 n cp6] ?_ 33 (.tmp 6) (.tmp 20) ?_ ?_ ?_ HW6.out Try.sizeSSes ?_ ?_ ?_ ?_); (with_reducible rfl); (with_reducible rfl); rfl; rfl; rfl; rfl; rfl))
  have hr6 := HW6.out.row #[.string x.origin, .string x.name, .string x.time, .slice A6 n1 ca6, .slice P6 n cp6]
  have hb6' := below_row hal6 (Nat.le_refl _) #[.string x.origin, .string x.name, .string x.time, .slice A6 n1 ca6, .slice P6 n cp6]
  have hb36 := hb6.trans (hb6'.mono hb6.size)
  have hA6' := (hA6.below hb6').more hb6'.size
  have hP6' := (hP6.below hb6').more hb6'.size
  have hA3' := (H3.out.2.1.below hb36).more hb36.size
  have hP3' := (H3.out.2.2.below hb36).more hb36.size
  have hr3 := H3.out.1.under hb36
  have HB4 := Lib.hid (HB3.out.trans (hb36.mono HB3.out.size))
  clear hA6 hP6 hal6 HW6 hb6 hb6' hb36 H3
  generalize hg6 : w6.heap.size = g6 at *
  generalize ((w6.alloc (.cells #[.string ⟨#[]⟩, .string ⟨#[]⟩, .string ⟨#[]⟩, .slice none 0 0, .slice none 0 0] 33)).setRow g6 #[.string x.origin, .string x.name, .string x.time, .slice A6 n1 ca6, .slice P6 n cp6]) = W4 at *
  clear hg6
  obtain ⟨N, hN⟩ : ∃ N, W4.heap.size = N := ⟨_, rfl⟩
  rw [hN] at hA3' hP3' hA6' hP6'
  have HN := Lib.hid hN
  have hlt : g3 < N ∧ g6 < N := by rw [← hN]; exact ⟨hr3.lt, hr6.lt⟩
  have hNs : ∀ W, Below N W4 W → N ≤ W.heap.size := fun W h => by have := h.size; rwa [hN] at this
  have HX : Hid (∀ W, Below N W4 W → Whole W g3 26 #[.string x.origin, .string x.name, .string x.time, .slice A3 n1 ca3, .slice P3 n cp3] ∧ Whole W g6 33 #[.string x.origin, .string x.name, .string x.time, .slice A6 n1 ca6, .slice P6 n cp6]) := Lib.hid fun W h => ⟨hr3.below h hlt.1, hr6.below h hlt.2⟩
  have HKB : Hid (∀ W W', Below N W4 W → Below W.heap.size W W' → Below N W4 W') := Lib.hid fun W W' h1 h2 => h1.trans (h2.mono (hNs W h1))
  have HO : Hid (∀ W, Below N W4 W → Calls Try.prog 12 #[.agg #[.string x.origin, .string x.name, .string x.time, .slice A6 n1 ca6, .slice P6 n cp6]] W (CopyO W x)) := Lib.hid fun W h => ours_any _ x _ _ W ⟨by rw [], (hA6'.below h).more (hNs W h), (hP6'.below h).more (hNs W h)⟩ HF.out
  have HSA : Hid (∀ W, Below N W4 W → ∀ Y vA vP, SesV W W.heap.size Y x vA vP → Calls Try.prog 11 #[.agg Y, .agg #[.string x.origin, .string x.name, .string x.time, .slice A3 n1 ca3, .slice P3 n cp3]] W fun e w' => e = .returned (.bool true) ∧ Below W.heap.size W w') := Lib.hid fun W h Y vA vP hY =>
    (same_any Y _ x x vA vP _ _ W hY ⟨by rw [], (hA3'.below h).more (hNs W h), (hP3'.below h).more (hNs W h)⟩).mono fun e w' ⟨b, h1, h2, h3⟩ => by
      cases b with
      | true => exact ⟨h1, h3⟩
      | false => have := h2.2 rfl; cases this
  have HR0 : Hid (Below N W4 W4.drew) := Lib.hid (Below.refl _ _).drew
  have HE0 : Hid (∀ W, Below N W4 W → (er == er) = true) := Lib.hid fun _ _ => hze
  have HE1 : Hid (∀ W, Below N W4 W → ((k : Int) == (k : Int)) = true) := Lib.hid fun _ _ => hzk
  clear hr3 hr6 hA3' hP3' hA6' hP6' hN hlt hNs hn1 hn
  refine wp_region_held_drew (S := fun W => Below N W4 W) (by kernel_rfl) HR0.out (fun hHeld => ?_)
  refine wpAnyH_take (i := 0) (v := _) rfl (by as_aux_lemma => kernel_rfl) (by as_aux_lemma => kernel_rfl) (by as_aux_lemma => kernel_rfl) (fun _ _ _ h => h) (Or.inl ⟨by rfl, fun w h => by have e0 := HE0.out w h; have e1 := HE1.out w h; clear h; go_simp; (try with_reducible rfl)⟩) (by assumption) ?_
  simp only [Act.put, List.getElem_toArray, List.getElem_cons_succ, List.getElem_cons_zero, List.setIfInBounds_toArray, List.set_cons_succ, List.set_cons_zero]
  refine wpAnyH_take (i := 1) (v := _) rfl (by as_aux_lemma => kernel_rfl) (by as_aux_lemma => kernel_rfl) (by as_aux_lemma => kernel_rfl) (fun _ _ _ h => h) (Or.inl ⟨by rfl, fun w h => by have e0 := HE0.out w h; have e1 := HE1.out w h; clear h; go_simp; (try with_reducible rfl)⟩) (by assumption) ?_
  simp only [Act.put, List.getElem_toArray, List.getElem_cons_succ, List.getElem_cons_zero, List.setIfInBounds_toArray, List.set_cons_succ, List.set_cons_zero]
  refine wpAnyH_take (i := 2) (v := _) rfl (by as_aux_lemma => kernel_rfl) (by as_aux_lemma => kernel_rfl) (by as_aux_lemma => kernel_rfl) (fun _ _ _ h => h) (Or.inl ⟨by rfl, fun w h => by have e0 := HE0.out w h; have e1 := HE1.out w h; clear h; go_simp; (try with_reducible rfl)⟩) (by assumption) ?_
  simp only [Act.put, List.getElem_toArray, List.getElem_cons_succ, List.getElem_cons_zero, List.setIfInBounds_toArray, List.set_cons_succ, List.set_cons_zero]
  refine wpAnyH_take (i := 3) (v := _) rfl (by as_aux_lemma => kernel_rfl) (by as_aux_lemma => kernel_rfl) (by as_aux_lemma => kernel_rfl) (fun _ _ _ h => h) (Or.inl ⟨by rfl, fun w h => by have e0 := HE0.out w h; have e1 := HE1.out w h; clear h; go_simp; (try with_reducible rfl)⟩) (by assumption) ?_
  simp only [Act.put, List.getElem_toArray, List.getElem_cons_succ, List.getElem_cons_zero, List.setIfInBounds_toArray, List.set_cons_succ, List.set_cons_zero]
  refine wpAnyH_take (i := 4) (v := _) rfl (by as_aux_lemma => kernel_rfl) (by as_aux_lemma => kernel_rfl) (by as_aux_lemma => kernel_rfl) (fun _ _ _ h => h) (Or.inl ⟨by rfl, fun w h => by have e0 := HE0.out w h; have e1 := HE1.out w h; clear h; go_simp; (try with_reducible rfl)⟩) (by assumption) ?_
  simp only [Act.put, List.getElem_toArray, List.getElem_cons_succ, List.getElem_cons_zero, List.setIfInBounds_toArray, List.set_cons_succ, List.set_cons_zero]
  refine wpAnyH_take (i := 5) (v := _) rfl (by as_aux_lemma => kernel_rfl) (by as_aux_lemma => kernel_rfl) (by as_aux_lemma => kernel_rfl) (fun _ _ _ h => h) (Or.inl ⟨by rfl, fun w h => by have e0 := HE0.out w h; have e1 := HE1.out w h; clear h; go_simp; (try with_reducible rfl)⟩) (by assumption) ?_
  simp only [Act.put, List.getElem_toArray, List.getElem_cons_succ, List.getElem_cons_zero, List.setIfInBounds_toArray, List.set_cons_succ, List.set_cons_zero]
  refine wpAnyH_take (i := 6) (v := _) rfl (by as_aux_lemma => kernel_rfl) (by as_aux_lemma => kernel_rfl) (by as_aux_lemma => kernel_rfl) (fun _ _ _ h => h) (Or.inl ⟨by rfl, fun w h => by have e0 := HE0.out w h; have e1 := HE1.out w h; clear h; go_simp; (try with_reducible rfl)⟩) (by assumption) ?_
  simp only [Act.put, List.getElem_toArray, List.getElem_cons_succ, List.getElem_cons_zero, List.setIfInBounds_toArray, List.set_cons_succ, List.set_cons_zero]
  refine wpAnyH_take (i := 7) (v := _) rfl (by as_aux_lemma => kernel_rfl) (by as_aux_lemma => kernel_rfl) (by as_aux_lemma => kernel_rfl) (fun _ _ _ h => h) (Or.inl ⟨by rfl, fun w h => by have e0 := HE0.out w h; have e1 := HE1.out w h; clear h; go_simp; (try with_reducible rfl)⟩) (by assumption) ?_
  simp only [Act.put, List.getElem_toArray, List.getElem_cons_succ, List.getElem_cons_zero, List.setIfInBounds_toArray, List.set_cons_succ, List.set_cons_zero]
  refine wpAnyH_take (i := 8) (v := _) rfl (by as_aux_lemma => kernel_rfl) (by as_aux_lemma => kernel_rfl) (by as_aux_lemma => kernel_rfl) (fun _ _ _ h => h) (Or.inl ⟨by rfl, fun w h => by have e0 := HE0.out w h; have e1 := HE1.out w h; clear h; go_simp; (try with_reducible rfl)⟩) (by assumption) ?_
  simp only [Act.put, List.getElem_toArray, List.getElem_cons_succ, List.getElem_cons_zero, List.setIfInBounds_toArray, List.set_cons_succ, List.set_cons_zero]
  refine wpAnyH_take (i := 9) (v := _) rfl (by as_aux_lemma => kernel_rfl) (by as_aux_lemma => kernel_rfl) (by as_aux_lemma => kernel_rfl) (fun _ _ _ h => h) (yieldsIf_load_mid (by rfl) 33 (.tmp 6) rfl g6 0 rfl ([.string x.origin, .string x.name, .string x.time, .slice A6 n1 ca6, .slice P6 n cp6] : List Value) _ (fun W h => Whole.rangeA (HX.out W h).2) Try.underlying33 rfl Try.sizeSSes) (by assumption) ?_
  simp only [Act.put, List.getElem_toArray, List.getElem_cons_succ, List.getElem_cons_zero, List.setIfInBounds_toArray, List.set_cons_succ, List.set_cons_zero]
  refine wpAnyH_take (i := 11) (v := _) rfl (by as_aux_lemma => kernel_rfl) (by as_aux_lemma => kernel_rfl) (by as_aux_lemma => kernel_rfl) (fun _ _ _ h => h) (yieldsIf_load_mid (by rfl) 26 (.tmp 3) rfl g3 0 rfl ([.string x.origin, .string x.name, .string x.time, .slice A3 n1 ca3, .slice P3 n cp3] : List Value) _ (fun W h => Whole.rangeA (HX.out W h).1) Try.underlying26 rfl Try.sizeRsSes) (by assumption) ?_
  simp only [Act.put, List.getElem_toArray, List.getElem_cons_succ, List.getElem_cons_zero, List.setIfInBounds_toArray, List.set_cons_succ, List.set_cons_zero]
  refine wpAnyH_ready (rs := [10]) (by as_aux_lemma => kernel_rfl) (by simp) ?_
  refine AllReadyH.cons (i := 10) rfl (fun K hK => ?_) AllReadyH.nil
  go_simp
  refine (HO.out _ hHeld).mono ?_
  rintro e w7 ⟨Y, vA, vP, rfl, hY, hb7⟩
  have hs7 := HKB.out _ _ hHeld hb7
  have hY' := hY
  obtain ⟨rfl, hYA, hYP⟩ := hY'
  have HSM := Lib.hid (HSA.out _ hs7 _ _ _ hY)
  refine hK.out _ _ hs7 (fun hHeld' => ?_)
  clear hK K hHeld hY hYA hYP hb7 hs7
  have hHeld := hHeld'
  clear hHeld'
  try simp only [Act.put]
  refine wpAnyH_ready (rs := [12]) (by as_aux_lemma => kernel_rfl) (by simp) ?_
  refine AllReadyH.cons (i := 12) rfl (fun K hK => ?_) AllReadyH.nil
  go_simp
  refine HSM.out.mono ?_
  rintro e w8 ⟨rfl, hb8⟩
  refine hK.out _ _ (HKB.out _ _ hHeld hb8) (fun hHeld' => ?_)
  clear hK K hHeld hb8
  have hHeld := hHeld'
  clear hHeld'
  try simp only [Act.put]
  refine wpAnyH_take (i := 13) (v := _) rfl (by as_aux_lemma => kernel_rfl) (by as_aux_lemma => kernel_rfl) (by as_aux_lemma => kernel_rfl) (fun _ _ _ h => h) (Or.inl ⟨by rfl, fun w h => by have e0 := HE0.out w h; have e1 := HE1.out w h; clear h; go_simp; (try with_reducible rfl)⟩) (by assumption) ?_
  simp only [Act.put, List.getElem_toArray, List.getElem_cons_succ, List.getElem_cons_zero, List.setIfInBounds_toArray, List.set_cons_succ, List.set_cons_zero]
  refine wpAnyH_take (i := 14) (v := _) rfl (by as_aux_lemma => kernel_rfl) (by as_aux_lemma => kernel_rfl) (by as_aux_lemma => kernel_rfl) (fun _ _ _ h => h) (Or.inl ⟨by rfl, fun w h => by have e0 := HE0.out w h; have e1 := HE1.out w h; clear h; go_simp; (try with_reducible rfl)⟩) (by assumption) ?_
  simp only [Act.put, List.getElem_toArray, List.getElem_cons_succ, List.getElem_cons_zero, List.setIfInBounds_toArray, List.set_cons_succ, List.set_cons_zero]
  refine wpAnyH_done (by as_aux_lemma => kernel_rfl) ?_ _
  have HFIN : Hid (Below w.heap.size w w8) := Lib.hid (HB4.out.trans (hHeld.mono (by rw [← HN.out]; exact HB4.out.size)))
  clear hHeld
  go_wp2
  go_ret
  exact ⟨rfl, HFIN.out⟩
end Go.Proofs.Ythijpfnfkelmbaa
