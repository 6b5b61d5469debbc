import Derived.Test.YtbbedhecfipdjaaGreatDoorPkDescPrintsA02
namespace Go.Proofs.YtbbedhecfipdjaaGreatDoor
open Go.RowKit
set_option linter.unusedVariables false
set_option linter.unusedSimpArgs false
theorem PartsV.form {w : World} {B : Nat} {v : Value} {L : List PartS} (h : PartsV w B v L) : ∃ A c, v = .slice A L.length c ∧ L.length ≤ c ∧ c ≤ maxLen ∧ (A = none → c = 0) := Rows.form h
theorem SesS.ext' {a b : SesS} (h1 : a.origin = b.origin) (h2 : a.name = b.name) (h3 : a.time = b.time) (h4 : a.attrs = b.attrs) (h5 : a.parts = b.parts) : a = b := by cases a; cases b; simp_all
theorem ses_head {x y : SesS} : x = y ↔ (x.origin = y.origin ∧ x.name = y.name ∧ x.time = y.time ∧ x.attrs = y.attrs ∧ x.parts = y.parts) := ⟨fun e => by rw [e]; exact ⟨rfl, rfl, rfl, rfl, rfl⟩, fun ⟨h1, h2, h3, h4, h5⟩ => SesS.ext' h1 h2 h3 h4 h5⟩
set_option maxHeartbeats 3200000 in
set_option maxRecDepth 100000 in
theorem same_any (X Y : Array Value) (x y : SesS) (a1 p1 a2 p2 : Value) (w : World) (h1 : SesV w w.heap.size X x a1 p1) (h2 : SesV w w.heap.size Y y a2 p2) : Calls Tryz.prog 67 #[.agg X, .agg Y] w (SameB w x y) := by
 obtain ⟨e1, va1, vp1⟩ := h1
 obtain ⟨e2, va2, vp2⟩ := h2
 subst e1 e2
 obtain ⟨A1, k1, rfl, -⟩ := va1.form
 obtain ⟨A2, k2, rfl, -⟩ := va2.form
 obtain ⟨P1, j1, rfl, hj1, hm1, -⟩ := vp1.form
 obtain ⟨P2, j2, rfl, hj2, hm2, -⟩ := vp2.form
 have hb := two_new (w := w) 107 107 #[.string x.origin, .string x.name, .string x.time, .slice A1 x.attrs.length k1, .slice P1 x.parts.length j1] #[.string y.origin, .string y.name, .string y.time, .slice A2 y.attrs.length k2, .slice P2 y.parts.length j2]
 have HC := Lib.hid (sameAttrs_any _ _ x.attrs y.attrs _ ((va1.below hb).more hb.size) ((va2.below hb).more hb.size))
 have HB := Lib.hid (And.intro hb (And.intro vp1 vp2))
 have g1 := Whole.new w 107 #[.string x.origin, .string x.name, .string x.time, .slice A1 x.attrs.length k1, .slice P1 x.parts.length j1]
 have g2 := Whole.new2 w (.cells #[.string x.origin, .string x.name, .string x.time, .slice A1 x.attrs.length k1, .slice P1 x.parts.length j1] 107) 107 #[.string y.origin, .string y.name, .string y.time, .slice A2 y.attrs.length k2, .slice P2 y.parts.length j2]
 have HBX := Lib.hid (And.intro (g1.alloc (.cells #[.string y.origin, .string y.name, .string y.time, .slice A2 y.attrs.length k2, .slice P2 y.parts.length j2] 107)) g2)
 clear hb va1 va2 vp1 vp2 g1 g2
 obtain ⟨x1, hx1⟩ : ∃ b, (x.origin.toList == y.origin.toList) = b := ⟨_, rfl⟩
 obtain ⟨x2, hx2⟩ : ∃ b, (x.name.toList == y.name.toList) = b := ⟨_, rfl⟩
 obtain ⟨x3, hx3⟩ : ∃ b, (x.time.toList == y.time.toList) = b := ⟨_, rfl⟩
 have H1 : Hid (x1 = true ↔ x.origin = y.origin) := Lib.hid (by rw [← hx1]; exact toList_beq)
 have H2 : Hid (x2 = true ↔ x.name = y.name) := Lib.hid (by rw [← hx2]; exact toList_beq)
 have H3 : Hid (x3 = true ↔ x.time = y.time) := Lib.hid (by rw [← hx3]; exact toList_beq)
 generalize hn : x.parts.length = n at *
 generalize hm : y.parts.length = m at *
 have HN := Lib.hid (And.intro hn hm)
 clear hn hm
 generalize x.attrs.length = n1 at *
 generalize y.attrs.length = n2 at *
 have hbad : ∀ (W : World), Below w.heap.size w W → x ≠ y → SameB w x y (.returned (.bool false)) W := fun W hW hne => ⟨false, rfl, ⟨fun e => (by cases e), fun e => (hne e).elim⟩, hW⟩
 have HBAD := Lib.hid hbad
 clear hbad
 unfold maxLen at hm1 hm2
 go_enter Tryz.func67, Tryz.ntmps67
 cases x1 with
 | false =>
   have HNE := Lib.hid (HBAD.out _ HB.out.1 (fun e => by have := H1.out.2 (by rw [e]); cases this))
   go_wp2
   go_ret
   exact HNE.out
 | true =>
 cases x2 with
 | false =>
   have HNE := Lib.hid (HBAD.out _ HB.out.1 (fun e => by have := H2.out.2 (by rw [e]); cases this))
   go_wp2
   go_ret
   exact HNE.out
 | true =>
 cases x3 with
 | false =>
   have HNE := Lib.hid (HBAD.out _ HB.out.1 (fun e => by have := H3.out.2 (by rw [e]); cases this))
   go_wp2
   go_ret
   exact HNE.out
 | true =>
 by_cases hat : x.attrs = y.attrs
 case neg =>
  have HC0 := Lib.hid (HC.out.mono (R' := fun e w' => e = .returned (.bool false) ∧ Below w.heap.size w w') fun e w' ⟨b, h1, h2, h3⟩ => by
   cases b with
   | true => exact (hat (h2.1 rfl)).elim
   | false => exact ⟨h1, HB.out.1.trans (h3.mono HB.out.1.size)⟩)
  have HNE : Hid (∀ W, Below w.heap.size w W → SameB w x y (.returned (.bool false)) W) := Lib.hid fun W hW => HBAD.out W hW (fun e => hat (by rw [e]))
  clear hat HC
  go_wp2_with (go_at_call 40; (with_reducible refine HC0.out.mono ?_); rintro e w1 ⟨rfl, hb1⟩)
  go_ret
  exact HNE.out _ hb1
 have HC0 := Lib.hid (HC.out.mono (R' := fun e w' => e = .returned (.bool true) ∧ Below w.heap.size w w' ∧ Whole w' w.heap.size 107 _ ∧ Whole w' (w.heap.size + 1) 107 _) fun e w' ⟨b, h1, h2, h3⟩ => by
  cases b with
  | true => exact ⟨h1, HB.out.1.trans (h3.mono HB.out.1.size), HBX.out.1.under h3, HBX.out.2.under h3⟩
  | false => have := h2.2 hat; cases this)
 have HAT := Lib.hid hat
 clear hat HC
 by_cases hnm : n = m
 · subst hnm
   have hz : ((n : Int) == (n : Int)) = true := by simp
   obtain ⟨B, hB⟩ : ∃ B, w.heap.size = B := ⟨_, rfl⟩
   rw [hB] at HC0 HBX HB
   have HBE := Lib.hid hB
   go_wp2_with (go_at_call 40; (with_reducible refine HC0.out.mono ?_); rintro e w1 ⟨rfl, hb1, hg1, hg2⟩; have c1 : w1.cell? ⟨B, 4, none⟩ = some (.slice P1 n j1) := hg1.cell 4; have c2 : w1.cell? ⟨B + 1, 4, none⟩ = some (.slice P2 n j2) := hg2.cell 4; have HB1 := Lib.hid (And.intro hb1 (And.intro hg1 hg2)); clear hb1 hg1 hg2)
   clear hB HC0
   go_loopw [45] (fun s45 wr => ∃ k : Nat, k ≤ n ∧ s45 = .int .i64 k ∧ (∀ j, j < k → x.parts[j]? = y.parts[j]?) ∧ Below w1.heap.size w1 wr) (fun s45 _ => n - (intOf s45).toNat)
   case atStart => exact ⟨0, Nat.zero_le _, rfl, (fun j hj => by omega), Below.refl _ w1⟩
   case round =>
    obtain ⟨k, hk, rfl, hsame, hb⟩ := hrel
    have HS := Lib.hid (And.intro hsame hb)
    clear hsame hb c1 c2
    by_cases hlt : k < n
    · obtain ⟨ad1, c1', va, e1, b1, x0, x1, xa, xr⟩ := HB.out.2.1.at_ (i := k) (by rw [HN.out.1]; exact hlt)
      obtain ⟨ad2, c2', vb, e2, b2, y0, y1, ya, yr⟩ := HB.out.2.2.at_ (i := k) (by rw [HN.out.2]; exact hlt)
      injection e1 with e1 e1n e1c; clear e1n e1c
      injection e2 with e2 e2n e2c; clear e2n e2c
      subst e1 e2
      have gL := getD_of (L := x.parts) (i := k) (by rw [HN.out.1]; exact hlt)
      have gM := getD_of (L := y.parts) (i := k) (by rw [HN.out.2]; exact hlt)
      obtain ⟨a, ha⟩ : ∃ a, x.parts.getD k default = a := ⟨_, rfl⟩
      obtain ⟨b, hbb⟩ : ∃ b, y.parts.getD k default = b := ⟨_, rfl⟩
      rw [ha] at x0 x1 gL xr
      rw [hbb] at y0 y1 gM yr
      have HG := Lib.hid (And.intro gL gM)
      have HX := Lib.hid (And.intro xr yr)
      have hBB : B ≤ w1.heap.size := by rw [← HBE.out]; exact HB1.out.1.size
      have HW : Hid (∀ W, Below w1.heap.size w1 W → Below B w W) := Lib.hid fun W hW => HB1.out.1.trans (hW.mono hBB)
      have HG0 : Hid (∀ W, Below w1.heap.size w1 W → W.cell? ⟨B, 4, none⟩ = some (.slice (some ad1) n j1)) := Lib.hid fun W hW => (HB1.out.2.1.under hW).cell 4
      have HG1 : Hid (∀ W, Below w1.heap.size w1 W → W.cell? ⟨B + 1, 4, none⟩ = some (.slice (some ad2) n j2)) := Lib.hid fun W hW => (HB1.out.2.2.under hW).cell 4
      have HG2 : Hid (∀ W, Below w1.heap.size w1 W → W.cell? (ad1.add (k * 3)) = some (.string a.line)) := Lib.hid fun W hW => ((HW.out W hW).cell (p := ad1.add (k * 3)) (by rw [add_block]; exact b1)).trans x0
      have HG3 : Hid (∀ W, Below w1.heap.size w1 W → W.cell? ⟨(ad1.add (k * 3)).block, (ad1.add (k * 3)).off + 1, none⟩ = some (.string a.conn)) := Lib.hid fun W hW => ((HW.out W hW).cell (p := ⟨(ad1.add (k * 3)).block, (ad1.add (k * 3)).off + 1, none⟩) (by show (ad1.add (k * 3)).block < _; rw [add_block]; exact b1)).trans x1
      have HG4 : Hid (∀ W, Below w1.heap.size w1 W → W.cell? ⟨(ad1.add (k * 3)).block, (ad1.add (k * 3)).off + 2, none⟩ = some va) := Lib.hid fun W hW => ((HW.out W hW).cell (p := ⟨(ad1.add (k * 3)).block, (ad1.add (k * 3)).off + 2, none⟩) (by show (ad1.add (k * 3)).block < _; rw [add_block]; exact b1)).trans xa
      have HG5 : Hid (∀ W, Below w1.heap.size w1 W → W.cell? (ad2.add (k * 3)) = some (.string b.line)) := Lib.hid fun W hW => ((HW.out W hW).cell (p := ad2.add (k * 3)) (by rw [add_block]; exact b2)).trans y0
      have HG6 : Hid (∀ W, Below w1.heap.size w1 W → W.cell? ⟨(ad2.add (k * 3)).block, (ad2.add (k * 3)).off + 1, none⟩ = some (.string b.conn)) := Lib.hid fun W hW => ((HW.out W hW).cell (p := ⟨(ad2.add (k * 3)).block, (ad2.add (k * 3)).off + 1, none⟩) (by show (ad2.add (k * 3)).block < _; rw [add_block]; exact b2)).trans y1
      have HG7 : Hid (∀ W, Below w1.heap.size w1 W → W.cell? ⟨(ad2.add (k * 3)).block, (ad2.add (k * 3)).off + 2, none⟩ = some vb) := Lib.hid fun W hW => ((HW.out W hW).cell (p := ⟨(ad2.add (k * 3)).block, (ad2.add (k * 3)).off + 2, none⟩) (by show (ad2.add (k * 3)).block < _; rw [add_block]; exact b2)).trans ya
      by_cases hab : a = b
      · have HSP : Hid (∀ W, Below w1.heap.size w1 W → Calls Tryz.prog 17 #[.agg #[.string a.line, .string a.conn, va], .agg #[.string b.line, .string b.conn, vb]] W fun e w' => e = .returned (.bool true) ∧ Below W.heap.size W w') := Lib.hid fun W hW => (samePart_any a b va vb W ((HX.out.1.below (HW.out W hW)).more (Nat.le_trans hBB hW.size)) ((HX.out.2.below (HW.out W hW)).more (Nat.le_trans hBB hW.size))).mono fun e w' ⟨r, h1, h2, h3⟩ => by
         cases r with
         | true => exact ⟨h1, h3⟩
         | false => have := h2.2 hab; cases this
        have HKB : Hid (∀ W W', Below w1.heap.size w1 W → Below W.heap.size W W' → Below w1.heap.size w1 W') := Lib.hid fun W W' h1 h2 => h1.trans (h2.mono h1.size)
        have HR0 : Hid (Below w1.heap.size w1 wr.drew) := Lib.hid HS.out.2.drew
        have hk0 : (0 : Int) ≤ (k : Int) := by omega
        have hk1 : (k : Int) < (n : Int) := by omega
        have HEQ : Hid (∀ j, j < k + 1 → x.parts[j]? = y.parts[j]?) := Lib.hid fun j hj => by
         by_cases e : j = k
         · subst e
           rw [HG.out.1, HG.out.2, hab]
         · exact HS.out.1 j (by omega)
        clear x0 x1 y0 y1 xa ya xr yr gL gM ha hbb b1 b2 hBB hab
        go_upto_region 6 with fail
        refine wp_region_held_drew (S := fun W => Below w1.heap.size w1 W) (by kernel_rfl) HR0.out (fun hHeld => ?_)
        refine wpAnyH_take (i := 0) (v := _) rfl (by as_aux_lemma => kernel_rfl) (by as_aux_lemma => kernel_rfl) (by as_aux_lemma => kernel_rfl) (fun _ _ _ h => h) (Or.inl ⟨by rfl, fun w h => by have e0 := HG0.out w h; have e1 := HG1.out w h; have e2 := HG2.out w h; have e3 := HG3.out w h; have e4 := HG4.out w h; have e5 := HG5.out w h; have e6 := HG6.out w h; have e7 := HG7.out w h; clear h; go_simp; (try with_reducible rfl)⟩) (by assumption) ?_
        simp only [Act.put, List.getElem_toArray, List.getElem_cons_succ, List.getElem_cons_zero, List.setIfInBounds_toArray, List.set_cons_succ, List.set_cons_zero]
        refine wpAnyH_take (i := 1) (v := _) rfl (by as_aux_lemma => kernel_rfl) (by as_aux_lemma => kernel_rfl) (by as_aux_lemma => kernel_rfl) (fun _ _ _ h => h) (Or.inl ⟨by rfl, fun w h => by have e0 := HG0.out w h; have e1 := HG1.out w h; have e2 := HG2.out w h; have e3 := HG3.out w h; have e4 := HG4.out w h; have e5 := HG5.out w h; have e6 := HG6.out w h; have e7 := HG7.out w h; clear h; go_simp; (try with_reducible rfl)⟩) (by assumption) ?_
        simp only [Act.put, List.getElem_toArray, List.getElem_cons_succ, List.getElem_cons_zero, List.setIfInBounds_toArray, List.set_cons_succ, List.set_cons_zero]
        refine wpAnyH_take (i := 2) (v := _) rfl (by as_aux_lemma => kernel_rfl) (by as_aux_lemma => kernel_rfl) (by as_aux_lemma => kernel_rfl) (fun _ _ _ h => h) (Or.inl ⟨by rfl, fun w h => by have e0 := HG0.out w h; have e1 := HG1.out w h; have e2 := HG2.out w h; have e3 := HG3.out w h; have e4 := HG4.out w h; have e5 := HG5.out w h; have e6 := HG6.out w h; have e7 := HG7.out w h; clear h; go_simp; (try with_reducible rfl)⟩) (by assumption) ?_
        simp only [Act.put, List.getElem_toArray, List.getElem_cons_succ, List.getElem_cons_zero, List.setIfInBounds_toArray, List.set_cons_succ, List.set_cons_zero]
        refine wpAnyH_take (i := 3) (v := _) rfl (by as_aux_lemma => kernel_rfl) (by as_aux_lemma => kernel_rfl) (by as_aux_lemma => kernel_rfl) (fun _ _ _ h => h) (Or.inl ⟨by rfl, fun w h => by have e0 := HG0.out w h; have e1 := HG1.out w h; have e2 := HG2.out w h; have e3 := HG3.out w h; have e4 := HG4.out w h; have e5 := HG5.out w h; have e6 := HG6.out w h; have e7 := HG7.out w h; clear h; go_simp; (try with_reducible rfl)⟩) (by assumption) ?_
        simp only [Act.put, List.getElem_toArray, List.getElem_cons_succ, List.getElem_cons_zero, List.setIfInBounds_toArray, List.set_cons_succ, List.set_cons_zero]
        refine wpAnyH_take (i := 4) (v := _) rfl (by as_aux_lemma => kernel_rfl) (by as_aux_lemma => kernel_rfl) (by as_aux_lemma => kernel_rfl) (fun _ _ _ h => h) (Or.inl ⟨by rfl, fun w h => by have e0 := HG0.out w h; have e1 := HG1.out w h; have e2 := HG2.out w h; have e3 := HG3.out w h; have e4 := HG4.out w h; have e5 := HG5.out w h; have e6 := HG6.out w h; have e7 := HG7.out w h; clear h; go_simp; (try with_reducible rfl)⟩) (by assumption) ?_
        simp only [Act.put, List.getElem_toArray, List.getElem_cons_succ, List.getElem_cons_zero, List.setIfInBounds_toArray, List.set_cons_succ, List.set_cons_zero]
        refine wpAnyH_take (i := 5) (v := _) rfl (by as_aux_lemma => kernel_rfl) (by as_aux_lemma => kernel_rfl) (by as_aux_lemma => kernel_rfl) (fun _ _ _ h => h) (Or.inl ⟨by rfl, fun w h => by have e0 := HG0.out w h; have e1 := HG1.out w h; have e2 := HG2.out w h; have e3 := HG3.out w h; have e4 := HG4.out w h; have e5 := HG5.out w h; have e6 := HG6.out w h; have e7 := HG7.out w h; clear h; go_simp; (try with_reducible rfl)⟩) (by assumption) ?_
        simp only [Act.put, List.getElem_toArray, List.getElem_cons_succ, List.getElem_cons_zero, List.setIfInBounds_toArray, List.set_cons_succ, List.set_cons_zero]
        refine wpAnyH_take (i := 6) (v := _) rfl (by as_aux_lemma => kernel_rfl) (by as_aux_lemma => kernel_rfl) (by as_aux_lemma => kernel_rfl) (fun _ _ _ h => h) (Or.inl ⟨by rfl, fun w h => by have e0 := HG0.out w h; have e1 := HG1.out w h; have e2 := HG2.out w h; have e3 := HG3.out w h; have e4 := HG4.out w h; have e5 := HG5.out w h; have e6 := HG6.out w h; have e7 := HG7.out w h; clear h; go_simp; (try with_reducible rfl)⟩) (by assumption) ?_
        simp only [Act.put, List.getElem_toArray, List.getElem_cons_succ, List.getElem_cons_zero, List.setIfInBounds_toArray, List.set_cons_succ, List.set_cons_zero]
        refine wpAnyH_take (i := 7) (v := _) rfl (by as_aux_lemma => kernel_rfl) (by as_aux_lemma => kernel_rfl) (by as_aux_lemma => kernel_rfl) (fun _ _ _ h => h) (Or.inl ⟨by rfl, fun w h => by have e0 := HG0.out w h; have e1 := HG1.out w h; have e2 := HG2.out w h; have e3 := HG3.out w h; have e4 := HG4.out w h; have e5 := HG5.out w h; have e6 := HG6.out w h; have e7 := HG7.out w h; clear h; go_simp; (try with_reducible rfl)⟩) (by assumption) ?_
        simp only [Act.put, List.getElem_toArray, List.getElem_cons_succ, List.getElem_cons_zero, List.setIfInBounds_toArray, List.set_cons_succ, List.set_cons_zero]
        refine wpAnyH_take (i := 8) (v := _) rfl (by as_aux_lemma => kernel_rfl) (by as_aux_lemma => kernel_rfl) (by as_aux_lemma => kernel_rfl) (fun _ _ _ h => h) (Or.inl ⟨by rfl, fun w h => by have e0 := HG0.out w h; have e1 := HG1.out w h; have e2 := HG2.out w h; have e3 := HG3.out w h; have e4 := HG4.out w h; have e5 := HG5.out w h; have e6 := HG6.out w h; have e7 := HG7.out w h; clear h; go_simp; (try with_reducible rfl)⟩) (by assumption) ?_
        simp only [Act.put, List.getElem_toArray, List.getElem_cons_succ, List.getElem_cons_zero, List.setIfInBounds_toArray, List.set_cons_succ, List.set_cons_zero]
        refine wpAnyH_take (i := 9) (v := _) rfl (by as_aux_lemma => kernel_rfl) (by as_aux_lemma => kernel_rfl) (by as_aux_lemma => kernel_rfl) (fun _ _ _ h => h) (Or.inl ⟨by rfl, fun w h => by have e0 := HG0.out w h; have e1 := HG1.out w h; have e2 := HG2.out w h; have e3 := HG3.out w h; have e4 := HG4.out w h; have e5 := HG5.out w h; have e6 := HG6.out w h; have e7 := HG7.out w h; clear h; go_simp; (try with_reducible rfl)⟩) (by assumption) ?_
        simp only [Act.put, List.getElem_toArray, List.getElem_cons_succ, List.getElem_cons_zero, List.setIfInBounds_toArray, List.set_cons_succ, List.set_cons_zero]
        refine wpAnyH_ready (rs := [10]) (by as_aux_lemma => kernel_rfl) (by simp) ?_
        refine AllReadyH.cons (i := 10) rfl (fun K hK => ?_) AllReadyH.nil
        go_simp
        refine (HSP.out _ hHeld).mono ?_
        rintro e w4 ⟨rfl, hb4⟩
        refine hK.out _ _ (HKB.out _ _ hHeld hb4) (fun hHeld4 => ?_)
        clear hK K hHeld
        have hHeld := hHeld4
        clear hHeld4
        refine wpAnyH_take (i := 11) (v := _) rfl (by as_aux_lemma => kernel_rfl) (by as_aux_lemma => kernel_rfl) (by as_aux_lemma => kernel_rfl) (fun _ _ _ h => h) (Or.inl ⟨by rfl, fun w h => by have e0 := HG0.out w h; have e1 := HG1.out w h; have e2 := HG2.out w h; have e3 := HG3.out w h; have e4 := HG4.out w h; have e5 := HG5.out w h; have e6 := HG6.out w h; have e7 := HG7.out w h; clear h; go_simp; (try with_reducible rfl)⟩) (by assumption) ?_
        simp only [Act.put, List.getElem_toArray, List.getElem_cons_succ, List.getElem_cons_zero, List.setIfInBounds_toArray, List.set_cons_succ, List.set_cons_zero]
        refine wpAnyH_done (by as_aux_lemma => kernel_rfl) ?_ _
        have HH4 := Lib.hid hHeld
        clear hHeld hb4
        go_wp2
        go_roundw
        case rel => exact ⟨k + 1, by omega, by go_num, HEQ.out, HH4.out⟩
        case measure => simp [intOf]; omega
      · have HSP : Hid (∀ W, Below w1.heap.size w1 W → Calls Tryz.prog 17 #[.agg #[.string a.line, .string a.conn, va], .agg #[.string b.line, .string b.conn, vb]] W fun e w' => e = .returned (.bool false) ∧ Below W.heap.size W w') := Lib.hid fun W hW => (samePart_any a b va vb W ((HX.out.1.below (HW.out W hW)).more (Nat.le_trans hBB hW.size)) ((HX.out.2.below (HW.out W hW)).more (Nat.le_trans hBB hW.size))).mono fun e w' ⟨r, h1, h2, h3⟩ => by
         cases r with
         | false => exact ⟨h1, h3⟩
         | true => exact (hab (h2.1 rfl)).elim
        have HKB : Hid (∀ W W', Below w1.heap.size w1 W → Below W.heap.size W W' → Below w1.heap.size w1 W') := Lib.hid fun W W' h1 h2 => h1.trans (h2.mono h1.size)
        have HR0 : Hid (Below w1.heap.size w1 wr.drew) := Lib.hid HS.out.2.drew
        have hk0 : (0 : Int) ≤ (k : Int) := by omega
        have hk1 : (k : Int) < (n : Int) := by omega
        have HNE : Hid (∀ W, Below B w W → SameB w x y (.returned (.bool false)) W) := Lib.hid fun W hW => HBAD.out W (by rw [HBE.out]; exact hW) (fun e => by rw [e] at HG; exact hab (Option.some.inj (HG.out.1.symm.trans HG.out.2)))
        clear x0 x1 y0 y1 xa ya xr yr gL gM ha hbb b1 b2 hBB hab
        go_upto_region 6 with fail
        refine wp_region_held_drew (S := fun W => Below w1.heap.size w1 W) (by kernel_rfl) HR0.out (fun hHeld => ?_)
        refine wpAnyH_take (i := 0) (v := _) rfl (by as_aux_lemma => kernel_rfl) (by as_aux_lemma => kernel_rfl) (by as_aux_lemma => kernel_rfl) (fun _ _ _ h => h) (Or.inl ⟨by rfl, fun w h => by have e0 := HG0.out w h; have e1 := HG1.out w h; have e2 := HG2.out w h; have e3 := HG3.out w h; have e4 := HG4.out w h; have e5 := HG5.out w h; have e6 := HG6.out w h; have e7 := HG7.out w h; clear h; go_simp; (try with_reducible rfl)⟩) (by assumption) ?_
        simp only [Act.put, List.getElem_toArray, List.getElem_cons_succ, List.getElem_cons_zero, List.setIfInBounds_toArray, List.set_cons_succ, List.set_cons_zero]
        refine wpAnyH_take (i := 1) (v := _) rfl (by as_aux_lemma => kernel_rfl) (by as_aux_lemma => kernel_rfl) (by as_aux_lemma => kernel_rfl) (fun _ _ _ h => h) (Or.inl ⟨by rfl, fun w h => by have e0 := HG0.out w h; have e1 := HG1.out w h; have e2 := HG2.out w h; have e3 := HG3.out w h; have e4 := HG4.out w h; have e5 := HG5.out w h; have e6 := HG6.out w h; have e7 := HG7.out w h; clear h; go_simp; (try with_reducible rfl)⟩) (by assumption) ?_
        simp only [Act.put, List.getElem_toArray, List.getElem_cons_succ, List.getElem_cons_zero, List.setIfInBounds_toArray, List.set_cons_succ, List.set_cons_zero]
        refine wpAnyH_take (i := 2) (v := _) rfl (by as_aux_lemma => kernel_rfl) (by as_aux_lemma => kernel_rfl) (by as_aux_lemma => kernel_rfl) (fun _ _ _ h => h) (Or.inl ⟨by rfl, fun w h => by have e0 := HG0.out w h; have e1 := HG1.out w h; have e2 := HG2.out w h; have e3 := HG3.out w h; have e4 := HG4.out w h; have e5 := HG5.out w h; have e6 := HG6.out w h; have e7 := HG7.out w h; clear h; go_simp; (try with_reducible rfl)⟩) (by assumption) ?_
        simp only [Act.put, List.getElem_toArray, List.getElem_cons_succ, List.getElem_cons_zero, List.setIfInBounds_toArray, List.set_cons_succ, List.set_cons_zero]
        refine wpAnyH_take (i := 3) (v := _) rfl (by as_aux_lemma => kernel_rfl) (by as_aux_lemma => kernel_rfl) (by as_aux_lemma => kernel_rfl) (fun _ _ _ h => h) (Or.inl ⟨by rfl, fun w h => by have e0 := HG0.out w h; have e1 := HG1.out w h; have e2 := HG2.out w h; have e3 := HG3.out w h; have e4 := HG4.out w h; have e5 := HG5.out w h; have e6 := HG6.out w h; have e7 := HG7.out w h; clear h; go_simp; (try with_reducible rfl)⟩) (by assumption) ?_
        simp only [Act.put, List.getElem_toArray, List.getElem_cons_succ, List.getElem_cons_zero, List.setIfInBounds_toArray, List.set_cons_succ, List.set_cons_zero]
        refine wpAnyH_take (i := 4) (v := _) rfl (by as_aux_lemma => kernel_rfl) (by as_aux_lemma => kernel_rfl) (by as_aux_lemma => kernel_rfl) (fun _ _ _ h => h) (Or.inl ⟨by rfl, fun w h => by have e0 := HG0.out w h; have e1 := HG1.out w h; have e2 := HG2.out w h; have e3 := HG3.out w h; have e4 := HG4.out w h; have e5 := HG5.out w h; have e6 := HG6.out w h; have e7 := HG7.out w h; clear h; go_simp; (try with_reducible rfl)⟩) (by assumption) ?_
        simp only [Act.put, List.getElem_toArray, List.getElem_cons_succ, List.getElem_cons_zero, List.setIfInBounds_toArray, List.set_cons_succ, List.set_cons_zero]
        refine wpAnyH_take (i := 5) (v := _) rfl (by as_aux_lemma => kernel_rfl) (by as_aux_lemma => kernel_rfl) (by as_aux_lemma => kernel_rfl) (fun _ _ _ h => h) (Or.inl ⟨by rfl, fun w h => by have e0 := HG0.out w h; have e1 := HG1.out w h; have e2 := HG2.out w h; have e3 := HG3.out w h; have e4 := HG4.out w h; have e5 := HG5.out w h; have e6 := HG6.out w h; have e7 := HG7.out w h; clear h; go_simp; (try with_reducible rfl)⟩) (by assumption) ?_
        simp only [Act.put, List.getElem_toArray, List.getElem_cons_succ, List.getElem_cons_zero, List.setIfInBounds_toArray, List.set_cons_succ, List.set_cons_zero]
        refine wpAnyH_take (i := 6) (v := _) rfl (by as_aux_lemma => kernel_rfl) (by as_aux_lemma => kernel_rfl) (by as_aux_lemma => kernel_rfl) (fun _ _ _ h => h) (Or.inl ⟨by rfl, fun w h => by have e0 := HG0.out w h; have e1 := HG1.out w h; have e2 := HG2.out w h; have e3 := HG3.out w h; have e4 := HG4.out w h; have e5 := HG5.out w h; have e6 := HG6.out w h; have e7 := HG7.out w h; clear h; go_simp; (try with_reducible rfl)⟩) (by assumption) ?_
        simp only [Act.put, List.getElem_toArray, List.getElem_cons_succ, List.getElem_cons_zero, List.setIfInBounds_toArray, List.set_cons_succ, List.set_cons_zero]
        refine wpAnyH_take (i := 7) (v := _) rfl (by as_aux_lemma => kernel_rfl) (by as_aux_lemma => kernel_rfl) (by as_aux_lemma => kernel_rfl) (fun _ _ _ h => h) (Or.inl ⟨by rfl, fun w h => by have e0 := HG0.out w h; have e1 := HG1.out w h; have e2 := HG2.out w h; have e3 := HG3.out w h; have e4 := HG4.out w h; have e5 := HG5.out w h; have e6 := HG6.out w h; have e7 := HG7.out w h; clear h; go_simp; (try with_reducible rfl)⟩) (by assumption) ?_
        simp only [Act.put, List.getElem_toArray, List.getElem_cons_succ, List.getElem_cons_zero, List.setIfInBounds_toArray, List.set_cons_succ, List.set_cons_zero]
        refine wpAnyH_take (i := 8) (v := _) rfl (by as_aux_lemma => kernel_rfl) (by as_aux_lemma => kernel_rfl) (by as_aux_lemma => kernel_rfl) (fun _ _ _ h => h) (Or.inl ⟨by rfl, fun w h => by have e0 := HG0.out w h; have e1 := HG1.out w h; have e2 := HG2.out w h; have e3 := HG3.out w h; have e4 := HG4.out w h; have e5 := HG5.out w h; have e6 := HG6.out w h; have e7 := HG7.out w h; clear h; go_simp; (try with_reducible rfl)⟩) (by assumption) ?_
        simp only [Act.put, List.getElem_toArray, List.getElem_cons_succ, List.getElem_cons_zero, List.setIfInBounds_toArray, List.set_cons_succ, List.set_cons_zero]
        refine wpAnyH_take (i := 9) (v := _) rfl (by as_aux_lemma => kernel_rfl) (by as_aux_lemma => kernel_rfl) (by as_aux_lemma => kernel_rfl) (fun _ _ _ h => h) (Or.inl ⟨by rfl, fun w h => by have e0 := HG0.out w h; have e1 := HG1.out w h; have e2 := HG2.out w h; have e3 := HG3.out w h; have e4 := HG4.out w h; have e5 := HG5.out w h; have e6 := HG6.out w h; have e7 := HG7.out w h; clear h; go_simp; (try with_reducible rfl)⟩) (by assumption) ?_
        simp only [Act.put, List.getElem_toArray, List.getElem_cons_succ, List.getElem_cons_zero, List.setIfInBounds_toArray, List.set_cons_succ, List.set_cons_zero]
        refine wpAnyH_ready (rs := [10]) (by as_aux_lemma => kernel_rfl) (by simp) ?_
        refine AllReadyH.cons (i := 10) rfl (fun K hK => ?_) AllReadyH.nil
        go_simp
        refine (HSP.out _ hHeld).mono ?_
        rintro e w4 ⟨rfl, hb4⟩
        refine hK.out _ _ (HKB.out _ _ hHeld hb4) (fun hHeld4 => ?_)
        clear hK K hHeld
        have hHeld := hHeld4
        clear hHeld4
        refine wpAnyH_take (i := 11) (v := _) rfl (by as_aux_lemma => kernel_rfl) (by as_aux_lemma => kernel_rfl) (by as_aux_lemma => kernel_rfl) (fun _ _ _ h => h) (Or.inl ⟨by rfl, fun w h => by have e0 := HG0.out w h; have e1 := HG1.out w h; have e2 := HG2.out w h; have e3 := HG3.out w h; have e4 := HG4.out w h; have e5 := HG5.out w h; have e6 := HG6.out w h; have e7 := HG7.out w h; clear h; go_simp; (try with_reducible rfl)⟩) (by assumption) ?_
        simp only [Act.put, List.getElem_toArray, List.getElem_cons_succ, List.getElem_cons_zero, List.setIfInBounds_toArray, List.set_cons_succ, List.set_cons_zero]
        refine wpAnyH_done (by as_aux_lemma => kernel_rfl) ?_ _
        have HH4 := Lib.hid hHeld
        clear hHeld hb4
        go_wp2
        go_ret
        exact HNE.out _ (HW.out _ HH4.out)
    · obtain rfl : k = n := by omega
      have HEQ : Hid (x = y) := Lib.hid (ses_head.2 ⟨H1.out.1 (by trivial), H2.out.1 (by trivial), H3.out.1 (by trivial), HAT.out, list_same (by rw [HN.out.1, HN.out.2]) (fun j hj => HS.out.1 j (by rw [HN.out.1] at hj; exact hj))⟩)
      have HBB : Hid (Below B w wr) := Lib.hid (HB1.out.1.trans (HS.out.2.mono (by rw [← HBE.out]; exact HB1.out.1.size)))
      go_wp2
      go_ret
      exact ⟨true, rfl, ⟨fun _ => HEQ.out, fun _ => rfl⟩, by rw [HBE.out]; exact HBB.out⟩
 · have hz : ((n : Int) == (m : Int)) = false := by rw [beq_eq_false_iff_ne]; omega
   have HNE : Hid (∀ W, Below w.heap.size w W → SameB w x y (.returned (.bool false)) W) := Lib.hid fun W hW => HBAD.out W hW (fun e => hnm (by rw [← HN.out.1, ← HN.out.2, e]))
   obtain ⟨B, hB⟩ : ∃ B, w.heap.size = B := ⟨_, rfl⟩
   rw [hB] at HC0 HBX HB
   have HBE := Lib.hid hB
   clear hnm
   go_wp2_with (go_at_call 40; (with_reducible refine HC0.out.mono ?_); rintro e w1 ⟨rfl, hb1, hg1, hg2⟩; have c1 : w1.cell? ⟨B, 4, none⟩ = some (.slice P1 n j1) := hg1.cell 4; have c2 : w1.cell? ⟨B + 1, 4, none⟩ = some (.slice P2 m j2) := hg2.cell 4; have HB1 := Lib.hid hb1; clear hb1 hg1 hg2)
   clear hB HC0
   go_ret
   exact HNE.out _ (by rw [HBE.out]; exact HB1.out)
end Go.Proofs.YtbbedhecfipdjaaGreatDoor
