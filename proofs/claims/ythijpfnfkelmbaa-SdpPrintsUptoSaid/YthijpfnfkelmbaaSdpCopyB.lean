/- The law's copies of whole descriptions: theirs, ours. -/
import Derived.Test.YthijpfnfkelmbaaSdpCopyA
namespace Go.Proofs.Ythijpfnfkelmbaa
open Go.RowKit
set_option linter.unusedVariables false
set_option linter.unusedSimpArgs false

def Fits (x : SesS) : Prop := x.attrs.length * 32 ≤ 140737488351232 ∧ x.parts.length * 56 ≤ 140737488351232 ∧ ∀ (i : Nat) (p : PartS), x.parts[i]? = some p → p.attrs.length * 32 ≤ 140737488351232
/-- While a description is copied. -/
structure CK (T : Ty3) (base go : Nat) (x : SesS) (k : Nat) (vA vP : Value) (us : List Value) (w : World) : Prop where
  own : base ≤ go
  box : Whole w go T.s #[.string x.origin, .string x.name, .string x.time, vA, vP]
  att : Own w base T.a 2 vA (x.attrs.map acell)
  par : Own w base T.p 3 vP (List.zipWith pcell (x.parts.take k) us)
  hus : us.length = k
  le : k ≤ x.parts.length
  each : ∀ (i : Nat) (u : Value) (p : PartS), us[i]? = some u → x.parts[i]? = some p → Own w base T.a 2 u (p.attrs.map acell)
section
variable {T : Ty3} {base go : Nat} {x : SesS} {k : Nat} {vA vP : Value} {us : List Value} {w w' : World}
theorem CK.under (h : CK T base go x k vA vP us w) (hb : Below w.heap.size w w') : CK T base go x k vA vP us w' :=
  ⟨h.own, h.box.under hb, h.att.under hb, h.par.under hb, h.hus, h.le, fun i u p hu hp => (h.each i u p hu hp).under hb⟩
theorem CK.len (h : CK T base go x k vA vP us w) : (List.zipWith pcell (x.parts.take k) us).length = k := by
  have := h.hus
  have := h.le
  simp
  omega
theorem CK.drew (h : CK T base go x k vA vP us w) : CK T base go x k vA vP us w.drew := h.under (below_drewN' (Below.refl _ w) 1)
/-- At first. -/
theorem CK.start (hT : T.Ok) (hgo : base ≤ go) (hb : Whole w go T.s #[.string x.origin, .string x.name, .string x.time, vA, .slice none 0 0]) (ha : Own w base T.a 2 vA (x.attrs.map acell)) : CK T base go x 0 vA (.slice none 0 0) [] w :=
  ⟨hgo, hb, ha, by simpa using Own.nil w base T.p 3, rfl, Nat.zero_le _, fun i u p hu _ => by simp at hu⟩
/-- A part more. -/
theorem CK.next (h : CK T base go x k vA vP us w) (hT : T.Ok) {p : PartS} (hp : x.parts[k]? = some p) {v : Value} (hv : Own w base T.a 2 v (p.attrs.map acell)) {vP' : Value} {w8 : World}
    (ho : Own w8 base T.p 3 vP' (List.zipWith pcell (x.parts.take k) us ++ [pcell p v])) (hg : w.grownBy w8 vP.ownBlock) (hone : vP'.oneCell' = true) :
    CK T base go x (k + 1) vA vP' (us ++ [v]) (w8.setCell ⟨go, 4, none⟩ vP') := by
  have hbox8 := h.box.grown hg (fun e => (h.par.apart h.box hT.1.symm) e.symm)
  have hset := hbox8.set 4 vP'
  have hfar : ∀ {u : Value} {L : List AttrS}, Own w base T.a 2 u (L.map acell) → Own (w8.setCell ⟨go, 4, none⟩ vP') base T.a 2 u (L.map acell) := fun hu => by
    have h8 := hu.grown hg (hu.apart2 h.par hT.2.2.symm)
    exact h8.far (p := ⟨go, 4, none⟩) (h8.apart hbox8 hT.2.1.symm) _
  refine ⟨h.own, hset, hfar h.att, ?_, by simp [h.hus], (List.getElem?_eq_some_iff.1 hp).1, fun i u q hu hq => ?_⟩
  · have e : List.zipWith pcell (x.parts.take (k + 1)) (us ++ [v]) = List.zipWith pcell (x.parts.take k) us ++ [pcell p v] := by
      rw [List.take_add_one, hp]
      have hlt := (List.getElem?_eq_some_iff.1 hp).1
      rw [List.zipWith_append (by rw [h.hus, List.length_take]; omega)]
      rfl
    rw [e]
    exact ho.far (p := ⟨go, 4, none⟩) (ho.apart hbox8 hT.1.symm) _
  · rw [List.getElem?_append] at hu
    split at hu
    · exact hfar (h.each i u q hu hq)
    · next hn =>
      have hi : i = k := by
        have hl := (List.getElem?_eq_some_iff.1 hu).1
        rw [h.hus] at hl hn
        simp at hl
        omega
      subst hi
      rw [h.hus, Nat.sub_self] at hu
      obtain rfl : v = u := by simpa using hu
      obtain rfl : p = q := by rw [hp] at hq; exact Option.some.inj hq
      exact hfar hv
/-- Another description's block is stored. -/
theorem CK.farRow (h : CK T base go x k vA vP us w) (hT : T.Ok) {g : Nat} {cs0 : Array Value} (hg : Whole w g T.s cs0) (hne : go ≠ g) (cs : Array Value) : CK T base go x k vA vP us (w.setRow g cs) :=
  ⟨h.own, h.box.farRow hne cs, h.att.farRow (h.att.apart hg hT.2.1.symm) cs, h.par.farRow (h.par.apart hg hT.1.symm) cs, h.hus, h.le, fun i u p hu hp => (h.each i u p hu hp).farRow ((h.each i u p hu hp).apart hg hT.2.1.symm) cs⟩
/-- All parts are there. -/
theorem CK.read (h : CK T base go x k vA vP us w) (hk : k = x.parts.length) : AttrsV w w.heap.size vA x.attrs ∧ PartsV w w.heap.size vP x.parts := by
  refine ⟨h.att.reads (Nat.le_refl _), ?_⟩
  have hpar := h.par
  have hus := h.hus
  have hle : x.parts.take k = x.parts := List.take_of_length_le (by omega)
  rw [hle] at hpar
  refine hpar.rows (Nat.le_refl _) (by simp; omega) fun i r p f hr hp hf => ?_
  have hi := (List.getElem?_eq_some_iff.1 hp).1
  have hu := List.getElem?_eq_getElem (l := us) (i := i) (by omega)
  rw [List.getElem?_zipWith, hp, hu] at hr
  obtain rfl : pcell p us[i] = r := by simpa using hr
  exact ⟨hf 0 (by decide), hf 1 (by decide), us[i], hf 2 (by decide), (h.each i _ p hu hp).reads (Nat.le_refl _)⟩
end
theorem Fits.at_ {x : SesS} (h : Fits x) {k : Nat} (hk : k < x.parts.length) : (x.parts.getD k default).attrs.length * 32 ≤ 140737488351232 := h.2.2 k _ (getD_of hk)
def CopyO (w : World) (x : SesS) (e : Ending) (w' : World) : Prop := ∃ (Y : Array Value) (vA vP : Value), e = .returned (.agg Y) ∧ SesV w' w'.heap.size Y x vA vP ∧ Below w.heap.size w w'

set_option maxHeartbeats 6400000 in
set_option maxRecDepth 100000 in
theorem ours_any (X : Array Value) (x : SesS) (a1 p1 : Value) (w : World) (h : SesV w w.heap.size X x a1 p1) (hf : Fits x) : Calls Try.prog 12 #[.agg X] w (CopyO w x) := by
  obtain ⟨e1, va1, vp1⟩ := h
  subst e1
  obtain ⟨A1, k1, rfl, -⟩ := va1.form
  obtain ⟨P1, j1, rfl, hj1, hm1, -⟩ := vp1.form
  obtain ⟨n1, hn1⟩ : ∃ n, x.attrs.length = n := ⟨_, rfl⟩
  obtain ⟨n, hn⟩ : ∃ n, x.parts.length = n := ⟨_, rfl⟩
  rw [hn1] at va1
  rw [hn] at vp1 hj1
  rw [hn1, hn]
  have hn56 : n * 56 ≤ 140737488351232 := by rw [← hn]; exact hf.2.1
  have hb := two_new (w := w) 33 26 #[.string x.origin, .string x.name, .string x.time, .slice A1 n1 k1, .slice P1 n j1] #[.string ⟨#[]⟩, .string ⟨#[]⟩, .string ⟨#[]⟩, .slice none 0 0, .slice none 0 0]
  have g1 := (Whole.new w 33 #[.string x.origin, .string x.name, .string x.time, .slice A1 n1 k1, .slice P1 n j1]).alloc (.cells #[.string ⟨#[]⟩, .string ⟨#[]⟩, .string ⟨#[]⟩, .slice none 0 0, .slice none 0 0] 26)
  have g2 := Whole.new2 w (.cells #[.string x.origin, .string x.name, .string x.time, .slice A1 n1 k1, .slice P1 n j1] 33) 26 #[.string ⟨#[]⟩, .string ⟨#[]⟩, .string ⟨#[]⟩, .slice none 0 0, .slice none 0 0]
  have va := (va1.below hb).more hb.size
  have vp := (vp1.below hb).more hb.size
  have HNN := Lib.hid hn
  have HF := Lib.hid hf
  clear hn1 hn va1 vp1 hf
  obtain ⟨B, hB⟩ : ∃ B, w.heap.size = B := ⟨_, rfl⟩
  have HBE := Lib.hid hB
  rw [hB] at g1 g2
  clear hB
  unfold maxLen at hm1
  go_enter Try.func12, Try.ntmps12
  go_upto_region 1 with fail
  generalize hw0 : (w.alloc (.cells #[.string x.origin, .string x.name, .string x.time, .slice A1 n1 k1, .slice P1 n j1] 33)).alloc (.cells #[.string ⟨#[]⟩, .string ⟨#[]⟩, .string ⟨#[]⟩, .slice none 0 0, .slice none 0 0] 26) = w0 at *
  clear hw0
  rw [HBE.out]
  obtain ⟨N, hN⟩ : ∃ N, w0.heap.size = N := ⟨_, rfl⟩
  have HN := Lib.hid hN
  rw [hN] at va vp
  have hBN : B < N ∧ B + 1 < N := by rw [← hN]; exact ⟨g1.lt, g2.lt⟩
  have HKB : Hid (∀ W W', Below N w0 W → Below W.heap.size W W' → Below N w0 W') := Lib.hid fun W W' h1 h2 => h1.trans (h2.mono (by have := h1.size; rw [hN] at this; exact this))
  have HBK : Hid (∀ W, Below N w0 W → Calls Try.prog 28 #[.slice A1 n1 k1] W fun e w' => ∃ v', e = .returned v' ∧ Own w' W.heap.size 54 2 v' (x.attrs.map acell) ∧ Below W.heap.size W w') := Lib.hid fun W hW => back_any _ x.attrs W ((va.below hW).more (by have := hW.size; rw [hN] at this; exact this)) HF.out.1
  have HX : Hid (∀ W, Below N w0 W → Whole W B 33 #[.string x.origin, .string x.name, .string x.time, .slice A1 n1 k1, .slice P1 n j1] ∧ Whole W (B + 1) 26 #[.string ⟨#[]⟩, .string ⟨#[]⟩, .string ⟨#[]⟩, .slice none 0 0, .slice none 0 0]) := Lib.hid fun W hW => ⟨g1.below hW hBN.1, g2.below hW hBN.2⟩
  have HG0 : Hid (∀ W, Below N w0 W → W.cell? ⟨B, 0, none⟩ = some (.string x.origin)) := Lib.hid fun W hW => (HX.out W hW).1.cell 0
  have HG1 : Hid (∀ W, Below N w0 W → W.cell? ⟨B, 1, none⟩ = some (.string x.name)) := Lib.hid fun W hW => (HX.out W hW).1.cell 1
  have HG2 : Hid (∀ W, Below N w0 W → W.cell? ⟨B, 2, none⟩ = some (.string x.time)) := Lib.hid fun W hW => (HX.out W hW).1.cell 2
  have HG3 : Hid (∀ W, Below N w0 W → W.cell? ⟨B, 3, none⟩ = some (.slice A1 n1 k1)) := Lib.hid fun W hW => (HX.out W hW).1.cell 3
  have HR0 : Hid (Below N w0 w0.drew) := Lib.hid (Below.refl _ _).drew
  have HVP := Lib.hid vp
  have HB0 := Lib.hid hb
  have HBN := Lib.hid hBN
  clear va vp g1 g2 hN hb hBN
  go_cut [3] from 3 to 15 (fun s3 wc => ∃ go vA, s3 = .pointer (some ⟨go, 0, none⟩) ∧ CK TR N go x 0 vA (.slice none 0 0) [] wc ∧ Below N w0 wc)
  case first =>
    refine wp_region_held_drew (S := fun W => Below N w0 W) (by kernel_rfl) HR0.out (fun hHeld => ?_)
    refine wpAnyH_take (i := 0) (v := _) rfl (by as_aux_lemma => kernel_rfl) (by as_aux_lemma => kernel_rfl) (by as_aux_lemma => kernel_rfl) (fun _ _ _ h => h) (Or.inl ⟨by rfl, fun w h => by have e0 := HG0.out w h; have e1 := HG1.out w h; have e2 := HG2.out w h; have e3 := HG3.out w h; clear h; go_simp; (try with_reducible rfl)⟩) (by assumption) ?_
    simp only [Act.put, List.getElem_toArray, List.getElem_cons_succ, List.getElem_cons_zero, List.setIfInBounds_toArray, List.set_cons_succ, List.set_cons_zero]
    refine wpAnyH_take (i := 1) (v := _) rfl (by as_aux_lemma => kernel_rfl) (by as_aux_lemma => kernel_rfl) (by as_aux_lemma => kernel_rfl) (fun _ _ _ h => h) (Or.inl ⟨by rfl, fun w h => by have e0 := HG0.out w h; have e1 := HG1.out w h; have e2 := HG2.out w h; have e3 := HG3.out w h; clear h; go_simp; (try with_reducible rfl)⟩) (by assumption) ?_
    simp only [Act.put, List.getElem_toArray, List.getElem_cons_succ, List.getElem_cons_zero, List.setIfInBounds_toArray, List.set_cons_succ, List.set_cons_zero]
    refine wpAnyH_take (i := 2) (v := _) rfl (by as_aux_lemma => kernel_rfl) (by as_aux_lemma => kernel_rfl) (by as_aux_lemma => kernel_rfl) (fun _ _ _ h => h) (Or.inl ⟨by rfl, fun w h => by have e0 := HG0.out w h; have e1 := HG1.out w h; have e2 := HG2.out w h; have e3 := HG3.out w h; clear h; go_simp; (try with_reducible rfl)⟩) (by assumption) ?_
    simp only [Act.put, List.getElem_toArray, List.getElem_cons_succ, List.getElem_cons_zero, List.setIfInBounds_toArray, List.set_cons_succ, List.set_cons_zero]
    refine wpAnyH_take (i := 3) (v := _) rfl (by as_aux_lemma => kernel_rfl) (by as_aux_lemma => kernel_rfl) (by as_aux_lemma => kernel_rfl) (fun _ _ _ h => h) (Or.inl ⟨by rfl, fun w h => by have e0 := HG0.out w h; have e1 := HG1.out w h; have e2 := HG2.out w h; have e3 := HG3.out w h; clear h; go_simp; (try with_reducible rfl)⟩) (by assumption) ?_
    simp only [Act.put, List.getElem_toArray, List.getElem_cons_succ, List.getElem_cons_zero, List.setIfInBounds_toArray, List.set_cons_succ, List.set_cons_zero]
    refine wpAnyH_take (i := 4) (v := _) rfl (by as_aux_lemma => kernel_rfl) (by as_aux_lemma => kernel_rfl) (by as_aux_lemma => kernel_rfl) (fun _ _ _ h => h) (Or.inl ⟨by rfl, fun w h => by have e0 := HG0.out w h; have e1 := HG1.out w h; have e2 := HG2.out w h; have e3 := HG3.out w h; clear h; go_simp; (try with_reducible rfl)⟩) (by assumption) ?_
    simp only [Act.put, List.getElem_toArray, List.getElem_cons_succ, List.getElem_cons_zero, List.setIfInBounds_toArray, List.set_cons_succ, List.set_cons_zero]
    refine wpAnyH_take (i := 5) (v := _) rfl (by as_aux_lemma => kernel_rfl) (by as_aux_lemma => kernel_rfl) (by as_aux_lemma => kernel_rfl) (fun _ _ _ h => h) (Or.inl ⟨by rfl, fun w h => by have e0 := HG0.out w h; have e1 := HG1.out w h; have e2 := HG2.out w h; have e3 := HG3.out w h; clear h; go_simp; (try with_reducible rfl)⟩) (by assumption) ?_
    simp only [Act.put, List.getElem_toArray, List.getElem_cons_succ, List.getElem_cons_zero, List.setIfInBounds_toArray, List.set_cons_succ, List.set_cons_zero]
    refine wpAnyH_take (i := 6) (v := _) rfl (by as_aux_lemma => kernel_rfl) (by as_aux_lemma => kernel_rfl) (by as_aux_lemma => kernel_rfl) (fun _ _ _ h => h) (Or.inl ⟨by rfl, fun w h => by have e0 := HG0.out w h; have e1 := HG1.out w h; have e2 := HG2.out w h; have e3 := HG3.out w h; clear h; go_simp; (try with_reducible rfl)⟩) (by assumption) ?_
    simp only [Act.put, List.getElem_toArray, List.getElem_cons_succ, List.getElem_cons_zero, List.setIfInBounds_toArray, List.set_cons_succ, List.set_cons_zero]
    refine wpAnyH_take (i := 7) (v := _) rfl (by as_aux_lemma => kernel_rfl) (by as_aux_lemma => kernel_rfl) (by as_aux_lemma => kernel_rfl) (fun _ _ _ h => h) (Or.inl ⟨by rfl, fun w h => by have e0 := HG0.out w h; have e1 := HG1.out w h; have e2 := HG2.out w h; have e3 := HG3.out w h; clear h; go_simp; (try with_reducible rfl)⟩) (by assumption) ?_
    simp only [Act.put, List.getElem_toArray, List.getElem_cons_succ, List.getElem_cons_zero, List.setIfInBounds_toArray, List.set_cons_succ, List.set_cons_zero]
    refine wpAnyH_ready (rs := [8, 10]) (by as_aux_lemma => kernel_rfl) (by simp) ?_
    refine AllReadyH.cons (i := 8) rfl (fun K hK => ?_) (AllReadyH.cons (i := 10) rfl (fun K hK => ?_) AllReadyH.nil)
    · go_simp
      refine (HBK.out _ HR0.out).mono ?_
      rintro e w5 ⟨v5, rfl, ho5, hb5⟩
      obtain ⟨A5, c5, hv5, -⟩ := ho5.form
      generalize (x.attrs.map acell).length = l5 at hv5
      subst hv5
      have hbl5 := HKB.out _ _ HR0.out hb5
      have hns := HR0.out.size
      rw [HN.out] at hns
      have ho5 := ho5.base_le hns
      have hns5 := hbl5.size
      rw [HN.out] at hns5
      refine hK.out _ _ hbl5 (fun hHeld' => ?_)
      clear hK K hHeld
      have hHeld := hHeld'
      clear hHeld'
      try simp only [Act.put]
      have HA : Hid (Whole (w5.alloc (.cells #[.string ⟨#[]⟩, .string ⟨#[]⟩, .string ⟨#[]⟩, .slice none 0 0, .slice none 0 0] 26)) w5.heap.size 26 #[.string ⟨#[]⟩, .string ⟨#[]⟩, .string ⟨#[]⟩, .slice none 0 0, .slice none 0 0] ∧ Below N w0 (w5.alloc (.cells #[.string ⟨#[]⟩, .string ⟨#[]⟩, .string ⟨#[]⟩, .slice none 0 0, .slice none 0 0] 26))) := Lib.hid ⟨Whole.new _ _ _, hbl5.alloc hns5 _⟩
      have HF : Hid (CK TR N w5.heap.size x 0 (.slice A5 l5 c5) (.slice none 0 0) [] ((w5.alloc (.cells #[.string ⟨#[]⟩, .string ⟨#[]⟩, .string ⟨#[]⟩, .slice none 0 0, .slice none 0 0] 26)).setRow w5.heap.size #[.string x.origin, .string x.name, .string x.time, .slice A5 l5 c5, .slice none 0 0]) ∧ Below N w0 ((w5.alloc (.cells #[.string ⟨#[]⟩, .string ⟨#[]⟩, .string ⟨#[]⟩, .slice none 0 0, .slice none 0 0] 26)).setRow w5.heap.size #[.string x.origin, .string x.name, .string x.time, .slice A5 l5 c5, .slice none 0 0])) := Lib.hid ⟨CK.start TR.ok hns5 (HA.out.1.row _) ((ho5.alloc _).farRow ((ho5.alloc _).apart HA.out.1 TR.ok.2.1.symm) _), below_row HA.out.2 hns5 _⟩
      clear ho5 hb5 hbl5 hns hns5
      refine wpAnyH_take (i := 9) (v := _) rfl (by as_aux_lemma => kernel_rfl) (by as_aux_lemma => kernel_rfl) (by as_aux_lemma => kernel_rfl) (fun _ _ _ h => h) (Or.inl ⟨by rfl, fun w h => by clear h; go_simp; (try with_reducible rfl)⟩) (by assumption) ?_
      simp only [Act.put, List.getElem_toArray, List.getElem_cons_succ, List.getElem_cons_zero, List.setIfInBounds_toArray, List.set_cons_succ, List.set_cons_zero]
      refine wpAnyH_ready (rs := [10]) (by as_aux_lemma => kernel_rfl) (by simp) ?_
      refine AllReadyH.cons (i := 10) rfl (fun K hK => ?_) AllReadyH.nil
      go_simp
      refine hK.out _ _ HA.out.2 (fun hHeld' => ?_)
      clear hK K hHeld
      have hHeld := hHeld'
      clear hHeld'
      try simp only [Act.put]
      refine wpAnyH_ready (rs := [11]) (by as_aux_lemma => kernel_rfl) (by simp) ?_
      refine AllReadyH.cons (i := 11) rfl (fun K hK => ?_) AllReadyH.nil
      refine step_storeS #[.string x.origin, .string x.name, .string x.time, .slice A5 l5 c5, .slice none 0 0] rfl 26 (.tmp 3) (.tmp 14) rfl rfl rfl HA.out.1 Try.sizeRsSes rfl rfl rfl ?_
      refine hK.out _ _ HF.out.2 (fun hHeld' => ?_)
      clear hK K hHeld
      have hHeld := hHeld'
      clear hHeld'
      try simp only [Act.put]
      refine wpAnyH_done (by as_aux_lemma => kernel_rfl) ?_ _
      clear hHeld
      go_wp2
      go_meet
      exact ⟨_, _, rfl, HF.out.1, HF.out.2⟩
    · have hns := HR0.out.size
      rw [HN.out] at hns
      have hs6 : Below N w0 (w0.alloc (.cells #[.string ⟨#[]⟩, .string ⟨#[]⟩, .string ⟨#[]⟩, .slice none 0 0, .slice none 0 0] 26)).drew := HR0.out.alloc hns _
      have hw6 : Whole (w0.alloc (.cells #[.string ⟨#[]⟩, .string ⟨#[]⟩, .string ⟨#[]⟩, .slice none 0 0, .slice none 0 0] 26)).drew w0.heap.size 26 #[.string ⟨#[]⟩, .string ⟨#[]⟩, .string ⟨#[]⟩, .slice none 0 0, .slice none 0 0] := Whole.new _ _ _
      go_simp
      refine hK.out _ _ hs6 (fun hHeld' => ?_)
      clear hK K hHeld
      have hHeld := hHeld'
      clear hHeld'
      try simp only [Act.put]
      refine wpAnyH_ready (rs := [8]) (by as_aux_lemma => kernel_rfl) (by simp) ?_
      refine AllReadyH.cons (i := 8) rfl (fun K hK => ?_) AllReadyH.nil
      go_simp
      refine (HBK.out _ hs6).mono ?_
      rintro e w5 ⟨v5, rfl, ho5, hb5⟩
      obtain ⟨A5, c5, hv5, -⟩ := ho5.form
      generalize (x.attrs.map acell).length = l5 at hv5
      subst hv5
      have hbl5 := HKB.out _ _ hs6 hb5
      have ho5 := ho5.base_le (Nat.le_trans hns (by show w0.heap.size ≤ (w0.alloc _).heap.size; rw [World.size_alloc]; omega))
      have hw5 := hw6.under hb5
      refine hK.out _ _ hbl5 (fun hHeld' => ?_)
      clear hK K hHeld
      have hHeld := hHeld'
      clear hHeld'
      try simp only [Act.put]
      have HA : Hid (Whole w5 w0.heap.size 26 #[.string ⟨#[]⟩, .string ⟨#[]⟩, .string ⟨#[]⟩, .slice none 0 0, .slice none 0 0] ∧ Below N w0 w5) := Lib.hid ⟨hw5, hbl5⟩
      have HF : Hid (CK TR N w0.heap.size x 0 (.slice A5 l5 c5) (.slice none 0 0) [] (w5.setRow w0.heap.size #[.string x.origin, .string x.name, .string x.time, .slice A5 l5 c5, .slice none 0 0]) ∧ Below N w0 (w5.setRow w0.heap.size #[.string x.origin, .string x.name, .string x.time, .slice A5 l5 c5, .slice none 0 0])) := Lib.hid ⟨CK.start TR.ok hns (HA.out.1.row _) (ho5.farRow (ho5.apart HA.out.1 TR.ok.2.1.symm) _), below_row HA.out.2 hns _⟩
      clear ho5 hb5 hbl5 hw5 hw6 hs6 hns
      refine wpAnyH_take (i := 9) (v := _) rfl (by as_aux_lemma => kernel_rfl) (by as_aux_lemma => kernel_rfl) (by as_aux_lemma => kernel_rfl) (fun _ _ _ h => h) (Or.inl ⟨by rfl, fun w h => by clear h; go_simp; (try with_reducible rfl)⟩) (by assumption) ?_
      simp only [Act.put, List.getElem_toArray, List.getElem_cons_succ, List.getElem_cons_zero, List.setIfInBounds_toArray, List.set_cons_succ, List.set_cons_zero]
      refine wpAnyH_ready (rs := [11]) (by as_aux_lemma => kernel_rfl) (by simp) ?_
      refine AllReadyH.cons (i := 11) rfl (fun K hK => ?_) AllReadyH.nil
      refine step_storeS #[.string x.origin, .string x.name, .string x.time, .slice A5 l5 c5, .slice none 0 0] rfl 26 (.tmp 3) (.tmp 14) rfl rfl rfl HA.out.1 Try.sizeRsSes rfl rfl rfl ?_
      refine hK.out _ _ HF.out.2 (fun hHeld' => ?_)
      clear hK K hHeld
      have hHeld := hHeld'
      clear hHeld'
      try simp only [Act.put]
      refine wpAnyH_done (by as_aux_lemma => kernel_rfl) ?_ _
      clear hHeld
      go_wp2
      go_meet
      exact ⟨_, _, rfl, HF.out.1, HF.out.2⟩
  case rest =>
    obtain ⟨go, vA, rfl, hck, hbl⟩ := hcut
    have HC0 := Lib.hid (And.intro hck hbl)
    have cx : wc.cell? ⟨B, 4, none⟩ = some (.slice P1 n j1) := (HX.out _ hbl).1.cell 4
    clear hck hbl HR0
    go_wp2
    clear cx
    go_loopw [18] (fun s18 wr => ∃ (k : Nat) (vP : Value) (us : List Value), k ≤ n ∧ s18 = .int .i64 k ∧ CK TR N go x k vA vP us wr ∧ Below N w0 wr) (fun s18 _ => n - (intOf s18).toNat)
    case atStart => exact ⟨0, _, _, Nat.zero_le _, rfl, HC0.out.1, HC0.out.2⟩
    case round =>
      clear HC0
      obtain ⟨k, vP, us, hk, rfl, hck, hbl⟩ := hrel
      have HK := Lib.hid (And.intro hck hbl)
      clear hck hbl
      by_cases hlt : k < n
      · obtain ⟨ad, c1', va, e1, b1, x0, x1, xa, xr⟩ := HVP.out.at_ (i := k) (by rw [HNN.out]; exact hlt)
        injection e1 with e1 e1n e1c
        clear e1n e1c
        subst e1
        have HP : Hid (x.parts[k]? = some (x.parts.getD k default)) := Lib.hid (getD_of (by rw [HNN.out]; exact hlt))
        have h32 := HF.out.at_ (k := k) (by rw [HNN.out]; exact hlt)
        obtain ⟨p, hp⟩ : ∃ p, x.parts.getD k default = p := ⟨_, rfl⟩
        rw [hp] at x0 x1 xr HP h32
        have hns := HK.out.2.size
        rw [HN.out] at hns
        have HNW : Hid (N ≤ wr.drew.heap.size) := Lib.hid hns
        have HBR : Hid (Calls Try.prog 28 #[va] wr.drew fun e w' => ∃ v', e = .returned v' ∧ Own w' wr.drew.heap.size 54 2 v' (p.attrs.map acell) ∧ Below wr.drew.heap.size wr.drew w') := Lib.hid (back_any _ p.attrs wr.drew ((xr.below HK.out.2.drew).more HNW.out) h32)
        have HS0 : Hid (∀ L, (TillOne (fun W => Below N w0 W) (fun W => W.cell? ⟨go, 4, none⟩ = some vP) 25) L wr.drew) := Lib.hid fun L => TillOne.mk HK.out.2.drew (HK.out.1.drew.box.cell 4)
        have HQ0 : Hid (∀ W, Ahead (TillOne (fun W => Below N w0 W) (fun W => W.cell? ⟨go, 4, none⟩ = some vP) 25) 25 W → W.cell? ⟨go, 4, none⟩ = some vP) := Lib.hid fun W h => (TillOne.get h).2
        have HQ1 : Hid (∀ W, Ahead (TillOne (fun W => Below N w0 W) (fun W => W.cell? ⟨go, 4, none⟩ = some vP) 25) 25 W → W.cell? ⟨B, 4, none⟩ = some (.slice (some ad) n j1)) := Lib.hid fun W h => (HX.out _ (TillOne.get h).1).1.cell 4
        have HQ2 : Hid (∀ W, Ahead (TillOne (fun W => Below N w0 W) (fun W => W.cell? ⟨go, 4, none⟩ = some vP) 25) 25 W → W.cell? (ad.add (k * 3)) = some (.string p.line)) := Lib.hid fun W h => ((TillOne.get h).1.cell (p := ad.add (k * 3)) (by rw [add_block]; exact b1)).trans x0
        have HQ3 : Hid (∀ W, Ahead (TillOne (fun W => Below N w0 W) (fun W => W.cell? ⟨go, 4, none⟩ = some vP) 25) 25 W → W.cell? ⟨(ad.add (k * 3)).block, (ad.add (k * 3)).off + 1, none⟩ = some (.string p.conn)) := Lib.hid fun W h => ((TillOne.get h).1.cell (p := ⟨(ad.add (k * 3)).block, (ad.add (k * 3)).off + 1, none⟩) (by show (ad.add (k * 3)).block < _; rw [add_block]; exact b1)).trans x1
        have HQ4 : Hid (∀ W, Ahead (TillOne (fun W => Below N w0 W) (fun W => W.cell? ⟨go, 4, none⟩ = some vP) 25) 25 W → W.cell? ⟨(ad.add (k * 3)).block, (ad.add (k * 3)).off + 2, none⟩ = some va) := Lib.hid fun W h => ((TillOne.get h).1.cell (p := ⟨(ad.add (k * 3)).block, (ad.add (k * 3)).off + 2, none⟩) (by show (ad.add (k * 3)).block < _; rw [add_block]; exact b1)).trans xa
        have hk0 : (0 : Int) ≤ (k : Int) := by omega
        have hk1 : (k : Int) < (n : Int) := by omega
        have e1 : IntKind.i64.wrap ((k : Int) + 1) = (k : Int) + 1 := IntWalk.i64_in _ (by omega)
        clear x0 x1 xa xr b1 hp h32 hns
        go_upto_region 5 with fail
        refine wp_region_late (TillOne (fun W => Below N w0 W) (fun W => W.cell? ⟨go, 4, none⟩ = some vP) 25) (by as_aux_lemma => kernel_rfl) ?_
        change wpLate Try.prog .any _ _ _ 26 #[false, false, false, false, false, false, false, false, false, false, false, false, false, false, false, false, false, false, false, false, false, false, false, false, false, false] _ _
        refine wpLate.take (i := 0) (q := 25) (oi := _) (v := ?_) rfl (by as_aux_lemma => kernel_rfl) (by as_aux_lemma => kernel_rfl) (by as_aux_lemma => kernel_rfl) (by as_aux_lemma => kernel_rfl) (by rfl) (fun _ _ _ h => h) (TillOne.set (by decide)) (HS0.out _) (Or.inl ⟨by rfl, ?_⟩) ?_
        case refine_2 => intro W hw; have e0 := HQ0.out W hw; have e1 := HQ1.out W hw; have e2 := HQ2.out W hw; have e3 := HQ3.out W hw; have e4 := HQ4.out W hw; clear hw; go_simp; (try with_reducible rfl)
        simp only [Act.put, List.setIfInBounds_toArray, List.set_cons_succ, List.set_cons_zero]
        refine wpLate.take (i := 1) (q := 25) (oi := _) (v := ?_) rfl (by as_aux_lemma => kernel_rfl) (by as_aux_lemma => kernel_rfl) (by as_aux_lemma => kernel_rfl) (by as_aux_lemma => kernel_rfl) (by rfl) (fun _ _ _ h => h) (TillOne.set (by decide)) (HS0.out _) (Or.inl ⟨by rfl, ?_⟩) ?_
        case refine_2 => intro W hw; have e0 := HQ0.out W hw; have e1 := HQ1.out W hw; have e2 := HQ2.out W hw; have e3 := HQ3.out W hw; have e4 := HQ4.out W hw; clear hw; go_simp; (try with_reducible rfl)
        simp only [Act.put, List.setIfInBounds_toArray, List.set_cons_succ, List.set_cons_zero]
        refine wpLate.take (i := 2) (q := 25) (oi := _) (v := ?_) rfl (by as_aux_lemma => kernel_rfl) (by as_aux_lemma => kernel_rfl) (by as_aux_lemma => kernel_rfl) (by as_aux_lemma => kernel_rfl) (by rfl) (fun _ _ _ h => h) (TillOne.set (by decide)) (HS0.out _) (Or.inl ⟨by rfl, ?_⟩) ?_
        case refine_2 => intro W hw; have e0 := HQ0.out W hw; have e1 := HQ1.out W hw; have e2 := HQ2.out W hw; have e3 := HQ3.out W hw; have e4 := HQ4.out W hw; clear hw; go_simp; (try with_reducible rfl)
        simp only [Act.put, List.setIfInBounds_toArray, List.set_cons_succ, List.set_cons_zero]
        refine wpLate.take (i := 3) (q := 25) (oi := _) (v := ?_) rfl (by as_aux_lemma => kernel_rfl) (by as_aux_lemma => kernel_rfl) (by as_aux_lemma => kernel_rfl) (by as_aux_lemma => kernel_rfl) (by rfl) (fun _ _ _ h => h) (TillOne.set (by decide)) (HS0.out _) (Or.inl ⟨by rfl, ?_⟩) ?_
        case refine_2 => intro W hw; have e0 := HQ0.out W hw; have e1 := HQ1.out W hw; have e2 := HQ2.out W hw; have e3 := HQ3.out W hw; have e4 := HQ4.out W hw; clear hw; go_simp; (try with_reducible rfl)
        simp only [Act.put, List.setIfInBounds_toArray, List.set_cons_succ, List.set_cons_zero]
        refine wpLate.take (i := 4) (q := 25) (oi := _) (v := ?_) rfl (by as_aux_lemma => kernel_rfl) (by as_aux_lemma => kernel_rfl) (by as_aux_lemma => kernel_rfl) (by as_aux_lemma => kernel_rfl) (by rfl) (fun _ _ _ h => h) (TillOne.set (by decide)) (HS0.out _) (Or.inl ⟨by rfl, ?_⟩) ?_
        case refine_2 => intro W hw; have e0 := HQ0.out W hw; have e1 := HQ1.out W hw; have e2 := HQ2.out W hw; have e3 := HQ3.out W hw; have e4 := HQ4.out W hw; clear hw; go_simp; (try with_reducible rfl)
        simp only [Act.put, List.setIfInBounds_toArray, List.set_cons_succ, List.set_cons_zero]
        refine wpLate.take (i := 5) (q := 25) (oi := _) (v := ?_) rfl (by as_aux_lemma => kernel_rfl) (by as_aux_lemma => kernel_rfl) (by as_aux_lemma => kernel_rfl) (by as_aux_lemma => kernel_rfl) (by rfl) (fun _ _ _ h => h) (TillOne.set (by decide)) (HS0.out _) (Or.inl ⟨by rfl, ?_⟩) ?_
        case refine_2 => intro W hw; have e0 := HQ0.out W hw; have e1 := HQ1.out W hw; have e2 := HQ2.out W hw; have e3 := HQ3.out W hw; have e4 := HQ4.out W hw; clear hw; go_simp; (try with_reducible rfl)
        simp only [Act.put, List.setIfInBounds_toArray, List.set_cons_succ, List.set_cons_zero]
        refine wpLate.take (i := 6) (q := 25) (oi := _) (v := ?_) rfl (by as_aux_lemma => kernel_rfl) (by as_aux_lemma => kernel_rfl) (by as_aux_lemma => kernel_rfl) (by as_aux_lemma => kernel_rfl) (by rfl) (fun _ _ _ h => h) (TillOne.set (by decide)) (HS0.out _) (Or.inl ⟨by rfl, ?_⟩) ?_
        case refine_2 => intro W hw; have e0 := HQ0.out W hw; have e1 := HQ1.out W hw; have e2 := HQ2.out W hw; have e3 := HQ3.out W hw; have e4 := HQ4.out W hw; clear hw; go_simp; (try with_reducible rfl)
        simp only [Act.put, List.setIfInBounds_toArray, List.set_cons_succ, List.set_cons_zero]
        refine wpLate.take (i := 7) (q := 25) (oi := _) (v := ?_) rfl (by as_aux_lemma => kernel_rfl) (by as_aux_lemma => kernel_rfl) (by as_aux_lemma => kernel_rfl) (by as_aux_lemma => kernel_rfl) (by rfl) (fun _ _ _ h => h) (TillOne.set (by decide)) (HS0.out _) (Or.inl ⟨by rfl, ?_⟩) ?_
        case refine_2 => intro W hw; have e0 := HQ0.out W hw; have e1 := HQ1.out W hw; have e2 := HQ2.out W hw; have e3 := HQ3.out W hw; have e4 := HQ4.out W hw; clear hw; go_simp; (try with_reducible rfl)
        simp only [Act.put, List.setIfInBounds_toArray, List.set_cons_succ, List.set_cons_zero]
        refine wpLate.take (i := 8) (q := 25) (oi := _) (v := ?_) rfl (by as_aux_lemma => kernel_rfl) (by as_aux_lemma => kernel_rfl) (by as_aux_lemma => kernel_rfl) (by as_aux_lemma => kernel_rfl) (by rfl) (fun _ _ _ h => h) (TillOne.set (by decide)) (HS0.out _) (Or.inl ⟨by rfl, ?_⟩) ?_
        case refine_2 => intro W hw; have e0 := HQ0.out W hw; have e1 := HQ1.out W hw; have e2 := HQ2.out W hw; have e3 := HQ3.out W hw; have e4 := HQ4.out W hw; clear hw; go_simp; (try with_reducible rfl)
        simp only [Act.put, List.setIfInBounds_toArray, List.set_cons_succ, List.set_cons_zero]
        refine wpLate.take (i := 9) (q := 25) (oi := _) (v := ?_) rfl (by as_aux_lemma => kernel_rfl) (by as_aux_lemma => kernel_rfl) (by as_aux_lemma => kernel_rfl) (by as_aux_lemma => kernel_rfl) (by rfl) (fun _ _ _ h => h) (TillOne.set (by decide)) (HS0.out _) (Or.inl ⟨by rfl, ?_⟩) ?_
        case refine_2 => intro W hw; have e0 := HQ0.out W hw; have e1 := HQ1.out W hw; have e2 := HQ2.out W hw; have e3 := HQ3.out W hw; have e4 := HQ4.out W hw; clear hw; go_simp; (try with_reducible rfl)
        simp only [Act.put, List.setIfInBounds_toArray, List.set_cons_succ, List.set_cons_zero]
        refine wpLate.take (i := 10) (q := 25) (oi := _) (v := ?_) rfl (by as_aux_lemma => kernel_rfl) (by as_aux_lemma => kernel_rfl) (by as_aux_lemma => kernel_rfl) (by as_aux_lemma => kernel_rfl) (by rfl) (fun _ _ _ h => h) (TillOne.set (by decide)) (HS0.out _) (Or.inl ⟨by rfl, ?_⟩) ?_
        case refine_2 => intro W hw; have e0 := HQ0.out W hw; have e1 := HQ1.out W hw; have e2 := HQ2.out W hw; have e3 := HQ3.out W hw; have e4 := HQ4.out W hw; clear hw; go_simp; (try with_reducible rfl)
        simp only [Act.put, List.setIfInBounds_toArray, List.set_cons_succ, List.set_cons_zero]
        refine wpLate.take (i := 11) (q := 25) (oi := _) (v := ?_) rfl (by as_aux_lemma => kernel_rfl) (by as_aux_lemma => kernel_rfl) (by as_aux_lemma => kernel_rfl) (by as_aux_lemma => kernel_rfl) (by rfl) (fun _ _ _ h => h) (TillOne.set (by decide)) (HS0.out _) (Or.inl ⟨by rfl, ?_⟩) ?_
        case refine_2 => intro W hw; have e0 := HQ0.out W hw; have e1 := HQ1.out W hw; have e2 := HQ2.out W hw; have e3 := HQ3.out W hw; have e4 := HQ4.out W hw; clear hw; go_simp; (try with_reducible rfl)
        simp only [Act.put, List.setIfInBounds_toArray, List.set_cons_succ, List.set_cons_zero]
        refine wpLate.take (i := 12) (q := 25) (oi := _) (v := ?_) rfl (by as_aux_lemma => kernel_rfl) (by as_aux_lemma => kernel_rfl) (by as_aux_lemma => kernel_rfl) (by as_aux_lemma => kernel_rfl) (by rfl) (fun _ _ _ h => h) (TillOne.set (by decide)) (HS0.out _) (Or.inl ⟨by rfl, ?_⟩) ?_
        case refine_2 => intro W hw; have e0 := HQ0.out W hw; have e1 := HQ1.out W hw; have e2 := HQ2.out W hw; have e3 := HQ3.out W hw; have e4 := HQ4.out W hw; clear hw; go_simp; (try with_reducible rfl)
        simp only [Act.put, List.setIfInBounds_toArray, List.set_cons_succ, List.set_cons_zero]
        refine wpLate.take (i := 13) (q := 25) (oi := _) (v := ?_) rfl (by as_aux_lemma => kernel_rfl) (by as_aux_lemma => kernel_rfl) (by as_aux_lemma => kernel_rfl) (by as_aux_lemma => kernel_rfl) (by rfl) (fun _ _ _ h => h) (TillOne.set (by decide)) (HS0.out _) (Or.inl ⟨by rfl, ?_⟩) ?_
        case refine_2 => intro W hw; have e0 := HQ0.out W hw; have e1 := HQ1.out W hw; have e2 := HQ2.out W hw; have e3 := HQ3.out W hw; have e4 := HQ4.out W hw; clear hw; go_simp; (try with_reducible rfl)
        simp only [Act.put, List.setIfInBounds_toArray, List.set_cons_succ, List.set_cons_zero]
        refine wpLate.take (i := 14) (q := 25) (oi := _) (v := ?_) rfl (by as_aux_lemma => kernel_rfl) (by as_aux_lemma => kernel_rfl) (by as_aux_lemma => kernel_rfl) (by as_aux_lemma => kernel_rfl) (by rfl) (fun _ _ _ h => h) (TillOne.set (by decide)) (HS0.out _) (Or.inl ⟨by rfl, ?_⟩) ?_
        case refine_2 => intro W hw; have e0 := HQ0.out W hw; have e1 := HQ1.out W hw; have e2 := HQ2.out W hw; have e3 := HQ3.out W hw; have e4 := HQ4.out W hw; clear hw; go_simp; (try with_reducible rfl)
        simp only [Act.put, List.setIfInBounds_toArray, List.set_cons_succ, List.set_cons_zero]
        refine wpLate.take (i := 15) (q := 25) (oi := _) (v := ?_) rfl (by as_aux_lemma => kernel_rfl) (by as_aux_lemma => kernel_rfl) (by as_aux_lemma => kernel_rfl) (by as_aux_lemma => kernel_rfl) (by rfl) (fun _ _ _ h => h) (TillOne.set (by decide)) (HS0.out _) (Or.inl ⟨by rfl, ?_⟩) ?_
        case refine_2 => intro W hw; have e0 := HQ0.out W hw; have e1 := HQ1.out W hw; have e2 := HQ2.out W hw; have e3 := HQ3.out W hw; have e4 := HQ4.out W hw; clear hw; go_simp; (try with_reducible rfl)
        simp only [Act.put, List.setIfInBounds_toArray, List.set_cons_succ, List.set_cons_zero]
        refine wpLate.take (i := 16) (q := 25) (oi := _) (v := ?_) rfl (by as_aux_lemma => kernel_rfl) (by as_aux_lemma => kernel_rfl) (by as_aux_lemma => kernel_rfl) (by as_aux_lemma => kernel_rfl) (by rfl) (fun _ _ _ h => h) (TillOne.set (by decide)) (HS0.out _) (Or.inl ⟨by rfl, ?_⟩) ?_
        case refine_2 => intro W hw; have e0 := HQ0.out W hw; have e1 := HQ1.out W hw; have e2 := HQ2.out W hw; have e3 := HQ3.out W hw; have e4 := HQ4.out W hw; clear hw; go_simp; (try with_reducible rfl)
        simp only [Act.put, List.setIfInBounds_toArray, List.set_cons_succ, List.set_cons_zero]
        refine wpLate.take (i := 17) (q := 25) (oi := _) (v := ?_) rfl (by as_aux_lemma => kernel_rfl) (by as_aux_lemma => kernel_rfl) (by as_aux_lemma => kernel_rfl) (by as_aux_lemma => kernel_rfl) (by rfl) (fun _ _ _ h => h) (TillOne.set (by decide)) (HS0.out _) (Or.inl ⟨by rfl, ?_⟩) ?_
        case refine_2 => intro W hw; have e0 := HQ0.out W hw; have e1 := HQ1.out W hw; have e2 := HQ2.out W hw; have e3 := HQ3.out W hw; have e4 := HQ4.out W hw; clear hw; go_simp; (try with_reducible rfl)
        simp only [Act.put, List.setIfInBounds_toArray, List.set_cons_succ, List.set_cons_zero]
        refine wpLate.take (i := 18) (q := 25) (oi := _) (v := ?_) rfl (by as_aux_lemma => kernel_rfl) (by as_aux_lemma => kernel_rfl) (by as_aux_lemma => kernel_rfl) (by as_aux_lemma => kernel_rfl) (by rfl) (fun _ _ _ h => h) (TillOne.set (by decide)) (HS0.out _) (Or.inl ⟨by rfl, ?_⟩) ?_
        case refine_2 => intro W hw; have e0 := HQ0.out W hw; have e1 := HQ1.out W hw; have e2 := HQ2.out W hw; have e3 := HQ3.out W hw; have e4 := HQ4.out W hw; clear hw; go_simp; (try with_reducible rfl)
        simp only [Act.put, List.setIfInBounds_toArray, List.set_cons_succ, List.set_cons_zero]
        refine wpLate.take (i := 19) (q := 25) (oi := _) (v := ?_) rfl (by as_aux_lemma => kernel_rfl) (by as_aux_lemma => kernel_rfl) (by as_aux_lemma => kernel_rfl) (by as_aux_lemma => kernel_rfl) (by rfl) (fun _ _ _ h => h) (TillOne.set (by decide)) (HS0.out _) (Or.inl ⟨by rfl, ?_⟩) ?_
        case refine_2 => intro W hw; have e0 := HQ0.out W hw; have e1 := HQ1.out W hw; have e2 := HQ2.out W hw; have e3 := HQ3.out W hw; have e4 := HQ4.out W hw; clear hw; go_simp; (try with_reducible rfl)
        simp only [Act.put, List.setIfInBounds_toArray, List.set_cons_succ, List.set_cons_zero]
        refine wpLate.ready (rs := [20]) (by as_aux_lemma => kernel_rfl) (by simp) (eachLate.cons rfl (fun K hK => ?_) eachLate.nil)
        go_simp
        refine HBR.out.mono ?_
        rintro e w5 ⟨v5, rfl, ho5, hb5⟩
        obtain ⟨A5, c5, hv5, -⟩ := ho5.form
        generalize (p.attrs.map acell).length = l5 at hv5
        subst hv5
        have ho5 := ho5.base_le HNW.out
        have hck5 := HK.out.1.drew.under hb5
        have hbl5 : Below N w0 w5 := HK.out.2.drew.trans (hb5.mono HNW.out)
        have hc5 := hck5.box.cell 4
        have hal := (Below.refl w5.heap.size w5).alloc (Nat.le_refl _) (.cells #[.string p.line, .string p.conn, .slice A5 l5 c5] 58)
        have HT5 : Hid (∀ L, (TillOne (fun W => Below N w0 W) (fun W => W.cell? ⟨go, 4, none⟩ = some vP) 25) L w5) := Lib.hid fun L => TillOne.mk hbl5 hc5
        have H5 : Hid (CK TR N go x k vA vP us (w5.alloc (.cells #[.string p.line, .string p.conn, .slice A5 l5 c5] 58)) ∧ Own (w5.alloc (.cells #[.string p.line, .string p.conn, .slice A5 l5 c5] 58)) N 54 2 (.slice A5 l5 c5) (p.attrs.map acell) ∧ Whole (w5.alloc (.cells #[.string p.line, .string p.conn, .slice A5 l5 c5] 58)) w5.heap.size 58 #[.string p.line, .string p.conn, .slice A5 l5 c5] ∧ Below N w0 (w5.alloc (.cells #[.string p.line, .string p.conn, .slice A5 l5 c5] 58))) := Lib.hid ⟨hck5.under hal, ho5.under hal, Whole.new _ _ _, hbl5.alloc (Nat.le_trans HNW.out hb5.size) _⟩
        refine hK.out _ _ (HT5.out _) ?_
        clear hK K hck5 hbl5 hc5 hal ho5 hb5
        try simp only [Act.put]
        refine wpLate.take (i := 21) (q := 25) (oi := _) (v := ?_) rfl (by as_aux_lemma => kernel_rfl) (by as_aux_lemma => kernel_rfl) (by as_aux_lemma => kernel_rfl) (by as_aux_lemma => kernel_rfl) (by rfl) (fun _ _ _ h => h) (TillOne.set (by decide)) (HT5.out _) (Or.inl ⟨by rfl, ?_⟩) ?_
        case refine_2 => intro W hw; have e0 := HQ0.out W hw; have e1 := HQ1.out W hw; have e2 := HQ2.out W hw; have e3 := HQ3.out W hw; have e4 := HQ4.out W hw; clear hw; go_simp; (try with_reducible rfl)
        simp only [Act.put, List.setIfInBounds_toArray, List.set_cons_succ, List.set_cons_zero]
        refine wpLate.ready (rs := [22]) (by as_aux_lemma => kernel_rfl) (by simp) (eachLate.cons rfl (fun K hK => ?_) eachLate.nil)
        have HT7 : Hid (∀ L, (TillOne (fun W => Below N w0 W) (fun W => W.cell? ⟨go, 4, none⟩ = some vP) 25) L (w5.alloc (.cells #[.string p.line, .string p.conn, .slice A5 l5 c5] 58))) := Lib.hid fun L => TillOne.mk H5.out.2.2.2 (H5.out.1.box.cell 4)
        go_simp
        refine hK.out _ _ (HT7.out _) ?_
        clear hK K
        try simp only [Act.put]
        generalize (w5.alloc (.cells #[.string p.line, .string p.conn, .slice A5 l5 c5] 58)) = w7 at *
        generalize w5.heap.size = g7 at *
        refine wpLate.ready (rs := [23]) (by as_aux_lemma => kernel_rfl) (by simp) (eachLate.cons rfl (fun K hK => ?_) eachLate.nil)
        have hl7 := H5.out.1.len
        have hnw7 : N ≤ w7.heap.size := by have := H5.out.1.own; have := H5.out.1.box.lt; omega
        refine step_of rfl (wp_appendE (r := [.string p.line, .string p.conn, .slice A5 l5 c5]) (.tmp 22) (.tmp 43) rfl Try.underlying24 Try.infoRSPart rfl (Nat.zero_lt_succ _) rfl H5.out.1.par rfl H5.out.2.2.1 rfl (fun u hu => by simp at hu; rcases hu with rfl | rfl | rfl <;> rfl) (by rw [hl7]; omega) (by rw [hl7]; omega) hnw7 ?_)
        intro v8 w8 ho8 hg8 hn8
        have hbx8 := H5.out.1.box.grown hg8 (fun e => (H5.out.1.par.apart H5.out.1.box TR.ok.1.symm) e.symm)
        have hbl8 : Below N w0 w8 := H5.out.2.2.2.grown hg8 hnw7 (fun j hj => (H5.out.1.par.lt hj).1)
        have c8 := hbx8.cell 4
        have f8 := hbx8.frz 4
        have HT8 : Hid (∀ L, (TillOne (fun W => Below N w0 W) (fun W => W.cell? ⟨go, 4, none⟩ = some vP) 25) L w8) := Lib.hid fun L => TillOne.mk hbl8 c8
        have HS9 : Hid (∀ L, L.getD 25 true = true → (TillOne (fun W => Below N w0 W) (fun W => W.cell? ⟨go, 4, none⟩ = some vP) 25) L (w8.setCell ⟨go, 4, none⟩ v8)) := Lib.hid fun L hL => TillOne.past (hbl8.setCell (p := ⟨go, 4, none⟩) H5.out.1.own v8) hL
        have HFIN := Lib.hid (And.intro (H5.out.1.next TR.ok HP.out H5.out.2.1 ho8 hg8 ho8.one) (hbl8.setCell (p := ⟨go, 4, none⟩) H5.out.1.own v8))
        obtain ⟨A8, k8, hv8, -⟩ := ho8.form
        generalize (List.zipWith pcell (x.parts.take k) us ++ [[Value.string p.line, Value.string p.conn, Value.slice A5 l5 c5]]).length = l8 at hv8
        subst hv8
        clear ho8 hg8 hn8 hbx8 hbl8 H5 hl7 hnw7
        refine hK.out _ _ (HT8.out _) ?_
        clear hK K
        try simp only [Act.put]
        refine wpLate.take (i := 24) (q := 25) (oi := _) (v := ?_) rfl (by as_aux_lemma => kernel_rfl) (by as_aux_lemma => kernel_rfl) (by as_aux_lemma => kernel_rfl) (by as_aux_lemma => kernel_rfl) (by rfl) (fun _ _ _ h => h) (TillOne.set (by decide)) (HT8.out _) (Or.inl ⟨by rfl, ?_⟩) ?_
        case refine_2 => intro W hw; have e0 := HQ0.out W hw; have e1 := HQ1.out W hw; have e2 := HQ2.out W hw; have e3 := HQ3.out W hw; have e4 := HQ4.out W hw; clear hw; go_simp; (try with_reducible rfl)
        simp only [Act.put, List.setIfInBounds_toArray, List.set_cons_succ, List.set_cons_zero]
        refine wpLate.ready (rs := [25]) (by as_aux_lemma => kernel_rfl) (by simp) (eachLate.cons rfl (fun K hK => ?_) eachLate.nil)
        go_simp
        refine hK.out _ _ (HS9.out _ rfl) ?_
        clear hK K
        try simp only [Act.put]
        refine wpLate.done (by as_aux_lemma => kernel_rfl) ?_ _
        go_wp2
        go_roundw
        case rel => exact ⟨k + 1, _, _, by omega, by go_num, HFIN.out.1, HFIN.out.2⟩
        case measure => simp [intOf]; omega
      · obtain rfl : k = n := by omega
        have HFW : Hid (Whole wr go 26 #[.string x.origin, .string x.name, .string x.time, vA, vP] ∧ Whole wr (B + 1) 26 #[.string ⟨#[]⟩, .string ⟨#[]⟩, .string ⟨#[]⟩, .slice none 0 0, .slice none 0 0]) := Lib.hid ⟨HK.out.1.box, (HX.out _ HK.out.2).2⟩
        have HRD := Lib.hid (HK.out.1.read HNN.out.symm)
        have HONE : Hid ((#[.string x.origin, .string x.name, .string x.time, vA, vP] : Array Value).toList.all (·.oneCell') = true) := Lib.hid (by simp only [List.all_cons, List.all_nil, HK.out.1.att.one, HK.out.1.par.one]; rfl)
        have HFIN : Hid (CopyO w x (.returned (.agg #[.string x.origin, .string x.name, .string x.time, vA, vP])) (wr.setRow (B + 1) #[.string x.origin, .string x.name, .string x.time, vA, vP])) := Lib.hid (by
          have hgo : go ≠ B + 1 := by have := HK.out.1.own; have := HBN.out.2; omega
          have hck := (HK.out.1.farRow TR.ok HFW.out.2 hgo #[.string x.origin, .string x.name, .string x.time, vA, vP]).read HNN.out.symm
          refine ⟨_, vA, vP, rfl, ⟨rfl, hck.1, hck.2⟩, below_row ?_ (by rw [HBE.out]; exact Nat.le_succ B) _⟩
          exact HB0.out.trans (HK.out.2.mono (by rw [HBE.out]; have := HBN.out; omega)))
        go_wp2_with (first | ((with_reducible refine wpList_load_all ?_ 26 (.tmp 3) ?_ HFW.out.1 ?_ Try.sizeRsSes ?_ Try.underlying26 ?_ ?_); (with_reducible rfl); (with_reducible rfl); rfl; rfl; rfl) | ((with_reducible refine wpList_storeS #[.string x.origin, .string x.name, .string x.time, vA, vP] ?_ 26 (.tmp 2) (.tmp 47) ?_ ?_ ?_ HFW.out.2 Try.sizeRsSes ?_ ?_ HONE.out ?_); (with_reducible rfl); (with_reducible rfl); rfl; rfl; rfl; rfl))
        (with_reducible show bodyPost _ _ _ _ _ _)
        exact bodyPost_ret (ret_struct rfl rfl (HFW.out.2.row _) Try.underlying26 rfl Try.sizeRsSes rfl) rfl HFIN.out

set_option maxHeartbeats 6400000 in
set_option maxRecDepth 100000 in
theorem theirs_any (X : Array Value) (x : SesS) (a1 p1 : Value) (w : World) (h : SesV w w.heap.size X x a1 p1) (hf : Fits x) : Calls Try.prog 15 #[.agg X] w (CopyO w x) := by
  obtain ⟨e1, va1, vp1⟩ := h
  subst e1
  obtain ⟨A1, k1, rfl, -⟩ := va1.form
  obtain ⟨P1, j1, rfl, hj1, hm1, -⟩ := vp1.form
  obtain ⟨n1, hn1⟩ : ∃ n, x.attrs.length = n := ⟨_, rfl⟩
  obtain ⟨n, hn⟩ : ∃ n, x.parts.length = n := ⟨_, rfl⟩
  rw [hn1] at va1
  rw [hn] at vp1 hj1
  rw [hn1, hn]
  have hn56 : n * 56 ≤ 140737488351232 := by rw [← hn]; exact hf.2.1
  have hb := two_new (w := w) 26 33 #[.string x.origin, .string x.name, .string x.time, .slice A1 n1 k1, .slice P1 n j1] #[.string ⟨#[]⟩, .string ⟨#[]⟩, .string ⟨#[]⟩, .slice none 0 0, .slice none 0 0]
  have g1 := (Whole.new w 26 #[.string x.origin, .string x.name, .string x.time, .slice A1 n1 k1, .slice P1 n j1]).alloc (.cells #[.string ⟨#[]⟩, .string ⟨#[]⟩, .string ⟨#[]⟩, .slice none 0 0, .slice none 0 0] 33)
  have g2 := Whole.new2 w (.cells #[.string x.origin, .string x.name, .string x.time, .slice A1 n1 k1, .slice P1 n j1] 26) 33 #[.string ⟨#[]⟩, .string ⟨#[]⟩, .string ⟨#[]⟩, .slice none 0 0, .slice none 0 0]
  have va := (va1.below hb).more hb.size
  have vp := (vp1.below hb).more hb.size
  have HNN := Lib.hid hn
  have HF := Lib.hid hf
  clear hn1 hn va1 vp1 hf
  obtain ⟨B, hB⟩ : ∃ B, w.heap.size = B := ⟨_, rfl⟩
  have HBE := Lib.hid hB
  rw [hB] at g1 g2
  clear hB
  unfold maxLen at hm1
  go_enter Try.func15, Try.ntmps15
  go_upto_region 1 with fail
  generalize hw0 : (w.alloc (.cells #[.string x.origin, .string x.name, .string x.time, .slice A1 n1 k1, .slice P1 n j1] 26)).alloc (.cells #[.string ⟨#[]⟩, .string ⟨#[]⟩, .string ⟨#[]⟩, .slice none 0 0, .slice none 0 0] 33) = w0 at *
  clear hw0
  rw [HBE.out]
  obtain ⟨N, hN⟩ : ∃ N, w0.heap.size = N := ⟨_, rfl⟩
  have HN := Lib.hid hN
  rw [hN] at va vp
  have hBN : B < N ∧ B + 1 < N := by rw [← hN]; exact ⟨g1.lt, g2.lt⟩
  have HKB : Hid (∀ W W', Below N w0 W → Below W.heap.size W W' → Below N w0 W') := Lib.hid fun W W' h1 h2 => h1.trans (h2.mono (by have := h1.size; rw [hN] at this; exact this))
  have HBK : Hid (∀ W, Below N w0 W → Calls Try.prog 33 #[.slice A1 n1 k1] W fun e w' => ∃ v', e = .returned v' ∧ Own w' W.heap.size 49 2 v' (x.attrs.map acell) ∧ Below W.heap.size W w') := Lib.hid fun W hW => attrs_any _ x.attrs W ((va.below hW).more (by have := hW.size; rw [hN] at this; exact this)) HF.out.1
  have HX : Hid (∀ W, Below N w0 W → Whole W B 26 #[.string x.origin, .string x.name, .string x.time, .slice A1 n1 k1, .slice P1 n j1] ∧ Whole W (B + 1) 33 #[.string ⟨#[]⟩, .string ⟨#[]⟩, .string ⟨#[]⟩, .slice none 0 0, .slice none 0 0]) := Lib.hid fun W hW => ⟨g1.below hW hBN.1, g2.below hW hBN.2⟩
  have HG0 : Hid (∀ W, Below N w0 W → W.cell? ⟨B, 0, none⟩ = some (.string x.origin)) := Lib.hid fun W hW => (HX.out W hW).1.cell 0
  have HG1 : Hid (∀ W, Below N w0 W → W.cell? ⟨B, 1, none⟩ = some (.string x.name)) := Lib.hid fun W hW => (HX.out W hW).1.cell 1
  have HG2 : Hid (∀ W, Below N w0 W → W.cell? ⟨B, 2, none⟩ = some (.string x.time)) := Lib.hid fun W hW => (HX.out W hW).1.cell 2
  have HG3 : Hid (∀ W, Below N w0 W → W.cell? ⟨B, 3, none⟩ = some (.slice A1 n1 k1)) := Lib.hid fun W hW => (HX.out W hW).1.cell 3
  have HR0 : Hid (Below N w0 w0.drew) := Lib.hid (Below.refl _ _).drew
  have HVP := Lib.hid vp
  have HB0 := Lib.hid hb
  have HBN := Lib.hid hBN
  clear va vp g1 g2 hN hb hBN
  go_cut [3] from 3 to 15 (fun s3 wc => ∃ go vA, s3 = .pointer (some ⟨go, 0, none⟩) ∧ CK TS N go x 0 vA (.slice none 0 0) [] wc ∧ Below N w0 wc)
  case first =>
    refine wp_region_held_drew (S := fun W => Below N w0 W) (by kernel_rfl) HR0.out (fun hHeld => ?_)
    refine wpAnyH_take (i := 0) (v := _) rfl (by as_aux_lemma => kernel_rfl) (by as_aux_lemma => kernel_rfl) (by as_aux_lemma => kernel_rfl) (fun _ _ _ h => h) (Or.inl ⟨by rfl, fun w h => by have e0 := HG0.out w h; have e1 := HG1.out w h; have e2 := HG2.out w h; have e3 := HG3.out w h; clear h; go_simp; (try with_reducible rfl)⟩) (by assumption) ?_
    simp only [Act.put, List.getElem_toArray, List.getElem_cons_succ, List.getElem_cons_zero, List.setIfInBounds_toArray, List.set_cons_succ, List.set_cons_zero]
    refine wpAnyH_take (i := 1) (v := _) rfl (by as_aux_lemma => kernel_rfl) (by as_aux_lemma => kernel_rfl) (by as_aux_lemma => kernel_rfl) (fun _ _ _ h => h) (Or.inl ⟨by rfl, fun w h => by have e0 := HG0.out w h; have e1 := HG1.out w h; have e2 := HG2.out w h; have e3 := HG3.out w h; clear h; go_simp; (try with_reducible rfl)⟩) (by assumption) ?_
    simp only [Act.put, List.getElem_toArray, List.getElem_cons_succ, List.getElem_cons_zero, List.setIfInBounds_toArray, List.set_cons_succ, List.set_cons_zero]
    refine wpAnyH_take (i := 2) (v := _) rfl (by as_aux_lemma => kernel_rfl) (by as_aux_lemma => kernel_rfl) (by as_aux_lemma => kernel_rfl) (fun _ _ _ h => h) (Or.inl ⟨by rfl, fun w h => by have e0 := HG0.out w h; have e1 := HG1.out w h; have e2 := HG2.out w h; have e3 := HG3.out w h; clear h; go_simp; (try with_reducible rfl)⟩) (by assumption) ?_
    simp only [Act.put, List.getElem_toArray, List.getElem_cons_succ, List.getElem_cons_zero, List.setIfInBounds_toArray, List.set_cons_succ, List.set_cons_zero]
    refine wpAnyH_take (i := 3) (v := _) rfl (by as_aux_lemma => kernel_rfl) (by as_aux_lemma => kernel_rfl) (by as_aux_lemma => kernel_rfl) (fun _ _ _ h => h) (Or.inl ⟨by rfl, fun w h => by have e0 := HG0.out w h; have e1 := HG1.out w h; have e2 := HG2.out w h; have e3 := HG3.out w h; clear h; go_simp; (try with_reducible rfl)⟩) (by assumption) ?_
    simp only [Act.put, List.getElem_toArray, List.getElem_cons_succ, List.getElem_cons_zero, List.setIfInBounds_toArray, List.set_cons_succ, List.set_cons_zero]
    refine wpAnyH_take (i := 4) (v := _) rfl (by as_aux_lemma => kernel_rfl) (by as_aux_lemma => kernel_rfl) (by as_aux_lemma => kernel_rfl) (fun _ _ _ h => h) (Or.inl ⟨by rfl, fun w h => by have e0 := HG0.out w h; have e1 := HG1.out w h; have e2 := HG2.out w h; have e3 := HG3.out w h; clear h; go_simp; (try with_reducible rfl)⟩) (by assumption) ?_
    simp only [Act.put, List.getElem_toArray, List.getElem_cons_succ, List.getElem_cons_zero, List.setIfInBounds_toArray, List.set_cons_succ, List.set_cons_zero]
    refine wpAnyH_take (i := 5) (v := _) rfl (by as_aux_lemma => kernel_rfl) (by as_aux_lemma => kernel_rfl) (by as_aux_lemma => kernel_rfl) (fun _ _ _ h => h) (Or.inl ⟨by rfl, fun w h => by have e0 := HG0.out w h; have e1 := HG1.out w h; have e2 := HG2.out w h; have e3 := HG3.out w h; clear h; go_simp; (try with_reducible rfl)⟩) (by assumption) ?_
    simp only [Act.put, List.getElem_toArray, List.getElem_cons_succ, List.getElem_cons_zero, List.setIfInBounds_toArray, List.set_cons_succ, List.set_cons_zero]
    refine wpAnyH_take (i := 6) (v := _) rfl (by as_aux_lemma => kernel_rfl) (by as_aux_lemma => kernel_rfl) (by as_aux_lemma => kernel_rfl) (fun _ _ _ h => h) (Or.inl ⟨by rfl, fun w h => by have e0 := HG0.out w h; have e1 := HG1.out w h; have e2 := HG2.out w h; have e3 := HG3.out w h; clear h; go_simp; (try with_reducible rfl)⟩) (by assumption) ?_
    simp only [Act.put, List.getElem_toArray, List.getElem_cons_succ, List.getElem_cons_zero, List.setIfInBounds_toArray, List.set_cons_succ, List.set_cons_zero]
    refine wpAnyH_take (i := 7) (v := _) rfl (by as_aux_lemma => kernel_rfl) (by as_aux_lemma => kernel_rfl) (by as_aux_lemma => kernel_rfl) (fun _ _ _ h => h) (Or.inl ⟨by rfl, fun w h => by have e0 := HG0.out w h; have e1 := HG1.out w h; have e2 := HG2.out w h; have e3 := HG3.out w h; clear h; go_simp; (try with_reducible rfl)⟩) (by assumption) ?_
    simp only [Act.put, List.getElem_toArray, List.getElem_cons_succ, List.getElem_cons_zero, List.setIfInBounds_toArray, List.set_cons_succ, List.set_cons_zero]
    refine wpAnyH_ready (rs := [8, 10]) (by as_aux_lemma => kernel_rfl) (by simp) ?_
    refine AllReadyH.cons (i := 8) rfl (fun K hK => ?_) (AllReadyH.cons (i := 10) rfl (fun K hK => ?_) AllReadyH.nil)
    · go_simp
      refine (HBK.out _ HR0.out).mono ?_
      rintro e w5 ⟨v5, rfl, ho5, hb5⟩
      obtain ⟨A5, c5, hv5, -⟩ := ho5.form
      generalize (x.attrs.map acell).length = l5 at hv5
      subst hv5
      have hbl5 := HKB.out _ _ HR0.out hb5
      have hns := HR0.out.size
      rw [HN.out] at hns
      have ho5 := ho5.base_le hns
      have hns5 := hbl5.size
      rw [HN.out] at hns5
      refine hK.out _ _ hbl5 (fun hHeld' => ?_)
      clear hK K hHeld
      have hHeld := hHeld'
      clear hHeld'
      try simp only [Act.put]
      have HA : Hid (Whole (w5.alloc (.cells #[.string ⟨#[]⟩, .string ⟨#[]⟩, .string ⟨#[]⟩, .slice none 0 0, .slice none 0 0] 33)) w5.heap.size 33 #[.string ⟨#[]⟩, .string ⟨#[]⟩, .string ⟨#[]⟩, .slice none 0 0, .slice none 0 0] ∧ Below N w0 (w5.alloc (.cells #[.string ⟨#[]⟩, .string ⟨#[]⟩, .string ⟨#[]⟩, .slice none 0 0, .slice none 0 0] 33))) := Lib.hid ⟨Whole.new _ _ _, hbl5.alloc hns5 _⟩
      have HF : Hid (CK TS N w5.heap.size x 0 (.slice A5 l5 c5) (.slice none 0 0) [] ((w5.alloc (.cells #[.string ⟨#[]⟩, .string ⟨#[]⟩, .string ⟨#[]⟩, .slice none 0 0, .slice none 0 0] 33)).setRow w5.heap.size #[.string x.origin, .string x.name, .string x.time, .slice A5 l5 c5, .slice none 0 0]) ∧ Below N w0 ((w5.alloc (.cells #[.string ⟨#[]⟩, .string ⟨#[]⟩, .string ⟨#[]⟩, .slice none 0 0, .slice none 0 0] 33)).setRow w5.heap.size #[.string x.origin, .string x.name, .string x.time, .slice A5 l5 c5, .slice none 0 0])) := Lib.hid ⟨CK.start TS.ok hns5 (HA.out.1.row _) ((ho5.alloc _).farRow ((ho5.alloc _).apart HA.out.1 TS.ok.2.1.symm) _), below_row HA.out.2 hns5 _⟩
      clear ho5 hb5 hbl5 hns hns5
      refine wpAnyH_take (i := 9) (v := _) rfl (by as_aux_lemma => kernel_rfl) (by as_aux_lemma => kernel_rfl) (by as_aux_lemma => kernel_rfl) (fun _ _ _ h => h) (Or.inl ⟨by rfl, fun w h => by clear h; go_simp; (try with_reducible rfl)⟩) (by assumption) ?_
      simp only [Act.put, List.getElem_toArray, List.getElem_cons_succ, List.getElem_cons_zero, List.setIfInBounds_toArray, List.set_cons_succ, List.set_cons_zero]
      refine wpAnyH_ready (rs := [10]) (by as_aux_lemma => kernel_rfl) (by simp) ?_
      refine AllReadyH.cons (i := 10) rfl (fun K hK => ?_) AllReadyH.nil
      go_simp
      refine hK.out _ _ HA.out.2 (fun hHeld' => ?_)
      clear hK K hHeld
      have hHeld := hHeld'
      clear hHeld'
      try simp only [Act.put]
      refine wpAnyH_ready (rs := [11]) (by as_aux_lemma => kernel_rfl) (by simp) ?_
      refine AllReadyH.cons (i := 11) rfl (fun K hK => ?_) AllReadyH.nil
      refine step_storeS #[.string x.origin, .string x.name, .string x.time, .slice A5 l5 c5, .slice none 0 0] rfl 33 (.tmp 3) (.tmp 14) rfl rfl rfl HA.out.1 Try.sizeSSes rfl rfl rfl ?_
      refine hK.out _ _ HF.out.2 (fun hHeld' => ?_)
      clear hK K hHeld
      have hHeld := hHeld'
      clear hHeld'
      try simp only [Act.put]
      refine wpAnyH_done (by as_aux_lemma => kernel_rfl) ?_ _
      clear hHeld
      go_wp2
      go_meet
      exact ⟨_, _, rfl, HF.out.1, HF.out.2⟩
    · have hns := HR0.out.size
      rw [HN.out] at hns
      have hs6 : Below N w0 (w0.alloc (.cells #[.string ⟨#[]⟩, .string ⟨#[]⟩, .string ⟨#[]⟩, .slice none 0 0, .slice none 0 0] 33)).drew := HR0.out.alloc hns _
      have hw6 : Whole (w0.alloc (.cells #[.string ⟨#[]⟩, .string ⟨#[]⟩, .string ⟨#[]⟩, .slice none 0 0, .slice none 0 0] 33)).drew w0.heap.size 33 #[.string ⟨#[]⟩, .string ⟨#[]⟩, .string ⟨#[]⟩, .slice none 0 0, .slice none 0 0] := Whole.new _ _ _
      go_simp
      refine hK.out _ _ hs6 (fun hHeld' => ?_)
      clear hK K hHeld
      have hHeld := hHeld'
      clear hHeld'
      try simp only [Act.put]
      refine wpAnyH_ready (rs := [8]) (by as_aux_lemma => kernel_rfl) (by simp) ?_
      refine AllReadyH.cons (i := 8) rfl (fun K hK => ?_) AllReadyH.nil
      go_simp
      refine (HBK.out _ hs6).mono ?_
      rintro e w5 ⟨v5, rfl, ho5, hb5⟩
      obtain ⟨A5, c5, hv5, -⟩ := ho5.form
      generalize (x.attrs.map acell).length = l5 at hv5
      subst hv5
      have hbl5 := HKB.out _ _ hs6 hb5
      have ho5 := ho5.base_le (Nat.le_trans hns (by show w0.heap.size ≤ (w0.alloc _).heap.size; rw [World.size_alloc]; omega))
      have hw5 := hw6.under hb5
      refine hK.out _ _ hbl5 (fun hHeld' => ?_)
      clear hK K hHeld
      have hHeld := hHeld'
      clear hHeld'
      try simp only [Act.put]
      have HA : Hid (Whole w5 w0.heap.size 33 #[.string ⟨#[]⟩, .string ⟨#[]⟩, .string ⟨#[]⟩, .slice none 0 0, .slice none 0 0] ∧ Below N w0 w5) := Lib.hid ⟨hw5, hbl5⟩
      have HF : Hid (CK TS N w0.heap.size x 0 (.slice A5 l5 c5) (.slice none 0 0) [] (w5.setRow w0.heap.size #[.string x.origin, .string x.name, .string x.time, .slice A5 l5 c5, .slice none 0 0]) ∧ Below N w0 (w5.setRow w0.heap.size #[.string x.origin, .string x.name, .string x.time, .slice A5 l5 c5, .slice none 0 0])) := Lib.hid ⟨CK.start TS.ok hns (HA.out.1.row _) (ho5.farRow (ho5.apart HA.out.1 TS.ok.2.1.symm) _), below_row HA.out.2 hns _⟩
      clear ho5 hb5 hbl5 hw5 hw6 hs6 hns
      refine wpAnyH_take (i := 9) (v := _) rfl (by as_aux_lemma => kernel_rfl) (by as_aux_lemma => kernel_rfl) (by as_aux_lemma => kernel_rfl) (fun _ _ _ h => h) (Or.inl ⟨by rfl, fun w h => by clear h; go_simp; (try with_reducible rfl)⟩) (by assumption) ?_
      simp only [Act.put, List.getElem_toArray, List.getElem_cons_succ, List.getElem_cons_zero, List.setIfInBounds_toArray, List.set_cons_succ, List.set_cons_zero]
      refine wpAnyH_ready (rs := [11]) (by as_aux_lemma => kernel_rfl) (by simp) ?_
      refine AllReadyH.cons (i := 11) rfl (fun K hK => ?_) AllReadyH.nil
      refine step_storeS #[.string x.origin, .string x.name, .string x.time, .slice A5 l5 c5, .slice none 0 0] rfl 33 (.tmp 3) (.tmp 14) rfl rfl rfl HA.out.1 Try.sizeSSes rfl rfl rfl ?_
      refine hK.out _ _ HF.out.2 (fun hHeld' => ?_)
      clear hK K hHeld
      have hHeld := hHeld'
      clear hHeld'
      try simp only [Act.put]
      refine wpAnyH_done (by as_aux_lemma => kernel_rfl) ?_ _
      clear hHeld
      go_wp2
      go_meet
      exact ⟨_, _, rfl, HF.out.1, HF.out.2⟩
  case rest =>
    obtain ⟨go, vA, rfl, hck, hbl⟩ := hcut
    have HC0 := Lib.hid (And.intro hck hbl)
    have cx : wc.cell? ⟨B, 4, none⟩ = some (.slice P1 n j1) := (HX.out _ hbl).1.cell 4
    clear hck hbl HR0
    go_wp2
    clear cx
    go_loopw [18] (fun s18 wr => ∃ (k : Nat) (vP : Value) (us : List Value), k ≤ n ∧ s18 = .int .i64 k ∧ CK TS N go x k vA vP us wr ∧ Below N w0 wr) (fun s18 _ => n - (intOf s18).toNat)
    case atStart => exact ⟨0, _, _, Nat.zero_le _, rfl, HC0.out.1, HC0.out.2⟩
    case round =>
      clear HC0
      obtain ⟨k, vP, us, hk, rfl, hck, hbl⟩ := hrel
      have HK := Lib.hid (And.intro hck hbl)
      clear hck hbl
      by_cases hlt : k < n
      · obtain ⟨ad, c1', va, e1, b1, x0, x1, xa, xr⟩ := HVP.out.at_ (i := k) (by rw [HNN.out]; exact hlt)
        injection e1 with e1 e1n e1c
        clear e1n e1c
        subst e1
        have HP : Hid (x.parts[k]? = some (x.parts.getD k default)) := Lib.hid (getD_of (by rw [HNN.out]; exact hlt))
        have h32 := HF.out.at_ (k := k) (by rw [HNN.out]; exact hlt)
        obtain ⟨p, hp⟩ : ∃ p, x.parts.getD k default = p := ⟨_, rfl⟩
        rw [hp] at x0 x1 xr HP h32
        have hns := HK.out.2.size
        rw [HN.out] at hns
        have HNW : Hid (N ≤ wr.drew.heap.size) := Lib.hid hns
        have HBR : Hid (Calls Try.prog 33 #[va] wr.drew fun e w' => ∃ v', e = .returned v' ∧ Own w' wr.drew.heap.size 49 2 v' (p.attrs.map acell) ∧ Below wr.drew.heap.size wr.drew w') := Lib.hid (attrs_any _ p.attrs wr.drew ((xr.below HK.out.2.drew).more HNW.out) h32)
        have HS0 : Hid (∀ L, (TillOne (fun W => Below N w0 W) (fun W => W.cell? ⟨go, 4, none⟩ = some vP) 25) L wr.drew) := Lib.hid fun L => TillOne.mk HK.out.2.drew (HK.out.1.drew.box.cell 4)
        have HQ0 : Hid (∀ W, Ahead (TillOne (fun W => Below N w0 W) (fun W => W.cell? ⟨go, 4, none⟩ = some vP) 25) 25 W → W.cell? ⟨go, 4, none⟩ = some vP) := Lib.hid fun W h => (TillOne.get h).2
        have HQ1 : Hid (∀ W, Ahead (TillOne (fun W => Below N w0 W) (fun W => W.cell? ⟨go, 4, none⟩ = some vP) 25) 25 W → W.cell? ⟨B, 4, none⟩ = some (.slice (some ad) n j1)) := Lib.hid fun W h => (HX.out _ (TillOne.get h).1).1.cell 4
        have HQ2 : Hid (∀ W, Ahead (TillOne (fun W => Below N w0 W) (fun W => W.cell? ⟨go, 4, none⟩ = some vP) 25) 25 W → W.cell? (ad.add (k * 3)) = some (.string p.line)) := Lib.hid fun W h => ((TillOne.get h).1.cell (p := ad.add (k * 3)) (by rw [add_block]; exact b1)).trans x0
        have HQ3 : Hid (∀ W, Ahead (TillOne (fun W => Below N w0 W) (fun W => W.cell? ⟨go, 4, none⟩ = some vP) 25) 25 W → W.cell? ⟨(ad.add (k * 3)).block, (ad.add (k * 3)).off + 1, none⟩ = some (.string p.conn)) := Lib.hid fun W h => ((TillOne.get h).1.cell (p := ⟨(ad.add (k * 3)).block, (ad.add (k * 3)).off + 1, none⟩) (by show (ad.add (k * 3)).block < _; rw [add_block]; exact b1)).trans x1
        have HQ4 : Hid (∀ W, Ahead (TillOne (fun W => Below N w0 W) (fun W => W.cell? ⟨go, 4, none⟩ = some vP) 25) 25 W → W.cell? ⟨(ad.add (k * 3)).block, (ad.add (k * 3)).off + 2, none⟩ = some va) := Lib.hid fun W h => ((TillOne.get h).1.cell (p := ⟨(ad.add (k * 3)).block, (ad.add (k * 3)).off + 2, none⟩) (by show (ad.add (k * 3)).block < _; rw [add_block]; exact b1)).trans xa
        have hk0 : (0 : Int) ≤ (k : Int) := by omega
        have hk1 : (k : Int) < (n : Int) := by omega
        have e1 : IntKind.i64.wrap ((k : Int) + 1) = (k : Int) + 1 := IntWalk.i64_in _ (by omega)
        clear x0 x1 xa xr b1 hp h32 hns
        go_upto_region 5 with fail
        refine wp_region_late (TillOne (fun W => Below N w0 W) (fun W => W.cell? ⟨go, 4, none⟩ = some vP) 25) (by as_aux_lemma => kernel_rfl) ?_
        change wpLate Try.prog .any _ _ _ 26 #[false, false, false, false, false, false, false, false, false, false, false, false, false, false, false, false, false, false, false, false, false, false, false, false, false, false] _ _
        refine wpLate.take (i := 0) (q := 25) (oi := _) (v := ?_) rfl (by as_aux_lemma => kernel_rfl) (by as_aux_lemma => kernel_rfl) (by as_aux_lemma => kernel_rfl) (by as_aux_lemma => kernel_rfl) (by rfl) (fun _ _ _ h => h) (TillOne.set (by decide)) (HS0.out _) (Or.inl ⟨by rfl, ?_⟩) ?_
        case refine_2 => intro W hw; have e0 := HQ0.out W hw; have e1 := HQ1.out W hw; have e2 := HQ2.out W hw; have e3 := HQ3.out W hw; have e4 := HQ4.out W hw; clear hw; go_simp; (try with_reducible rfl)
        simp only [Act.put, List.setIfInBounds_toArray, List.set_cons_succ, List.set_cons_zero]
        refine wpLate.take (i := 1) (q := 25) (oi := _) (v := ?_) rfl (by as_aux_lemma => kernel_rfl) (by as_aux_lemma => kernel_rfl) (by as_aux_lemma => kernel_rfl) (by as_aux_lemma => kernel_rfl) (by rfl) (fun _ _ _ h => h) (TillOne.set (by decide)) (HS0.out _) (Or.inl ⟨by rfl, ?_⟩) ?_
        case refine_2 => intro W hw; have e0 := HQ0.out W hw; have e1 := HQ1.out W hw; have e2 := HQ2.out W hw; have e3 := HQ3.out W hw; have e4 := HQ4.out W hw; clear hw; go_simp; (try with_reducible rfl)
        simp only [Act.put, List.setIfInBounds_toArray, List.set_cons_succ, List.set_cons_zero]
        refine wpLate.take (i := 2) (q := 25) (oi := _) (v := ?_) rfl (by as_aux_lemma => kernel_rfl) (by as_aux_lemma => kernel_rfl) (by as_aux_lemma => kernel_rfl) (by as_aux_lemma => kernel_rfl) (by rfl) (fun _ _ _ h => h) (TillOne.set (by decide)) (HS0.out _) (Or.inl ⟨by rfl, ?_⟩) ?_
        case refine_2 => intro W hw; have e0 := HQ0.out W hw; have e1 := HQ1.out W hw; have e2 := HQ2.out W hw; have e3 := HQ3.out W hw; have e4 := HQ4.out W hw; clear hw; go_simp; (try with_reducible rfl)
        simp only [Act.put, List.setIfInBounds_toArray, List.set_cons_succ, List.set_cons_zero]
        refine wpLate.take (i := 3) (q := 25) (oi := _) (v := ?_) rfl (by as_aux_lemma => kernel_rfl) (by as_aux_lemma => kernel_rfl) (by as_aux_lemma => kernel_rfl) (by as_aux_lemma => kernel_rfl) (by rfl) (fun _ _ _ h => h) (TillOne.set (by decide)) (HS0.out _) (Or.inl ⟨by rfl, ?_⟩) ?_
        case refine_2 => intro W hw; have e0 := HQ0.out W hw; have e1 := HQ1.out W hw; have e2 := HQ2.out W hw; have e3 := HQ3.out W hw; have e4 := HQ4.out W hw; clear hw; go_simp; (try with_reducible rfl)
        simp only [Act.put, List.setIfInBounds_toArray, List.set_cons_succ, List.set_cons_zero]
        refine wpLate.take (i := 4) (q := 25) (oi := _) (v := ?_) rfl (by as_aux_lemma => kernel_rfl) (by as_aux_lemma => kernel_rfl) (by as_aux_lemma => kernel_rfl) (by as_aux_lemma => kernel_rfl) (by rfl) (fun _ _ _ h => h) (TillOne.set (by decide)) (HS0.out _) (Or.inl ⟨by rfl, ?_⟩) ?_
        case refine_2 => intro W hw; have e0 := HQ0.out W hw; have e1 := HQ1.out W hw; have e2 := HQ2.out W hw; have e3 := HQ3.out W hw; have e4 := HQ4.out W hw; clear hw; go_simp; (try with_reducible rfl)
        simp only [Act.put, List.setIfInBounds_toArray, List.set_cons_succ, List.set_cons_zero]
        refine wpLate.take (i := 5) (q := 25) (oi := _) (v := ?_) rfl (by as_aux_lemma => kernel_rfl) (by as_aux_lemma => kernel_rfl) (by as_aux_lemma => kernel_rfl) (by as_aux_lemma => kernel_rfl) (by rfl) (fun _ _ _ h => h) (TillOne.set (by decide)) (HS0.out _) (Or.inl ⟨by rfl, ?_⟩) ?_
        case refine_2 => intro W hw; have e0 := HQ0.out W hw; have e1 := HQ1.out W hw; have e2 := HQ2.out W hw; have e3 := HQ3.out W hw; have e4 := HQ4.out W hw; clear hw; go_simp; (try with_reducible rfl)
        simp only [Act.put, List.setIfInBounds_toArray, List.set_cons_succ, List.set_cons_zero]
        refine wpLate.take (i := 6) (q := 25) (oi := _) (v := ?_) rfl (by as_aux_lemma => kernel_rfl) (by as_aux_lemma => kernel_rfl) (by as_aux_lemma => kernel_rfl) (by as_aux_lemma => kernel_rfl) (by rfl) (fun _ _ _ h => h) (TillOne.set (by decide)) (HS0.out _) (Or.inl ⟨by rfl, ?_⟩) ?_
        case refine_2 => intro W hw; have e0 := HQ0.out W hw; have e1 := HQ1.out W hw; have e2 := HQ2.out W hw; have e3 := HQ3.out W hw; have e4 := HQ4.out W hw; clear hw; go_simp; (try with_reducible rfl)
        simp only [Act.put, List.setIfInBounds_toArray, List.set_cons_succ, List.set_cons_zero]
        refine wpLate.take (i := 7) (q := 25) (oi := _) (v := ?_) rfl (by as_aux_lemma => kernel_rfl) (by as_aux_lemma => kernel_rfl) (by as_aux_lemma => kernel_rfl) (by as_aux_lemma => kernel_rfl) (by rfl) (fun _ _ _ h => h) (TillOne.set (by decide)) (HS0.out _) (Or.inl ⟨by rfl, ?_⟩) ?_
        case refine_2 => intro W hw; have e0 := HQ0.out W hw; have e1 := HQ1.out W hw; have e2 := HQ2.out W hw; have e3 := HQ3.out W hw; have e4 := HQ4.out W hw; clear hw; go_simp; (try with_reducible rfl)
        simp only [Act.put, List.setIfInBounds_toArray, List.set_cons_succ, List.set_cons_zero]
        refine wpLate.take (i := 8) (q := 25) (oi := _) (v := ?_) rfl (by as_aux_lemma => kernel_rfl) (by as_aux_lemma => kernel_rfl) (by as_aux_lemma => kernel_rfl) (by as_aux_lemma => kernel_rfl) (by rfl) (fun _ _ _ h => h) (TillOne.set (by decide)) (HS0.out _) (Or.inl ⟨by rfl, ?_⟩) ?_
        case refine_2 => intro W hw; have e0 := HQ0.out W hw; have e1 := HQ1.out W hw; have e2 := HQ2.out W hw; have e3 := HQ3.out W hw; have e4 := HQ4.out W hw; clear hw; go_simp; (try with_reducible rfl)
        simp only [Act.put, List.setIfInBounds_toArray, List.set_cons_succ, List.set_cons_zero]
        refine wpLate.take (i := 9) (q := 25) (oi := _) (v := ?_) rfl (by as_aux_lemma => kernel_rfl) (by as_aux_lemma => kernel_rfl) (by as_aux_lemma => kernel_rfl) (by as_aux_lemma => kernel_rfl) (by rfl) (fun _ _ _ h => h) (TillOne.set (by decide)) (HS0.out _) (Or.inl ⟨by rfl, ?_⟩) ?_
        case refine_2 => intro W hw; have e0 := HQ0.out W hw; have e1 := HQ1.out W hw; have e2 := HQ2.out W hw; have e3 := HQ3.out W hw; have e4 := HQ4.out W hw; clear hw; go_simp; (try with_reducible rfl)
        simp only [Act.put, List.setIfInBounds_toArray, List.set_cons_succ, List.set_cons_zero]
        refine wpLate.take (i := 10) (q := 25) (oi := _) (v := ?_) rfl (by as_aux_lemma => kernel_rfl) (by as_aux_lemma => kernel_rfl) (by as_aux_lemma => kernel_rfl) (by as_aux_lemma => kernel_rfl) (by rfl) (fun _ _ _ h => h) (TillOne.set (by decide)) (HS0.out _) (Or.inl ⟨by rfl, ?_⟩) ?_
        case refine_2 => intro W hw; have e0 := HQ0.out W hw; have e1 := HQ1.out W hw; have e2 := HQ2.out W hw; have e3 := HQ3.out W hw; have e4 := HQ4.out W hw; clear hw; go_simp; (try with_reducible rfl)
        simp only [Act.put, List.setIfInBounds_toArray, List.set_cons_succ, List.set_cons_zero]
        refine wpLate.take (i := 11) (q := 25) (oi := _) (v := ?_) rfl (by as_aux_lemma => kernel_rfl) (by as_aux_lemma => kernel_rfl) (by as_aux_lemma => kernel_rfl) (by as_aux_lemma => kernel_rfl) (by rfl) (fun _ _ _ h => h) (TillOne.set (by decide)) (HS0.out _) (Or.inl ⟨by rfl, ?_⟩) ?_
        case refine_2 => intro W hw; have e0 := HQ0.out W hw; have e1 := HQ1.out W hw; have e2 := HQ2.out W hw; have e3 := HQ3.out W hw; have e4 := HQ4.out W hw; clear hw; go_simp; (try with_reducible rfl)
        simp only [Act.put, List.setIfInBounds_toArray, List.set_cons_succ, List.set_cons_zero]
        refine wpLate.take (i := 12) (q := 25) (oi := _) (v := ?_) rfl (by as_aux_lemma => kernel_rfl) (by as_aux_lemma => kernel_rfl) (by as_aux_lemma => kernel_rfl) (by as_aux_lemma => kernel_rfl) (by rfl) (fun _ _ _ h => h) (TillOne.set (by decide)) (HS0.out _) (Or.inl ⟨by rfl, ?_⟩) ?_
        case refine_2 => intro W hw; have e0 := HQ0.out W hw; have e1 := HQ1.out W hw; have e2 := HQ2.out W hw; have e3 := HQ3.out W hw; have e4 := HQ4.out W hw; clear hw; go_simp; (try with_reducible rfl)
        simp only [Act.put, List.setIfInBounds_toArray, List.set_cons_succ, List.set_cons_zero]
        refine wpLate.take (i := 13) (q := 25) (oi := _) (v := ?_) rfl (by as_aux_lemma => kernel_rfl) (by as_aux_lemma => kernel_rfl) (by as_aux_lemma => kernel_rfl) (by as_aux_lemma => kernel_rfl) (by rfl) (fun _ _ _ h => h) (TillOne.set (by decide)) (HS0.out _) (Or.inl ⟨by rfl, ?_⟩) ?_
        case refine_2 => intro W hw; have e0 := HQ0.out W hw; have e1 := HQ1.out W hw; have e2 := HQ2.out W hw; have e3 := HQ3.out W hw; have e4 := HQ4.out W hw; clear hw; go_simp; (try with_reducible rfl)
        simp only [Act.put, List.setIfInBounds_toArray, List.set_cons_succ, List.set_cons_zero]
        refine wpLate.take (i := 14) (q := 25) (oi := _) (v := ?_) rfl (by as_aux_lemma => kernel_rfl) (by as_aux_lemma => kernel_rfl) (by as_aux_lemma => kernel_rfl) (by as_aux_lemma => kernel_rfl) (by rfl) (fun _ _ _ h => h) (TillOne.set (by decide)) (HS0.out _) (Or.inl ⟨by rfl, ?_⟩) ?_
        case refine_2 => intro W hw; have e0 := HQ0.out W hw; have e1 := HQ1.out W hw; have e2 := HQ2.out W hw; have e3 := HQ3.out W hw; have e4 := HQ4.out W hw; clear hw; go_simp; (try with_reducible rfl)
        simp only [Act.put, List.setIfInBounds_toArray, List.set_cons_succ, List.set_cons_zero]
        refine wpLate.take (i := 15) (q := 25) (oi := _) (v := ?_) rfl (by as_aux_lemma => kernel_rfl) (by as_aux_lemma => kernel_rfl) (by as_aux_lemma => kernel_rfl) (by as_aux_lemma => kernel_rfl) (by rfl) (fun _ _ _ h => h) (TillOne.set (by decide)) (HS0.out _) (Or.inl ⟨by rfl, ?_⟩) ?_
        case refine_2 => intro W hw; have e0 := HQ0.out W hw; have e1 := HQ1.out W hw; have e2 := HQ2.out W hw; have e3 := HQ3.out W hw; have e4 := HQ4.out W hw; clear hw; go_simp; (try with_reducible rfl)
        simp only [Act.put, List.setIfInBounds_toArray, List.set_cons_succ, List.set_cons_zero]
        refine wpLate.take (i := 16) (q := 25) (oi := _) (v := ?_) rfl (by as_aux_lemma => kernel_rfl) (by as_aux_lemma => kernel_rfl) (by as_aux_lemma => kernel_rfl) (by as_aux_lemma => kernel_rfl) (by rfl) (fun _ _ _ h => h) (TillOne.set (by decide)) (HS0.out _) (Or.inl ⟨by rfl, ?_⟩) ?_
        case refine_2 => intro W hw; have e0 := HQ0.out W hw; have e1 := HQ1.out W hw; have e2 := HQ2.out W hw; have e3 := HQ3.out W hw; have e4 := HQ4.out W hw; clear hw; go_simp; (try with_reducible rfl)
        simp only [Act.put, List.setIfInBounds_toArray, List.set_cons_succ, List.set_cons_zero]
        refine wpLate.take (i := 17) (q := 25) (oi := _) (v := ?_) rfl (by as_aux_lemma => kernel_rfl) (by as_aux_lemma => kernel_rfl) (by as_aux_lemma => kernel_rfl) (by as_aux_lemma => kernel_rfl) (by rfl) (fun _ _ _ h => h) (TillOne.set (by decide)) (HS0.out _) (Or.inl ⟨by rfl, ?_⟩) ?_
        case refine_2 => intro W hw; have e0 := HQ0.out W hw; have e1 := HQ1.out W hw; have e2 := HQ2.out W hw; have e3 := HQ3.out W hw; have e4 := HQ4.out W hw; clear hw; go_simp; (try with_reducible rfl)
        simp only [Act.put, List.setIfInBounds_toArray, List.set_cons_succ, List.set_cons_zero]
        refine wpLate.take (i := 18) (q := 25) (oi := _) (v := ?_) rfl (by as_aux_lemma => kernel_rfl) (by as_aux_lemma => kernel_rfl) (by as_aux_lemma => kernel_rfl) (by as_aux_lemma => kernel_rfl) (by rfl) (fun _ _ _ h => h) (TillOne.set (by decide)) (HS0.out _) (Or.inl ⟨by rfl, ?_⟩) ?_
        case refine_2 => intro W hw; have e0 := HQ0.out W hw; have e1 := HQ1.out W hw; have e2 := HQ2.out W hw; have e3 := HQ3.out W hw; have e4 := HQ4.out W hw; clear hw; go_simp; (try with_reducible rfl)
        simp only [Act.put, List.setIfInBounds_toArray, List.set_cons_succ, List.set_cons_zero]
        refine wpLate.take (i := 19) (q := 25) (oi := _) (v := ?_) rfl (by as_aux_lemma => kernel_rfl) (by as_aux_lemma => kernel_rfl) (by as_aux_lemma => kernel_rfl) (by as_aux_lemma => kernel_rfl) (by rfl) (fun _ _ _ h => h) (TillOne.set (by decide)) (HS0.out _) (Or.inl ⟨by rfl, ?_⟩) ?_
        case refine_2 => intro W hw; have e0 := HQ0.out W hw; have e1 := HQ1.out W hw; have e2 := HQ2.out W hw; have e3 := HQ3.out W hw; have e4 := HQ4.out W hw; clear hw; go_simp; (try with_reducible rfl)
        simp only [Act.put, List.setIfInBounds_toArray, List.set_cons_succ, List.set_cons_zero]
        refine wpLate.ready (rs := [20]) (by as_aux_lemma => kernel_rfl) (by simp) (eachLate.cons rfl (fun K hK => ?_) eachLate.nil)
        go_simp
        refine HBR.out.mono ?_
        rintro e w5 ⟨v5, rfl, ho5, hb5⟩
        obtain ⟨A5, c5, hv5, -⟩ := ho5.form
        generalize (p.attrs.map acell).length = l5 at hv5
        subst hv5
        have ho5 := ho5.base_le HNW.out
        have hck5 := HK.out.1.drew.under hb5
        have hbl5 : Below N w0 w5 := HK.out.2.drew.trans (hb5.mono HNW.out)
        have hc5 := hck5.box.cell 4
        have hal := (Below.refl w5.heap.size w5).alloc (Nat.le_refl _) (.cells #[.string p.line, .string p.conn, .slice A5 l5 c5] 69)
        have HT5 : Hid (∀ L, (TillOne (fun W => Below N w0 W) (fun W => W.cell? ⟨go, 4, none⟩ = some vP) 25) L w5) := Lib.hid fun L => TillOne.mk hbl5 hc5
        have H5 : Hid (CK TS N go x k vA vP us (w5.alloc (.cells #[.string p.line, .string p.conn, .slice A5 l5 c5] 69)) ∧ Own (w5.alloc (.cells #[.string p.line, .string p.conn, .slice A5 l5 c5] 69)) N 49 2 (.slice A5 l5 c5) (p.attrs.map acell) ∧ Whole (w5.alloc (.cells #[.string p.line, .string p.conn, .slice A5 l5 c5] 69)) w5.heap.size 69 #[.string p.line, .string p.conn, .slice A5 l5 c5] ∧ Below N w0 (w5.alloc (.cells #[.string p.line, .string p.conn, .slice A5 l5 c5] 69))) := Lib.hid ⟨hck5.under hal, ho5.under hal, Whole.new _ _ _, hbl5.alloc (Nat.le_trans HNW.out hb5.size) _⟩
        refine hK.out _ _ (HT5.out _) ?_
        clear hK K hck5 hbl5 hc5 hal ho5 hb5
        try simp only [Act.put]
        refine wpLate.take (i := 21) (q := 25) (oi := _) (v := ?_) rfl (by as_aux_lemma => kernel_rfl) (by as_aux_lemma => kernel_rfl) (by as_aux_lemma => kernel_rfl) (by as_aux_lemma => kernel_rfl) (by rfl) (fun _ _ _ h => h) (TillOne.set (by decide)) (HT5.out _) (Or.inl ⟨by rfl, ?_⟩) ?_
        case refine_2 => intro W hw; have e0 := HQ0.out W hw; have e1 := HQ1.out W hw; have e2 := HQ2.out W hw; have e3 := HQ3.out W hw; have e4 := HQ4.out W hw; clear hw; go_simp; (try with_reducible rfl)
        simp only [Act.put, List.setIfInBounds_toArray, List.set_cons_succ, List.set_cons_zero]
        refine wpLate.ready (rs := [22]) (by as_aux_lemma => kernel_rfl) (by simp) (eachLate.cons rfl (fun K hK => ?_) eachLate.nil)
        have HT7 : Hid (∀ L, (TillOne (fun W => Below N w0 W) (fun W => W.cell? ⟨go, 4, none⟩ = some vP) 25) L (w5.alloc (.cells #[.string p.line, .string p.conn, .slice A5 l5 c5] 69))) := Lib.hid fun L => TillOne.mk H5.out.2.2.2 (H5.out.1.box.cell 4)
        go_simp
        refine hK.out _ _ (HT7.out _) ?_
        clear hK K
        try simp only [Act.put]
        generalize (w5.alloc (.cells #[.string p.line, .string p.conn, .slice A5 l5 c5] 69)) = w7 at *
        generalize w5.heap.size = g7 at *
        refine wpLate.ready (rs := [23]) (by as_aux_lemma => kernel_rfl) (by simp) (eachLate.cons rfl (fun K hK => ?_) eachLate.nil)
        have hl7 := H5.out.1.len
        have hnw7 : N ≤ w7.heap.size := by have := H5.out.1.own; have := H5.out.1.box.lt; omega
        refine step_of rfl (wp_appendE (r := [.string p.line, .string p.conn, .slice A5 l5 c5]) (.tmp 22) (.tmp 43) rfl Try.underlying31 Try.infoSPart rfl (Nat.zero_lt_succ _) rfl H5.out.1.par rfl H5.out.2.2.1 rfl (fun u hu => by simp at hu; rcases hu with rfl | rfl | rfl <;> rfl) (by rw [hl7]; omega) (by rw [hl7]; omega) hnw7 ?_)
        intro v8 w8 ho8 hg8 hn8
        have hbx8 := H5.out.1.box.grown hg8 (fun e => (H5.out.1.par.apart H5.out.1.box TS.ok.1.symm) e.symm)
        have hbl8 : Below N w0 w8 := H5.out.2.2.2.grown hg8 hnw7 (fun j hj => (H5.out.1.par.lt hj).1)
        have c8 := hbx8.cell 4
        have f8 := hbx8.frz 4
        have HT8 : Hid (∀ L, (TillOne (fun W => Below N w0 W) (fun W => W.cell? ⟨go, 4, none⟩ = some vP) 25) L w8) := Lib.hid fun L => TillOne.mk hbl8 c8
        have HS9 : Hid (∀ L, L.getD 25 true = true → (TillOne (fun W => Below N w0 W) (fun W => W.cell? ⟨go, 4, none⟩ = some vP) 25) L (w8.setCell ⟨go, 4, none⟩ v8)) := Lib.hid fun L hL => TillOne.past (hbl8.setCell (p := ⟨go, 4, none⟩) H5.out.1.own v8) hL
        have HFIN := Lib.hid (And.intro (H5.out.1.next TS.ok HP.out H5.out.2.1 ho8 hg8 ho8.one) (hbl8.setCell (p := ⟨go, 4, none⟩) H5.out.1.own v8))
        obtain ⟨A8, k8, hv8, -⟩ := ho8.form
        generalize (List.zipWith pcell (x.parts.take k) us ++ [[Value.string p.line, Value.string p.conn, Value.slice A5 l5 c5]]).length = l8 at hv8
        subst hv8
        clear ho8 hg8 hn8 hbx8 hbl8 H5 hl7 hnw7
        refine hK.out _ _ (HT8.out _) ?_
        clear hK K
        try simp only [Act.put]
        refine wpLate.take (i := 24) (q := 25) (oi := _) (v := ?_) rfl (by as_aux_lemma => kernel_rfl) (by as_aux_lemma => kernel_rfl) (by as_aux_lemma => kernel_rfl) (by as_aux_lemma => kernel_rfl) (by rfl) (fun _ _ _ h => h) (TillOne.set (by decide)) (HT8.out _) (Or.inl ⟨by rfl, ?_⟩) ?_
        case refine_2 => intro W hw; have e0 := HQ0.out W hw; have e1 := HQ1.out W hw; have e2 := HQ2.out W hw; have e3 := HQ3.out W hw; have e4 := HQ4.out W hw; clear hw; go_simp; (try with_reducible rfl)
        simp only [Act.put, List.setIfInBounds_toArray, List.set_cons_succ, List.set_cons_zero]
        refine wpLate.ready (rs := [25]) (by as_aux_lemma => kernel_rfl) (by simp) (eachLate.cons rfl (fun K hK => ?_) eachLate.nil)
        go_simp
        refine hK.out _ _ (HS9.out _ rfl) ?_
        clear hK K
        try simp only [Act.put]
        refine wpLate.done (by as_aux_lemma => kernel_rfl) ?_ _
        go_wp2
        go_roundw
        case rel => exact ⟨k + 1, _, _, by omega, by go_num, HFIN.out.1, HFIN.out.2⟩
        case measure => simp [intOf]; omega
      · obtain rfl : k = n := by omega
        have HFW : Hid (Whole wr go 33 #[.string x.origin, .string x.name, .string x.time, vA, vP] ∧ Whole wr (B + 1) 33 #[.string ⟨#[]⟩, .string ⟨#[]⟩, .string ⟨#[]⟩, .slice none 0 0, .slice none 0 0]) := Lib.hid ⟨HK.out.1.box, (HX.out _ HK.out.2).2⟩
        have HRD := Lib.hid (HK.out.1.read HNN.out.symm)
        have HONE : Hid ((#[.string x.origin, .string x.name, .string x.time, vA, vP] : Array Value).toList.all (·.oneCell') = true) := Lib.hid (by simp only [List.all_cons, List.all_nil, HK.out.1.att.one, HK.out.1.par.one]; rfl)
        have HFIN : Hid (CopyO w x (.returned (.agg #[.string x.origin, .string x.name, .string x.time, vA, vP])) (wr.setRow (B + 1) #[.string x.origin, .string x.name, .string x.time, vA, vP])) := Lib.hid (by
          have hgo : go ≠ B + 1 := by have := HK.out.1.own; have := HBN.out.2; omega
          have hck := (HK.out.1.farRow TS.ok HFW.out.2 hgo #[.string x.origin, .string x.name, .string x.time, vA, vP]).read HNN.out.symm
          refine ⟨_, vA, vP, rfl, ⟨rfl, hck.1, hck.2⟩, below_row ?_ (by rw [HBE.out]; exact Nat.le_succ B) _⟩
          exact HB0.out.trans (HK.out.2.mono (by rw [HBE.out]; have := HBN.out; omega)))
        go_wp2_with (first | ((with_reducible refine wpList_load_all ?_ 33 (.tmp 3) ?_ HFW.out.1 ?_ Try.sizeSSes ?_ Try.underlying33 ?_ ?_); (with_reducible rfl); (with_reducible rfl); rfl; rfl; rfl) | ((with_reducible refine wpList_storeS #[.string x.origin, .string x.name, .string x.time, vA, vP] ?_ 33 (.tmp 2) (.tmp 47) ?_ ?_ ?_ HFW.out.2 Try.sizeSSes ?_ ?_ HONE.out ?_); (with_reducible rfl); (with_reducible rfl); rfl; rfl; rfl; rfl))
        (with_reducible show bodyPost _ _ _ _ _ _)
        exact bodyPost_ret (ret_struct rfl rfl (HFW.out.2.row _) Try.underlying33 rfl Try.sizeSSes rfl) rfl HFIN.out
end Go.Proofs.Ythijpfnfkelmbaa
