import Derived.Test.YtbbedhecfipdjaaGreatDoorPkAttrOrderB
import Derived.Test.YtbbedhecfipdjaaGreatDoorPkAttrOrderA08
import Derived.Test.YtbbedhecfipdjaaGreatDoorPkAttrOrderA00
namespace Go.Proofs.YtbbedhecfipdjaaGreatDoor
open Go.RowKit
set_option linter.unusedVariables false
set_option linter.unusedSimpArgs false
structure CpIn (PI PO EO : TypeId) (w0 : World) (M : Array Value) (go : Nat) (ln cn : ByteArray) (L : List AttrS) (v : Value) (w : World) : Prop where
 low : Below w0.heap.size w0 w
 box : Whole w w0.heap.size PI M
 res : Whole w (w0.heap.size + 1) PO #[.string ⟨#[]⟩, .string ⟨#[]⟩, .slice none 0 0]
 out : Whole w go PO #[.string ln, .string cn, v]
 own : Own w w0.heap.size EO 2 v (L.map acell)
 hgo : w0.heap.size ≤ go
 hne : w0.heap.size + 1 ≠ go
section
variable {PI PO EO : TypeId} {w0 w w' : World} {M : Array Value} {go : Nat} {ln cn : ByteArray} {L : List AttrS} {v : Value}
theorem CpIn.alloc (h : CpIn PI PO EO w0 M go ln cn L v w) (o : Obj) : CpIn PI PO EO w0 M go ln cn L v (w.alloc o) := ⟨h.low.alloc h.low.size o, h.box.alloc o, h.res.alloc o, h.out.alloc o, h.own.alloc o, h.hgo, h.hne⟩
theorem CpIn.drew (h : CpIn PI PO EO w0 M go ln cn L v w) : CpIn PI PO EO w0 M go ln cn L v w.drew := ⟨h.low.drew, h.box, h.res, h.out, h.own, h.hgo, h.hne⟩
theorem CpIn.grew (h : CpIn PI PO EO w0 M go ln cn L v w) {v' : Value} {L' : List AttrS} {r : List Value} (ho : Own w' w0.heap.size EO 2 v' (L.map acell ++ [r])) (hg : w.grownBy w' v.ownBlock) (hL : L'.map acell = L.map acell ++ [r]) (h1 : EO ≠ PI := by decide) (h2 : EO ≠ PO := by decide) (h3 : PI ≠ PO := by decide) :
 Whole w' go PO #[.string ln, .string cn, v] ∧ True ∧ Below w0.heap.size w0 w' ∧ Whole w' w0.heap.size PI M ∧ ∀ u, Own w' w0.heap.size EO 2 u (L'.map acell) → CpIn PI PO EO w0 M go ln cn L' u (w'.setCell ⟨go, 2, none⟩ u) := by
 have hb : Below w0.heap.size w0 w' := h.low.grown hg h.low.size (fun j hj => (h.own.lt hj).1)
 have hx : Whole w' w0.heap.size PI M := h.box.grown hg (fun e => (h.own.apart h.box h1) e.symm)
 have hr : Whole w' (w0.heap.size + 1) PO #[.string ⟨#[]⟩, .string ⟨#[]⟩, .slice none 0 0] := h.res.grown hg (fun e => (h.own.apart h.res h2) e.symm)
 have hu : Whole w' go PO #[.string ln, .string cn, v] := h.out.grown hg (fun e => (h.own.apart h.out h2) e.symm)
 refine ⟨hu, trivial, hb, hx, fun u hou => ⟨hb.setCell (p := ⟨go, 2, none⟩) h.hgo _, hx.far (p := ⟨go, 2, none⟩) (hx.ne hu h3) _, hr.far (p := ⟨go, 2, none⟩) h.hne _, hu.set 2 _, ?_, h.hgo, h.hne⟩⟩
 exact hou.far (p := ⟨go, 2, none⟩) (hou.apart hu h2) _
end
set_option maxHeartbeats 6400000 in
set_option maxRecDepth 100000 in
theorem theirs7_any (p : PartS) (vp : Value) (w : World) (h : AttrsV w w.heap.size vp p.attrs) (hl : p.attrs.length * 32 ≤ 140737488351232) :
 Calls Tryz.prog 23 #[.agg #[.string p.line, .string p.conn, vp]] w fun e w' => ∃ v, e = .returned (.agg #[.string p.line, .string p.conn, v]) ∧ Own w' w.heap.size 53 2 v (p.attrs.map acell) ∧ Below w.heap.size w w' := by
 obtain ⟨A, c, rfl, hc, hm, -⟩ := h.form
 obtain ⟨n, hn⟩ : ∃ n, p.attrs.length = n := ⟨_, rfl⟩
 rw [hn] at hc hl ⊢
 have HV := Lib.hid h
 have HNN := Lib.hid hn
 unfold maxLen at hm
 obtain ⟨ln, hln⟩ : ∃ x, p.line = x := ⟨_, rfl⟩
 obtain ⟨cn, hcn⟩ : ∃ x, p.conn = x := ⟨_, rfl⟩
 rw [hln, hcn]
 have hb0 : Below w.heap.size w ((w.alloc (.cells #[.string ln, .string cn, .slice A n c] 32)).alloc (.cells #[.string ⟨#[]⟩, .string ⟨#[]⟩, .slice none 0 0] 38)) := two_new _ _ _ _
 have hw := (Whole.new w 32 #[.string ln, .string cn, .slice A n c]).alloc (.cells #[.string ⟨#[]⟩, .string ⟨#[]⟩, .slice none 0 0] 38)
 have hr := Whole.new2 w (.cells #[.string ln, .string cn, .slice A n c] 32) 38 #[.string ⟨#[]⟩, .string ⟨#[]⟩, .slice none 0 0]
 clear hn h hln hcn
 obtain ⟨N, hN⟩ : ∃ N, w.heap.size = N := ⟨_, rfl⟩
 have HN : Hid (w.heap.size = N) := Lib.hid hN
 rw [hN] at hb0 hw hr
 have H0 := Lib.hid (And.intro hb0 (And.intro hw hr))
 clear hN hb0 hw hr
 go_enter Tryz.func23, Tryz.ntmps23
 go_upto_region 1 with fail
 simp only [HN.out]
 generalize (w.alloc (.cells #[.string ln, .string cn, .slice A n c] 32)).alloc (.cells #[.string ⟨#[]⟩, .string ⟨#[]⟩, .slice none 0 0] 38) = W0 at *
 have k0 : W0.cell? ⟨N, 0, none⟩ = some (.string ln) := H0.out.2.1.cell 0
 have k1 : W0.cell? ⟨N, 1, none⟩ = some (.string cn) := H0.out.2.1.cell 1
 have HNEW : Hid (Whole (W0.alloc (.cells #[.string ⟨#[]⟩, .string ⟨#[]⟩, .slice none 0 0] 38)) W0.heap.size 38 #[.string ⟨#[]⟩, .string ⟨#[]⟩, .slice none 0 0]) := Lib.hid (Whole.new _ _ _)
 have HBB : Hid (Below W0.heap.size W0 ((W0.alloc (.cells #[.string ⟨#[]⟩, .string ⟨#[]⟩, .slice none 0 0] 38)).setRow W0.heap.size #[.string ln, .string cn, .slice none 0 0])) := Lib.hid (below_row ((Below.refl _ W0).alloc (Nat.le_refl _) _) (Nat.le_refl _) _)
 have HC : Hid (CpIn 32 38 53 w #[.string ln, .string cn, .slice A n c] W0.heap.size ln cn (p.attrs.take 0) (.slice none 0 0) ((W0.alloc (.cells #[.string ⟨#[]⟩, .string ⟨#[]⟩, .slice none 0 0] 38)).setRow W0.heap.size #[.string ln, .string cn, .slice none 0 0])) := Lib.hid (by
  have h1 := H0.out.1.size
  have h2 := H0.out.2.2.lt
  refine ⟨?_, ?_, ?_, HNEW.out.row _, Own.nil _ _ _ _, h1, ?_⟩
  · rw [HN.out]; exact H0.out.1.trans (HBB.out.mono (by rw [← HN.out]; exact h1))
  · rw [HN.out]; exact H0.out.2.1.under HBB.out
  · rw [HN.out]; exact H0.out.2.2.under HBB.out
  · rw [HN.out]; omega)
 go_upto_region 2 with ((with_reducible refine wpList_storeS #[.string ln, .string cn, .slice none 0 0] ?_ 38 (.tmp 3) (.tmp 9) ?_ ?_ ?_ HNEW.out Tryz.sizeSPart ?_ ?_ ?_ ?_); (with_reducible rfl); (with_reducible rfl); rfl; rfl; rfl; rfl; rfl)
 generalize ((W0.alloc (.cells #[.string ⟨#[]⟩, .string ⟨#[]⟩, .slice none 0 0] 38)).setRow W0.heap.size #[.string ln, .string cn, .slice none 0 0]) = W1 at *
 generalize W0.heap.size = go at *
 clear k0 k1 HNEW HBB H0
 have k2 : W1.cell? ⟨N, 2, none⟩ = some (.slice A n c) := by rw [← HN.out]; exact HC.out.box.cell 2
 go_wp2
 go_loopw [13, 4] (fun s13 _ wr => ∃ (k : Nat) (v : Value), k ≤ n ∧ s13 = .int .i64 k ∧ CpIn 32 38 53 w #[.string ln, .string cn, .slice A n c] go ln cn (p.attrs.take k) v wr) (fun s13 _ _ => n - (intOf s13).toNat)
 case atStart => exact ⟨0, _, Nat.zero_le _, rfl, HC.out⟩
 case round =>
  clear k2 HC
  obtain ⟨k, v, hk, rfl, hst⟩ := hrel
  have HK := Lib.hid hst
  clear hst
  obtain ⟨Av, nv0, hv, -⟩ := Own.form HK.out.own
  obtain ⟨nv, hnv⟩ : ∃ nv, ((p.attrs.take k).map acell).length = nv := ⟨_, rfl⟩
  obtain ⟨cv, hcv⟩ : ∃ cv, nv0 = cv := ⟨_, rfl⟩
  rw [hnv, hcv] at hv
  subst hv
  clear hcv hnv
  by_cases hlt : k < n
  · obtain ⟨ad, c1', e1, b1, x0, x1⟩ := HV.out.at_ (i := k) (by rw [HNN.out]; exact hlt)
    injection e1 with e1 e1n e1c
    clear e1n e1c
    subst e1
    have gL := getD_of (L := p.attrs) (i := k) (by rw [HNN.out]; exact hlt)
    obtain ⟨a, ha⟩ : ∃ a, p.attrs.getD k default = a := ⟨_, rfl⟩
    rw [ha] at x0 x1 gL
    have HTK : Hid ((p.attrs.take (k + 1)).map acell = (p.attrs.take k).map acell ++ [[.string a.name, .string a.value]]) := Lib.hid (by
     rw [List.take_add_one, gL]
     simp [acell])
    have HLK : Hid (((p.attrs.take k).map acell).length = k) := Lib.hid (by rw [List.length_map, List.length_take, HNN.out]; omega)
    rw [HN.out] at b1
    have hk0 : (0 : Int) ≤ (k : Int) := by omega
    have hk1 : (k : Int) < (n : Int) := by omega
    have HQ0 : Hid (∀ W, Ahead (TillOne (fun W => Below N w W ∧ Whole W N 32 #[.string ln, .string cn, .slice (some ad) n c]) (fun W => W.cell? ⟨go, 2, none⟩ = some (.slice Av nv cv)) 18) 18 W → W.cell? ⟨go, 2, none⟩ = some (.slice Av nv cv)) := Lib.hid fun W h => (TillOne.get h).2
    have HQ1 : Hid (∀ W, Ahead (TillOne (fun W => Below N w W ∧ Whole W N 32 #[.string ln, .string cn, .slice (some ad) n c]) (fun W => W.cell? ⟨go, 2, none⟩ = some (.slice Av nv cv)) 18) 18 W → W.cell? ⟨N, 2, none⟩ = some (.slice (some ad) n c)) := Lib.hid fun W h => (TillOne.get h).1.2.cell 2
    have HQ2 : Hid (∀ W, Ahead (TillOne (fun W => Below N w W ∧ Whole W N 32 #[.string ln, .string cn, .slice (some ad) n c]) (fun W => W.cell? ⟨go, 2, none⟩ = some (.slice Av nv cv)) 18) 18 W → W.cell? (ad.add (k * 2)) = some (.string a.name)) := Lib.hid fun W h => ((TillOne.get h).1.1.cell (p := ad.add (k * 2)) (by rw [add_block]; exact b1)).trans x0
    have HQ3 : Hid (∀ W, Ahead (TillOne (fun W => Below N w W ∧ Whole W N 32 #[.string ln, .string cn, .slice (some ad) n c]) (fun W => W.cell? ⟨go, 2, none⟩ = some (.slice Av nv cv)) 18) 18 W → W.cell? ⟨(ad.add (k * 2)).block, (ad.add (k * 2)).off + 1, none⟩ = some (.string a.value)) := Lib.hid fun W h => ((TillOne.get h).1.1.cell (p := ⟨(ad.add (k * 2)).block, (ad.add (k * 2)).off + 1, none⟩) (by show (ad.add (k * 2)).block < _; rw [add_block]; exact b1)).trans x1
    have HS0 : Hid (∀ L, (TillOne (fun W => Below N w W ∧ Whole W N 32 #[.string ln, .string cn, .slice (some ad) n c]) (fun W => W.cell? ⟨go, 2, none⟩ = some (.slice Av nv cv)) 18) L wr.drew) := Lib.hid fun L => TillOne.mk ⟨by rw [← HN.out]; exact HK.out.low.drew, by rw [← HN.out]; exact HK.out.box⟩ (HK.out.out.cell 2)
    have H5 : Hid (CpIn 32 38 53 w #[.string ln, .string cn, .slice (some ad) n c] go ln cn (p.attrs.take k) (.slice Av nv cv) (wr.alloc (.cells #[.string a.name, .string a.value] 53)).drew ∧ Whole (wr.alloc (.cells #[.string a.name, .string a.value] 53)).drew wr.heap.size 53 #[.string a.name, .string a.value]) := Lib.hid ⟨(HK.out.alloc _).drew, Whole.new _ _ _⟩
    have HT5 : Hid (∀ L, (TillOne (fun W => Below N w W ∧ Whole W N 32 #[.string ln, .string cn, .slice (some ad) n c]) (fun W => W.cell? ⟨go, 2, none⟩ = some (.slice Av nv cv)) 18) L (wr.alloc (.cells #[.string a.name, .string a.value] 53)).drew) := Lib.hid fun L => TillOne.mk ⟨by rw [← HN.out]; exact H5.out.1.low, by rw [← HN.out]; exact H5.out.1.box⟩ (H5.out.1.out.cell 2)
    clear x0 x1 gL ha b1
    go_upto_region 5 with fail
    refine wp_region_late (TillOne (fun W => Below N w W ∧ Whole W N 32 #[.string ln, .string cn, .slice (some ad) n c]) (fun W => W.cell? ⟨go, 2, none⟩ = some (.slice Av nv cv)) 18) (by as_aux_lemma => kernel_rfl) ?_
    change wpLate Tryz.prog .any _ _ _ 19 #[false, false, false, false, false, false, false, false, false, false, false, false, false, false, false, false, false, false, false] _ _
    refine wpLate.take (i := 0) (q := 18) (oi := _) (v := ?_) rfl (by as_aux_lemma => kernel_rfl) (by as_aux_lemma => kernel_rfl) (by as_aux_lemma => kernel_rfl) (by as_aux_lemma => kernel_rfl) (by rfl) (fun _ _ _ h => h) (TillOne.set (by decide)) (HS0.out _) (Or.inl ⟨by rfl, ?_⟩) ?_
    case refine_2 => intro W hw; have e0 := HQ0.out W hw; have e1 := HQ1.out W hw; have e2 := HQ2.out W hw; have e3 := HQ3.out W hw; clear hw; go_simp; (try with_reducible rfl)
    simp only [Act.put, Ld, Le, Lf]
    refine wpLate.take (i := 1) (q := 18) (oi := _) (v := ?_) rfl (by as_aux_lemma => kernel_rfl) (by as_aux_lemma => kernel_rfl) (by as_aux_lemma => kernel_rfl) (by as_aux_lemma => kernel_rfl) (by rfl) (fun _ _ _ h => h) (TillOne.set (by decide)) (HS0.out _) (Or.inl ⟨by rfl, ?_⟩) ?_
    case refine_2 => intro W hw; have e0 := HQ0.out W hw; have e1 := HQ1.out W hw; have e2 := HQ2.out W hw; have e3 := HQ3.out W hw; clear hw; go_simp; (try with_reducible rfl)
    simp only [Act.put, Ld, Le, Lf]
    refine wpLate.take (i := 2) (q := 18) (oi := _) (v := ?_) rfl (by as_aux_lemma => kernel_rfl) (by as_aux_lemma => kernel_rfl) (by as_aux_lemma => kernel_rfl) (by as_aux_lemma => kernel_rfl) (by rfl) (fun _ _ _ h => h) (TillOne.set (by decide)) (HS0.out _) (Or.inl ⟨by rfl, ?_⟩) ?_
    case refine_2 => intro W hw; have e0 := HQ0.out W hw; have e1 := HQ1.out W hw; have e2 := HQ2.out W hw; have e3 := HQ3.out W hw; clear hw; go_simp; (try with_reducible rfl)
    simp only [Act.put, Ld, Le, Lf]
    refine wpLate.take (i := 3) (q := 18) (oi := _) (v := ?_) rfl (by as_aux_lemma => kernel_rfl) (by as_aux_lemma => kernel_rfl) (by as_aux_lemma => kernel_rfl) (by as_aux_lemma => kernel_rfl) (by rfl) (fun _ _ _ h => h) (TillOne.set (by decide)) (HS0.out _) (Or.inl ⟨by rfl, ?_⟩) ?_
    case refine_2 => intro W hw; have e0 := HQ0.out W hw; have e1 := HQ1.out W hw; have e2 := HQ2.out W hw; have e3 := HQ3.out W hw; clear hw; go_simp; (try with_reducible rfl)
    simp only [Act.put, Ld, Le, Lf]
    refine wpLate.take (i := 4) (q := 18) (oi := _) (v := ?_) rfl (by as_aux_lemma => kernel_rfl) (by as_aux_lemma => kernel_rfl) (by as_aux_lemma => kernel_rfl) (by as_aux_lemma => kernel_rfl) (by rfl) (fun _ _ _ h => h) (TillOne.set (by decide)) (HS0.out _) (Or.inl ⟨by rfl, ?_⟩) ?_
    case refine_2 => intro W hw; have e0 := HQ0.out W hw; have e1 := HQ1.out W hw; have e2 := HQ2.out W hw; have e3 := HQ3.out W hw; clear hw; go_simp; (try with_reducible rfl)
    simp only [Act.put, Ld, Le, Lf]
    refine wpLate.take (i := 5) (q := 18) (oi := _) (v := ?_) rfl (by as_aux_lemma => kernel_rfl) (by as_aux_lemma => kernel_rfl) (by as_aux_lemma => kernel_rfl) (by as_aux_lemma => kernel_rfl) (by rfl) (fun _ _ _ h => h) (TillOne.set (by decide)) (HS0.out _) (Or.inl ⟨by rfl, ?_⟩) ?_
    case refine_2 => intro W hw; have e0 := HQ0.out W hw; have e1 := HQ1.out W hw; have e2 := HQ2.out W hw; have e3 := HQ3.out W hw; clear hw; go_simp; (try with_reducible rfl)
    simp only [Act.put, Ld, Le, Lf]
    refine wpLate.take (i := 6) (q := 18) (oi := _) (v := ?_) rfl (by as_aux_lemma => kernel_rfl) (by as_aux_lemma => kernel_rfl) (by as_aux_lemma => kernel_rfl) (by as_aux_lemma => kernel_rfl) (by rfl) (fun _ _ _ h => h) (TillOne.set (by decide)) (HS0.out _) (Or.inl ⟨by rfl, ?_⟩) ?_
    case refine_2 => intro W hw; have e0 := HQ0.out W hw; have e1 := HQ1.out W hw; have e2 := HQ2.out W hw; have e3 := HQ3.out W hw; clear hw; go_simp; (try with_reducible rfl)
    simp only [Act.put, Ld, Le, Lf]
    refine wpLate.take (i := 7) (q := 18) (oi := _) (v := ?_) rfl (by as_aux_lemma => kernel_rfl) (by as_aux_lemma => kernel_rfl) (by as_aux_lemma => kernel_rfl) (by as_aux_lemma => kernel_rfl) (by rfl) (fun _ _ _ h => h) (TillOne.set (by decide)) (HS0.out _) (Or.inl ⟨by rfl, ?_⟩) ?_
    case refine_2 => intro W hw; have e0 := HQ0.out W hw; have e1 := HQ1.out W hw; have e2 := HQ2.out W hw; have e3 := HQ3.out W hw; clear hw; go_simp; (try with_reducible rfl)
    simp only [Act.put, Ld, Le, Lf]
    refine wpLate.take (i := 8) (q := 18) (oi := _) (v := ?_) rfl (by as_aux_lemma => kernel_rfl) (by as_aux_lemma => kernel_rfl) (by as_aux_lemma => kernel_rfl) (by as_aux_lemma => kernel_rfl) (by rfl) (fun _ _ _ h => h) (TillOne.set (by decide)) (HS0.out _) (Or.inl ⟨by rfl, ?_⟩) ?_
    case refine_2 => intro W hw; have e0 := HQ0.out W hw; have e1 := HQ1.out W hw; have e2 := HQ2.out W hw; have e3 := HQ3.out W hw; clear hw; go_simp; (try with_reducible rfl)
    simp only [Act.put, Ld, Le, Lf]
    refine wpLate.take (i := 9) (q := 18) (oi := _) (v := ?_) rfl (by as_aux_lemma => kernel_rfl) (by as_aux_lemma => kernel_rfl) (by as_aux_lemma => kernel_rfl) (by as_aux_lemma => kernel_rfl) (by rfl) (fun _ _ _ h => h) (TillOne.set (by decide)) (HS0.out _) (Or.inl ⟨by rfl, ?_⟩) ?_
    case refine_2 => intro W hw; have e0 := HQ0.out W hw; have e1 := HQ1.out W hw; have e2 := HQ2.out W hw; have e3 := HQ3.out W hw; clear hw; go_simp; (try with_reducible rfl)
    simp only [Act.put, Ld, Le, Lf]
    refine wpLate.take (i := 10) (q := 18) (oi := _) (v := ?_) rfl (by as_aux_lemma => kernel_rfl) (by as_aux_lemma => kernel_rfl) (by as_aux_lemma => kernel_rfl) (by as_aux_lemma => kernel_rfl) (by rfl) (fun _ _ _ h => h) (TillOne.set (by decide)) (HS0.out _) (Or.inl ⟨by rfl, ?_⟩) ?_
    case refine_2 => intro W hw; have e0 := HQ0.out W hw; have e1 := HQ1.out W hw; have e2 := HQ2.out W hw; have e3 := HQ3.out W hw; clear hw; go_simp; (try with_reducible rfl)
    simp only [Act.put, Ld, Le, Lf]
    refine wpLate.take (i := 11) (q := 18) (oi := _) (v := ?_) rfl (by as_aux_lemma => kernel_rfl) (by as_aux_lemma => kernel_rfl) (by as_aux_lemma => kernel_rfl) (by as_aux_lemma => kernel_rfl) (by rfl) (fun _ _ _ h => h) (TillOne.set (by decide)) (HS0.out _) (Or.inl ⟨by rfl, ?_⟩) ?_
    case refine_2 => intro W hw; have e0 := HQ0.out W hw; have e1 := HQ1.out W hw; have e2 := HQ2.out W hw; have e3 := HQ3.out W hw; clear hw; go_simp; (try with_reducible rfl)
    simp only [Act.put, Ld, Le, Lf]
    refine wpLate.take (i := 12) (q := 18) (oi := _) (v := ?_) rfl (by as_aux_lemma => kernel_rfl) (by as_aux_lemma => kernel_rfl) (by as_aux_lemma => kernel_rfl) (by as_aux_lemma => kernel_rfl) (by rfl) (fun _ _ _ h => h) (TillOne.set (by decide)) (HS0.out _) (Or.inl ⟨by rfl, ?_⟩) ?_
    case refine_2 => intro W hw; have e0 := HQ0.out W hw; have e1 := HQ1.out W hw; have e2 := HQ2.out W hw; have e3 := HQ3.out W hw; clear hw; go_simp; (try with_reducible rfl)
    simp only [Act.put, Ld, Le, Lf]
    refine wpLate.take (i := 13) (q := 18) (oi := _) (v := ?_) rfl (by as_aux_lemma => kernel_rfl) (by as_aux_lemma => kernel_rfl) (by as_aux_lemma => kernel_rfl) (by as_aux_lemma => kernel_rfl) (by rfl) (fun _ _ _ h => h) (TillOne.set (by decide)) (HS0.out _) (Or.inl ⟨by rfl, ?_⟩) ?_
    case refine_2 => intro W hw; have e0 := HQ0.out W hw; have e1 := HQ1.out W hw; have e2 := HQ2.out W hw; have e3 := HQ3.out W hw; clear hw; go_simp; (try with_reducible rfl)
    simp only [Act.put, Ld, Le, Lf]
    refine wpLate.take (i := 14) (q := 18) (oi := _) (v := ?_) rfl (by as_aux_lemma => kernel_rfl) (by as_aux_lemma => kernel_rfl) (by as_aux_lemma => kernel_rfl) (by as_aux_lemma => kernel_rfl) (by rfl) (fun _ _ _ h => h) (TillOne.set (by decide)) (HS0.out _) (Or.inl ⟨by rfl, ?_⟩) ?_
    case refine_2 => intro W hw; have e0 := HQ0.out W hw; have e1 := HQ1.out W hw; have e2 := HQ2.out W hw; have e3 := HQ3.out W hw; clear hw; go_simp; (try with_reducible rfl)
    simp only [Act.put, Ld, Le, Lf]
    refine wpLate.ready (rs := [15]) (by as_aux_lemma => kernel_rfl) (by simp) (eachLate.cons rfl (fun K hK => ?_) eachLate.nil)
    go_simp
    refine hK.out _ _ (HT5.out _) ?_
    clear hK K
    try simp only [Act.put]
    generalize (wr.alloc (.cells #[.string a.name, .string a.value] 53)).drew = w7 at *
    generalize wr.heap.size = g7 at *
    refine wpLate.ready (rs := [16]) (by as_aux_lemma => kernel_rfl) (by simp) (eachLate.cons rfl (fun K hK => ?_) eachLate.nil)
    refine step_of rfl (wp_appendE (r := [.string a.name, .string a.value]) (.tmp 17) (.tmp 31) rfl Tryz.underlying36 Tryz.infoSAttr rfl (Nat.zero_lt_succ _) rfl H5.out.1.own rfl H5.out.2 rfl (fun u hu => by simp at hu; rcases hu with rfl | rfl <;> rfl) (by rw [HLK.out]; omega) (by rw [HLK.out]; omega) H5.out.1.low.size ?_)
    intro v8 w8 ho8 hg8 hn8
    have H8 := Lib.hid (H5.out.1.grew ho8 hg8 HTK.out)
    have c8 : w8.cell? ⟨go, 2, none⟩ = some (.slice Av nv cv) := H8.out.1.cell 2
    have f8 := H8.out.1.frz 2
    have HT8 : Hid (∀ L, (TillOne (fun W => Below N w W ∧ Whole W N 32 #[.string ln, .string cn, .slice (some ad) n c]) (fun W => W.cell? ⟨go, 2, none⟩ = some (.slice Av nv cv)) 18) L w8) := Lib.hid fun L => TillOne.mk ⟨by rw [← HN.out]; exact H8.out.2.2.1, by rw [← HN.out]; exact H8.out.2.2.2.1⟩ c8
    have HFIN := Lib.hid (H8.out.2.2.2.2 v8 (by rw [HTK.out]; exact ho8))
    have HS9 : Hid (∀ L, L.getD 18 true = true → (TillOne (fun W => Below N w W ∧ Whole W N 32 #[.string ln, .string cn, .slice (some ad) n c]) (fun W => W.cell? ⟨go, 2, none⟩ = some (.slice Av nv cv)) 18) L (w8.setCell ⟨go, 2, none⟩ v8)) := Lib.hid fun L hL => TillOne.past ⟨by rw [← HN.out]; exact HFIN.out.low, by rw [← HN.out]; exact HFIN.out.box⟩ hL
    obtain ⟨A8, k8, hv8, -⟩ := ho8.form
    generalize (((p.attrs.take k).map acell) ++ [[Value.string a.name, Value.string a.value]]).length = l8 at hv8
    subst hv8
    clear ho8 hg8 hn8 H5
    refine hK.out _ _ (HT8.out _) ?_
    clear hK K
    try simp only [Act.put]
    refine wpLate.take (i := 17) (q := 18) (oi := _) (v := ?_) rfl (by as_aux_lemma => kernel_rfl) (by as_aux_lemma => kernel_rfl) (by as_aux_lemma => kernel_rfl) (by as_aux_lemma => kernel_rfl) (by rfl) (fun _ _ _ h => h) (TillOne.set (by decide)) (HT8.out _) (Or.inl ⟨by rfl, ?_⟩) ?_
    case refine_2 => intro W hw; have e0 := HQ0.out W hw; have e1 := HQ1.out W hw; have e2 := HQ2.out W hw; have e3 := HQ3.out W hw; clear hw; go_simp; (try with_reducible rfl)
    simp only [Act.put, Ld, Le, Lf]
    refine wpLate.ready (rs := [18]) (by as_aux_lemma => kernel_rfl) (by simp) (eachLate.cons rfl (fun K hK => ?_) eachLate.nil)
    go_simp
    refine hK.out _ _ (HS9.out _ rfl) ?_
    clear hK K
    try simp only [Act.put]
    refine wpLate.done (by as_aux_lemma => kernel_rfl) ?_ _
    go_wp2
    go_roundw
    case rel => exact ⟨k + 1, _, by omega, by go_num, HFIN.out⟩
    case measure => simp [intOf]; omega
  · obtain rfl : k = n := by omega
    have HFW : Hid (CpIn 32 38 53 w #[.string ln, .string cn, .slice A k c] go ln cn p.attrs (.slice Av nv cv) wr) := Lib.hid (by
     have := HK.out
     rw [List.take_of_length_le (by rw [HNN.out]; exact Nat.le_refl _)] at this
     exact this)
    have HR7 : Hid (Whole wr (N + 1) 38 #[.string ⟨#[]⟩, .string ⟨#[]⟩, .slice none 0 0]) := Lib.hid (by rw [← HN.out]; exact HFW.out.res)
    have HFIN : Hid (∃ v, Ending.returned (.agg #[.string ln, .string cn, .slice Av nv cv]) = .returned (.agg #[.string ln, .string cn, v]) ∧ Own (wr.setRow (N + 1) #[.string ln, .string cn, .slice Av nv cv]) w.heap.size 53 2 v (p.attrs.map acell) ∧ Below w.heap.size w (wr.setRow (N + 1) #[.string ln, .string cn, .slice Av nv cv])) :=
     Lib.hid ⟨_, rfl, Own.farRow HFW.out.own (Own.apart HFW.out.own HR7.out (by decide)) _, below_row HFW.out.low (by rw [HN.out]; exact Nat.le_succ _) _⟩
    go_wp2_with (first
     | ((with_reducible refine wpList_load_all ?_ 38 (.tmp 3) ?_ HFW.out.out ?_ Tryz.sizeSPart ?_ Tryz.underlying38 ?_ ?_); (with_reducible rfl); (with_reducible rfl); rfl; rfl; rfl)
     | ((with_reducible refine wpList_storeS #[.string ln, .string cn, .slice Av nv cv] ?_ 38 (.tmp 2) (.tmp 35) ?_ ?_ ?_ HR7.out Tryz.sizeSPart ?_ ?_ ?_ ?_); (with_reducible rfl); (with_reducible rfl); rfl; rfl; rfl; rfl; rfl)
     | ((with_reducible show bodyPost _ _ _ _ _ _); exact bodyPost_ret (ret_struct rfl rfl (HR7.out.row _) Tryz.underlying38 rfl Tryz.sizeSPart rfl) rfl HFIN.out))
end Go.Proofs.YtbbedhecfipdjaaGreatDoor
