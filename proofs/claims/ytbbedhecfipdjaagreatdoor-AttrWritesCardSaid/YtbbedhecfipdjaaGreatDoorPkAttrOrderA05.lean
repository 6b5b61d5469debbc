import Derived.Test.YtbbedhecfipdjaaGreatDoorPkAttrOrderB
import Derived.Test.YtbbedhecfipdjaaGreatDoorPkAttrOrderA04
import Derived.Great.BuildSlice
namespace Go.Proofs.YtbbedhecfipdjaaGreatDoor
open Go.RowKit
set_option linter.unusedVariables false
set_option linter.unusedSimpArgs false
theorem Tryz.infoExt : (Tryz.prog.info? 84).map (fun i => (i.zero, i.size, i.bytes)) = some (some (.agg #[.int .i64 0, .string ⟨#[]⟩]), 2, 24) := by kernel_rfl
theorem MW.extA {base bm n : Nat} {w w' : World} {m : MediaS} {cs : List (CodecS × Value)} {vC vE vR vS vY v' : Value} (h : MW base bm n w m cs vC vE vR vS vY) {x : ExtS} (ho : Own w' base 84 2 v' (m.exts.map ecell ++ [ecell x])) (hg : w.grownBy w' vE.ownBlock) (hb : base ≤ w.heap.size) (hx : x.uri.size ≤ 140737488355328) (hn : n ≤ 64) :
 MW base bm (n + 1) (w'.setCell ⟨bm, 5, none⟩ v') { m with exts := m.exts ++ [x] } cs vC v' vR vS vY ∧ Rdt base bm w (w'.setCell ⟨bm, 5, none⟩ v') := by
 have hbx : Whole w' bm 28 (mcell m vC vE vR vS vY) := h.box.grown hg (fun e => (h.hE.apart h.box (by decide)) e.symm)
 have kC := h.hC.grown hg (h.hC.apart2 h.hE (by decide))
 have kR := h.hR.grown hg (h.hR.apart2 h.hE (by decide))
 have kS := h.hS.grown hg (h.hS.apart2 h.hE (by decide))
 have kY := h.hY.grown hg (h.hY.apart2 h.hE (by decide))
 have kF := fun c hc => (h.hF c hc).grown hg ((h.hF c hc).apart2 h.hE (by decide))
 obtain ⟨l1, l2, l3, l4, l5, l6⟩ := h.lens
 refine ⟨⟨h.eqC, ?_, kC.far (p := ⟨bm, 5, none⟩) (kC.apart hbx (by decide)) _, fun c hc => (kF c hc).far (p := ⟨bm, 5, none⟩) ((kF c hc).apart hbx (by decide)) _, ?_, kR.far (p := ⟨bm, 5, none⟩) (kR.apart hbx (by decide)) _, kS.far (p := ⟨bm, 5, none⟩) (kS.apart hbx (by decide)) _, kY.far (p := ⟨bm, 5, none⟩) (kY.apart hbx (by decide)) _, h.ap, h.hbm, ?_, ?_⟩, ?_, ?_, (h.hE.others hg).trans (Go.KeepsOthers.setCell _ _ _)⟩
 · exact hbx.set 5 v'
 · show Own _ _ _ _ _ ((m.exts ++ [x]).map ecell)
   rw [List.map_append]
   exact ho.far (p := ⟨bm, 5, none⟩) (ho.apart hbx (by decide)) _
 · obtain ⟨z1, z2, z3, z4, z5, z6, z8⟩ := h.siz
   refine ⟨z1, z2, z3, fun y hy => ?_, z5, z6, ?_⟩
   · rcases List.mem_append.1 hy with hy | hy
     · exact z4 y hy
     · simp at hy
       subst hy
       exact hx
   · show m.codecs.length ≤ _ ∧ (m.exts ++ [x]).length ≤ _ ∧ m.rids.length ≤ _ ∧ m.sources.length ≤ _ ∧ m.crypto.length ≤ _
     rw [List.length_append, List.length_singleton]
     omega
 · refine ⟨by show m.codecs.length ≤ _; omega, by show (m.exts ++ [x]).length ≤ _; rw [List.length_append, List.length_singleton]; omega, by show m.rids.length ≤ _; omega, by show m.sources.length ≤ _; omega, by show m.crypto.length ≤ _; omega, fun c hc => by have := l6 c hc; omega⟩
 · exact (Below.refl base w).grown hg hb (fun j hj => (h.hE.lt hj).1) |>.setCell (p := ⟨bm, 5, none⟩) h.hbm _
 · intro g t ds hw h1 h2 h3 h4 h5 h6
   exact (hw.grown hg (fun e => (h.hE.apart hw (fun e2 => h2 e2.symm)) e.symm)).far (p := ⟨bm, 5, none⟩) h6 _
set_option maxHeartbeats 3200000 in
set_option maxRecDepth 100000 in
theorem readExt_any (base bm n : Nat) (s : ByteArray) (m : MediaS) (cs : List (CodecS × Value)) (vC vE vR vS vY : Value) (w : World) (h : MW base bm n w m cs vC vE vR vS vY) (hE : EnvR w) (hs : s.size ≤ 140737488355328) (hn : n ≤ 64) :
 Calls Tryz.prog 153 #[.pointer (some ⟨bm, 0, none⟩), .string s] w (RdO base bm (n + 1) w { m with exts := m.exts ++ [⟨numP (hd (tx s)), bs (tl (tx s))⟩] }) := by
 have HC1 := Lib.hid (cutc_any s w (by omega))
 have hbw : base ≤ w.heap.size := Nat.le_trans h.hbm (Nat.le_of_lt h.box.lt)
 obtain ⟨AE, nE0, hvE, -⟩ := Own.form h.hE
 obtain ⟨cE, hcE⟩ : ∃ c, nE0 = c := ⟨_, rfl⟩
 obtain ⟨nE, hnE⟩ : ∃ c, (m.exts.map ecell).length = c := ⟨_, rfl⟩
 rw [hnE, hcE] at hvE
 subst hvE
 have hz1 := (cutS_len [32] (tx s)).1
 have hz2 := (cutS_len [32] (tx s)).2
 rw [tx_length] at hz1 hz2
 obtain ⟨a, ha⟩ : ∃ a, bs (hd (tx s)) = a := ⟨_, rfl⟩
 obtain ⟨b, hb⟩ : ∃ a, bs (tl (tx s)) = a := ⟨_, rfl⟩
 have haz : a.size ≤ 140737488355328 := by rw [← ha, bs_size]; exact Nat.le_trans hz1 hs
 have hbz : b.size ≤ 140737488355328 := by rw [← hb, bs_size]; exact Nat.le_trans hz2 hs
 have HBZ := Lib.hid hbz
 have hta : hd (tx s) = tx a := by rw [← ha, tx_bs]
 rw [ha, hb] at HC1
 rw [hb, hta]
 have HNF : Hid (∀ W, EnvR W → Calls Tryz.prog 102 #[.string a] W fun e w' => e = .returned (.int .i64 (numP (tx a))) ∧ Below W.heap.size W w') := Lib.hid fun W hW => number_any a W hW (by omega)
 obtain ⟨z, hz⟩ : ∃ z, numP (tx a) = z := ⟨_, rfl⟩
 rw [hz] at HNF ⊢
 have HM := Lib.hid h
 have HEN := Lib.hid hE
 have HN64 := Lib.hid hn
 have HBW := Lib.hid hbw
 clear h hE ha hb haz hbz hta hz hz1 hz2 hs hn hbw hnE hcE
 go_enter Tryz.func153, Tryz.ntmps153
 go_upto_region 1 with (go_at_call 101; (with_reducible refine HC1.out.mono ?_); rintro e w2 ⟨rfl, hb2⟩; have H2 : Hid (MW base bm n w2 m cs vC (.slice AE nE cE) vR vS vY ∧ Rdt base bm w w2) := Lib.hid ⟨HM.out.under hb2, (Rdt.refl base bm w).under hb2 HBW.out⟩; have HE2 : Hid (EnvR w2.drew) := Lib.hid ((HEN.out.under hb2).under (Below.refl _ _).drew); have HB2 : Hid (base ≤ w2.heap.size) := Lib.hid (Nat.le_trans HBW.out hb2.size); clear hb2; dsimp only)
 have HNM := Lib.hid (HNF.out w2.drew HE2.out)
 have HQ0 : Hid (∀ W, Ahead (TillOne (fun _ => True) (fun W => W.cell? ⟨bm, 5, none⟩ = some (.slice AE nE cE)) 13) 13 W → W.cell? ⟨bm, 5, none⟩ = some (.slice AE nE cE)) := Lib.hid fun W h => (TillOne.get h).2
 have HS0 : Hid (∀ L, (TillOne (fun _ => True) (fun W => W.cell? ⟨bm, 5, none⟩ = some (.slice AE nE cE)) 13) L w2.drew) := Lib.hid fun L => TillOne.mk trivial (H2.out.1.box.cell 5)
 refine wp_region_late (TillOne (fun _ => True) (fun W => W.cell? ⟨bm, 5, none⟩ = some (.slice AE nE cE)) 13) (by as_aux_lemma => kernel_rfl) ?_
 change wpLate Tryz.prog .any _ _ _ 14 #[false, false, false, false, false, false, false, false, false, false, false, false, false, false] _ _
 refine wpLate.take (i := 0) (q := 13) (oi := _) (v := ?_) rfl (by as_aux_lemma => kernel_rfl) (by as_aux_lemma => kernel_rfl) (by as_aux_lemma => kernel_rfl) (by as_aux_lemma => kernel_rfl) (by rfl) (fun _ _ _ h => h) (TillOne.set (by decide)) (HS0.out _) (Or.inl ⟨by rfl, ?_⟩) ?_
 case refine_2 => intro W hw; have e0 := HQ0.out W hw; clear hw; go_simp; (try with_reducible rfl)
 simp only [Act.put, Ld, Le, Lf]
 refine wpLate.take (i := 1) (q := 13) (oi := _) (v := ?_) rfl (by as_aux_lemma => kernel_rfl) (by as_aux_lemma => kernel_rfl) (by as_aux_lemma => kernel_rfl) (by as_aux_lemma => kernel_rfl) (by rfl) (fun _ _ _ h => h) (TillOne.set (by decide)) (HS0.out _) (Or.inl ⟨by rfl, ?_⟩) ?_
 case refine_2 => intro W hw; have e0 := HQ0.out W hw; clear hw; go_simp; (try with_reducible rfl)
 simp only [Act.put, Ld, Le, Lf]
 refine wpLate.take (i := 2) (q := 13) (oi := _) (v := ?_) rfl (by as_aux_lemma => kernel_rfl) (by as_aux_lemma => kernel_rfl) (by as_aux_lemma => kernel_rfl) (by as_aux_lemma => kernel_rfl) (by rfl) (fun _ _ _ h => h) (TillOne.set (by decide)) (HS0.out _) (Or.inl ⟨by rfl, ?_⟩) ?_
 case refine_2 => intro W hw; have e0 := HQ0.out W hw; clear hw; go_simp; (try with_reducible rfl)
 simp only [Act.put, Ld, Le, Lf]
 refine wpLate.take (i := 3) (q := 13) (oi := _) (v := ?_) rfl (by as_aux_lemma => kernel_rfl) (by as_aux_lemma => kernel_rfl) (by as_aux_lemma => kernel_rfl) (by as_aux_lemma => kernel_rfl) (by rfl) (fun _ _ _ h => h) (TillOne.set (by decide)) (HS0.out _) (Or.inl ⟨by rfl, ?_⟩) ?_
 case refine_2 => intro W hw; have e0 := HQ0.out W hw; clear hw; go_simp; (try with_reducible rfl)
 simp only [Act.put, Ld, Le, Lf]
 refine wpLate.take (i := 4) (q := 13) (oi := _) (v := ?_) rfl (by as_aux_lemma => kernel_rfl) (by as_aux_lemma => kernel_rfl) (by as_aux_lemma => kernel_rfl) (by as_aux_lemma => kernel_rfl) (by rfl) (fun _ _ _ h => h) (TillOne.set (by decide)) (HS0.out _) (Or.inl ⟨by rfl, ?_⟩) ?_
 case refine_2 => intro W hw; have e0 := HQ0.out W hw; clear hw; go_simp; (try with_reducible rfl)
 simp only [Act.put, Ld, Le, Lf]
 refine wpLate.take (i := 5) (q := 13) (oi := _) (v := ?_) rfl (by as_aux_lemma => kernel_rfl) (by as_aux_lemma => kernel_rfl) (by as_aux_lemma => kernel_rfl) (by as_aux_lemma => kernel_rfl) (by rfl) (fun _ _ _ h => h) (TillOne.set (by decide)) (HS0.out _) (Or.inl ⟨by rfl, ?_⟩) ?_
 case refine_2 => intro W hw; have e0 := HQ0.out W hw; clear hw; go_simp; (try with_reducible rfl)
 simp only [Act.put, Ld, Le, Lf]
 refine wpLate.take (i := 7) (q := 13) (oi := _) (v := ?_) rfl (by as_aux_lemma => kernel_rfl) (by as_aux_lemma => kernel_rfl) (by as_aux_lemma => kernel_rfl) (by as_aux_lemma => kernel_rfl) (by rfl) (fun _ _ _ h => h) (TillOne.set (by decide)) (HS0.out _) (Or.inl ⟨by rfl, ?_⟩) ?_
 case refine_2 => intro W hw; have e0 := HQ0.out W hw; clear hw; go_simp; (try with_reducible rfl)
 simp only [Act.put, Ld, Le, Lf]
 refine wpLate.ready (rs := [6]) (by as_aux_lemma => kernel_rfl) (by simp) (eachLate.cons rfl (fun K hK => ?_) eachLate.nil)
 go_simp
 refine HNM.out.mono ?_
 rintro e w4 ⟨rfl, hb4⟩
 have H4 := Lib.hid (H2.out.1.drew.under hb4)
 have HR4 : Hid (Rdt base bm w w4) := Lib.hid ((H2.out.2.under (Below.refl _ w2).drew HB2.out).under hb4 HB2.out)
 have HB4 : Hid (base ≤ w4.heap.size) := Lib.hid (Nat.le_trans HB2.out hb4.size)
 have HT4 : Hid (∀ L, (TillOne (fun _ => True) (fun W => W.cell? ⟨bm, 5, none⟩ = some (.slice AE nE cE)) 13) L w4) := Lib.hid fun L => TillOne.mk trivial (H4.out.box.cell 5)
 refine hK.out _ _ (HT4.out _) ?_
 clear hK K hb4
 try simp only [Act.put]
 refine wpLate.take (i := 8) (q := 13) (oi := _) (v := ?_) rfl (by as_aux_lemma => kernel_rfl) (by as_aux_lemma => kernel_rfl) (by as_aux_lemma => kernel_rfl) (by as_aux_lemma => kernel_rfl) (by rfl) (fun _ _ _ h => h) (TillOne.set (by decide)) (HT4.out _) (Or.inl ⟨by rfl, ?_⟩) ?_
 case refine_2 => intro W hw; have e0 := HQ0.out W hw; clear hw; go_simp; (try with_reducible rfl)
 simp only [Act.put, Ld, Le, Lf]
 refine wpLate.ready (rs := [9]) (by as_aux_lemma => kernel_rfl) (by simp) (eachLate.cons rfl (fun K hK => ?_) eachLate.nil)
 have H5 : Hid (MW base bm n (w4.alloc (.cells #[.int .i64 z, .string b] 84)) m cs vC (.slice AE nE cE) vR vS vY ∧ Whole (w4.alloc (.cells #[.int .i64 z, .string b] 84)) w4.heap.size 84 #[.int .i64 z, .string b] ∧ Rdt base bm w (w4.alloc (.cells #[.int .i64 z, .string b] 84)) ∧ base ≤ (w4.alloc (.cells #[.int .i64 z, .string b] 84)).heap.size) := Lib.hid ⟨H4.out.under ((Below.refl _ w4).alloc (Nat.le_refl _) _), Whole.new _ _ _, HR4.out.under ((Below.refl _ w4).alloc (Nat.le_refl _) _) HB4.out, by rw [World.size_alloc]; have := HB4.out; omega⟩
 have HT5 : Hid (∀ L, (TillOne (fun _ => True) (fun W => W.cell? ⟨bm, 5, none⟩ = some (.slice AE nE cE)) 13) L (w4.alloc (.cells #[.int .i64 z, .string b] 84))) := Lib.hid fun L => TillOne.mk trivial (H5.out.1.box.cell 5)
 go_simp
 refine hK.out _ _ (HT5.out _) ?_
 clear hK K
 try simp only [Act.put]
 generalize w4.alloc (.cells #[.int .i64 z, .string b] 84) = w7 at *
 generalize w4.heap.size = g7 at *
 refine wpLate.ready (rs := [10]) (by as_aux_lemma => kernel_rfl) (by simp) (eachLate.cons rfl (fun K hK => ?_) eachLate.nil)
 refine step_of rfl (wp_appendE (r := [.int .i64 z, .string b]) (.tmp 15) (.tmp 20) rfl Tryz.underlying23 Tryz.infoExt rfl (Nat.zero_lt_succ _) rfl H5.out.1.hE rfl H5.out.2.1 rfl (fun u hu => by simp at hu; rcases hu with rfl | rfl <;> rfl) (by rw [List.length_map]; have := H5.out.1.lens.2.1; have := HN64.out; omega) (by rw [List.length_map]; have := H5.out.1.lens.2.1; have := HN64.out; omega) H5.out.2.2.2 ?_)
 intro v8 w8 ho8 hg8 hn8
 have H8 := Lib.hid (H5.out.1.extA (x := ⟨z, b⟩) ho8 hg8 H5.out.2.2.2 HBZ.out HN64.out)
 have hbx8 : Whole w8 bm 28 (mcell m vC (.slice AE nE cE) vR vS vY) := H5.out.1.box.grown hg8 (fun e => (H5.out.1.hE.apart H5.out.1.box (by decide)) e.symm)
 have c8 : w8.cell? ⟨bm, 5, none⟩ = some (.slice AE nE cE) := hbx8.cell 5
 have f8 := hbx8.frz 5
 have HT8 : Hid (∀ L, (TillOne (fun _ => True) (fun W => W.cell? ⟨bm, 5, none⟩ = some (.slice AE nE cE)) 13) L w8) := Lib.hid fun L => TillOne.mk trivial c8
 have HS9 : Hid (∀ L, L.getD 13 true = true → (TillOne (fun _ => True) (fun W => W.cell? ⟨bm, 5, none⟩ = some (.slice AE nE cE)) 13) L (w8.setCell ⟨bm, 5, none⟩ v8)) := Lib.hid fun L hL => TillOne.past trivial hL
 have HFIN : Hid ((∃ cs vC vE vR vS vY, MW base bm (n + 1) (w8.setCell ⟨bm, 5, none⟩ v8) { m with exts := m.exts ++ [⟨z, b⟩] } cs vC vE vR vS vY) ∧ Rdt base bm w (w8.setCell ⟨bm, 5, none⟩ v8)) := Lib.hid ⟨⟨_, _, _, _, _, _, H8.out.1⟩, H5.out.2.2.1.trans H8.out.2⟩
 obtain ⟨A8, k8, hv8, -⟩ := ho8.form
 generalize ((m.exts.map ecell) ++ [[Value.int .i64 z, Value.string b]]).length = l8 at hv8
 subst hv8
 clear ho8 hg8 hn8 hbx8 H5
 refine hK.out _ _ (HT8.out _) ?_
 clear hK K
 try simp only [Act.put]
 refine wpLate.ready (rs := [11]) (by as_aux_lemma => kernel_rfl) (by simp) (eachLate.cons rfl (fun K hK => ?_) eachLate.nil)
 go_simp
 refine hK.out _ _ (HT8.out _) ?_
 clear hK K
 try simp only [Act.put, Ld, Le, Lf]
 refine wpLate.take (i := 12) (q := 13) (oi := _) (v := ?_) rfl (by as_aux_lemma => kernel_rfl) (by as_aux_lemma => kernel_rfl) (by as_aux_lemma => kernel_rfl) (by as_aux_lemma => kernel_rfl) (by rfl) (fun _ _ _ h => h) (TillOne.set (by decide)) (HT8.out _) (Or.inl ⟨by rfl, ?_⟩) ?_
 case refine_2 => intro W hw; have e0 := HQ0.out W hw; clear hw; go_simp; (try with_reducible rfl)
 simp only [Act.put, Ld, Le, Lf]
 refine wpLate.ready (rs := [13]) (by as_aux_lemma => kernel_rfl) (by simp) (eachLate.cons rfl (fun K hK => ?_) eachLate.nil)
 go_simp
 refine hK.out _ _ (HS9.out _ rfl) ?_
 clear hK K
 try simp only [Act.put]
 refine wpLate.done (by as_aux_lemma => kernel_rfl) ?_ _
 go_wp2
 go_end0
 exact ⟨rfl, HFIN.out.1, HFIN.out.2⟩
theorem Tryz.infoCodec : (Tryz.prog.info? 58).map (fun i => (i.zero, i.size, i.bytes)) = some (some (.agg #[.int .i64 0, .string ⟨#[]⟩, .int .i64 0, .int .i64 0, .string ⟨#[]⟩, .slice none 0 0]), 6, 80) := by kernel_rfl
theorem Tryz.infoU32 : (Tryz.prog.info? 85).map (fun i => (i.zero, i.size, i.bytes)) = some (some (.int .u32 0), 1, 4) := by kernel_rfl
theorem Tryz.infoCrypto : (Tryz.prog.info? 88).map (fun i => (i.zero, i.size, i.bytes)) = some (some (.agg (#[.int .i64 0] ++ zKey)), 31, 40) := by kernel_rfl
theorem apart_flip {a b : Option Nat} (h : a = none ∨ a ≠ b) : b = none ∨ b ≠ a := by
 by_cases e : b = none
 · exact .inl e
 · right
   rcases h with rfl | h
   · exact e
   · exact fun e2 => h e2.symm
theorem MW.codecsA {base bm n : Nat} {w w' : World} {m : MediaS} {cs : List (CodecS × Value)} {vC vE vR vS vY v' : Value} (h : MW base bm n w m cs vC vE vR vS vY) {x : CodecS} (ho : Own w' base 58 6 v' ((cs.map fun c => ccell c.1 c.2) ++ [ccell x (.slice none 0 0)])) (hg : w.grownBy w' vC.ownBlock) (hb : base ≤ w.heap.size) (hf : x.feedback = []) (hx : x.name.size ≤ 140737488355328 ∧ x.format.size ≤ 140737488355328) (hn : n ≤ 64) :
 MW base bm (n + 1) (w'.setCell ⟨bm, 4, none⟩ v') { m with codecs := m.codecs ++ [x] } (cs ++ [(x, .slice none 0 0)]) v' vE vR vS vY ∧ Rdt base bm w (w'.setCell ⟨bm, 4, none⟩ v') := by
 have hbx : Whole w' bm 28 (mcell m vC vE vR vS vY) := h.box.grown hg (fun e => (h.hC.apart h.box (by decide)) e.symm)
 have kE := h.hE.grown hg (h.hE.apart2 h.hC (by decide))
 have kR := h.hR.grown hg (h.hR.apart2 h.hC (by decide))
 have kS := h.hS.grown hg (h.hS.apart2 h.hC (by decide))
 have kY := h.hY.grown hg (h.hY.apart2 h.hC (by decide))
 have kF := fun c hc => (h.hF c hc).grown hg ((h.hF c hc).apart2 h.hC (by decide))
 obtain ⟨l1, l2, l3, l4, l5, l6⟩ := h.lens
 obtain ⟨z1, z2, z3, z4, z5, z6, z8⟩ := h.siz
 refine ⟨⟨?_, ?box, ?own, ?feed, kE.far (p := ⟨bm, 4, none⟩) (kE.apart hbx (by decide)) _, kR.far (p := ⟨bm, 4, none⟩) (kR.apart hbx (by decide)) _, kS.far (p := ⟨bm, 4, none⟩) (kS.apart hbx (by decide)) _, kY.far (p := ⟨bm, 4, none⟩) (kY.apart hbx (by decide)) _, ?ap, h.hbm, ?siz, ?lens⟩, ?low, ?kept, (h.hC.others hg).trans (Go.KeepsOthers.setCell _ _ _)⟩
 · show m.codecs ++ [x] = (cs ++ [(x, Value.slice none 0 0)]).map (·.1)
   rw [List.map_append, h.eqC]
   rfl
 case feed =>
  intro c hc
  rcases List.mem_append.1 hc with hc | hc
  · exact (kF c hc).far (p := ⟨bm, 4, none⟩) ((kF c hc).apart hbx (by decide)) _
  · simp at hc
    subst hc
    rw [hf]
    exact Own.nil _ _ _ _
 case box => exact hbx.set 4 v'
 case own =>
  show Own _ _ _ _ _ ((cs ++ [(x, Value.slice none 0 0)]).map fun c => ccell c.1 c.2)
  rw [List.map_append]
  exact ho.far (p := ⟨bm, 4, none⟩) (ho.apart hbx (by decide)) _
 case ap =>
  show (vR :: (cs ++ [(x, Value.slice none 0 0)]).map (·.2)).Pairwise _
  rw [List.map_append, ← List.cons_append]
  refine List.pairwise_append.2 ⟨h.ap, by simp, fun a ha b hb => ?_⟩
  simp at hb
  subst hb
  by_cases e : a.ownBlock = none
  · exact .inl e
  · exact .inr e
 case siz =>
  refine ⟨z1, fun c hc => ?_, fun c hc => ?_, z4, z5, z6, ?_⟩
  · rcases List.mem_append.1 hc with hc | hc
    · exact z2 c hc
    · simp at hc
      subst hc
      exact ⟨hx.1, hx.2, by rw [hf]; intro f h; cases h⟩
  · rcases List.mem_append.1 hc with hc | hc
    · exact z3 c hc
    · simp at hc
      subst hc
      rw [hf]
      exact Nat.zero_le _
  · show (m.codecs ++ [x]).length ≤ _ ∧ m.exts.length ≤ _ ∧ m.rids.length ≤ _ ∧ m.sources.length ≤ _ ∧ m.crypto.length ≤ _
    rw [List.length_append, List.length_singleton]
    omega
 case lens =>
  exact ⟨by show (m.codecs ++ [x]).length ≤ _; rw [List.length_append, List.length_singleton]; omega, by show m.exts.length ≤ _; omega, by show m.rids.length ≤ _; omega, by show m.sources.length ≤ _; omega, by show m.crypto.length ≤ _; omega, fun c hc => by
   rcases List.mem_append.1 hc with hc | hc
   · have := l6 c hc; omega
   · simp at hc
     subst hc
     rw [hf]
     exact Nat.zero_le _⟩
 case low => exact (Below.refl base w).grown hg hb (fun j hj => (h.hC.lt hj).1) |>.setCell (p := ⟨bm, 4, none⟩) h.hbm _
 case kept =>
  intro g t ds hw h1 h2 h3 h4 h5 h6
  exact (hw.grown hg (fun e => (h.hC.apart hw (fun e2 => h1 e2.symm)) e.symm)).far (p := ⟨bm, 4, none⟩) h6 _
theorem MW.sourcesA {base bm n : Nat} {w w' : World} {m : MediaS} {cs : List (CodecS × Value)} {vC vE vR vS vY v' : Value} (h : MW base bm n w m cs vC vE vR vS vY) {x : Nat} (ho : Own w' base 85 1 v' ((m.sources.map ucell) ++ [ucell x])) (hg : w.grownBy w' vS.ownBlock) (hb : base ≤ w.heap.size) (hx : x < 4294967296) (hn : n ≤ 64) :
 MW base bm (n + 1) (w'.setCell ⟨bm, 8, none⟩ v') { m with sources := m.sources ++ [x] } cs vC vE vR v' vY ∧ Rdt base bm w (w'.setCell ⟨bm, 8, none⟩ v') := by
 have hbx : Whole w' bm 28 (mcell m vC vE vR vS vY) := h.box.grown hg (fun e => (h.hS.apart h.box (by decide)) e.symm)
 have kC := h.hC.grown hg (h.hC.apart2 h.hS (by decide))
 have kE := h.hE.grown hg (h.hE.apart2 h.hS (by decide))
 have kR := h.hR.grown hg (h.hR.apart2 h.hS (by decide))
 have kY := h.hY.grown hg (h.hY.apart2 h.hS (by decide))
 have kF := fun c hc => (h.hF c hc).grown hg ((h.hF c hc).apart2 h.hS (by decide))
 obtain ⟨l1, l2, l3, l4, l5, l6⟩ := h.lens
 obtain ⟨z1, z2, z3, z4, z5, z6, z8⟩ := h.siz
 refine ⟨⟨h.eqC, ?box, kC.far (p := ⟨bm, 8, none⟩) (kC.apart hbx (by decide)) _, fun c hc => (kF c hc).far (p := ⟨bm, 8, none⟩) ((kF c hc).apart hbx (by decide)) _, kE.far (p := ⟨bm, 8, none⟩) (kE.apart hbx (by decide)) _, kR.far (p := ⟨bm, 8, none⟩) (kR.apart hbx (by decide)) _, ?own, kY.far (p := ⟨bm, 8, none⟩) (kY.apart hbx (by decide)) _, ?ap, h.hbm, ?siz, ?lens⟩, ?low, ?kept, (h.hS.others hg).trans (Go.KeepsOthers.setCell _ _ _)⟩
 case box => exact hbx.set 8 v'
 case own =>
  show Own _ _ _ _ _ ((m.sources ++ [x]).map ucell)
  rw [List.map_append]
  exact ho.far (p := ⟨bm, 8, none⟩) (ho.apart hbx (by decide)) _
 case ap =>
  exact h.ap
 case siz =>
  refine ⟨z1, z2, z3, z4, z5, ⟨fun y hy => ?_, z6.2⟩, ?_⟩
  · rcases List.mem_append.1 hy with hy | hy
    · exact z6.1 y hy
    · simp at hy
      subst hy
      exact hx
  · show m.codecs.length ≤ _ ∧ m.exts.length ≤ _ ∧ m.rids.length ≤ _ ∧ (m.sources ++ [x]).length ≤ _ ∧ m.crypto.length ≤ _
    rw [List.length_append, List.length_singleton]
    omega
 case lens =>
  exact ⟨by show m.codecs.length ≤ _; omega, by show m.exts.length ≤ _; omega, by show m.rids.length ≤ _; omega, by show (m.sources ++ [x]).length ≤ _; rw [List.length_append, List.length_singleton]; omega, by show m.crypto.length ≤ _; omega, fun c hc => by have := l6 c hc; omega⟩
 case low => exact (Below.refl base w).grown hg hb (fun j hj => (h.hS.lt hj).1) |>.setCell (p := ⟨bm, 8, none⟩) h.hbm _
 case kept =>
  intro g t ds hw h1 h2 h3 h4 h5 h6
  exact (hw.grown hg (fun e => (h.hS.apart hw (fun e2 => h4 e2.symm)) e.symm)).far (p := ⟨bm, 8, none⟩) h6 _
theorem MW.cryptoA {base bm n : Nat} {w w' : World} {m : MediaS} {cs : List (CodecS × Value)} {vC vE vR vS vY v' : Value} (h : MW base bm n w m cs vC vE vR vS vY) {x : CryptoS} (ho : Own w' base 88 31 v' ((m.crypto.map cryC) ++ [cryC x])) (hg : w.grownBy w' vY.ownBlock) (hb : base ≤ w.heap.size) (hx : x.key.length = 30) (hn : n ≤ 64) :
 MW base bm (n + 1) (w'.setCell ⟨bm, 9, none⟩ v') { m with crypto := m.crypto ++ [x] } cs vC vE vR vS v' ∧ Rdt base bm w (w'.setCell ⟨bm, 9, none⟩ v') := by
 have hbx : Whole w' bm 28 (mcell m vC vE vR vS vY) := h.box.grown hg (fun e => (h.hY.apart h.box (by decide)) e.symm)
 have kC := h.hC.grown hg (h.hC.apart2 h.hY (by decide))
 have kE := h.hE.grown hg (h.hE.apart2 h.hY (by decide))
 have kR := h.hR.grown hg (h.hR.apart2 h.hY (by decide))
 have kS := h.hS.grown hg (h.hS.apart2 h.hY (by decide))
 have kF := fun c hc => (h.hF c hc).grown hg ((h.hF c hc).apart2 h.hY (by decide))
 obtain ⟨l1, l2, l3, l4, l5, l6⟩ := h.lens
 obtain ⟨z1, z2, z3, z4, z5, z6, z8⟩ := h.siz
 refine ⟨⟨h.eqC, ?box, kC.far (p := ⟨bm, 9, none⟩) (kC.apart hbx (by decide)) _, fun c hc => (kF c hc).far (p := ⟨bm, 9, none⟩) ((kF c hc).apart hbx (by decide)) _, kE.far (p := ⟨bm, 9, none⟩) (kE.apart hbx (by decide)) _, kR.far (p := ⟨bm, 9, none⟩) (kR.apart hbx (by decide)) _, kS.far (p := ⟨bm, 9, none⟩) (kS.apart hbx (by decide)) _, ?own, ?ap, h.hbm, ?siz, ?lens⟩, ?low, ?kept, (h.hY.others hg).trans (Go.KeepsOthers.setCell _ _ _)⟩
 case box => exact hbx.set 9 v'
 case own =>
  show Own _ _ _ _ _ ((m.crypto ++ [x]).map cryC)
  rw [List.map_append]
  exact ho.far (p := ⟨bm, 9, none⟩) (ho.apart hbx (by decide)) _
 case ap =>
  exact h.ap
 case siz =>
  refine ⟨z1, z2, z3, z4, z5, ⟨z6.1, fun y hy => ?_⟩, ?_⟩
  · rcases List.mem_append.1 hy with hy | hy
    · exact z6.2 y hy
    · simp at hy
      subst hy
      exact hx
  · show m.codecs.length ≤ _ ∧ m.exts.length ≤ _ ∧ m.rids.length ≤ _ ∧ m.sources.length ≤ _ ∧ (m.crypto ++ [x]).length ≤ _
    rw [List.length_append, List.length_singleton]
    omega
 case lens =>
  exact ⟨by show m.codecs.length ≤ _; omega, by show m.exts.length ≤ _; omega, by show m.rids.length ≤ _; omega, by show m.sources.length ≤ _; omega, by show (m.crypto ++ [x]).length ≤ _; rw [List.length_append, List.length_singleton]; omega, fun c hc => by have := l6 c hc; omega⟩
 case low => exact (Below.refl base w).grown hg hb (fun j hj => (h.hY.lt hj).1) |>.setCell (p := ⟨bm, 9, none⟩) h.hbm _
 case kept =>
  intro g t ds hw h1 h2 h3 h4 h5 h6
  exact (hw.grown hg (fun e => (h.hY.apart hw (fun e2 => h5 e2.symm)) e.symm)).far (p := ⟨bm, 9, none⟩) h6 _
theorem MW.ridsA {base bm n : Nat} {w w' : World} {m : MediaS} {cs : List (CodecS × Value)} {vC vE vR vS vY v' : Value} (h : MW base bm n w m cs vC vE vR vS vY) {x : ByteArray} (ho : Own w' base 9 1 v' ((m.rids.map tcell) ++ [tcell x])) (hg : w.grownBy w' vR.ownBlock) (hb : base ≤ w.heap.size) (hx : x.size ≤ 140737488355328) (hn : n ≤ 64) (hn8 : v'.ownBlock = vR.ownBlock ∨ v'.ownBlock = some w.heap.size) :
 MW base bm (n + 1) (w'.setCell ⟨bm, 6, none⟩ v') { m with rids := m.rids ++ [x] } cs vC vE v' vS vY ∧ Rdt base bm w (w'.setCell ⟨bm, 6, none⟩ v') := by
 have hbx : Whole w' bm 28 (mcell m vC vE vR vS vY) := h.box.grown hg (fun e => (h.hR.apart h.box (by decide)) e.symm)
 have kC := h.hC.grown hg (h.hC.apart2 h.hR (by decide))
 have kE := h.hE.grown hg (h.hE.apart2 h.hR (by decide))
 have kS := h.hS.grown hg (h.hS.apart2 h.hR (by decide))
 have kY := h.hY.grown hg (h.hY.apart2 h.hR (by decide))
 have kF := fun c hc => (h.hF c hc).grown hg (apart_flip ((List.pairwise_cons.1 h.ap).1 c.2 (List.mem_map_of_mem hc)))
 obtain ⟨l1, l2, l3, l4, l5, l6⟩ := h.lens
 obtain ⟨z1, z2, z3, z4, z5, z6, z8⟩ := h.siz
 refine ⟨⟨h.eqC, ?box, kC.far (p := ⟨bm, 6, none⟩) (kC.apart hbx (by decide)) _, fun c hc => (kF c hc).far (p := ⟨bm, 6, none⟩) ((kF c hc).apart hbx (by decide)) _, kE.far (p := ⟨bm, 6, none⟩) (kE.apart hbx (by decide)) _, ?own, kS.far (p := ⟨bm, 6, none⟩) (kS.apart hbx (by decide)) _, kY.far (p := ⟨bm, 6, none⟩) (kY.apart hbx (by decide)) _, ?ap, h.hbm, ?siz, ?lens⟩, ?low, ?kept, (h.hR.others hg).trans (Go.KeepsOthers.setCell _ _ _)⟩
 case box => exact hbx.set 6 v'
 case own =>
  show Own _ _ _ _ _ ((m.rids ++ [x]).map tcell)
  rw [List.map_append]
  exact ho.far (p := ⟨bm, 6, none⟩) (ho.apart hbx (by decide)) _
 case ap =>
  refine List.pairwise_cons.2 ⟨fun b hb => ?_, (List.pairwise_cons.1 h.ap).2⟩
  rcases hn8 with e | e
  · rw [e]
    exact (List.pairwise_cons.1 h.ap).1 b hb
  · right
    rw [e]
    intro e2
    obtain ⟨c, hc, rfl⟩ := List.mem_map.1 hb
    exact absurd ((h.hF c hc).lt e2.symm).2 (Nat.lt_irrefl _)
 case siz =>
  refine ⟨z1, z2, z3, z4, fun y hy => ?_, z6, ?_⟩
  · rcases List.mem_append.1 hy with hy | hy
    · exact z5 y hy
    · simp at hy
      subst hy
      exact hx
  · show m.codecs.length ≤ _ ∧ m.exts.length ≤ _ ∧ (m.rids ++ [x]).length ≤ _ ∧ m.sources.length ≤ _ ∧ m.crypto.length ≤ _
    rw [List.length_append, List.length_singleton]
    omega
 case lens =>
  exact ⟨by show m.codecs.length ≤ _; omega, by show m.exts.length ≤ _; omega, by show (m.rids ++ [x]).length ≤ _; rw [List.length_append, List.length_singleton]; omega, by show m.sources.length ≤ _; omega, by show m.crypto.length ≤ _; omega, fun c hc => by have := l6 c hc; omega⟩
 case low => exact (Below.refl base w).grown hg hb (fun j hj => (h.hR.lt hj).1) |>.setCell (p := ⟨bm, 6, none⟩) h.hbm _
 case kept =>
  intro g t ds hw h1 h2 h3 h4 h5 h6
  exact (hw.grown hg (fun e => (h.hR.apart hw (fun e2 => h3 e2.symm)) e.symm)).far (p := ⟨bm, 6, none⟩) h6 _
theorem built_cry : ∀ (k0 k1 k2 k3 k4 k5 k6 k7 k8 k9 k10 k11 k12 k13 k14 k15 k16 k17 k18 k19 k20 k21 k22 k23 k24 k25 k26 k27 k28 k29 z : Int), Tryz.prog.built 88 [(0, .int .i64 z), (1, .agg #[.int .u8 k0, .int .u8 k1, .int .u8 k2, .int .u8 k3, .int .u8 k4, .int .u8 k5, .int .u8 k6, .int .u8 k7, .int .u8 k8, .int .u8 k9, .int .u8 k10, .int .u8 k11, .int .u8 k12, .int .u8 k13, .int .u8 k14, .int .u8 k15, .int .u8 k16, .int .u8 k17, .int .u8 k18, .int .u8 k19, .int .u8 k20, .int .u8 k21, .int .u8 k22, .int .u8 k23, .int .u8 k24, .int .u8 k25, .int .u8 k26, .int .u8 k27, .int .u8 k28, .int .u8 k29])] = some #[.int .i64 z, .int .u8 k0, .int .u8 k1, .int .u8 k2, .int .u8 k3, .int .u8 k4, .int .u8 k5, .int .u8 k6, .int .u8 k7, .int .u8 k8, .int .u8 k9, .int .u8 k10, .int .u8 k11, .int .u8 k12, .int .u8 k13, .int .u8 k14, .int .u8 k15, .int .u8 k16, .int .u8 k17, .int .u8 k18, .int .u8 k19, .int .u8 k20, .int .u8 k21, .int .u8 k22, .int .u8 k23, .int .u8 k24, .int .u8 k25, .int .u8 k26, .int .u8 k27, .int .u8 k28, .int .u8 k29] := by intros; kernel_rfl
theorem build_cry (z : Int) (k : Tx) (h : k.length = 30) (w : World) : (Instr.build 88 #[(0, .int .i64 z), (1, .agg (keyC k).toArray)]).run Tryz.prog w = .ok (.agg (cryC ⟨z, k⟩).toArray) w := by
 match k, h with
 | [k0, k1, k2, k3, k4, k5, k6, k7, k8, k9, k10, k11, k12, k13, k14, k15, k16, k17, k18, k19, k20, k21, k22, k23, k24, k25, k26, k27, k28, k29], _ => exact run_build w 88 _ _ (built_cry k0.toNat k1.toNat k2.toNat k3.toNat k4.toNat k5.toNat k6.toNat k7.toNat k8.toNat k9.toNat k10.toNat k11.toNat k12.toNat k13.toNat k14.toNat k15.toNat k16.toNat k17.toNat k18.toNat k19.toNat k20.toNat k21.toNat k22.toNat k23.toNat k24.toNat k25.toNat k26.toNat k27.toNat k28.toNat k29.toNat z)
theorem exec_buildTwo {a : Act} {o : Oper} {t : TypeId} {i j : Nat} {x y : Operand} (ho : o.op = .build t #[(i, x), (j, y)]) {u1 u2 v : Value} {w : World} (hx : a.eval x = u1) (hy : a.eval y = u2) (hr : (Instr.build t #[(i, u1), (j, u2)]).run Tryz.prog w = .ok v w) : (execOp a.eval o).run Tryz.prog w = .ok (.value v) w := by
 unfold execOp
 simp only [ho, Sem.run_bind, List.map_toArray, List.map_cons, List.map_nil, hx, hy, hr, Result.andThen_ok, Sem.run_pure]
theorem wp_sliceOne {a : Act} {o : Oper} {K : Act → World → Prop} {Q : Exit → Act → World → Prop} {t : TypeId} {n i : Nat} {x : Operand} (ho : o.op = .buildSlice t n #[(i, x)]) {u v : Value} {w w' : World} (hx : a.eval x = u) (hr : (Instr.buildSlice t n #[(i, u)]).run Tryz.prog w = .ok v w') (h : K (a.put o.dst v) w') : o.wp Tryz.prog a w K Q := by
 unfold Oper.wp execOp
 simp only [ho, Sem.run_bind, List.map_toArray, List.map_cons, List.map_nil, hx, hr, Result.andThen_ok, Sem.run_pure]
 exact h
theorem fill_cry : ∀ (k0 k1 k2 k3 k4 k5 k6 k7 k8 k9 k10 k11 k12 k13 k14 k15 k16 k17 k18 k19 k20 k21 k22 k23 k24 k25 k26 k27 k28 k29 z : Int), Instr.fill (fun i => some (i * 31, 31)) ((Array.range (1 * 31)).map ((Value.agg (#[.int .i64 0] ++ zKey)).cells[· % (Value.agg (#[.int .i64 0] ++ zKey)).cells.size]!)) [(0, .agg #[.int .i64 z, .int .u8 k0, .int .u8 k1, .int .u8 k2, .int .u8 k3, .int .u8 k4, .int .u8 k5, .int .u8 k6, .int .u8 k7, .int .u8 k8, .int .u8 k9, .int .u8 k10, .int .u8 k11, .int .u8 k12, .int .u8 k13, .int .u8 k14, .int .u8 k15, .int .u8 k16, .int .u8 k17, .int .u8 k18, .int .u8 k19, .int .u8 k20, .int .u8 k21, .int .u8 k22, .int .u8 k23, .int .u8 k24, .int .u8 k25, .int .u8 k26, .int .u8 k27, .int .u8 k28, .int .u8 k29])] = some #[.int .i64 z, .int .u8 k0, .int .u8 k1, .int .u8 k2, .int .u8 k3, .int .u8 k4, .int .u8 k5, .int .u8 k6, .int .u8 k7, .int .u8 k8, .int .u8 k9, .int .u8 k10, .int .u8 k11, .int .u8 k12, .int .u8 k13, .int .u8 k14, .int .u8 k15, .int .u8 k16, .int .u8 k17, .int .u8 k18, .int .u8 k19, .int .u8 k20, .int .u8 k21, .int .u8 k22, .int .u8 k23, .int .u8 k24, .int .u8 k25, .int .u8 k26, .int .u8 k27, .int .u8 k28, .int .u8 k29] := by intros; kernel_rfl
theorem slice_cry (z : Int) (k : Tx) (h : k.length = 30) (w : World) : (Instr.buildSlice 26 1 #[(0, .agg (cryC ⟨z, k⟩).toArray)]).run Tryz.prog w = .ok (.slice (some ⟨w.heap.size, 0, none⟩) 1 1) (w.alloc (.cells (cryC ⟨z, k⟩).toArray 88)) := by
 obtain ⟨i0, hi, hz0, hz1, hz2⟩ := info_parts Tryz.infoCrypto
 refine run_buildSlice w 26 88 1 _ _ i0 _ Tryz.underlying26 hi hz0 (by rw [hz1]; decide) (by rw [hz1]; decide) ?_
 rw [hz1]
 match k, h with
 | [k0, k1, k2, k3, k4, k5, k6, k7, k8, k9, k10, k11, k12, k13, k14, k15, k16, k17, k18, k19, k20, k21, k22, k23, k24, k25, k26, k27, k28, k29], _ => exact fill_cry k0.toNat k1.toNat k2.toNat k3.toNat k4.toNat k5.toNat k6.toNat k7.toNat k8.toNat k9.toNat k10.toNat k11.toNat k12.toNat k13.toNat k14.toNat k15.toNat k16.toNat k17.toNat k18.toNat k19.toNat k20.toNat k21.toNat k22.toNat k23.toNat k24.toNat k25.toNat k26.toNat k27.toNat k28.toNat k29.toNat z
set_option maxHeartbeats 6400000 in
set_option maxRecDepth 100000 in
theorem readCrypto_any (base bm n : Nat) (s : ByteArray) (m : MediaS) (cs : List (CodecS × Value)) (vC vE vR vS vY : Value) (w : World) (h : MW base bm n w m cs vC vE vR vS vY) (hE : EnvR w) (hs : s.size ≤ 140737488355328) (hn : n ≤ 64) :
 Calls Tryz.prog 157 #[.pointer (some ⟨bm, 0, none⟩), .string s] w (RdO base bm (n + 1) w { m with crypto := m.crypto ++ [cryP (tx s)] }) := by
 have HC1 := Lib.hid (cutc_any s w (by omega))
 have hbw : base ≤ w.heap.size := Nat.le_trans h.hbm (Nat.le_of_lt h.box.lt)
 obtain ⟨AE, nE0, hvE, -⟩ := Own.form h.hY
 obtain ⟨cE, hcE⟩ : ∃ c, nE0 = c := ⟨_, rfl⟩
 obtain ⟨nE, hnE⟩ : ∃ c, (m.crypto.map cryC).length = c := ⟨_, rfl⟩
 rw [hnE, hcE] at hvE
 subst hvE
 obtain ⟨a, ha⟩ : ∃ a, bs (hd (tx s)) = a := ⟨_, rfl⟩
 obtain ⟨b, hb⟩ : ∃ a, bs (tl (tx s)) = a := ⟨_, rfl⟩
 have haz : a.size ≤ 140737488355328 := by rw [← ha, bs_size]; have := (cutS_len [32] (tx s)).1; rw [tx_length] at this; exact Nat.le_trans this hs
 have hbz : b.size ≤ 140737488355328 := by rw [← hb, bs_size]; have := (cutS_len [32] (tx s)).2; rw [tx_length] at this; exact Nat.le_trans this hs
 rw [ha, hb] at HC1
 have HC2 : Hid (∀ W : World, Calls Tryz.prog 101 #[.string b] W fun e w' => e = .returned (.tuple #[.string (bs (hd (tx b))), .string (bs (tl (tx b)))]) ∧ Below W.heap.size W w') := Lib.hid fun W => cutc_any b W (by omega)
 obtain ⟨b1, hb1⟩ : ∃ a, bs (hd (tx b)) = a := ⟨_, rfl⟩
 obtain ⟨c, hc⟩ : ∃ a, bs (tl (tx b)) = a := ⟨_, rfl⟩
 have hcz : c.size ≤ 140737488355328 := by rw [← hc, bs_size]; have := (cutS_len [32] (tx b)).2; rw [tx_length] at this; exact Nat.le_trans this hbz
 rw [hb1, hc] at HC2
 have HTP : Hid (∀ W : World, Calls Tryz.prog 171 #[.string c, .string ⟨#[105, 110, 108, 105, 110, 101, 58]⟩] W fun e w' => e = .returned (.string (bs (Lib.trimPrefix (tx c) wInl))) ∧ w' = W) := Lib.hid fun W => Tryz.strings_TrimPrefix c ⟨#[105, 110, 108, 105, 110, 101, 58]⟩ W
 obtain ⟨d, hd'⟩ : ∃ a, bs (Lib.trimPrefix (tx c) wInl) = a := ⟨_, rfl⟩
 have hdz : d.size ≤ 140737488355328 := by
  rw [← hd', bs_size]
  refine Nat.le_trans ?_ hcz
  rw [← tx_length c]
  unfold Lib.trimPrefix
  split
  · rw [List.length_drop]; omega
  · exact Nat.le_refl _
 rw [hd'] at HTP
 have HRK : Hid (∀ W : World, Calls Tryz.prog 192 #[.string d] W fun e w' => e = .returned (.agg (keyC (keyP (tx d))).toArray) ∧ Below W.heap.size W w') := Lib.hid fun W => readKey_any d W (by omega)
 obtain ⟨k, hk⟩ : ∃ k, keyP (tx d) = k := ⟨_, rfl⟩
 have HKL : Hid (k.length = 30) := Lib.hid (by rw [← hk]; exact keyP_len _)
 rw [hk] at HRK
 have HN1 : Hid (∀ W, EnvR W → Calls Tryz.prog 102 #[.string a] W fun e w' => e = .returned (.int .i64 (numP (tx a))) ∧ Below W.heap.size W w') := Lib.hid fun W hW => number_any a W hW (by omega)
 obtain ⟨z, hz1⟩ : ∃ z, numP (tx a) = z := ⟨_, rfl⟩
 have hco : cryP (tx s) = ⟨z, k⟩ := by
  unfold cryP
  have e1 : hd (tx s) = tx a := by rw [← ha, tx_bs]
  have e2 : tl (tx s) = tx b := by rw [← hb, tx_bs]
  have e3 : tl (tx b) = tx c := by rw [← hc, tx_bs]
  have e4 : Lib.trimPrefix (tx c) wInl = tx d := by rw [← hd', tx_bs]
  rw [e1, e2, e3, e4, hz1, hk]
 rw [hz1] at HN1
 rw [hco]
 have hbd : ∀ W, (Instr.build 88 #[(0, .int .i64 z), (1, .agg (keyC k).toArray)]).run Tryz.prog W = .ok (.agg (cryC ⟨z, k⟩).toArray) W := build_cry z k HKL.out
 have hsl : ∀ W : World, (Instr.buildSlice 26 1 #[(0, .agg (cryC ⟨z, k⟩).toArray)]).run Tryz.prog W = .ok (.slice (some ⟨W.heap.size, 0, none⟩) 1 1) (W.alloc (.cells (cryC ⟨z, k⟩).toArray 88)) := slice_cry z k HKL.out
 have HYL := Lib.hid (cryC_len (c := ⟨z, k⟩) HKL.out)
 have HYO : Hid (∀ u ∈ cryC (⟨z, k⟩ : CryptoS), u.oneCell' = true) := Lib.hid fun u hu => List.all_eq_true.1 (cryC_one _) u hu
 obtain ⟨K0, hK0⟩ : ∃ K, (keyC k).toArray = K := ⟨_, rfl⟩
 obtain ⟨Y, hY⟩ : ∃ K, (cryC (⟨z, k⟩ : CryptoS)).toArray = K := ⟨_, rfl⟩
 have HY := Lib.hid hY
 rw [hK0] at HRK
 simp only [hK0, hY] at hbd hsl
 have HM := Lib.hid h
 have HEN := Lib.hid hE
 have HN64 := Lib.hid hn
 have HBW := Lib.hid hbw
 clear h hE ha hb haz hbz hz1 hs hn hbw hnE hcE hco hb1 hc hcz hd' hdz hk hK0 hY
 go_enter Tryz.func157, Tryz.ntmps157
 go_upto_region 1 with (go_at_call 101; (with_reducible refine HC1.out.mono ?_); rintro e w1 ⟨rfl, hb1⟩; have H1 := Lib.hid hb1; clear hb1; dsimp only)
 go_upto_region 2 with (go_at_call 101; (with_reducible refine (HC2.out _).mono ?_); rintro e w3 ⟨rfl, hb2⟩; have HL3 := Lib.hid (below_chain (Nat.le_refl _) H1.out hb2); clear hb2; dsimp only)
 have H3 : Hid (MW base bm n w3.drew m cs vC vE vR vS (.slice AE nE cE)) := Lib.hid (HM.out.under HL3.out).drew
 have HE3 : Hid (EnvR w3.drew) := Lib.hid ((HEN.out.under HL3.out).under (Below.refl _ _).drew)
 have HR3 : Hid (Rdt base bm w w3.drew) := Lib.hid (((Rdt.refl base bm w).under HL3.out HBW.out).under (Below.refl _ w3).drew (Nat.le_trans HBW.out HL3.out.size))
 have HB3 : Hid (base ≤ w3.drew.heap.size) := Lib.hid (Nat.le_trans HBW.out HL3.out.size)
 clear HL3 H1 HC1 HC2 HM HEN HBW
 have HQ0 : Hid (∀ W, Ahead (TillOne (fun _ => True) (fun W => W.cell? ⟨bm, 9, none⟩ = some (.slice AE nE cE)) 15) 15 W → W.cell? ⟨bm, 9, none⟩ = some (.slice AE nE cE)) := Lib.hid fun W h => (TillOne.get h).2
 have HS0 : Hid (∀ L, (TillOne (fun _ => True) (fun W => W.cell? ⟨bm, 9, none⟩ = some (.slice AE nE cE)) 15) L w3.drew) := Lib.hid fun L => TillOne.mk trivial (H3.out.box.cell 9)
 refine wp_region_late (TillOne (fun _ => True) (fun W => W.cell? ⟨bm, 9, none⟩ = some (.slice AE nE cE)) 15) (by as_aux_lemma => kernel_rfl) ?_
 change wpLate Tryz.prog .any _ _ _ 16 #[false, false, false, false, false, false, false, false, false, false, false, false, false, false, false, false] _ _
 refine wpLate.take (i := 0) (q := 15) (oi := _) (v := ?_) rfl (by as_aux_lemma => kernel_rfl) (by as_aux_lemma => kernel_rfl) (by as_aux_lemma => kernel_rfl) (by as_aux_lemma => kernel_rfl) (by rfl) (fun _ _ _ h => h) (TillOne.set (by decide)) (HS0.out _) (Or.inl ⟨by rfl, ?_⟩) ?_
 case refine_2 => intro W hw; have e0 := HQ0.out W hw; clear hw; go_simp; (try with_reducible rfl)
 simp only [Act.put, Ld, Le, Lf]
 refine wpLate.take (i := 1) (q := 15) (oi := _) (v := ?_) rfl (by as_aux_lemma => kernel_rfl) (by as_aux_lemma => kernel_rfl) (by as_aux_lemma => kernel_rfl) (by as_aux_lemma => kernel_rfl) (by rfl) (fun _ _ _ h => h) (TillOne.set (by decide)) (HS0.out _) (Or.inl ⟨by rfl, ?_⟩) ?_
 case refine_2 => intro W hw; have e0 := HQ0.out W hw; clear hw; go_simp; (try with_reducible rfl)
 simp only [Act.put, Ld, Le, Lf]
 refine wpLate.take (i := 2) (q := 15) (oi := _) (v := ?_) rfl (by as_aux_lemma => kernel_rfl) (by as_aux_lemma => kernel_rfl) (by as_aux_lemma => kernel_rfl) (by as_aux_lemma => kernel_rfl) (by rfl) (fun _ _ _ h => h) (TillOne.set (by decide)) (HS0.out _) (Or.inl ⟨by rfl, ?_⟩) ?_
 case refine_2 => intro W hw; have e0 := HQ0.out W hw; clear hw; go_simp; (try with_reducible rfl)
 simp only [Act.put, Ld, Le, Lf]
 refine wpLate.take (i := 3) (q := 15) (oi := _) (v := ?_) rfl (by as_aux_lemma => kernel_rfl) (by as_aux_lemma => kernel_rfl) (by as_aux_lemma => kernel_rfl) (by as_aux_lemma => kernel_rfl) (by rfl) (fun _ _ _ h => h) (TillOne.set (by decide)) (HS0.out _) (Or.inl ⟨by rfl, ?_⟩) ?_
 case refine_2 => intro W hw; have e0 := HQ0.out W hw; clear hw; go_simp; (try with_reducible rfl)
 simp only [Act.put, Ld, Le, Lf]
 refine wpLate.take (i := 4) (q := 15) (oi := _) (v := ?_) rfl (by as_aux_lemma => kernel_rfl) (by as_aux_lemma => kernel_rfl) (by as_aux_lemma => kernel_rfl) (by as_aux_lemma => kernel_rfl) (by rfl) (fun _ _ _ h => h) (TillOne.set (by decide)) (HS0.out _) (Or.inl ⟨by rfl, ?_⟩) ?_
 case refine_2 => intro W hw; have e0 := HQ0.out W hw; clear hw; go_simp; (try with_reducible rfl)
 simp only [Act.put, Ld, Le, Lf]
 refine wpLate.take (i := 5) (q := 15) (oi := _) (v := ?_) rfl (by as_aux_lemma => kernel_rfl) (by as_aux_lemma => kernel_rfl) (by as_aux_lemma => kernel_rfl) (by as_aux_lemma => kernel_rfl) (by rfl) (fun _ _ _ h => h) (TillOne.set (by decide)) (HS0.out _) (Or.inl ⟨by rfl, ?_⟩) ?_
 case refine_2 => intro W hw; have e0 := HQ0.out W hw; clear hw; go_simp; (try with_reducible rfl)
 simp only [Act.put, Ld, Le, Lf]
 refine wpLate.take (i := 7) (q := 15) (oi := _) (v := ?_) rfl (by as_aux_lemma => kernel_rfl) (by as_aux_lemma => kernel_rfl) (by as_aux_lemma => kernel_rfl) (by as_aux_lemma => kernel_rfl) (by rfl) (fun _ _ _ h => h) (TillOne.set (by decide)) (HS0.out _) (Or.inl ⟨by rfl, ?_⟩) ?_
 case refine_2 => intro W hw; have e0 := HQ0.out W hw; clear hw; go_simp; (try with_reducible rfl)
 simp only [Act.put, Ld, Le, Lf]
 refine wpLate.ready (rs := [6]) (by as_aux_lemma => kernel_rfl) (by simp) (eachLate.cons rfl (fun K hK => ?_) eachLate.nil)
 go_simp
 refine (HN1.out _ HE3.out).mono ?_
 rintro e w4 ⟨rfl, hb4⟩
 have H4 := Lib.hid (H3.out.under hb4)
 have HR4 : Hid (Rdt base bm w w4) := Lib.hid (HR3.out.under hb4 HB3.out)
 have HB4 : Hid (base ≤ w4.heap.size) := Lib.hid (Nat.le_trans HB3.out hb4.size)
 have HT4 : Hid (∀ L, (TillOne (fun _ => True) (fun W => W.cell? ⟨bm, 9, none⟩ = some (.slice AE nE cE)) 15) L w4) := Lib.hid fun L => TillOne.mk trivial (H4.out.box.cell 9)
 refine hK.out _ _ (HT4.out _) ?_
 clear hK K hb4
 try simp only [Act.put, Ld, Le, Lf]
 refine wpLate.ready (rs := [8]) (by as_aux_lemma => kernel_rfl) (by simp) (eachLate.cons rfl (fun K hK => ?_) eachLate.nil)
 go_simp
 refine (HTP.out _).mono ?_
 rintro e w4' ⟨rfl, e4'⟩
 subst e4'
 refine hK.out _ _ (HT4.out _) ?_
 clear hK K
 try simp only [Act.put, Ld, Le, Lf]
 refine wpLate.ready (rs := [9]) (by as_aux_lemma => kernel_rfl) (by simp) (eachLate.cons rfl (fun K hK => ?_) eachLate.nil)
 go_simp
 refine (HRK.out _).mono ?_
 rintro e w5 ⟨rfl, hb5⟩
 have H5 := Lib.hid (H4.out.under hb5)
 have HR5 : Hid (Rdt base bm w w5) := Lib.hid (HR4.out.under hb5 HB4.out)
 have HB5 : Hid (base ≤ w5.heap.size) := Lib.hid (Nat.le_trans HB4.out hb5.size)
 have HT5 : Hid (∀ L, (TillOne (fun _ => True) (fun W => W.cell? ⟨bm, 9, none⟩ = some (.slice AE nE cE)) 15) L w5) := Lib.hid fun L => TillOne.mk trivial (H5.out.box.cell 9)
 refine hK.out _ _ (HT5.out _) ?_
 clear hK K hb5
 try simp only [Act.put, Ld, Le, Lf]
 refine wpLate.take (i := 10) (q := 15) (oi := _) (v := ?_) rfl (by as_aux_lemma => kernel_rfl) (by as_aux_lemma => kernel_rfl) (by as_aux_lemma => kernel_rfl) (by as_aux_lemma => kernel_rfl) (by rfl) (fun _ _ _ h => h) (TillOne.set (by decide)) (HT5.out _) (Or.inl ⟨by rfl, ?_⟩) ?_
 case refine_2 => intro W hw; refine Eq.trans (exec_buildTwo (u1 := .int .i64 z) (u2 := .agg K0) (v := .agg Y) (by rfl) (by rfl) (by rfl) (hbd W)) ?_; with_reducible rfl
 simp only [Act.put, Ld, Le, Lf]
 refine wpLate.ready (rs := [11]) (by as_aux_lemma => kernel_rfl) (by simp) (eachLate.cons rfl (fun K hK => ?_) eachLate.nil)
 have H6 : Hid (MW base bm n (w5.alloc (.cells Y 88)) m cs vC vE vR vS (.slice AE nE cE) ∧ Whole (w5.alloc (.cells Y 88)) w5.heap.size 88 Y ∧ Rdt base bm w (w5.alloc (.cells Y 88)) ∧ base ≤ (w5.alloc (.cells Y 88)).heap.size) := Lib.hid ⟨H5.out.under ((Below.refl _ w5).alloc (Nat.le_refl _) _), Whole.new _ _ _, HR5.out.under ((Below.refl _ w5).alloc (Nat.le_refl _) _) HB5.out, by rw [World.size_alloc]; have := HB5.out; omega⟩
 have HT6 : Hid (∀ L, (TillOne (fun _ => True) (fun W => W.cell? ⟨bm, 9, none⟩ = some (.slice AE nE cE)) 15) L (w5.alloc (.cells Y 88))) := Lib.hid fun L => TillOne.mk trivial (H6.out.1.box.cell 9)
 refine step_of rfl (wp_sliceOne (u := .agg Y) (by rfl) (by rfl) (hsl w5) ?_)
 refine hK.out _ _ (HT6.out _) ?_
 clear hK K
 try simp only [Act.put, Ld, Le, Lf]
 generalize w5.alloc (.cells Y 88) = w7 at *
 generalize w5.heap.size = g7 at *
 refine wpLate.ready (rs := [12]) (by as_aux_lemma => kernel_rfl) (by simp) (eachLate.cons rfl (fun K hK => ?_) eachLate.nil)
 refine step_of rfl (wp_appendE (r := cryC ⟨z, k⟩) (.tmp 20) (.tmp 27) rfl Tryz.underlying26 Tryz.infoCrypto rfl (Nat.zero_lt_succ _) rfl H6.out.1.hY rfl (by rw [HY.out]; exact H6.out.2.1) HYL.out HYO.out (by rw [List.length_map]; have := H6.out.1.lens.2.2.2.2.1; have := HN64.out; omega) (by rw [List.length_map]; have := H6.out.1.lens.2.2.2.2.1; have := HN64.out; omega) H6.out.2.2.2 ?_)
 intro v8 w8 ho8 hg8 hn8
 have H8 := Lib.hid (H6.out.1.cryptoA (x := ⟨z, k⟩) ho8 hg8 H6.out.2.2.2 HKL.out HN64.out)
 have hbx8 : Whole w8 bm 28 (mcell m vC vE vR vS (.slice AE nE cE)) := H6.out.1.box.grown hg8 (fun e => (H6.out.1.hY.apart H6.out.1.box (by decide)) e.symm)
 have c8 : w8.cell? ⟨bm, 9, none⟩ = some (.slice AE nE cE) := hbx8.cell 9
 have f8 := hbx8.frz 9
 have HT8 : Hid (∀ L, (TillOne (fun _ => True) (fun W => W.cell? ⟨bm, 9, none⟩ = some (.slice AE nE cE)) 15) L w8) := Lib.hid fun L => TillOne.mk trivial c8
 have HS9 : Hid (∀ L, L.getD 15 true = true → (TillOne (fun _ => True) (fun W => W.cell? ⟨bm, 9, none⟩ = some (.slice AE nE cE)) 15) L (w8.setCell ⟨bm, 9, none⟩ v8)) := Lib.hid fun L hL => TillOne.past trivial hL
 have HFIN : Hid ((∃ cs vC vE vR vS vY, MW base bm (n + 1) (w8.setCell ⟨bm, 9, none⟩ v8) { m with crypto := m.crypto ++ [⟨z, k⟩] } cs vC vE vR vS vY) ∧ Rdt base bm w (w8.setCell ⟨bm, 9, none⟩ v8)) := Lib.hid ⟨⟨_, _, _, _, _, _, H8.out.1⟩, H6.out.2.2.1.trans H8.out.2⟩
 obtain ⟨A8, l8, k8, hv8⟩ : ∃ A l k, v8 = .slice A l k := by obtain ⟨A, k, h, -⟩ := ho8.form; exact ⟨_, _, _, h⟩
 subst hv8
 clear ho8 hg8 hn8 hbx8 H6
 refine hK.out _ _ (HT8.out _) ?_
 clear hK K
 try simp only [Act.put, Ld, Le, Lf]
 refine wpLate.ready (rs := [13]) (by as_aux_lemma => kernel_rfl) (by simp) (eachLate.cons rfl (fun K hK => ?_) eachLate.nil)
 go_simp
 refine hK.out _ _ (HT8.out _) ?_
 clear hK K
 try simp only [Act.put, Ld, Le, Lf]
 refine wpLate.take (i := 14) (q := 15) (oi := _) (v := ?_) rfl (by as_aux_lemma => kernel_rfl) (by as_aux_lemma => kernel_rfl) (by as_aux_lemma => kernel_rfl) (by as_aux_lemma => kernel_rfl) (by rfl) (fun _ _ _ h => h) (TillOne.set (by decide)) (HT8.out _) (Or.inl ⟨by rfl, ?_⟩) ?_
 case refine_2 => intro W hw; have e0 := HQ0.out W hw; clear hw; go_simp; (try with_reducible rfl)
 simp only [Act.put, Ld, Le, Lf]
 refine wpLate.ready (rs := [15]) (by as_aux_lemma => kernel_rfl) (by simp) (eachLate.cons rfl (fun K hK => ?_) eachLate.nil)
 go_simp
 refine hK.out _ _ (HS9.out _ rfl) ?_
 clear hK K
 try simp only [Act.put]
 refine wpLate.done (by as_aux_lemma => kernel_rfl) ?_ _
 go_wp2
 go_end0
 exact ⟨rfl, HFIN.out.1, HFIN.out.2⟩
set_option maxHeartbeats 6400000 in
set_option maxRecDepth 100000 in
theorem readCodec_any (base bm n : Nat) (s : ByteArray) (m : MediaS) (cs : List (CodecS × Value)) (vC vE vR vS vY : Value) (w : World) (h : MW base bm n w m cs vC vE vR vS vY) (hE : EnvR w) (hs : s.size ≤ 140737488355328) (hn : n ≤ 64) :
 Calls Tryz.prog 150 #[.pointer (some ⟨bm, 0, none⟩), .string s] w (RdO base bm (n + 1) w { m with codecs := m.codecs ++ [codecOf rP (tx s)] }) := by
 have HC1 := Lib.hid (cutc_any s w (by omega))
 have hbw : base ≤ w.heap.size := Nat.le_trans h.hbm (Nat.le_of_lt h.box.lt)
 obtain ⟨AE, nE0, hvE, -⟩ := Own.form h.hC
 obtain ⟨cE, hcE⟩ : ∃ c, nE0 = c := ⟨_, rfl⟩
 obtain ⟨nE, hnE⟩ : ∃ c, (cs.map fun c => ccell c.1 c.2).length = c := ⟨_, rfl⟩
 rw [hnE, hcE] at hvE
 subst hvE
 obtain ⟨a, ha⟩ : ∃ a, bs (hd (tx s)) = a := ⟨_, rfl⟩
 obtain ⟨b, hb⟩ : ∃ a, bs (tl (tx s)) = a := ⟨_, rfl⟩
 have haz : a.size ≤ 140737488355328 := by rw [← ha, bs_size]; have := (cutS_len [32] (tx s)).1; rw [tx_length] at this; exact Nat.le_trans this hs
 have hbz : b.size ≤ 140737488355328 := by rw [← hb, bs_size]; have := (cutS_len [32] (tx s)).2; rw [tx_length] at this; exact Nat.le_trans this hs
 rw [ha, hb] at HC1
 have HC2 : Hid (∀ W : World, Calls Tryz.prog 114 #[.string b, .string ⟨#[47]⟩] W fun e w' => e = .returned (.tuple #[.string (bs (cutS [47] (tx b)).1), .string (bs (cutS [47] (tx b)).2.1), .bool (cutS [47] (tx b)).2.2]) ∧ Below W.heap.size W w') := Lib.hid fun W => cut1_any b 47 W (by omega)
 obtain ⟨n1, hn1⟩ : ∃ a, bs (cutS [47] (tx b)).1 = a := ⟨_, rfl⟩
 obtain ⟨r1, hr1⟩ : ∃ a, bs (cutS [47] (tx b)).2.1 = a := ⟨_, rfl⟩
 have hnz : n1.size ≤ 140737488355328 := by rw [← hn1, bs_size]; have := (cutS_len [47] (tx b)).1; rw [tx_length] at this; exact Nat.le_trans this hbz
 have hrz : r1.size ≤ 140737488355328 := by rw [← hr1, bs_size]; have := (cutS_len [47] (tx b)).2; rw [tx_length] at this; exact Nat.le_trans this hbz
 rw [hn1, hr1] at HC2
 have HC3 : Hid (∀ W : World, Calls Tryz.prog 114 #[.string r1, .string ⟨#[47]⟩] W fun e w' => e = .returned (.tuple #[.string (bs (cutS [47] (tx r1)).1), .string (bs (cutS [47] (tx r1)).2.1), .bool (cutS [47] (tx r1)).2.2]) ∧ Below W.heap.size W w') := Lib.hid fun W => cut1_any r1 47 W (by omega)
 obtain ⟨n2, hn2⟩ : ∃ a, bs (cutS [47] (tx r1)).1 = a := ⟨_, rfl⟩
 obtain ⟨r2, hr2⟩ : ∃ a, bs (cutS [47] (tx r1)).2.1 = a := ⟨_, rfl⟩
 have hn2z : n2.size ≤ 140737488355328 := by rw [← hn2, bs_size]; have := (cutS_len [47] (tx r1)).1; rw [tx_length] at this; exact Nat.le_trans this hrz
 rw [hn2, hr2] at HC3
 have HN1 : Hid (∀ W, EnvR W → Calls Tryz.prog 102 #[.string a] W fun e w' => e = .returned (.int .i64 (numP (tx a))) ∧ Below W.heap.size W w') := Lib.hid fun W hW => number_any a W hW (by omega)
 have HN2 : Hid (∀ W, EnvR W → Calls Tryz.prog 102 #[.string n2] W fun e w' => e = .returned (.int .i64 (numP (tx n2))) ∧ Below W.heap.size W w') := Lib.hid fun W hW => number_any n2 W hW (by omega)
 obtain ⟨z1, hz1⟩ : ∃ z, numP (tx a) = z := ⟨_, rfl⟩
 obtain ⟨z2, hz2⟩ : ∃ z, numP (tx n2) = z := ⟨_, rfl⟩
 obtain ⟨ch, hch⟩ : ∃ z : Int, (if tx r2 = [50] then (2 : Int) else 1) = z := ⟨_, rfl⟩
 have hco : codecOf rP (tx s) = ⟨z1, n1, z2, ch, ⟨#[]⟩, []⟩ := by
  show (⟨numP (hd (tx s)), bs (cutS [47] (tl (tx s))).1, numP (cutS [47] (cutS [47] (tl (tx s))).2.1).1, if (cutS [47] (cutS [47] (tl (tx s))).2.1).2.1 = [50] then 2 else 1, bs [], []⟩ : CodecS) = _
  have e1 : hd (tx s) = tx a := by rw [← ha, tx_bs]
  have e2 : tl (tx s) = tx b := by rw [← hb, tx_bs]
  have e3 : (cutS [47] (tx b)).2.1 = tx r1 := by rw [← hr1, tx_bs]
  have e4 : (cutS [47] (tx r1)).1 = tx n2 := by rw [← hn2, tx_bs]
  have e5 : (cutS [47] (tx r1)).2.1 = tx r2 := by rw [← hr2, tx_bs]
  rw [e1, e2, e3, e4, e5, hz1, hn1, hz2, hch]
  rfl
 rw [hz1] at HN1
 rw [hz2] at HN2
 rw [hco]
 have HBZ := Lib.hid hnz
 have HM := Lib.hid h
 have HEN := Lib.hid hE
 have HN64 := Lib.hid hn
 have HBW := Lib.hid hbw
 have HQ : Hid ((r2.toList == [50]) = true ↔ tx r2 = [50]) := Lib.hid (by rw [beq_iff_eq, toList_tx])
 have HCC := Lib.hid hch
 obtain ⟨qb, hqb⟩ : ∃ q, (r2.toList == [50]) = q := ⟨_, rfl⟩
 rw [hqb] at HQ
 obtain ⟨f1, hf1⟩ : ∃ q, (cutS [47] (tx b)).2.2 = q := ⟨_, rfl⟩
 obtain ⟨f2, hf2⟩ : ∃ q, (cutS [47] (tx r1)).2.2 = q := ⟨_, rfl⟩
 rw [hf1] at HC2
 rw [hf2] at HC3
 clear h hE ha hb haz hbz hz1 hz2 hs hn hbw hnE hcE hn1 hr1 hnz hrz hn2 hr2 hn2z hco hch hf1 hf2
 go_enter Tryz.func150, Tryz.ntmps150
 go_upto_region 1 with (go_at_call 101; (with_reducible refine HC1.out.mono ?_); rintro e w1 ⟨rfl, hb1⟩; have H1 := Lib.hid hb1; clear hb1; dsimp only)
 go_upto_region 2 with (go_at_call 114; (with_reducible refine (HC2.out _).mono ?_); rintro e w2 ⟨rfl, hb2⟩; have H2 := Lib.hid (below_chain (Nat.le_refl _) H1.out hb2); clear hb2; dsimp only)
 go_upto_region 3 with (go_at_call 114; (with_reducible refine (HC3.out _).mono ?_); rintro e w3 ⟨rfl, hb3⟩; have HL3 : Hid (Below w.heap.size w w3) := Lib.hid (below_chain (Nat.le_refl _) H2.out hb3); clear hb3; dsimp only)
 have H3 : Hid (MW base bm n w3.drew m cs (.slice AE nE cE) vE vR vS vY) := Lib.hid (HM.out.under HL3.out).drew
 have HE3 : Hid (EnvR w3.drew) := Lib.hid ((HEN.out.under HL3.out).under (Below.refl _ _).drew)
 have HR3 : Hid (Rdt base bm w w3.drew) := Lib.hid (((Rdt.refl base bm w).under HL3.out HBW.out).under (Below.refl _ w3).drew (Nat.le_trans HBW.out HL3.out.size))
 have HB3 : Hid (base ≤ w3.drew.heap.size) := Lib.hid (Nat.le_trans HBW.out HL3.out.size)
 clear HL3 H1 H2 HC1 HC2 HC3 HM HEN HBW
 go_upto_if 30 with fail
 clear hqb
 cases qb with
 | true =>
   have HCH : Hid (ch = 2) := Lib.hid (by rw [← HCC.out, if_pos (HQ.out.1 rfl)])
   clear HCC HQ
   go_upto_region 6 with fail
   have HQ0 : Hid (∀ W, Ahead (TillOne (fun _ => True) (fun W => W.cell? ⟨bm, 4, none⟩ = some (.slice AE nE cE)) 16) 16 W → W.cell? ⟨bm, 4, none⟩ = some (.slice AE nE cE)) := Lib.hid fun W h => (TillOne.get h).2
   have HS0 : Hid (∀ L, (TillOne (fun _ => True) (fun W => W.cell? ⟨bm, 4, none⟩ = some (.slice AE nE cE)) 16) L w3.drew) := Lib.hid fun L => TillOne.mk trivial (H3.out.box.cell 4)
   refine wp_region_late (TillOne (fun _ => True) (fun W => W.cell? ⟨bm, 4, none⟩ = some (.slice AE nE cE)) 16) (by as_aux_lemma => kernel_rfl) ?_
   change wpLate Tryz.prog .any _ _ _ 17 #[false, false, false, false, false, false, false, false, false, false, false, false, false, false, false, false, false] _ _
   refine wpLate.take (i := 0) (q := 16) (oi := _) (v := ?_) rfl (by as_aux_lemma => kernel_rfl) (by as_aux_lemma => kernel_rfl) (by as_aux_lemma => kernel_rfl) (by as_aux_lemma => kernel_rfl) (by rfl) (fun _ _ _ h => h) (TillOne.set (by decide)) (HS0.out _) (Or.inl ⟨by rfl, ?_⟩) ?_
   case refine_2 => intro W hw; have e0 := HQ0.out W hw; clear hw; go_simp; (try with_reducible rfl)
   simp only [Act.put, Ld, Le, Lf]
   refine wpLate.take (i := 1) (q := 16) (oi := _) (v := ?_) rfl (by as_aux_lemma => kernel_rfl) (by as_aux_lemma => kernel_rfl) (by as_aux_lemma => kernel_rfl) (by as_aux_lemma => kernel_rfl) (by rfl) (fun _ _ _ h => h) (TillOne.set (by decide)) (HS0.out _) (Or.inl ⟨by rfl, ?_⟩) ?_
   case refine_2 => intro W hw; have e0 := HQ0.out W hw; clear hw; go_simp; (try with_reducible rfl)
   simp only [Act.put, Ld, Le, Lf]
   refine wpLate.take (i := 2) (q := 16) (oi := _) (v := ?_) rfl (by as_aux_lemma => kernel_rfl) (by as_aux_lemma => kernel_rfl) (by as_aux_lemma => kernel_rfl) (by as_aux_lemma => kernel_rfl) (by rfl) (fun _ _ _ h => h) (TillOne.set (by decide)) (HS0.out _) (Or.inl ⟨by rfl, ?_⟩) ?_
   case refine_2 => intro W hw; have e0 := HQ0.out W hw; clear hw; go_simp; (try with_reducible rfl)
   simp only [Act.put, Ld, Le, Lf]
   refine wpLate.take (i := 3) (q := 16) (oi := _) (v := ?_) rfl (by as_aux_lemma => kernel_rfl) (by as_aux_lemma => kernel_rfl) (by as_aux_lemma => kernel_rfl) (by as_aux_lemma => kernel_rfl) (by rfl) (fun _ _ _ h => h) (TillOne.set (by decide)) (HS0.out _) (Or.inl ⟨by rfl, ?_⟩) ?_
   case refine_2 => intro W hw; have e0 := HQ0.out W hw; clear hw; go_simp; (try with_reducible rfl)
   simp only [Act.put, Ld, Le, Lf]
   refine wpLate.take (i := 4) (q := 16) (oi := _) (v := ?_) rfl (by as_aux_lemma => kernel_rfl) (by as_aux_lemma => kernel_rfl) (by as_aux_lemma => kernel_rfl) (by as_aux_lemma => kernel_rfl) (by rfl) (fun _ _ _ h => h) (TillOne.set (by decide)) (HS0.out _) (Or.inl ⟨by rfl, ?_⟩) ?_
   case refine_2 => intro W hw; have e0 := HQ0.out W hw; clear hw; go_simp; (try with_reducible rfl)
   simp only [Act.put, Ld, Le, Lf]
   refine wpLate.take (i := 5) (q := 16) (oi := _) (v := ?_) rfl (by as_aux_lemma => kernel_rfl) (by as_aux_lemma => kernel_rfl) (by as_aux_lemma => kernel_rfl) (by as_aux_lemma => kernel_rfl) (by rfl) (fun _ _ _ h => h) (TillOne.set (by decide)) (HS0.out _) (Or.inl ⟨by rfl, ?_⟩) ?_
   case refine_2 => intro W hw; have e0 := HQ0.out W hw; clear hw; go_simp; (try with_reducible rfl)
   simp only [Act.put, Ld, Le, Lf]
   refine wpLate.take (i := 7) (q := 16) (oi := _) (v := ?_) rfl (by as_aux_lemma => kernel_rfl) (by as_aux_lemma => kernel_rfl) (by as_aux_lemma => kernel_rfl) (by as_aux_lemma => kernel_rfl) (by rfl) (fun _ _ _ h => h) (TillOne.set (by decide)) (HS0.out _) (Or.inl ⟨by rfl, ?_⟩) ?_
   case refine_2 => intro W hw; have e0 := HQ0.out W hw; clear hw; go_simp; (try with_reducible rfl)
   simp only [Act.put, Ld, Le, Lf]
   refine wpLate.take (i := 8) (q := 16) (oi := _) (v := ?_) rfl (by as_aux_lemma => kernel_rfl) (by as_aux_lemma => kernel_rfl) (by as_aux_lemma => kernel_rfl) (by as_aux_lemma => kernel_rfl) (by rfl) (fun _ _ _ h => h) (TillOne.set (by decide)) (HS0.out _) (Or.inl ⟨by rfl, ?_⟩) ?_
   case refine_2 => intro W hw; have e0 := HQ0.out W hw; clear hw; go_simp; (try with_reducible rfl)
   simp only [Act.put, Ld, Le, Lf]
   refine wpLate.take (i := 10) (q := 16) (oi := _) (v := ?_) rfl (by as_aux_lemma => kernel_rfl) (by as_aux_lemma => kernel_rfl) (by as_aux_lemma => kernel_rfl) (by as_aux_lemma => kernel_rfl) (by rfl) (fun _ _ _ h => h) (TillOne.set (by decide)) (HS0.out _) (Or.inl ⟨by rfl, ?_⟩) ?_
   case refine_2 => intro W hw; have e0 := HQ0.out W hw; clear hw; go_simp; (try with_reducible rfl)
   simp only [Act.put, Ld, Le, Lf]
   refine wpLate.ready (rs := [6]) (by as_aux_lemma => kernel_rfl) (by simp) (eachLate.cons rfl (fun K hK => ?_) eachLate.nil)
   go_simp
   refine (HN1.out _ HE3.out).mono ?_
   rintro e w4 ⟨rfl, hb4⟩
   have H4 := Lib.hid (H3.out.under hb4)
   have HE4 : Hid (EnvR w4) := Lib.hid (HE3.out.under hb4)
   have HR4 : Hid (Rdt base bm w w4) := Lib.hid (HR3.out.under hb4 HB3.out)
   have HB4 : Hid (base ≤ w4.heap.size) := Lib.hid (Nat.le_trans HB3.out hb4.size)
   have HT4 : Hid (∀ L, (TillOne (fun _ => True) (fun W => W.cell? ⟨bm, 4, none⟩ = some (.slice AE nE cE)) 16) L w4) := Lib.hid fun L => TillOne.mk trivial (H4.out.box.cell 4)
   refine hK.out _ _ (HT4.out _) ?_
   clear hK K hb4
   try simp only [Act.put, Ld, Le, Lf]
   refine wpLate.ready (rs := [9]) (by as_aux_lemma => kernel_rfl) (by simp) (eachLate.cons rfl (fun K hK => ?_) eachLate.nil)
   go_simp
   refine (HN2.out _ HE4.out).mono ?_
   rintro e w5 ⟨rfl, hb5⟩
   have H5 := Lib.hid (H4.out.under hb5)
   have HE5 : Hid (EnvR w5) := Lib.hid (HE4.out.under hb5)
   have HR5 : Hid (Rdt base bm w w5) := Lib.hid (HR4.out.under hb5 HB4.out)
   have HB5 : Hid (base ≤ w5.heap.size) := Lib.hid (Nat.le_trans HB4.out hb5.size)
   have HT5 : Hid (∀ L, (TillOne (fun _ => True) (fun W => W.cell? ⟨bm, 4, none⟩ = some (.slice AE nE cE)) 16) L w5) := Lib.hid fun L => TillOne.mk trivial (H5.out.box.cell 4)
   refine hK.out _ _ (HT5.out _) ?_
   clear hK K hb5
   try simp only [Act.put, Ld, Le, Lf]
   refine wpLate.take (i := 11) (q := 16) (oi := _) (v := ?_) rfl (by as_aux_lemma => kernel_rfl) (by as_aux_lemma => kernel_rfl) (by as_aux_lemma => kernel_rfl) (by as_aux_lemma => kernel_rfl) (by rfl) (fun _ _ _ h => h) (TillOne.set (by decide)) (HT5.out _) (Or.inl ⟨by rfl, ?_⟩) ?_
   case refine_2 => intro W hw; have e0 := HQ0.out W hw; clear hw; go_simp; (try with_reducible rfl)
   simp only [Act.put, Ld, Le, Lf]
   refine wpLate.ready (rs := [12]) (by as_aux_lemma => kernel_rfl) (by simp) (eachLate.cons rfl (fun K hK => ?_) eachLate.nil)
   have H6 : Hid (MW base bm n (w5.alloc (.cells #[.int .i64 z1, .string n1, .int .i64 z2, .int .i64 2, .string ⟨#[]⟩, .slice none 0 0] 58)) m cs (.slice AE nE cE) vE vR vS vY ∧ Whole (w5.alloc (.cells #[.int .i64 z1, .string n1, .int .i64 z2, .int .i64 2, .string ⟨#[]⟩, .slice none 0 0] 58)) w5.heap.size 58 #[.int .i64 z1, .string n1, .int .i64 z2, .int .i64 2, .string ⟨#[]⟩, .slice none 0 0] ∧ Rdt base bm w (w5.alloc (.cells #[.int .i64 z1, .string n1, .int .i64 z2, .int .i64 2, .string ⟨#[]⟩, .slice none 0 0] 58)) ∧ base ≤ (w5.alloc (.cells #[.int .i64 z1, .string n1, .int .i64 z2, .int .i64 2, .string ⟨#[]⟩, .slice none 0 0] 58)).heap.size) := Lib.hid ⟨H5.out.under ((Below.refl _ w5).alloc (Nat.le_refl _) _), Whole.new _ _ _, HR5.out.under ((Below.refl _ w5).alloc (Nat.le_refl _) _) HB5.out, by rw [World.size_alloc]; have := HB5.out; omega⟩
   have HT6 : Hid (∀ L, (TillOne (fun _ => True) (fun W => W.cell? ⟨bm, 4, none⟩ = some (.slice AE nE cE)) 16) L (w5.alloc (.cells #[.int .i64 z1, .string n1, .int .i64 z2, .int .i64 2, .string ⟨#[]⟩, .slice none 0 0] 58))) := Lib.hid fun L => TillOne.mk trivial (H6.out.1.box.cell 4)
   go_simp
   refine hK.out _ _ (HT6.out _) ?_
   clear hK K
   try simp only [Act.put, Ld, Le, Lf]
   generalize w5.alloc (.cells #[.int .i64 z1, .string n1, .int .i64 z2, .int .i64 2, .string ⟨#[]⟩, .slice none 0 0] 58) = w7 at *
   generalize w5.heap.size = g7 at *
   refine wpLate.ready (rs := [13]) (by as_aux_lemma => kernel_rfl) (by simp) (eachLate.cons rfl (fun K hK => ?_) eachLate.nil)
   refine step_of rfl (wp_appendE (r := [.int .i64 z1, .string n1, .int .i64 z2, .int .i64 2, .string ⟨#[]⟩, .slice none 0 0]) (.tmp 35) (.tmp 43) rfl Tryz.underlying22 Tryz.infoCodec rfl (Nat.zero_lt_succ _) rfl H6.out.1.hC rfl H6.out.2.1 rfl (fun u hu => by simp at hu; rcases hu with rfl | rfl | rfl | rfl | rfl | rfl <;> rfl) (by have := H6.out.1.lens.1; rw [H6.out.1.eqC] at this; rw [List.length_map] at this ⊢; have := HN64.out; omega) (by have := H6.out.1.lens.1; rw [H6.out.1.eqC] at this; rw [List.length_map] at this ⊢; have := HN64.out; omega) H6.out.2.2.2 ?_)
   intro v8 w8 ho8 hg8 hn8
   have H8 := Lib.hid (H6.out.1.codecsA (x := ⟨z1, n1, z2, 2, ⟨#[]⟩, []⟩) ho8 hg8 H6.out.2.2.2 rfl ⟨HBZ.out, Nat.zero_le _⟩ HN64.out)
   have hbx8 : Whole w8 bm 28 (mcell m (.slice AE nE cE) vE vR vS vY) := H6.out.1.box.grown hg8 (fun e => (H6.out.1.hC.apart H6.out.1.box (by decide)) e.symm)
   have c8 : w8.cell? ⟨bm, 4, none⟩ = some (.slice AE nE cE) := hbx8.cell 4
   have f8 := hbx8.frz 4
   have HT8 : Hid (∀ L, (TillOne (fun _ => True) (fun W => W.cell? ⟨bm, 4, none⟩ = some (.slice AE nE cE)) 16) L w8) := Lib.hid fun L => TillOne.mk trivial c8
   have HS9 : Hid (∀ L, L.getD 16 true = true → (TillOne (fun _ => True) (fun W => W.cell? ⟨bm, 4, none⟩ = some (.slice AE nE cE)) 16) L (w8.setCell ⟨bm, 4, none⟩ v8)) := Lib.hid fun L hL => TillOne.past trivial hL
   have HFIN : Hid ((∃ cs vC vE vR vS vY, MW base bm (n + 1) (w8.setCell ⟨bm, 4, none⟩ v8) { m with codecs := m.codecs ++ [⟨z1, n1, z2, 2, ⟨#[]⟩, []⟩] } cs vC vE vR vS vY) ∧ Rdt base bm w (w8.setCell ⟨bm, 4, none⟩ v8)) := Lib.hid ⟨⟨_, _, _, _, _, _, H8.out.1⟩, H6.out.2.2.1.trans H8.out.2⟩
   obtain ⟨A8, l8, k8, hv8⟩ : ∃ A l k, v8 = .slice A l k := by obtain ⟨A, k, h, -⟩ := ho8.form; exact ⟨_, _, _, h⟩
   subst hv8
   clear ho8 hg8 hn8 hbx8 H6
   refine hK.out _ _ (HT8.out _) ?_
   clear hK K
   try simp only [Act.put, Ld, Le, Lf]
   refine wpLate.ready (rs := [14]) (by as_aux_lemma => kernel_rfl) (by simp) (eachLate.cons rfl (fun K hK => ?_) eachLate.nil)
   go_simp
   refine hK.out _ _ (HT8.out _) ?_
   clear hK K
   try simp only [Act.put, Ld, Le, Lf]
   refine wpLate.take (i := 15) (q := 16) (oi := _) (v := ?_) rfl (by as_aux_lemma => kernel_rfl) (by as_aux_lemma => kernel_rfl) (by as_aux_lemma => kernel_rfl) (by as_aux_lemma => kernel_rfl) (by rfl) (fun _ _ _ h => h) (TillOne.set (by decide)) (HT8.out _) (Or.inl ⟨by rfl, ?_⟩) ?_
   case refine_2 => intro W hw; have e0 := HQ0.out W hw; clear hw; go_simp; (try with_reducible rfl)
   simp only [Act.put, Ld, Le, Lf]
   refine wpLate.ready (rs := [16]) (by as_aux_lemma => kernel_rfl) (by simp) (eachLate.cons rfl (fun K hK => ?_) eachLate.nil)
   go_simp
   refine hK.out _ _ (HS9.out _ rfl) ?_
   clear hK K
   try simp only [Act.put]
   refine wpLate.done (by as_aux_lemma => kernel_rfl) ?_ _
   go_wp2
   go_end0
   rw [HCH.out]
   exact ⟨rfl, HFIN.out.1, HFIN.out.2⟩
 | false =>
   have HCH : Hid (ch = 1) := Lib.hid (by rw [← HCC.out, if_neg (fun h => by have := HQ.out.2 h; cases this)])
   clear HCC HQ
   go_upto_region 6 with fail
   have HQ0 : Hid (∀ W, Ahead (TillOne (fun _ => True) (fun W => W.cell? ⟨bm, 4, none⟩ = some (.slice AE nE cE)) 16) 16 W → W.cell? ⟨bm, 4, none⟩ = some (.slice AE nE cE)) := Lib.hid fun W h => (TillOne.get h).2
   have HS0 : Hid (∀ L, (TillOne (fun _ => True) (fun W => W.cell? ⟨bm, 4, none⟩ = some (.slice AE nE cE)) 16) L w3.drew) := Lib.hid fun L => TillOne.mk trivial (H3.out.box.cell 4)
   refine wp_region_late (TillOne (fun _ => True) (fun W => W.cell? ⟨bm, 4, none⟩ = some (.slice AE nE cE)) 16) (by as_aux_lemma => kernel_rfl) ?_
   change wpLate Tryz.prog .any _ _ _ 17 #[false, false, false, false, false, false, false, false, false, false, false, false, false, false, false, false, false] _ _
   refine wpLate.take (i := 0) (q := 16) (oi := _) (v := ?_) rfl (by as_aux_lemma => kernel_rfl) (by as_aux_lemma => kernel_rfl) (by as_aux_lemma => kernel_rfl) (by as_aux_lemma => kernel_rfl) (by rfl) (fun _ _ _ h => h) (TillOne.set (by decide)) (HS0.out _) (Or.inl ⟨by rfl, ?_⟩) ?_
   case refine_2 => intro W hw; have e0 := HQ0.out W hw; clear hw; go_simp; (try with_reducible rfl)
   simp only [Act.put, Ld, Le, Lf]
   refine wpLate.take (i := 1) (q := 16) (oi := _) (v := ?_) rfl (by as_aux_lemma => kernel_rfl) (by as_aux_lemma => kernel_rfl) (by as_aux_lemma => kernel_rfl) (by as_aux_lemma => kernel_rfl) (by rfl) (fun _ _ _ h => h) (TillOne.set (by decide)) (HS0.out _) (Or.inl ⟨by rfl, ?_⟩) ?_
   case refine_2 => intro W hw; have e0 := HQ0.out W hw; clear hw; go_simp; (try with_reducible rfl)
   simp only [Act.put, Ld, Le, Lf]
   refine wpLate.take (i := 2) (q := 16) (oi := _) (v := ?_) rfl (by as_aux_lemma => kernel_rfl) (by as_aux_lemma => kernel_rfl) (by as_aux_lemma => kernel_rfl) (by as_aux_lemma => kernel_rfl) (by rfl) (fun _ _ _ h => h) (TillOne.set (by decide)) (HS0.out _) (Or.inl ⟨by rfl, ?_⟩) ?_
   case refine_2 => intro W hw; have e0 := HQ0.out W hw; clear hw; go_simp; (try with_reducible rfl)
   simp only [Act.put, Ld, Le, Lf]
   refine wpLate.take (i := 3) (q := 16) (oi := _) (v := ?_) rfl (by as_aux_lemma => kernel_rfl) (by as_aux_lemma => kernel_rfl) (by as_aux_lemma => kernel_rfl) (by as_aux_lemma => kernel_rfl) (by rfl) (fun _ _ _ h => h) (TillOne.set (by decide)) (HS0.out _) (Or.inl ⟨by rfl, ?_⟩) ?_
   case refine_2 => intro W hw; have e0 := HQ0.out W hw; clear hw; go_simp; (try with_reducible rfl)
   simp only [Act.put, Ld, Le, Lf]
   refine wpLate.take (i := 4) (q := 16) (oi := _) (v := ?_) rfl (by as_aux_lemma => kernel_rfl) (by as_aux_lemma => kernel_rfl) (by as_aux_lemma => kernel_rfl) (by as_aux_lemma => kernel_rfl) (by rfl) (fun _ _ _ h => h) (TillOne.set (by decide)) (HS0.out _) (Or.inl ⟨by rfl, ?_⟩) ?_
   case refine_2 => intro W hw; have e0 := HQ0.out W hw; clear hw; go_simp; (try with_reducible rfl)
   simp only [Act.put, Ld, Le, Lf]
   refine wpLate.take (i := 5) (q := 16) (oi := _) (v := ?_) rfl (by as_aux_lemma => kernel_rfl) (by as_aux_lemma => kernel_rfl) (by as_aux_lemma => kernel_rfl) (by as_aux_lemma => kernel_rfl) (by rfl) (fun _ _ _ h => h) (TillOne.set (by decide)) (HS0.out _) (Or.inl ⟨by rfl, ?_⟩) ?_
   case refine_2 => intro W hw; have e0 := HQ0.out W hw; clear hw; go_simp; (try with_reducible rfl)
   simp only [Act.put, Ld, Le, Lf]
   refine wpLate.take (i := 7) (q := 16) (oi := _) (v := ?_) rfl (by as_aux_lemma => kernel_rfl) (by as_aux_lemma => kernel_rfl) (by as_aux_lemma => kernel_rfl) (by as_aux_lemma => kernel_rfl) (by rfl) (fun _ _ _ h => h) (TillOne.set (by decide)) (HS0.out _) (Or.inl ⟨by rfl, ?_⟩) ?_
   case refine_2 => intro W hw; have e0 := HQ0.out W hw; clear hw; go_simp; (try with_reducible rfl)
   simp only [Act.put, Ld, Le, Lf]
   refine wpLate.take (i := 8) (q := 16) (oi := _) (v := ?_) rfl (by as_aux_lemma => kernel_rfl) (by as_aux_lemma => kernel_rfl) (by as_aux_lemma => kernel_rfl) (by as_aux_lemma => kernel_rfl) (by rfl) (fun _ _ _ h => h) (TillOne.set (by decide)) (HS0.out _) (Or.inl ⟨by rfl, ?_⟩) ?_
   case refine_2 => intro W hw; have e0 := HQ0.out W hw; clear hw; go_simp; (try with_reducible rfl)
   simp only [Act.put, Ld, Le, Lf]
   refine wpLate.take (i := 10) (q := 16) (oi := _) (v := ?_) rfl (by as_aux_lemma => kernel_rfl) (by as_aux_lemma => kernel_rfl) (by as_aux_lemma => kernel_rfl) (by as_aux_lemma => kernel_rfl) (by rfl) (fun _ _ _ h => h) (TillOne.set (by decide)) (HS0.out _) (Or.inl ⟨by rfl, ?_⟩) ?_
   case refine_2 => intro W hw; have e0 := HQ0.out W hw; clear hw; go_simp; (try with_reducible rfl)
   simp only [Act.put, Ld, Le, Lf]
   refine wpLate.ready (rs := [6]) (by as_aux_lemma => kernel_rfl) (by simp) (eachLate.cons rfl (fun K hK => ?_) eachLate.nil)
   go_simp
   refine (HN1.out _ HE3.out).mono ?_
   rintro e w4 ⟨rfl, hb4⟩
   have H4 := Lib.hid (H3.out.under hb4)
   have HE4 : Hid (EnvR w4) := Lib.hid (HE3.out.under hb4)
   have HR4 : Hid (Rdt base bm w w4) := Lib.hid (HR3.out.under hb4 HB3.out)
   have HB4 : Hid (base ≤ w4.heap.size) := Lib.hid (Nat.le_trans HB3.out hb4.size)
   have HT4 : Hid (∀ L, (TillOne (fun _ => True) (fun W => W.cell? ⟨bm, 4, none⟩ = some (.slice AE nE cE)) 16) L w4) := Lib.hid fun L => TillOne.mk trivial (H4.out.box.cell 4)
   refine hK.out _ _ (HT4.out _) ?_
   clear hK K hb4
   try simp only [Act.put, Ld, Le, Lf]
   refine wpLate.ready (rs := [9]) (by as_aux_lemma => kernel_rfl) (by simp) (eachLate.cons rfl (fun K hK => ?_) eachLate.nil)
   go_simp
   refine (HN2.out _ HE4.out).mono ?_
   rintro e w5 ⟨rfl, hb5⟩
   have H5 := Lib.hid (H4.out.under hb5)
   have HE5 : Hid (EnvR w5) := Lib.hid (HE4.out.under hb5)
   have HR5 : Hid (Rdt base bm w w5) := Lib.hid (HR4.out.under hb5 HB4.out)
   have HB5 : Hid (base ≤ w5.heap.size) := Lib.hid (Nat.le_trans HB4.out hb5.size)
   have HT5 : Hid (∀ L, (TillOne (fun _ => True) (fun W => W.cell? ⟨bm, 4, none⟩ = some (.slice AE nE cE)) 16) L w5) := Lib.hid fun L => TillOne.mk trivial (H5.out.box.cell 4)
   refine hK.out _ _ (HT5.out _) ?_
   clear hK K hb5
   try simp only [Act.put, Ld, Le, Lf]
   refine wpLate.take (i := 11) (q := 16) (oi := _) (v := ?_) rfl (by as_aux_lemma => kernel_rfl) (by as_aux_lemma => kernel_rfl) (by as_aux_lemma => kernel_rfl) (by as_aux_lemma => kernel_rfl) (by rfl) (fun _ _ _ h => h) (TillOne.set (by decide)) (HT5.out _) (Or.inl ⟨by rfl, ?_⟩) ?_
   case refine_2 => intro W hw; have e0 := HQ0.out W hw; clear hw; go_simp; (try with_reducible rfl)
   simp only [Act.put, Ld, Le, Lf]
   refine wpLate.ready (rs := [12]) (by as_aux_lemma => kernel_rfl) (by simp) (eachLate.cons rfl (fun K hK => ?_) eachLate.nil)
   have H6 : Hid (MW base bm n (w5.alloc (.cells #[.int .i64 z1, .string n1, .int .i64 z2, .int .i64 1, .string ⟨#[]⟩, .slice none 0 0] 58)) m cs (.slice AE nE cE) vE vR vS vY ∧ Whole (w5.alloc (.cells #[.int .i64 z1, .string n1, .int .i64 z2, .int .i64 1, .string ⟨#[]⟩, .slice none 0 0] 58)) w5.heap.size 58 #[.int .i64 z1, .string n1, .int .i64 z2, .int .i64 1, .string ⟨#[]⟩, .slice none 0 0] ∧ Rdt base bm w (w5.alloc (.cells #[.int .i64 z1, .string n1, .int .i64 z2, .int .i64 1, .string ⟨#[]⟩, .slice none 0 0] 58)) ∧ base ≤ (w5.alloc (.cells #[.int .i64 z1, .string n1, .int .i64 z2, .int .i64 1, .string ⟨#[]⟩, .slice none 0 0] 58)).heap.size) := Lib.hid ⟨H5.out.under ((Below.refl _ w5).alloc (Nat.le_refl _) _), Whole.new _ _ _, HR5.out.under ((Below.refl _ w5).alloc (Nat.le_refl _) _) HB5.out, by rw [World.size_alloc]; have := HB5.out; omega⟩
   have HT6 : Hid (∀ L, (TillOne (fun _ => True) (fun W => W.cell? ⟨bm, 4, none⟩ = some (.slice AE nE cE)) 16) L (w5.alloc (.cells #[.int .i64 z1, .string n1, .int .i64 z2, .int .i64 1, .string ⟨#[]⟩, .slice none 0 0] 58))) := Lib.hid fun L => TillOne.mk trivial (H6.out.1.box.cell 4)
   go_simp
   refine hK.out _ _ (HT6.out _) ?_
   clear hK K
   try simp only [Act.put, Ld, Le, Lf]
   generalize w5.alloc (.cells #[.int .i64 z1, .string n1, .int .i64 z2, .int .i64 1, .string ⟨#[]⟩, .slice none 0 0] 58) = w7 at *
   generalize w5.heap.size = g7 at *
   refine wpLate.ready (rs := [13]) (by as_aux_lemma => kernel_rfl) (by simp) (eachLate.cons rfl (fun K hK => ?_) eachLate.nil)
   refine step_of rfl (wp_appendE (r := [.int .i64 z1, .string n1, .int .i64 z2, .int .i64 1, .string ⟨#[]⟩, .slice none 0 0]) (.tmp 35) (.tmp 43) rfl Tryz.underlying22 Tryz.infoCodec rfl (Nat.zero_lt_succ _) rfl H6.out.1.hC rfl H6.out.2.1 rfl (fun u hu => by simp at hu; rcases hu with rfl | rfl | rfl | rfl | rfl | rfl <;> rfl) (by have := H6.out.1.lens.1; rw [H6.out.1.eqC] at this; rw [List.length_map] at this ⊢; have := HN64.out; omega) (by have := H6.out.1.lens.1; rw [H6.out.1.eqC] at this; rw [List.length_map] at this ⊢; have := HN64.out; omega) H6.out.2.2.2 ?_)
   intro v8 w8 ho8 hg8 hn8
   have H8 := Lib.hid (H6.out.1.codecsA (x := ⟨z1, n1, z2, 1, ⟨#[]⟩, []⟩) ho8 hg8 H6.out.2.2.2 rfl ⟨HBZ.out, Nat.zero_le _⟩ HN64.out)
   have hbx8 : Whole w8 bm 28 (mcell m (.slice AE nE cE) vE vR vS vY) := H6.out.1.box.grown hg8 (fun e => (H6.out.1.hC.apart H6.out.1.box (by decide)) e.symm)
   have c8 : w8.cell? ⟨bm, 4, none⟩ = some (.slice AE nE cE) := hbx8.cell 4
   have f8 := hbx8.frz 4
   have HT8 : Hid (∀ L, (TillOne (fun _ => True) (fun W => W.cell? ⟨bm, 4, none⟩ = some (.slice AE nE cE)) 16) L w8) := Lib.hid fun L => TillOne.mk trivial c8
   have HS9 : Hid (∀ L, L.getD 16 true = true → (TillOne (fun _ => True) (fun W => W.cell? ⟨bm, 4, none⟩ = some (.slice AE nE cE)) 16) L (w8.setCell ⟨bm, 4, none⟩ v8)) := Lib.hid fun L hL => TillOne.past trivial hL
   have HFIN : Hid ((∃ cs vC vE vR vS vY, MW base bm (n + 1) (w8.setCell ⟨bm, 4, none⟩ v8) { m with codecs := m.codecs ++ [⟨z1, n1, z2, 1, ⟨#[]⟩, []⟩] } cs vC vE vR vS vY) ∧ Rdt base bm w (w8.setCell ⟨bm, 4, none⟩ v8)) := Lib.hid ⟨⟨_, _, _, _, _, _, H8.out.1⟩, H6.out.2.2.1.trans H8.out.2⟩
   obtain ⟨A8, l8, k8, hv8⟩ : ∃ A l k, v8 = .slice A l k := by obtain ⟨A, k, h, -⟩ := ho8.form; exact ⟨_, _, _, h⟩
   subst hv8
   clear ho8 hg8 hn8 hbx8 H6
   refine hK.out _ _ (HT8.out _) ?_
   clear hK K
   try simp only [Act.put, Ld, Le, Lf]
   refine wpLate.ready (rs := [14]) (by as_aux_lemma => kernel_rfl) (by simp) (eachLate.cons rfl (fun K hK => ?_) eachLate.nil)
   go_simp
   refine hK.out _ _ (HT8.out _) ?_
   clear hK K
   try simp only [Act.put, Ld, Le, Lf]
   refine wpLate.take (i := 15) (q := 16) (oi := _) (v := ?_) rfl (by as_aux_lemma => kernel_rfl) (by as_aux_lemma => kernel_rfl) (by as_aux_lemma => kernel_rfl) (by as_aux_lemma => kernel_rfl) (by rfl) (fun _ _ _ h => h) (TillOne.set (by decide)) (HT8.out _) (Or.inl ⟨by rfl, ?_⟩) ?_
   case refine_2 => intro W hw; have e0 := HQ0.out W hw; clear hw; go_simp; (try with_reducible rfl)
   simp only [Act.put, Ld, Le, Lf]
   refine wpLate.ready (rs := [16]) (by as_aux_lemma => kernel_rfl) (by simp) (eachLate.cons rfl (fun K hK => ?_) eachLate.nil)
   go_simp
   refine hK.out _ _ (HS9.out _ rfl) ?_
   clear hK K
   try simp only [Act.put]
   refine wpLate.done (by as_aux_lemma => kernel_rfl) ?_ _
   go_wp2
   go_end0
   rw [HCH.out]
   exact ⟨rfl, HFIN.out.1, HFIN.out.2⟩
set_option maxHeartbeats 1600000 in
set_option maxRecDepth 100000 in
theorem readSource_any (base bm n : Nat) (s : ByteArray) (m : MediaS) (cs : List (CodecS × Value)) (vC vE vR vS vY : Value) (w : World) (h : MW base bm n w m cs vC vE vR vS vY) (hE : EnvR w) (hs : s.size ≤ 140737488355328) (hn : n ≤ 64) :
 Calls Tryz.prog 156 #[.pointer (some ⟨bm, 0, none⟩), .string s] w (RdO base bm (n + 1) w { m with sources := m.sources ++ [srcP (tx s)] }) := by
 have HPU := Lib.hid (parseU_any s w hE (by omega))
 have hbw : base ≤ w.heap.size := Nat.le_trans h.hbm (Nat.le_of_lt h.box.lt)
 have hlt := srcP_lt (tx s)
 obtain ⟨AE, nE0, hvE, -⟩ := Own.form h.hS
 obtain ⟨cE, hcE⟩ : ∃ c, nE0 = c := ⟨_, rfl⟩
 obtain ⟨nE, hnE⟩ : ∃ c, (m.sources.map ucell).length = c := ⟨_, rfl⟩
 rw [hnE, hcE] at hvE
 subst hvE
 generalize srcP (tx s) = q at *
 have hq : IntKind.u32.wrap (q : Int) = q := by
  unfold IntKind.wrap
  simp [IntKind.bits, IntKind.signed]
  omega
 have HM := Lib.hid h
 have HN64 := Lib.hid hn
 have HBW := Lib.hid hbw
 have HLT := Lib.hid hlt
 clear h hE hs hn hbw hlt hnE hcE
 go_enter Tryz.func156, Tryz.ntmps156
 go_upto_region 1 with (go_at_call 191; (with_reducible refine HPU.out.mono ?_); rintro e w1 ⟨⟨er, rfl⟩, hb1⟩; have H1 := Lib.hid hb1; clear hb1; dsimp only)
 have HM1 := Lib.hid (HM.out.under H1.out)
 have HR1 : Hid (Rdt base bm w w1) := Lib.hid ((Rdt.refl base bm w).under H1.out HBW.out)
 have HB1 : Hid (base ≤ w1.heap.size) := Lib.hid (Nat.le_trans HBW.out H1.out.size)
 have HA : Hid (MW base bm n (w1.alloc (.cells #[.int .u32 q] 85)) m cs vC vE vR (.slice AE nE cE) vY ∧ Whole (w1.alloc (.cells #[.int .u32 q] 85)) w1.heap.size 85 #[.int .u32 q] ∧ Rdt base bm w (w1.alloc (.cells #[.int .u32 q] 85)) ∧ base ≤ (w1.alloc (.cells #[.int .u32 q] 85)).heap.size) := Lib.hid
  ⟨HM1.out.under ((Below.refl _ w1).alloc (Nat.le_refl _) _), Whole.new _ _ _, HR1.out.under ((Below.refl _ w1).alloc (Nat.le_refl _) _) HB1.out, by rw [World.size_alloc]; have := HB1.out; omega⟩
 have e1 : w1.cell? ⟨bm, 8, none⟩ = some (.slice AE nE cE) := HM1.out.box.cell 8
 go_wp2_with (at_builtin; refine wpList_appendE (r := [.int .u32 q]) rfl (.tmp 15) (.tmp 18) rfl Tryz.underlying25 Tryz.infoU32 rfl (Nat.zero_lt_succ _) rfl HA.out.1.hS rfl HA.out.2.1 rfl (fun u hu => by simp at hu; subst hu; rfl) (by rw [List.length_map]; have := HA.out.1.lens.2.2.2.1; have := HN64.out; omega) (by rw [List.length_map]; have := HA.out.1.lens.2.2.2.1; have := HN64.out; omega) HA.out.2.2.2 ?_
              intro v8 w8 ho8 hg8 hn8
              have H8 := Lib.hid (HA.out.1.sourcesA (x := q) ho8 hg8 HA.out.2.2.2 HLT.out HN64.out)
              have hbx8 : Whole w8 bm 28 (mcell m vC vE vR (.slice AE nE cE) vY) := HA.out.1.box.grown hg8 (fun e => (HA.out.1.hS.apart HA.out.1.box (by decide)) e.symm)
              have c8 : w8.cell? ⟨bm, 8, none⟩ = some (.slice AE nE cE) := hbx8.cell 8
              have f8 := hbx8.frz 8
              have HFIN : Hid ((∃ cs vC vE vR vS vY, MW base bm (n + 1) (w8.setCell ⟨bm, 8, none⟩ v8) { m with sources := m.sources ++ [q] } cs vC vE vR vS vY) ∧ Rdt base bm w (w8.setCell ⟨bm, 8, none⟩ v8)) := Lib.hid ⟨⟨_, _, _, _, _, _, H8.out.1⟩, HA.out.2.2.1.trans H8.out.2⟩
              obtain ⟨A8, l8, k8, hv8⟩ : ∃ A l k, v8 = .slice A l k := by obtain ⟨A, k, h, -⟩ := ho8.form; exact ⟨_, _, _, h⟩
              subst hv8
              clear ho8 hg8 hn8 hbx8 e1)
 go_end0
 exact ⟨rfl, HFIN.out.1, HFIN.out.2⟩
set_option maxHeartbeats 1600000 in
set_option maxRecDepth 100000 in
theorem readRid_any (base bm n : Nat) (s : ByteArray) (m : MediaS) (cs : List (CodecS × Value)) (vC vE vR vS vY : Value) (w : World) (h : MW base bm n w m cs vC vE vR vS vY) (hs : s.size ≤ 140737488355328) (hn : n ≤ 64) :
 Calls Tryz.prog 154 #[.pointer (some ⟨bm, 0, none⟩), .string s] w (RdO base bm (n + 1) w { m with rids := m.rids ++ [bs (hd (tx s))], sending := decide (tl (tx s) = wSend) }) := by
 have HC1 := Lib.hid (cutc_any s w (by omega))
 have hbw : base ≤ w.heap.size := Nat.le_trans h.hbm (Nat.le_of_lt h.box.lt)
 obtain ⟨AE, nE0, hvE, -⟩ := Own.form h.hR
 obtain ⟨cE, hcE⟩ : ∃ c, nE0 = c := ⟨_, rfl⟩
 obtain ⟨nE, hnE⟩ : ∃ c, (m.rids.map tcell).length = c := ⟨_, rfl⟩
 rw [hnE, hcE] at hvE
 subst hvE
 obtain ⟨a, ha⟩ : ∃ a, bs (hd (tx s)) = a := ⟨_, rfl⟩
 obtain ⟨b, hb⟩ : ∃ a, bs (tl (tx s)) = a := ⟨_, rfl⟩
 have haz : a.size ≤ 140737488355328 := by rw [← ha, bs_size]; have := (cutS_len [32] (tx s)).1; rw [tx_length] at this; exact Nat.le_trans this hs
 have HAZ := Lib.hid haz
 rw [ha, hb] at HC1
 have hbt : tl (tx s) = tx b := by rw [← hb, tx_bs]
 rw [ha, hbt]
 have HSD : Hid ((b.toList == [115, 101, 110, 100]) = decide (tx b = wSend)) := Lib.hid (by
  rw [toList_tx]
  by_cases e : tx b = wSend
  · rw [e]; rfl
  · rw [decide_eq_false e, beq_eq_false_iff_ne]; exact e)
 rw [← HSD.out]
 have HM := Lib.hid h
 have HN64 := Lib.hid hn
 have HBW := Lib.hid hbw
 clear h hs hn hbw hnE hcE ha hb haz hbt HSD
 go_enter Tryz.func154, Tryz.ntmps154
 go_upto_region 1 with (go_at_call 101; (with_reducible refine HC1.out.mono ?_); rintro e w1 ⟨rfl, hb1⟩; have H1 := Lib.hid hb1; clear hb1; dsimp only)
 have HM1 := Lib.hid (HM.out.under H1.out)
 have HR1 : Hid (Rdt base bm w w1) := Lib.hid ((Rdt.refl base bm w).under H1.out HBW.out)
 have HB1 : Hid (base ≤ w1.heap.size) := Lib.hid (Nat.le_trans HBW.out H1.out.size)
 have HA : Hid (MW base bm n (w1.alloc (.cells #[.string a] 9)) m cs vC vE (.slice AE nE cE) vS vY ∧ Whole (w1.alloc (.cells #[.string a] 9)) w1.heap.size 9 #[.string a] ∧ Rdt base bm w (w1.alloc (.cells #[.string a] 9)) ∧ base ≤ (w1.alloc (.cells #[.string a] 9)).heap.size) := Lib.hid
  ⟨HM1.out.under ((Below.refl _ w1).alloc (Nat.le_refl _) _), Whole.new _ _ _, HR1.out.under ((Below.refl _ w1).alloc (Nat.le_refl _) _) HB1.out, by rw [World.size_alloc]; have := HB1.out; omega⟩
 have e1 : w1.cell? ⟨bm, 6, none⟩ = some (.slice AE nE cE) := HM1.out.box.cell 6
 go_wp2_with (at_builtin; refine wpList_appendE (r := [.string a]) rfl (.tmp 16) (.tmp 18) rfl Tryz.underlying24 Tryz.infoStr rfl (Nat.zero_lt_succ _) rfl HA.out.1.hR rfl HA.out.2.1 rfl (fun u hu => by simp at hu; subst hu; rfl) (by rw [List.length_map]; have := HA.out.1.lens.2.2.1; have := HN64.out; omega) (by rw [List.length_map]; have := HA.out.1.lens.2.2.1; have := HN64.out; omega) HA.out.2.2.2 ?_
              intro v8 w8 ho8 hg8 hn8
              have H8 := Lib.hid (HA.out.1.ridsA (x := a) ho8 hg8 HA.out.2.2.2 HAZ.out HN64.out hn8)
              have hbx8 : Whole w8 bm 28 (mcell m vC vE (.slice AE nE cE) vS vY) := HA.out.1.box.grown hg8 (fun e => (HA.out.1.hR.apart HA.out.1.box (by decide)) e.symm)
              have c8 : w8.cell? ⟨bm, 6, none⟩ = some (.slice AE nE cE) := hbx8.cell 6
              have c9 : w8.cell? ⟨bm, 7, none⟩ = some (.bool m.sending) := hbx8.cell 7
              have f8 := hbx8.frz
              have HFIN : Hid ((∃ cs vC vE vR vS vY, MW base bm (n + 1) ((w8.setCell ⟨bm, 6, none⟩ v8).setCell ⟨bm, 7, none⟩ (.bool (b.toList == [115, 101, 110, 100]))) { m with rids := m.rids ++ [a], sending := (b.toList == [115, 101, 110, 100]) } cs vC vE vR vS vY) ∧ Rdt base bm w ((w8.setCell ⟨bm, 6, none⟩ v8).setCell ⟨bm, 7, none⟩ (.bool (b.toList == [115, 101, 110, 100])))) := Lib.hid
               ⟨⟨_, _, _, _, _, _, H8.out.1.cell (m' := { m with rids := m.rids ++ [a], sending := (b.toList == [115, 101, 110, 100]) }) 7 _ rfl rfl rfl rfl rfl rfl H8.out.1.siz.mid⟩, HA.out.2.2.1.trans (H8.out.2.cell H8.out.1.hbm 7 _)⟩
              obtain ⟨A8, l8, k8, hv8⟩ : ∃ A l k, v8 = .slice A l k := by obtain ⟨A, k, h, -⟩ := ho8.form; exact ⟨_, _, _, h⟩
              subst hv8
              clear ho8 hg8 hn8 hbx8 e1)
 go_end0
 exact ⟨rfl, HFIN.out.1, HFIN.out.2⟩
section
variable {base bm n : Nat} {w w' : World} {m : MediaS} {cs : List (CodecS × Value)} {vC vE vR vS vY : Value}
theorem codecs_snoc {cs0 : List (CodecS × Value)} {c : CodecS × Value} (h : MW base bm n w m (cs0 ++ [c]) vC vE vR vS vY) (f : CodecS → CodecS) : onLast f m.codecs = cs0.map (·.1) ++ [f c.1] := by
 rw [h.eqC, List.map_append]
 exact onLast_snoc f _ c.1
theorem MW.formatL {cs0 : List (CodecS × Value)} {c : CodecS × Value} (h : MW base bm n w m (cs0 ++ [c]) vC vE vR vS vY) {g : Nat} (hg : vC.ownBlock = some g) {b : ByteArray} (hb : b.size ≤ 140737488355328) :
 MW base bm n (w.setCell ⟨g, cs0.length * 6 + 4, none⟩ (.string b)) { m with codecs := onLast (fun c => { c with format := b }) m.codecs } (cs0 ++ [({ c.1 with format := b }, c.2)]) vC vE vR vS vY ∧ Rdt base bm w (w.setCell ⟨g, cs0.length * 6 + 4, none⟩ (.string b)) := by
 have hl := codecs_snoc h (fun c => { c with format := b })
 have hgl := h.hC.lt hg
 obtain ⟨l1, l2, l3, l4, l5, l6⟩ := h.lens
 obtain ⟨z1, z2, z3, z4, z5, z6, z8⟩ := h.siz
 have hcm : m.codecs.length = cs0.length + 1 := by rw [h.eqC]; simp
 have hin : c.1 ∈ m.codecs := by rw [h.eqC]; simp
 have hin0 : ∀ x ∈ cs0.map (·.1), x ∈ m.codecs := fun x hx => by rw [h.eqC, List.map_append]; exact List.mem_append_left _ hx
 have hbg : bm ≠ g := fun e => h.hC.apart h.box (by decide) (by rw [hg, e])
 have far : ∀ {e : TypeId} {sz : Nat} {v : Value} {rs : List (List Value)}, Own w base e sz v rs → e ≠ 58 → Own (w.setCell ⟨g, cs0.length * 6 + 4, none⟩ (.string b)) base e sz v rs := fun {e sz v rs} ho he =>
  ho.far (p := ⟨g, cs0.length * 6 + 4, none⟩) (by
   rcases ho.apart2 h.hC he with h1 | h1
   · rw [h1]; exact fun e => by cases e
   · rw [hg] at h1; exact h1) _
 refine ⟨⟨?eq, h.box.far (p := ⟨g, cs0.length * 6 + 4, none⟩) hbg _, ?own, ?feed, far h.hE (by decide), far h.hR (by decide), far h.hS (by decide), far h.hY (by decide), ?ap, h.hbm, ?siz, ?lens⟩, ?low, ?kept, Go.KeepsOthers.setCell _ _ _⟩
 case eq => show onLast _ m.codecs = _; rw [hl]; simp
 case own =>
  have := h.hC.put hg (i := cs0.length) (j := 4) (r := ccell c.1 c.2) (by simp) (by decide) (.string b)
  have e : ((cs0 ++ [c]).map fun c => ccell c.1 c.2).set cs0.length ((ccell c.1 c.2).set 4 (.string b)) = (cs0 ++ [(({ c.1 with format := b } : CodecS), c.2)]).map fun c => ccell c.1 c.2 := by
   rw [List.map_append, List.set_append_right (h := by simp)]
   simp [ccell]
  rw [e] at this
  exact this
 case feed =>
  intro d hd
  rcases List.mem_append.1 hd with hd | hd
  · exact far (h.hF d (List.mem_append_left _ hd)) (by decide)
  · simp at hd
    subst hd
    exact far (h.hF c (by simp)) (by decide)
 case ap =>
  have := h.ap
  simp only [List.map_append, List.map_cons, List.map_nil] at this ⊢
  exact this
 case siz =>
  refine ⟨z1, fun d hd => ?_, fun d hd => ?_, z4, z5, z6, ?_⟩
  · have hd : d ∈ onLast (fun c => { c with format := b }) m.codecs := hd
    rw [hl] at hd
    rcases List.mem_append.1 hd with hd | hd
    · exact z2 d (hin0 d hd)
    · simp at hd
      subst hd
      exact ⟨(z2 c.1 hin).1, hb, (z2 c.1 hin).2.2⟩
  · have hd : d ∈ onLast (fun c => { c with format := b }) m.codecs := hd
    rw [hl] at hd
    rcases List.mem_append.1 hd with hd | hd
    · exact z3 d (hin0 d hd)
    · simp at hd
      subst hd
      exact z3 c.1 hin
  · show (onLast (fun c => { c with format := b }) m.codecs).length ≤ _ ∧ _
    rw [hl, List.length_append, List.length_map, List.length_singleton, ← hcm]
    exact z8
 case lens =>
  refine ⟨?_, l2, l3, l4, l5, fun d hd => ?_⟩
  · show (onLast (fun c => { c with format := b }) m.codecs).length ≤ _
    rw [hl, List.length_append, List.length_map, List.length_singleton, ← hcm]
    exact l1
  · have hd : d ∈ onLast (fun c => { c with format := b }) m.codecs := hd
    rw [hl] at hd
    rcases List.mem_append.1 hd with hd | hd
    · exact l6 d (hin0 d hd)
    · simp at hd
      subst hd
      exact l6 c.1 hin
 case low => exact (Below.refl base w).setCell (p := ⟨g, cs0.length * 6 + 4, none⟩) hgl.1 _
 case kept =>
  intro k t ds hw h1 h2 h3 h4 h5 h6
  refine hw.far (p := ⟨g, cs0.length * 6 + 4, none⟩) (fun e => ?_) _
  have := h.hC.apart hw (fun e2 => h1 e2.symm)
  exact this (by rw [hg, e])
theorem MW.feedL {cs0 : List (CodecS × Value)} {c : CodecS × Value} {v' : Value} (h : MW base bm n w m (cs0 ++ [c]) vC vE vR vS vY) {g : Nat} (hg : vC.ownBlock = some g) {b : ByteArray} (ho : Own w' base 9 1 v' (c.1.feedback.map tcell ++ [tcell b])) (hgr : w.grownBy w' c.2.ownBlock) (hbw : base ≤ w.heap.size) (hb : b.size ≤ 140737488355328) (hn : n ≤ 64) (hn8 : v'.ownBlock = c.2.ownBlock ∨ v'.ownBlock = some w.heap.size) :
 MW base bm (n + 1) (w'.setCell ⟨g, cs0.length * 6 + 5, none⟩ v') { m with codecs := onLast (fun c => { c with feedback := c.feedback ++ [b] }) m.codecs } (cs0 ++ [({ c.1 with feedback := c.1.feedback ++ [b] }, v')]) vC vE vR vS vY ∧ Rdt base bm w (w'.setCell ⟨g, cs0.length * 6 + 5, none⟩ v') := by
 have hl := codecs_snoc h (fun c => { c with feedback := c.feedback ++ [b] })
 have hfc := h.hF c (by simp)
 obtain ⟨l1, l2, l3, l4, l5, l6⟩ := h.lens
 obtain ⟨z1, z2, z3, z4, z5, z6, z8⟩ := h.siz
 have hcm : m.codecs.length = cs0.length + 1 := by rw [h.eqC]; simp
 have hin : c.1 ∈ m.codecs := by rw [h.eqC]; simp
 have hin0 : ∀ x ∈ cs0.map (·.1), x ∈ m.codecs := fun x hx => by rw [h.eqC, List.map_append]; exact List.mem_append_left _ hx
 have hpw : (vR :: cs0.map (·.2)).Pairwise (fun a b => a.ownBlock = none ∨ a.ownBlock ≠ b.ownBlock) ∧ ∀ a ∈ vR :: cs0.map (·.2), a.ownBlock = none ∨ a.ownBlock ≠ c.2.ownBlock := by
  have := h.ap
  simp only [List.map_append, List.map_cons, List.map_nil] at this
  rw [← List.cons_append, List.pairwise_append] at this
  exact ⟨this.1, fun a ha => this.2.2 a ha c.2 (by simp)⟩
 have hbx : Whole w' bm 28 (mcell m vC vE vR vS vY) := h.box.grown hgr (fun e => (hfc.apart h.box (by decide)) e.symm)
 have hC := h.hC.grown hgr (h.hC.apart2 hfc (by decide))
 have hgl := hC.lt hg
 have hbg : bm ≠ g := fun e => hC.apart hbx (by decide) (by rw [hg, e])
 have far : ∀ {e : TypeId} {sz : Nat} {v : Value} {rs : List (List Value)}, Own w' base e sz v rs → e ≠ 58 → Own (w'.setCell ⟨g, cs0.length * 6 + 5, none⟩ v') base e sz v rs := fun {e sz v rs} ho he =>
  ho.far (p := ⟨g, cs0.length * 6 + 5, none⟩) (by
   rcases ho.apart2 hC he with h1 | h1
   · rw [h1]; exact fun e => by cases e
   · rw [hg] at h1; exact h1) _
 refine ⟨⟨?eq, hbx.far (p := ⟨g, cs0.length * 6 + 5, none⟩) hbg _, ?own, ?feed, far (h.hE.grown hgr (h.hE.apart2 hfc (by decide))) (by decide), far (h.hR.grown hgr (hpw.2 vR (by simp))) (by decide), far (h.hS.grown hgr (h.hS.apart2 hfc (by decide))) (by decide), far (h.hY.grown hgr (h.hY.apart2 hfc (by decide))) (by decide), ?ap, h.hbm, ?siz, ?lens⟩, ?low, ?kept, (hfc.others hgr).trans (Go.KeepsOthers.setCell _ _ _)⟩
 case eq => show onLast _ m.codecs = _; rw [hl]; simp
 case own =>
  have := hC.put hg (i := cs0.length) (j := 5) (r := ccell c.1 c.2) (by simp) (by decide) v'
  have e : ((cs0 ++ [c]).map fun c => ccell c.1 c.2).set cs0.length ((ccell c.1 c.2).set 5 v') = (cs0 ++ [(({ c.1 with feedback := c.1.feedback ++ [b] } : CodecS), v')]).map fun c => ccell c.1 c.2 := by
   rw [List.map_append, List.set_append_right (h := by simp)]
   simp [ccell]
  rw [e] at this
  exact this
 case feed =>
  intro d hd
  rcases List.mem_append.1 hd with hd | hd
  · exact far ((h.hF d (List.mem_append_left _ hd)).grown hgr (hpw.2 d.2 (List.mem_cons_of_mem _ (List.mem_map_of_mem hd)))) (by decide)
  · simp at hd
    subst hd
    have e : (c.1.feedback ++ [b]).map tcell = c.1.feedback.map tcell ++ [tcell b] := by simp
    show Own _ _ _ _ v' ((c.1.feedback ++ [b]).map tcell)
    rw [e]
    exact far ho (by decide)
 case ap =>
  show (vR :: (cs0 ++ [(({ c.1 with feedback := c.1.feedback ++ [b] } : CodecS), v')]).map (·.2)).Pairwise _
  rw [List.map_append, ← List.cons_append]
  refine List.pairwise_append.2 ⟨hpw.1, by simp, fun a ha d hd => ?_⟩
  simp at hd
  subst hd
  rcases hn8 with e | e
  · rw [e]; exact hpw.2 a ha
  · right
    rw [e]
    intro e2
    rcases List.mem_cons.1 ha with rfl | ha
    · exact absurd (h.hR.lt e2).2 (Nat.lt_irrefl _)
    · obtain ⟨x, hx, rfl⟩ := List.mem_map.1 ha
      exact absurd ((h.hF x (List.mem_append_left _ hx)).lt e2).2 (Nat.lt_irrefl _)
 case siz =>
  refine ⟨z1, fun d hd => ?_, fun d hd => ?_, z4, z5, z6, ?_⟩
  · have hd : d ∈ onLast (fun c => { c with feedback := c.feedback ++ [b] }) m.codecs := hd
    rw [hl] at hd
    rcases List.mem_append.1 hd with hd | hd
    · exact z2 d (hin0 d hd)
    · simp at hd
      subst hd
      refine ⟨(z2 c.1 hin).1, (z2 c.1 hin).2.1, fun f hf => ?_⟩
      rcases List.mem_append.1 hf with hf | hf
      · exact (z2 c.1 hin).2.2 f hf
      · simp at hf
        subst hf
        exact hb
  · have hd : d ∈ onLast (fun c => { c with feedback := c.feedback ++ [b] }) m.codecs := hd
    rw [hl] at hd
    rcases List.mem_append.1 hd with hd | hd
    · exact z3 d (hin0 d hd)
    · simp at hd
      subst hd
      show (c.1.feedback ++ [b]).length ≤ _
      rw [List.length_append, List.length_singleton]
      have := l6 c.1 hin
      omega
  · show (onLast (fun c => { c with feedback := c.feedback ++ [b] }) m.codecs).length ≤ _ ∧ _
    rw [hl, List.length_append, List.length_map, List.length_singleton, ← hcm]
    exact z8
 case lens =>
  refine ⟨?_, by show m.exts.length ≤ _; omega, by show m.rids.length ≤ _; omega, by show m.sources.length ≤ _; omega, by show m.crypto.length ≤ _; omega, fun d hd => ?_⟩
  · show (onLast (fun c => { c with feedback := c.feedback ++ [b] }) m.codecs).length ≤ _
    rw [hl, List.length_append, List.length_map, List.length_singleton, ← hcm]
    omega
  · have hd : d ∈ onLast (fun c => { c with feedback := c.feedback ++ [b] }) m.codecs := hd
    rw [hl] at hd
    rcases List.mem_append.1 hd with hd | hd
    · have := l6 d (hin0 d hd); omega
    · simp at hd
      subst hd
      show (c.1.feedback ++ [b]).length ≤ _
      rw [List.length_append, List.length_singleton]
      have := l6 c.1 hin
      omega
 case low => exact ((Below.refl base w).grown hgr hbw (fun j hj => (hfc.lt hj).1)).setCell (p := ⟨g, cs0.length * 6 + 5, none⟩) hgl.1 _
 case kept =>
  intro k t ds hw h1 h2 h3 h4 h5 h6
  have hw' : Whole w' k t ds := hw.grown hgr (fun e => (hfc.apart hw (fun e2 => h3 e2.symm)) e.symm)
  refine hw'.far (p := ⟨g, cs0.length * 6 + 5, none⟩) (fun e => ?_) _
  have := hC.apart hw' (fun e2 => h1 e2.symm)
  exact this (by rw [hg, e])
end
set_option maxHeartbeats 800000 in
theorem lastCodec_none (base bm n : Nat) (m : MediaS) (vC vE vR vS vY : Value) (w : World) (h : MW base bm n w m [] vC vE vR vS vY) :
 Calls Tryz.prog 190 #[.pointer (some ⟨bm, 0, none⟩)] w fun e w' => e = .returned (.pointer none) ∧ w = w' := by
 obtain ⟨A, k, hv, -⟩ := Own.form h.hC
 have e4 : w.cell? ⟨bm, 4, none⟩ = some (.slice A 0 k) := by
  have := h.box.cell 4
  rw [hv] at this
  exact this
 clear h hv
 go_enter Tryz.func190, Tryz.ntmps190
 go_wp2
 go_ret
 exact ⟨rfl, rfl⟩
set_option maxHeartbeats 1600000 in
theorem lastCodec_some (base bm n : Nat) (m : MediaS) (cs0 : List (CodecS × Value)) (c : CodecS × Value) (vC vE vR vS vY : Value) (w : World) (h : MW base bm n w m (cs0 ++ [c]) vC vE vR vS vY) (hn : n ≤ 64) :
 ∃ g, vC.ownBlock = some g ∧ Calls Tryz.prog 190 #[.pointer (some ⟨bm, 0, none⟩)] w fun e w' => e = .returned (.pointer (some ⟨g, cs0.length * 6, none⟩)) ∧ Below w.heap.size w w' := by
 obtain ⟨g, k, hv, hg, -, -, hk, -⟩ := Own.at_ h.hC (i := cs0.length) (r := ccell c.1 c.2) (by simp)
 refine ⟨g, hg, ?_⟩
 rw [List.length_map, List.length_append, List.length_singleton] at hv
 have hl : cs0.length + 1 ≤ 64 := by
  have := h.lens.1
  rw [h.eqC] at this
  simp at this
  omega
 have e4 : w.cell? ⟨bm, 4, none⟩ = some (.slice (some ⟨g, 0, none⟩) (cs0.length + 1) k) := by
  have := h.box.cell 4
  rw [hv] at this
  exact this
 generalize cs0.length = j at *
 have hne : ¬ ((j : Int) + 1 = 0) := by omega
 have hneb : (((j + 1 : Nat) : Int) == 0) = false := by rw [beq_eq_false_iff_ne]; omega
 have hsub : ((j + 1 : Nat) : Int) - 1 = (j : Int) := by omega
 have hj0 : (0 : Int) ≤ (j : Int) := by omega
 have hj1 : (j : Int) < ((j + 1 : Nat) : Int) := by omega
 clear h hv hg hk
 go_enter Tryz.func190, Tryz.ntmps190
 go_upto_region 3 with fail
 go_quiet (fail)
 go_wp2
 go_ret
 exact ⟨rfl, below_drewN' (Below.refl _ _) _⟩
set_option maxHeartbeats 1600000 in
set_option maxRecDepth 100000 in
theorem readFormat_any (base bm n : Nat) (s : ByteArray) (m : MediaS) (cs : List (CodecS × Value)) (vC vE vR vS vY : Value) (w : World) (h : MW base bm n w m cs vC vE vR vS vY) (hs : s.size ≤ 140737488355328) (hn : n ≤ 64) :
 Calls Tryz.prog 151 #[.pointer (some ⟨bm, 0, none⟩), .string s] w (RdO base bm n w { m with codecs := onLast (fun c => { c with format := bs (tl (tx s)) }) m.codecs }) := by
 have hbw : base ≤ w.heap.size := Nat.le_trans h.hbm (Nat.le_of_lt h.box.lt)
 rcases List.eq_nil_or_concat cs with rfl | ⟨cs0, c, rfl⟩
 · have hm : ({ m with codecs := onLast (fun c => { c with format := bs (tl (tx s)) }) m.codecs } : MediaS) = m := by
    have e : m.codecs = [] := h.eqC
    cases m
    simp only at e
    subst e
    rfl
   rw [hm]
   have HL := Lib.hid (lastCodec_none base bm n m vC vE vR vS vY w h)
   have HM := Lib.hid h
   clear h hm hs hn hbw
   go_enter Tryz.func151, Tryz.ntmps151
   go_wp2_with (go_at_call 190; (with_reducible refine HL.out.mono ?_); rintro e w1 ⟨rfl, rfl⟩; dsimp only)
   go_end0
   exact ⟨rfl, ⟨_, _, _, _, _, _, HM.out⟩, Rdt.refl _ _ _⟩
 · rw [List.concat_eq_append] at h
   obtain ⟨g, hg, hL⟩ := lastCodec_some base bm n m cs0 c vC vE vR vS vY w h hn
   have HL := Lib.hid hL
   have HM := Lib.hid h
   have HG := Lib.hid hg
   have HBW := Lib.hid hbw
   have HC1 : Hid (∀ W : World, Calls Tryz.prog 101 #[.string s] W fun e w' => e = .returned (.tuple #[.string (bs (hd (tx s))), .string (bs (tl (tx s)))]) ∧ Below W.heap.size W w') := Lib.hid fun W => cutc_any s W (by omega)
   have hbz : (bs (tl (tx s))).size ≤ 140737488355328 := by rw [bs_size]; have := (cutS_len [32] (tx s)).2; rw [tx_length] at this; exact Nat.le_trans this hs
   have HBZ := Lib.hid hbz
   generalize bs (tl (tx s)) = b at *
   generalize bs (hd (tx s)) = a at *
   clear h hg hL hn hs hbw hbz
   go_enter Tryz.func151, Tryz.ntmps151
   go_upto_region 1 with (go_at_call 190; (with_reducible refine HL.out.mono ?_); rintro e w1 ⟨rfl, hb1⟩; have H1 := Lib.hid hb1; clear hb1; dsimp only)
   go_wp2_with (go_at_call 101
                (with_reducible refine (HC1.out _).mono ?_)
                rintro e w2 ⟨rfl, hb2⟩
                have H2 : Hid (Below w.heap.size w w2) := Lib.hid (below_chain (Nat.le_refl _) H1.out hb2)
                clear hb2
                have HM2 := Lib.hid (HM.out.under H2.out)
                have HFX := Lib.hid (HM2.out.formatL HG.out HBZ.out)
                have HRX : Hid (Rdt base bm w w2) := Lib.hid ((Rdt.refl base bm w).under H2.out HBW.out)
                obtain ⟨g', k', hv', hg', -, -, -, -, hat, -⟩ := Own.at_ HM2.out.hC (i := cs0.length) (r := ccell c.1 c.2) (by simp)
                obtain rfl : g = g' := by have := HG.out.symm.trans hg'; exact Option.some.inj this
                have e4 : w2.cell? ⟨g, cs0.length * 6 + 4, none⟩ = some (.string c.1.format) := hat 4 (by decide)
                have q4 : w2.frozen? ⟨g, cs0.length * 6 + 4, none⟩ = false := by obtain ⟨cc, hcc⟩ := HM2.out.hC.whole HG.out; exact hcc.frz _
                clear hv' hg' hat
                dsimp only)
   go_end0
   exact ⟨rfl, ⟨_, _, _, _, _, _, HFX.out.1⟩, HRX.out.trans HFX.out.2⟩
set_option maxHeartbeats 1600000 in
set_option maxRecDepth 100000 in
theorem readFeedback_any (base bm n : Nat) (s : ByteArray) (m : MediaS) (cs : List (CodecS × Value)) (vC vE vR vS vY : Value) (w : World) (h : MW base bm n w m cs vC vE vR vS vY) (hs : s.size ≤ 140737488355328) (hn : n ≤ 64) :
 Calls Tryz.prog 152 #[.pointer (some ⟨bm, 0, none⟩), .string s] w (RdO base bm (n + 1) w { m with codecs := onLast (fun c => { c with feedback := c.feedback ++ [bs (tl (tx s))] }) m.codecs }) := by
 have hbw : base ≤ w.heap.size := Nat.le_trans h.hbm (Nat.le_of_lt h.box.lt)
 rcases List.eq_nil_or_concat cs with rfl | ⟨cs0, c, rfl⟩
 · have hm : ({ m with codecs := onLast (fun c => { c with feedback := c.feedback ++ [bs (tl (tx s))] }) m.codecs } : MediaS) = m := by
    have e : m.codecs = [] := h.eqC
    cases m
    simp only at e
    subst e
    rfl
   rw [hm]
   have HL := Lib.hid (lastCodec_none base bm n m vC vE vR vS vY w h)
   have HM : Hid (MW base bm (n + 1) w m [] vC vE vR vS vY) := Lib.hid ⟨h.eqC, h.box, h.hC, h.hF, h.hE, h.hR, h.hS, h.hY, h.ap, h.hbm, h.siz, by obtain ⟨l1, l2, l3, l4, l5, l6⟩ := h.lens; exact ⟨by omega, by omega, by omega, by omega, by omega, fun c hc => by have := l6 c hc; omega⟩⟩
   clear h hm hs hn hbw
   go_enter Tryz.func152, Tryz.ntmps152
   go_wp2_with (go_at_call 190; (with_reducible refine HL.out.mono ?_); rintro e w1 ⟨rfl, rfl⟩; dsimp only)
   go_end0
   exact ⟨rfl, ⟨_, _, _, _, _, _, HM.out⟩, Rdt.refl _ _ _⟩
 · rw [List.concat_eq_append] at h
   obtain ⟨g, hg, hL⟩ := lastCodec_some base bm n m cs0 c vC vE vR vS vY w h hn
   obtain ⟨AE, nE, hvE, -⟩ := Own.form (h.hF c (by simp))
   obtain ⟨cf, cv⟩ := c
   have hvE : cv = .slice AE (cf.feedback.map tcell).length nE := hvE
   obtain ⟨lE, hlE⟩ : ∃ l, (cf.feedback.map tcell).length = l := ⟨_, rfl⟩
   rw [hlE] at hvE
   subst hvE
   clear hlE
   have HL := Lib.hid hL
   have HM := Lib.hid h
   have HG := Lib.hid hg
   have HBW := Lib.hid hbw
   have HN64 := Lib.hid hn
   have HC1 : Hid (∀ W : World, Calls Tryz.prog 101 #[.string s] W fun e w' => e = .returned (.tuple #[.string (bs (hd (tx s))), .string (bs (tl (tx s)))]) ∧ Below W.heap.size W w') := Lib.hid fun W => cutc_any s W (by omega)
   have hbz : (bs (tl (tx s))).size ≤ 140737488355328 := by rw [bs_size]; have := (cutS_len [32] (tx s)).2; rw [tx_length] at this; exact Nat.le_trans this hs
   have HBZ := Lib.hid hbz
   generalize bs (tl (tx s)) = b at *
   generalize bs (hd (tx s)) = a at *
   clear h hg hL hn hs hbw hbz
   go_enter Tryz.func152, Tryz.ntmps152
   go_upto_region 1 with (go_at_call 190; (with_reducible refine HL.out.mono ?_); rintro e w1 ⟨rfl, hb1⟩; have H1 := Lib.hid hb1; clear hb1; dsimp only)
   go_upto_region 3 with (go_at_call 101; (with_reducible refine (HC1.out _).mono ?_); rintro e w2 ⟨rfl, hb2⟩; have H2 : Hid (Below w.heap.size w w2) := Lib.hid (below_chain (Nat.le_refl _) H1.out hb2); clear hb2; dsimp only)
   have HM2 := Lib.hid (HM.out.under H2.out)
   have HRX : Hid (Rdt base bm w w2) := Lib.hid ((Rdt.refl base bm w).under H2.out HBW.out)
   have HB2 : Hid (base ≤ w2.heap.size) := Lib.hid (Nat.le_trans HBW.out H2.out.size)
   have HA : Hid (MW base bm n (w2.alloc (.cells #[.string b] 9)) m (cs0 ++ [(cf, .slice AE lE nE)]) vC vE vR vS vY ∧ Whole (w2.alloc (.cells #[.string b] 9)) w2.heap.size 9 #[.string b] ∧ Rdt base bm w (w2.alloc (.cells #[.string b] 9)) ∧ base ≤ (w2.alloc (.cells #[.string b] 9)).heap.size) := Lib.hid
    ⟨HM2.out.under ((Below.refl _ w2).alloc (Nat.le_refl _) _), Whole.new _ _ _, HRX.out.under ((Below.refl _ w2).alloc (Nat.le_refl _) _) HB2.out, by rw [World.size_alloc]; have := HB2.out; omega⟩
   obtain ⟨g', k', hv', hg', -, -, -, -, hat, -⟩ := Own.at_ HM2.out.hC (i := cs0.length) (r := ccell cf (.slice AE lE nE)) (by simp)
   obtain rfl : g = g' := by have := HG.out.symm.trans hg'; exact Option.some.inj this
   have e5 : w2.cell? ⟨g, cs0.length * 6 + 5, none⟩ = some (.slice AE lE nE) := hat 5 (by decide)
   clear hv' hg' hat
   go_wp2_with (at_builtin
                refine wpList_appendE (r := [.string b]) rfl (.tmp 20) (.tmp 22) rfl Tryz.underlying24 Tryz.infoStr rfl (Nat.zero_lt_succ _) rfl (HA.out.1.hF (cf, .slice AE lE nE) (by simp)) rfl HA.out.2.1 rfl (fun u hu => by simp at hu; subst hu; rfl) (by rw [List.length_map]; have := HA.out.1.lens.2.2.2.2.2 cf (by rw [HA.out.1.eqC]; simp); have := HN64.out; show (cf.feedback.length + 1) * 16 ≤ _; omega) (by rw [List.length_map]; have := HA.out.1.lens.2.2.2.2.2 cf (by rw [HA.out.1.eqC]; simp); have := HN64.out; show cf.feedback.length + 1 ≤ _; omega) HA.out.2.2.2 ?_
                intro v8 w8 ho8 hg8 hn8
                have H8 := Lib.hid (HA.out.1.feedL HG.out ho8 hg8 HA.out.2.2.2 HBZ.out HN64.out hn8)
                have hC8 := HA.out.1.hC.grown hg8 (HA.out.1.hC.apart2 (HA.out.1.hF (cf, .slice AE lE nE) (by simp)) (by decide))
                obtain ⟨g', k', hv', hg', -, -, -, -, hat, -⟩ := Own.at_ hC8 (i := cs0.length) (r := ccell cf (.slice AE lE nE)) (by simp)
                obtain rfl : g = g' := by have := HG.out.symm.trans hg'; exact Option.some.inj this
                have c8 : w8.cell? ⟨g, cs0.length * 6 + 5, none⟩ = some (.slice AE lE nE) := hat 5 (by decide)
                have f8 : w8.frozen? ⟨g, cs0.length * 6 + 5, none⟩ = false := by obtain ⟨cc, hcc⟩ := hC8.whole HG.out; exact hcc.frz _
                have HFIN : Hid ((∃ cs vC vE vR vS vY, MW base bm (n + 1) (w8.setCell ⟨g, cs0.length * 6 + 5, none⟩ v8) { m with codecs := onLast (fun c => { c with feedback := c.feedback ++ [b] }) m.codecs } cs vC vE vR vS vY) ∧ Rdt base bm w (w8.setCell ⟨g, cs0.length * 6 + 5, none⟩ v8)) := Lib.hid ⟨⟨_, _, _, _, _, _, H8.out.1⟩, HA.out.2.2.1.trans H8.out.2⟩
                obtain ⟨A8, l8, k8, hv8⟩ : ∃ A l k, v8 = .slice A l k := by obtain ⟨A, k, h, -⟩ := ho8.form; exact ⟨_, _, _, h⟩
                subst hv8
                clear ho8 hg8 hn8 hC8 hv' hg' hat e5)
   go_end0
   exact ⟨rfl, HFIN.out.1, HFIN.out.2⟩
def dirK (l : Tx) : Option Int := if l = nInactive then some 0 else if l = nSendonly then some 1 else if l = nRecvonly then some 2 else if l = nSendrecv then some 3 else none
inductive RdrV (l : Tx) (v : Value) (w : World) : Prop
 | mid (h : l = nMid) (hv : v = .func (.func 149) #[] #[])
 | rtpmap (h : l = nCodec) (hv : v = .func (.func 150) #[] #[])
 | fmtp (h : l = nFormat) (hv : v = .func (.func 151) #[] #[])
 | rtcpfb (h : l = nFeedback) (hv : v = .func (.func 152) #[] #[])
 | extmap (h : l = nExt) (hv : v = .func (.func 153) #[] #[])
 | rid (h : l = nRid) (hv : v = .func (.func 154) #[] #[])
 | simulcast (h : l = nSimulcast) (hv : v = .func (.func 155) #[] #[])
 | ssrc (h : l = nSource) (hv : v = .func (.func 156) #[] #[])
 | crypto (h : l = nCrypto) (hv : v = .func (.func 157) #[] #[])
 | sctpport (h : l = nSctp) (hv : v = .func (.func 158) #[] #[])
 | dir (k : Int) (g : Nat) (h : dirK l = some k) (hv : v = .func (.func 159) #[] #[.pointer (some ⟨g, 0, none⟩)]) (hg : Whole w g 3 #[.int .i64 k])
 | other (h : knownN.contains l = false) (hv : v = .nilFunc)
theorem RdrV.under {l : Tx} {v : Value} {w w' : World} (h : RdrV l v w) (hb : Below w.heap.size w w') : RdrV l v w' := by
 cases h with
 | mid h hv => exact .mid h hv
 | rtpmap h hv => exact .rtpmap h hv
 | fmtp h hv => exact .fmtp h hv
 | rtcpfb h hv => exact .rtcpfb h hv
 | extmap h hv => exact .extmap h hv
 | rid h hv => exact .rid h hv
 | simulcast h hv => exact .simulcast h hv
 | ssrc h hv => exact .ssrc h hv
 | crypto h hv => exact .crypto h hv
 | sctpport h hv => exact .sctpport h hv
 | dir k g h hv hg => exact .dir k g h hv (hg.under hb)
 | other h hv => exact .other h hv
theorem dirK_known {l : Tx} {k : Int} (h : dirK l = some k) : knownN.contains l = true := by
 unfold dirK at h
 split at h
 · next e => rw [e]; decide
 · split at h
   · next e => rw [e]; decide
   · split at h
     · next e => rw [e]; decide
     · split at h
       · next e => rw [e]; decide
       · cases h
theorem RdrV.nil {l : Tx} {v : Value} {w : World} (h : RdrV l v w) : (knownN.contains l = false ∧ v = .nilFunc) ∨ (knownN.contains l = true ∧ ∃ f cap, v = .func f #[] cap) := by
 cases h with
 | mid h hv => exact .inr ⟨by rw [h]; decide, _, _, hv⟩
 | rtpmap h hv => exact .inr ⟨by rw [h]; decide, _, _, hv⟩
 | fmtp h hv => exact .inr ⟨by rw [h]; decide, _, _, hv⟩
 | rtcpfb h hv => exact .inr ⟨by rw [h]; decide, _, _, hv⟩
 | extmap h hv => exact .inr ⟨by rw [h]; decide, _, _, hv⟩
 | rid h hv => exact .inr ⟨by rw [h]; decide, _, _, hv⟩
 | simulcast h hv => exact .inr ⟨by rw [h]; decide, _, _, hv⟩
 | ssrc h hv => exact .inr ⟨by rw [h]; decide, _, _, hv⟩
 | crypto h hv => exact .inr ⟨by rw [h]; decide, _, _, hv⟩
 | sctpport h hv => exact .inr ⟨by rw [h]; decide, _, _, hv⟩
 | dir k g h hv hg => exact .inr ⟨dirK_known h, _, _, hv⟩
 | other h hv => exact .inl ⟨h, hv⟩
def noDir (l : Tx) (j : Nat) : Prop := (1 ≤ j → l ≠ nInactive) ∧ (2 ≤ j → l ≠ nSendonly) ∧ (3 ≤ j → l ≠ nRecvonly) ∧ (4 ≤ j → l ≠ nSendrecv)
theorem noDir_step {l : Tx} {j : Nat} {T : Tx} (h : noDir l j) (hT : j = 0 ∧ T = nInactive ∨ j = 1 ∧ T = nSendonly ∨ j = 2 ∧ T = nRecvonly ∨ j = 3 ∧ T = nSendrecv) (hne : l ≠ T) : noDir l (j + 1) := by
 obtain ⟨h1, h2, h3, h4⟩ := h
 rcases hT with ⟨rfl, rfl⟩ | ⟨rfl, rfl⟩ | ⟨rfl, rfl⟩ | ⟨rfl, rfl⟩
 · exact ⟨fun _ => hne, fun h => by omega, fun h => by omega, fun h => by omega⟩
 · exact ⟨fun _ => h1 (by omega), fun _ => hne, fun h => by omega, fun h => by omega⟩
 · exact ⟨fun _ => h1 (by omega), fun _ => h2 (by omega), fun _ => hne, fun h => by omega⟩
 · exact ⟨fun _ => h1 (by omega), fun _ => h2 (by omega), fun _ => h3 (by omega), fun _ => hne⟩
theorem noDir_yes {l : Tx} {j : Nat} {T : Tx} (hT : j = 0 ∧ T = nInactive ∨ j = 1 ∧ T = nSendonly ∨ j = 2 ∧ T = nRecvonly ∨ j = 3 ∧ T = nSendrecv) (he : l = T) : dirK l = some (j : Int) := by
 rcases hT with ⟨rfl, rfl⟩ | ⟨rfl, rfl⟩ | ⟨rfl, rfl⟩ | ⟨rfl, rfl⟩ <;> subst he <;> decide
abbrev tabD : List Value := [.string ⟨#[105, 110, 97, 99, 116, 105, 118, 101]⟩, .string ⟨#[115, 101, 110, 100, 111, 110, 108, 121]⟩, .string ⟨#[114, 101, 99, 118, 111, 110, 108, 121]⟩, .string ⟨#[115, 101, 110, 100, 114, 101, 99, 118]⟩]
theorem Env.tabD {w : World} (h : Env w) : ∀ j v, tabD[j]? = some v → w.cell? ((⟨0, 0, Option.none⟩ : Addr).add j) = some v := fun j v hv => by
 have hj : j < 4 := (List.getElem?_eq_some_iff.1 hv).1
 rw [Addr.add_lit, Nat.zero_add]
 have : j = 0 ∨ j = 1 ∨ j = 2 ∨ j = 3 := by omega
 rcases this with rfl | rfl | rfl | rfl
 · rw [h.dirs 0 (by decide), ← hv]; rfl
 · rw [h.dirs 1 (by decide), ← hv]; rfl
 · rw [h.dirs 2 (by decide), ← hv]; rfl
 · rw [h.dirs 3 (by decide), ← hv]; rfl
theorem idxD_0 (W : World) : (Instr.index 132 (.agg #[.string ⟨#[105, 110, 97, 99, 116, 105, 118, 101]⟩, .string ⟨#[115, 101, 110, 100, 111, 110, 108, 121]⟩, .string ⟨#[114, 101, 99, 118, 111, 110, 108, 121]⟩, .string ⟨#[115, 101, 110, 100, 114, 101, 99, 118]⟩]) (.int .i64 0)).run Tryz.prog W = .ok (.string ⟨#[105, 110, 97, 99, 116, 105, 118, 101]⟩) W := by
 simp [Instr.index, asIntOf, Sem.run_bind, run_underlying Tryz.underlying132, Tryz.sizeOf9, part, run_underlying Tryz.underlying9, isAgg]
theorem idxD_1 (W : World) : (Instr.index 132 (.agg #[.string ⟨#[105, 110, 97, 99, 116, 105, 118, 101]⟩, .string ⟨#[115, 101, 110, 100, 111, 110, 108, 121]⟩, .string ⟨#[114, 101, 99, 118, 111, 110, 108, 121]⟩, .string ⟨#[115, 101, 110, 100, 114, 101, 99, 118]⟩]) (.int .i64 1)).run Tryz.prog W = .ok (.string ⟨#[115, 101, 110, 100, 111, 110, 108, 121]⟩) W := by
 simp [Instr.index, asIntOf, Sem.run_bind, run_underlying Tryz.underlying132, Tryz.sizeOf9, part, run_underlying Tryz.underlying9, isAgg]
theorem idxD_2 (W : World) : (Instr.index 132 (.agg #[.string ⟨#[105, 110, 97, 99, 116, 105, 118, 101]⟩, .string ⟨#[115, 101, 110, 100, 111, 110, 108, 121]⟩, .string ⟨#[114, 101, 99, 118, 111, 110, 108, 121]⟩, .string ⟨#[115, 101, 110, 100, 114, 101, 99, 118]⟩]) (.int .i64 2)).run Tryz.prog W = .ok (.string ⟨#[114, 101, 99, 118, 111, 110, 108, 121]⟩) W := by
 simp [Instr.index, asIntOf, Sem.run_bind, run_underlying Tryz.underlying132, Tryz.sizeOf9, part, run_underlying Tryz.underlying9, isAgg]
theorem idxD_3 (W : World) : (Instr.index 132 (.agg #[.string ⟨#[105, 110, 97, 99, 116, 105, 118, 101]⟩, .string ⟨#[115, 101, 110, 100, 111, 110, 108, 121]⟩, .string ⟨#[114, 101, 99, 118, 111, 110, 108, 121]⟩, .string ⟨#[115, 101, 110, 100, 114, 101, 99, 118]⟩]) (.int .i64 3)).run Tryz.prog W = .ok (.string ⟨#[115, 101, 110, 100, 114, 101, 99, 118]⟩) W := by
 simp [Instr.index, asIntOf, Sem.run_bind, run_underlying Tryz.underlying132, Tryz.sizeOf9, part, run_underlying Tryz.underlying9, isAgg]
def RoO (l : Tx) (w : World) (e : Ending) (w' : World) : Prop := ∃ v, e = .returned v ∧ RdrV l v w' ∧ Below w.heap.size w w'
set_option maxHeartbeats 6400000 in
set_option maxRecDepth 100000 in
theorem readerOf_any (a : ByteArray) (w : World) (hE : Env w) (h7 : 7 ≤ w.heap.size) : Calls Tryz.prog 104 #[.string a] w (RoO (tx a) w) := by
 have HEN := Lib.hid hE
 have HNK : Hid (tx a ≠ nMid → tx a ≠ nCodec → tx a ≠ nFormat → tx a ≠ nFeedback → tx a ≠ nExt → tx a ≠ nRid → tx a ≠ nSimulcast → tx a ≠ nSource → tx a ≠ nCrypto → tx a ≠ nSctp → noDir (tx a) 4 → RoO (tx a) w (.returned .nilFunc) w) := Lib.hid fun h0 h1 h2 h3 h4 h5 h6 h7 h8 h9 hd => ⟨_, rfl, .other (by
  rw [Bool.eq_false_iff]
  intro hc
  rw [List.contains_iff_mem] at hc
  unfold knownN at hc
  simp only [List.mem_cons, List.not_mem_nil, or_false] at hc
  obtain ⟨d1, d2, d3, d4⟩ := hd
  rcases hc with e | e | e | e | e | e | e | e | e | e | e | e | e | e
  · exact h0 e
  · exact d1 (by omega) e
  · exact d2 (by omega) e
  · exact d3 (by omega) e
  · exact d4 (by omega) e
  · exact h1 e
  · exact h2 e
  · exact h3 e
  · exact h4 e
  · exact h5 e
  · exact h6 e
  · exact h7 e
  · exact h8 e
  · exact h9 e) rfl, Below.refl _ _⟩
 clear hE h7
 have hmf : ∀ (fn : Fn) (first cap : Array Value) (w : World), (Instr.makeFunc fn first cap).run Tryz.prog w = .ok (.func fn first cap) w := fun _ _ _ _ => rfl
 go_enter Tryz.func104, Tryz.ntmps104
 have HQ0 : Hid ((a.toList == [109, 105, 100]) = true ↔ tx a = nMid) := Lib.hid (by rw [beq_iff_eq, toList_tx])
 obtain ⟨q, hq⟩ : ∃ q, (a.toList == [109, 105, 100]) = q := ⟨_, rfl⟩
 rw [hq] at HQ0
 go_upto_if 6 with fail
 clear hq
 cases q with
 | true =>
   have HFIN : Hid (RoO (tx a) w (.returned (.func (.func 149) #[] #[])) w) := Lib.hid ⟨_, rfl, .mid (HQ0.out.1 rfl) rfl, Below.refl _ _⟩
   go_wp2
   go_ret
   exact HFIN.out
 | false =>
   have HN0 : Hid (tx a ≠ nMid) := Lib.hid fun h => by have := HQ0.out.2 h; cases this
   clear HQ0
   have HQ1 : Hid ((a.toList == [114, 116, 112, 109, 97, 112]) = true ↔ tx a = nCodec) := Lib.hid (by rw [beq_iff_eq, toList_tx])
   obtain ⟨q, hq⟩ : ∃ q, (a.toList == [114, 116, 112, 109, 97, 112]) = q := ⟨_, rfl⟩
   rw [hq] at HQ1
   go_upto_if 8 with fail
   clear hq
   cases q with
   | true =>
     have HFIN : Hid (RoO (tx a) w (.returned (.func (.func 150) #[] #[])) w) := Lib.hid ⟨_, rfl, .rtpmap (HQ1.out.1 rfl) rfl, Below.refl _ _⟩
     go_wp2
     go_ret
     exact HFIN.out
   | false =>
     have HN1 : Hid (tx a ≠ nCodec) := Lib.hid fun h => by have := HQ1.out.2 h; cases this
     clear HQ1
     have HQ2 : Hid ((a.toList == [102, 109, 116, 112]) = true ↔ tx a = nFormat) := Lib.hid (by rw [beq_iff_eq, toList_tx])
     obtain ⟨q, hq⟩ : ∃ q, (a.toList == [102, 109, 116, 112]) = q := ⟨_, rfl⟩
     rw [hq] at HQ2
     go_upto_if 10 with fail
     clear hq
     cases q with
     | true =>
       have HFIN : Hid (RoO (tx a) w (.returned (.func (.func 151) #[] #[])) w) := Lib.hid ⟨_, rfl, .fmtp (HQ2.out.1 rfl) rfl, Below.refl _ _⟩
       go_wp2
       go_ret
       exact HFIN.out
     | false =>
       have HN2 : Hid (tx a ≠ nFormat) := Lib.hid fun h => by have := HQ2.out.2 h; cases this
       clear HQ2
       have HQ3 : Hid ((a.toList == [114, 116, 99, 112, 45, 102, 98]) = true ↔ tx a = nFeedback) := Lib.hid (by rw [beq_iff_eq, toList_tx])
       obtain ⟨q, hq⟩ : ∃ q, (a.toList == [114, 116, 99, 112, 45, 102, 98]) = q := ⟨_, rfl⟩
       rw [hq] at HQ3
       go_upto_if 12 with fail
       clear hq
       cases q with
       | true =>
         have HFIN : Hid (RoO (tx a) w (.returned (.func (.func 152) #[] #[])) w) := Lib.hid ⟨_, rfl, .rtcpfb (HQ3.out.1 rfl) rfl, Below.refl _ _⟩
         go_wp2
         go_ret
         exact HFIN.out
       | false =>
         have HN3 : Hid (tx a ≠ nFeedback) := Lib.hid fun h => by have := HQ3.out.2 h; cases this
         clear HQ3
         have HQ4 : Hid ((a.toList == [101, 120, 116, 109, 97, 112]) = true ↔ tx a = nExt) := Lib.hid (by rw [beq_iff_eq, toList_tx])
         obtain ⟨q, hq⟩ : ∃ q, (a.toList == [101, 120, 116, 109, 97, 112]) = q := ⟨_, rfl⟩
         rw [hq] at HQ4
         go_upto_if 14 with fail
         clear hq
         cases q with
         | true =>
           have HFIN : Hid (RoO (tx a) w (.returned (.func (.func 153) #[] #[])) w) := Lib.hid ⟨_, rfl, .extmap (HQ4.out.1 rfl) rfl, Below.refl _ _⟩
           go_wp2
           go_ret
           exact HFIN.out
         | false =>
           have HN4 : Hid (tx a ≠ nExt) := Lib.hid fun h => by have := HQ4.out.2 h; cases this
           clear HQ4
           have HQ5 : Hid ((a.toList == [114, 105, 100]) = true ↔ tx a = nRid) := Lib.hid (by rw [beq_iff_eq, toList_tx])
           obtain ⟨q, hq⟩ : ∃ q, (a.toList == [114, 105, 100]) = q := ⟨_, rfl⟩
           rw [hq] at HQ5
           go_upto_if 16 with fail
           clear hq
           cases q with
           | true =>
             have HFIN : Hid (RoO (tx a) w (.returned (.func (.func 154) #[] #[])) w) := Lib.hid ⟨_, rfl, .rid (HQ5.out.1 rfl) rfl, Below.refl _ _⟩
             go_wp2
             go_ret
             exact HFIN.out
           | false =>
             have HN5 : Hid (tx a ≠ nRid) := Lib.hid fun h => by have := HQ5.out.2 h; cases this
             clear HQ5
             have HQ6 : Hid ((a.toList == [115, 105, 109, 117, 108, 99, 97, 115, 116]) = true ↔ tx a = nSimulcast) := Lib.hid (by rw [beq_iff_eq, toList_tx])
             obtain ⟨q, hq⟩ : ∃ q, (a.toList == [115, 105, 109, 117, 108, 99, 97, 115, 116]) = q := ⟨_, rfl⟩
             rw [hq] at HQ6
             go_upto_if 18 with fail
             clear hq
             cases q with
             | true =>
               have HFIN : Hid (RoO (tx a) w (.returned (.func (.func 155) #[] #[])) w) := Lib.hid ⟨_, rfl, .simulcast (HQ6.out.1 rfl) rfl, Below.refl _ _⟩
               go_wp2
               go_ret
               exact HFIN.out
             | false =>
               have HN6 : Hid (tx a ≠ nSimulcast) := Lib.hid fun h => by have := HQ6.out.2 h; cases this
               clear HQ6
               have HQ7 : Hid ((a.toList == [115, 115, 114, 99]) = true ↔ tx a = nSource) := Lib.hid (by rw [beq_iff_eq, toList_tx])
               obtain ⟨q, hq⟩ : ∃ q, (a.toList == [115, 115, 114, 99]) = q := ⟨_, rfl⟩
               rw [hq] at HQ7
               go_upto_if 20 with fail
               clear hq
               cases q with
               | true =>
                 have HFIN : Hid (RoO (tx a) w (.returned (.func (.func 156) #[] #[])) w) := Lib.hid ⟨_, rfl, .ssrc (HQ7.out.1 rfl) rfl, Below.refl _ _⟩
                 go_wp2
                 go_ret
                 exact HFIN.out
               | false =>
                 have HN7 : Hid (tx a ≠ nSource) := Lib.hid fun h => by have := HQ7.out.2 h; cases this
                 clear HQ7
                 have HQ8 : Hid ((a.toList == [99, 114, 121, 112, 116, 111]) = true ↔ tx a = nCrypto) := Lib.hid (by rw [beq_iff_eq, toList_tx])
                 obtain ⟨q, hq⟩ : ∃ q, (a.toList == [99, 114, 121, 112, 116, 111]) = q := ⟨_, rfl⟩
                 rw [hq] at HQ8
                 go_upto_if 22 with fail
                 clear hq
                 cases q with
                 | true =>
                   have HFIN : Hid (RoO (tx a) w (.returned (.func (.func 157) #[] #[])) w) := Lib.hid ⟨_, rfl, .crypto (HQ8.out.1 rfl) rfl, Below.refl _ _⟩
                   go_wp2
                   go_ret
                   exact HFIN.out
                 | false =>
                   have HN8 : Hid (tx a ≠ nCrypto) := Lib.hid fun h => by have := HQ8.out.2 h; cases this
                   clear HQ8
                   have HQ9 : Hid ((a.toList == [115, 99, 116, 112, 45, 112, 111, 114, 116]) = true ↔ tx a = nSctp) := Lib.hid (by rw [beq_iff_eq, toList_tx])
                   obtain ⟨q, hq⟩ : ∃ q, (a.toList == [115, 99, 116, 112, 45, 112, 111, 114, 116]) = q := ⟨_, rfl⟩
                   rw [hq] at HQ9
                   go_upto_if 24 with fail
                   clear hq
                   cases q with
                   | true =>
                     have HFIN : Hid (RoO (tx a) w (.returned (.func (.func 158) #[] #[])) w) := Lib.hid ⟨_, rfl, .sctpport (HQ9.out.1 rfl) rfl, Below.refl _ _⟩
                     go_wp2
                     go_ret
                     exact HFIN.out
                   | false =>
                     have HN9 : Hid (tx a ≠ nSctp) := Lib.hid fun h => by have := HQ9.out.2 h; cases this
                     clear HQ9
                     have HTAB : Hid (∀ j v, tabD[j]? = some v → w.cell? ((⟨0, 0, none⟩ : Addr).add j) = some v) := Lib.hid HEN.out.tabD
                     have HNO : Hid (noDir (tx a) 4 → RoO (tx a) w (.returned .nilFunc) w) := Lib.hid (HNK.out HN0.out HN1.out HN2.out HN3.out HN4.out HN5.out HN6.out HN7.out HN8.out HN9.out)
                     clear HNK HN0 HN1 HN2 HN3 HN4 HN5 HN6 HN7 HN8 HN9
                     go_wp2_with (refine wpList_load_at ?_ 132 (.global 0) ?_ _ ?_ [.string ⟨#[105, 110, 97, 99, 116, 105, 118, 101]⟩, .string ⟨#[115, 101, 110, 100, 111, 110, 108, 121]⟩, .string ⟨#[114, 101, 99, 118, 111, 110, 108, 121]⟩, .string ⟨#[115, 101, 110, 100, 114, 101, 99, 118]⟩] _ HTAB.out Tryz.underlying132 ?_ Tryz.sizeFour ?_; rfl; rfl; rfl; rfl)
                     go_loopw [27, 3, 4] (fun s27 _ _ wr => ∃ k : Nat, k ≤ 4 ∧ s27 = .int .i64 k ∧ (noDir (tx a) k ∧ Below w.heap.size w wr)) (fun s27 _ _ _ => 4 - (intOf s27).toNat)
                     case atStart => exact ⟨0, by omega, rfl, ⟨fun h => by omega, fun h => by omega, fun h => by omega, fun h => by omega⟩, Below.refl _ _⟩
                     case round =>
                      obtain ⟨k, hk, rfl, hst⟩ := hrel
                      have HS := Lib.hid hst
                      clear hst
                      have hk4 : k = 0 ∨ k = 1 ∨ k = 2 ∨ k = 3 ∨ k = 4 := by omega
                      rcases hk4 with rfl | rfl | rfl | rfl | rfl
                      · have hix := idxD_0
                        have HQ : Hid ((a.toList == [105, 110, 97, 99, 116, 105, 118, 101]) = true ↔ tx a = nInactive) := Lib.hid (by rw [beq_iff_eq, toList_tx])
                        obtain ⟨q, hq⟩ : ∃ q, (a.toList == [105, 110, 97, 99, 116, 105, 118, 101]) = q := ⟨_, rfl⟩
                        rw [hq] at HQ
                        have HW : Hid (Below w.heap.size w (wr.alloc (.cells #[.int .i64 0] 3)) ∧ Whole (wr.alloc (.cells #[.int .i64 0] 3)) wr.heap.size 3 #[.int .i64 0]) := Lib.hid ⟨HS.out.2.alloc HS.out.2.size _, Whole.new _ _ _⟩
                        go_upto_if 33 with fail
                        clear hq
                        cases q with
                        | true =>
                          have HFIN : Hid (RoO (tx a) w (.returned (.func (.func 159) #[] #[.pointer (some ⟨wr.heap.size, 0, none⟩)])) (wr.alloc (.cells #[.int .i64 0] 3))) := Lib.hid ⟨_, rfl, .dir 0 wr.heap.size (noDir_yes (T := nInactive) (.inl ⟨rfl, rfl⟩) (HQ.out.1 rfl)) rfl HW.out.2, HW.out.1⟩
                          go_wp2
                          go_ret
                          exact HFIN.out
                        | false =>
                          have HX : Hid (noDir (tx a) (0 + 1) ∧ Below w.heap.size w (wr.alloc (.cells #[.int .i64 0] 3))) := Lib.hid ⟨noDir_step (T := nInactive) HS.out.1 (.inl ⟨rfl, rfl⟩) (fun h => by have := HQ.out.2 h; cases this), HW.out.1⟩
                          go_wp2
                          go_roundw
                          case rel => exact ⟨0 + 1, by omega, by go_num, HX.out⟩
                          case measure => simp [intOf]
                      · have hix := idxD_1
                        have HQ : Hid ((a.toList == [115, 101, 110, 100, 111, 110, 108, 121]) = true ↔ tx a = nSendonly) := Lib.hid (by rw [beq_iff_eq, toList_tx])
                        obtain ⟨q, hq⟩ : ∃ q, (a.toList == [115, 101, 110, 100, 111, 110, 108, 121]) = q := ⟨_, rfl⟩
                        rw [hq] at HQ
                        have HW : Hid (Below w.heap.size w (wr.alloc (.cells #[.int .i64 1] 3)) ∧ Whole (wr.alloc (.cells #[.int .i64 1] 3)) wr.heap.size 3 #[.int .i64 1]) := Lib.hid ⟨HS.out.2.alloc HS.out.2.size _, Whole.new _ _ _⟩
                        go_upto_if 33 with fail
                        clear hq
                        cases q with
                        | true =>
                          have HFIN : Hid (RoO (tx a) w (.returned (.func (.func 159) #[] #[.pointer (some ⟨wr.heap.size, 0, none⟩)])) (wr.alloc (.cells #[.int .i64 1] 3))) := Lib.hid ⟨_, rfl, .dir 1 wr.heap.size (noDir_yes (T := nSendonly) (.inr (.inl ⟨rfl, rfl⟩)) (HQ.out.1 rfl)) rfl HW.out.2, HW.out.1⟩
                          go_wp2
                          go_ret
                          exact HFIN.out
                        | false =>
                          have HX : Hid (noDir (tx a) (1 + 1) ∧ Below w.heap.size w (wr.alloc (.cells #[.int .i64 1] 3))) := Lib.hid ⟨noDir_step (T := nSendonly) HS.out.1 (.inr (.inl ⟨rfl, rfl⟩)) (fun h => by have := HQ.out.2 h; cases this), HW.out.1⟩
                          go_wp2
                          go_roundw
                          case rel => exact ⟨1 + 1, by omega, by go_num, HX.out⟩
                          case measure => simp [intOf]
                      · have hix := idxD_2
                        have HQ : Hid ((a.toList == [114, 101, 99, 118, 111, 110, 108, 121]) = true ↔ tx a = nRecvonly) := Lib.hid (by rw [beq_iff_eq, toList_tx])
                        obtain ⟨q, hq⟩ : ∃ q, (a.toList == [114, 101, 99, 118, 111, 110, 108, 121]) = q := ⟨_, rfl⟩
                        rw [hq] at HQ
                        have HW : Hid (Below w.heap.size w (wr.alloc (.cells #[.int .i64 2] 3)) ∧ Whole (wr.alloc (.cells #[.int .i64 2] 3)) wr.heap.size 3 #[.int .i64 2]) := Lib.hid ⟨HS.out.2.alloc HS.out.2.size _, Whole.new _ _ _⟩
                        go_upto_if 33 with fail
                        clear hq
                        cases q with
                        | true =>
                          have HFIN : Hid (RoO (tx a) w (.returned (.func (.func 159) #[] #[.pointer (some ⟨wr.heap.size, 0, none⟩)])) (wr.alloc (.cells #[.int .i64 2] 3))) := Lib.hid ⟨_, rfl, .dir 2 wr.heap.size (noDir_yes (T := nRecvonly) (.inr (.inr (.inl ⟨rfl, rfl⟩))) (HQ.out.1 rfl)) rfl HW.out.2, HW.out.1⟩
                          go_wp2
                          go_ret
                          exact HFIN.out
                        | false =>
                          have HX : Hid (noDir (tx a) (2 + 1) ∧ Below w.heap.size w (wr.alloc (.cells #[.int .i64 2] 3))) := Lib.hid ⟨noDir_step (T := nRecvonly) HS.out.1 (.inr (.inr (.inl ⟨rfl, rfl⟩))) (fun h => by have := HQ.out.2 h; cases this), HW.out.1⟩
                          go_wp2
                          go_roundw
                          case rel => exact ⟨2 + 1, by omega, by go_num, HX.out⟩
                          case measure => simp [intOf]
                      · have hix := idxD_3
                        have HQ : Hid ((a.toList == [115, 101, 110, 100, 114, 101, 99, 118]) = true ↔ tx a = nSendrecv) := Lib.hid (by rw [beq_iff_eq, toList_tx])
                        obtain ⟨q, hq⟩ : ∃ q, (a.toList == [115, 101, 110, 100, 114, 101, 99, 118]) = q := ⟨_, rfl⟩
                        rw [hq] at HQ
                        have HW : Hid (Below w.heap.size w (wr.alloc (.cells #[.int .i64 3] 3)) ∧ Whole (wr.alloc (.cells #[.int .i64 3] 3)) wr.heap.size 3 #[.int .i64 3]) := Lib.hid ⟨HS.out.2.alloc HS.out.2.size _, Whole.new _ _ _⟩
                        go_upto_if 33 with fail
                        clear hq
                        cases q with
                        | true =>
                          have HFIN : Hid (RoO (tx a) w (.returned (.func (.func 159) #[] #[.pointer (some ⟨wr.heap.size, 0, none⟩)])) (wr.alloc (.cells #[.int .i64 3] 3))) := Lib.hid ⟨_, rfl, .dir 3 wr.heap.size (noDir_yes (T := nSendrecv) (.inr (.inr (.inr (⟨rfl, rfl⟩)))) (HQ.out.1 rfl)) rfl HW.out.2, HW.out.1⟩
                          go_wp2
                          go_ret
                          exact HFIN.out
                        | false =>
                          have HX : Hid (noDir (tx a) (3 + 1) ∧ Below w.heap.size w (wr.alloc (.cells #[.int .i64 3] 3))) := Lib.hid ⟨noDir_step (T := nSendrecv) HS.out.1 (.inr (.inr (.inr (⟨rfl, rfl⟩)))) (fun h => by have := HQ.out.2 h; cases this), HW.out.1⟩
                          go_wp2
                          go_roundw
                          case rel => exact ⟨3 + 1, by omega, by go_num, HX.out⟩
                          case measure => simp [intOf]
                      · have HFIN : Hid (RoO (tx a) w (.returned .nilFunc) wr) := Lib.hid (by obtain ⟨v, h1, h2, -⟩ := HNO.out HS.out.1; injection h1 with h1; subst h1; exact ⟨_, rfl, h2.under HS.out.2, HS.out.2⟩)
                        go_wp2
                        go_ret
                        exact HFIN.out
end Go.Proofs.YtbbedhecfipdjaaGreatDoor
