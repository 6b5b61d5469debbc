import Derived.Test.YtlekmakofkpcdaaGreatDoorPkAttrReadsA11
import Derived.RangeFuncNested
namespace Go.Proofs.YtlekmakofkpcdaaGreatDoor
open Go.RowKit
set_option linter.unusedVariables false
set_option linter.unusedSimpArgs false
theorem Env.low {w w' : World} {B : Nat} (h : Env w) (hb : Below B w w') (hB : 7 ≤ B) : Env w' := by
 refine ⟨?_, fun j hj => (hb.cell (p := ⟨1, j, Option.none⟩) (Nat.lt_of_lt_of_le (show 1 < 7 by decide) hB)).trans (h.dirs j hj), fun j h1 hj => (hb.cell (p := ⟨0, j, Option.none⟩) (Nat.lt_of_lt_of_le (show 0 < 7 by decide) hB)).trans (h.kinds j h1 hj), (hb.cell (p := ⟨0, 0, Option.none⟩) (Nat.lt_of_lt_of_le (show 0 < 7 by decide) hB)).trans h.none⟩
 have ht := h.tab
 unfold Lib.TabIs World.var? at ht ⊢
 rw [gPow] at ht ⊢
 simp only [Option.bind_some] at ht ⊢
 rw [hb.block 2 (Nat.lt_of_lt_of_le (by decide) hB)]
 exact ht
def AtO (w : World) (base : Nat) (v : Value) (L : List AttrS) : Prop := Own w base 90 2 v (L.map acell)
structure Grew (w : World) (v : Value) (w' : World) (v' : Value) : Prop where
 only : Only (fun k => v.ownBlock = some k) w w'
 own : ∀ k, v'.ownBlock = some k → v.ownBlock = some k ∨ w.heap.size ≤ k
theorem Grew.refl (w : World) (v : Value) : Grew w v w v := ⟨Only.refl _ _, fun k h => .inl h⟩
theorem Grew.trans {w w1 w2 : World} {v v1 v2 : Value} (h : Grew w v w1 v1) (k : Grew w1 v1 w2 v2) : Grew w v w2 v2 :=
 ⟨h.only.next k.only h.own, fun j hj => by
  rcases k.own j hj with h1 | h1
  · exact h.own j h1
  · exact .inr (Nat.le_trans h.only.size h1)⟩
theorem Grew.under {w w1 w2 : World} {v v1 : Value} (h : Grew w v w1 v1) (hb : Below w1.heap.size w1 w2) : Grew w v w2 v1 := ⟨h.only.under hb, h.own⟩
theorem Grew.below {w w1 : World} {base : Nat} {v v1 : Value} (h : Grew w v w1 v1) (hv : ∀ k, v.ownBlock = some k → base ≤ k) (hB : base ≤ w.heap.size) : Below base w w1 := h.only.below hv hB
theorem Grew.whole {w w1 : World} {v v1 : Value} {g : Nat} {t : TypeId} {cs : Array Value} (h : Grew w v w1 v1) (hg : Whole w g t cs) (hne : v.ownBlock ≠ some g) : Whole w1 g t cs := hg.only h.only hne
theorem AtO.under {w w' : World} {base : Nat} {v : Value} {L : List AttrS} (h : AtO w base v L) (hb : Below w.heap.size w w') : AtO w' base v L := Own.under h hb
theorem AtO.base {w : World} {base : Nat} {v : Value} {L : List AttrS} (h : AtO w base v L) : ∀ k, v.ownBlock = some k → base ≤ k := fun k hk => (Own.lt h hk).1
section
variable {ops : Array Oper} {rest : List Oper} {o : Oper} {a : Act} {Q : Exit → Act → World → Prop} {K : Act → World → Prop} {w : World} {base : Nat} {v : Value} {L : List AttrS} {n val : ByteArray} {c : Nat}
theorem addA (hown : AtO w base v L) (hl : L.length ≤ 1000000) (hb : base ≤ w.heap.size) {v' : Value} {w' : World} (h1 : Own w' base 90 2 v' (L.map acell ++ [[.string n, .string val]])) (h2 : (w.alloc (.cells #[.string n, .string val] 90)).grownBy w' v.ownBlock) (h3 : v'.ownBlock = v.ownBlock ∨ v'.ownBlock = some (w.alloc (.cells #[.string n, .string val] 90)).heap.size) :
 AtO w' base v' (L ++ [⟨n, val⟩]) ∧ Grew w v w' v' := by
 refine ⟨?_, ((Only.refl _ _).alloc _).grown h2 (fun k hk => .inl hk), fun k hk => ?_⟩
 · show Own _ _ _ _ _ _
   rw [List.map_append]
   exact h1
 · rcases h3 with h3 | h3
   · exact .inl (by rw [← h3]; exact hk)
   · rw [h3] at hk
     injection hk with hk
     right
     rw [← hk, World.size_alloc]
     omega
theorem wpList_addA (hgd : o.guard = none) (s y : Operand) (ho : o.op = .call { callee := .builtin .append, args := #[s, y], argTypes := #[37, 37] }) (hs : a.eval s = v) (hy : a.eval y = .slice (some ⟨w.heap.size, 0, none⟩) 1 c) (hown : AtO w base v L) (hl : L.length ≤ 1000000) (hb : base ≤ w.heap.size)
 (h : ∀ v' w', AtO w' base v' (L ++ [⟨n, val⟩]) → Grew w v w' v' → wpList Tryz.prog ops Q rest (a.put o.dst v') w') : wpList Tryz.prog ops Q (o :: rest) a (w.alloc (.cells #[.string n, .string val] 90)) :=
 wpList_appendE (r := [.string n, .string val]) hgd s y ho Tryz.underlying37 Tryz.infoSAttr rfl (Nat.zero_lt_succ _) hs (Own.alloc hown _) hy (Whole.new w 90 _) rfl (fun u hu => by simp at hu; rcases hu with rfl | rfl <;> rfl) (by rw [List.length_map]; omega) (by rw [List.length_map]; omega) (by rw [World.size_alloc]; omega)
  fun v' w' h1 h2 h3 => by
   obtain ⟨g1, g2⟩ := addA hown hl hb h1 h2 h3
   exact h v' w' g1 g2
theorem wp_addA (s y : Operand) (ho : o.op = .call { callee := .builtin .append, args := #[s, y], argTypes := #[37, 37] }) (hs : a.eval s = v) (hy : a.eval y = .slice (some ⟨w.heap.size, 0, none⟩) 1 c) (hown : AtO w base v L) (hl : L.length ≤ 1000000) (hb : base ≤ w.heap.size)
 (h : ∀ v' w', AtO w' base v' (L ++ [⟨n, val⟩]) → Grew w v w' v' → K (a.put o.dst v') w') : o.wp Tryz.prog a (w.alloc (.cells #[.string n, .string val] 90)) K Q :=
 wp_appendE (r := [.string n, .string val]) s y ho Tryz.underlying37 Tryz.infoSAttr rfl (Nat.zero_lt_succ _) hs (Own.alloc hown _) hy (Whole.new w 90 _) rfl (fun u hu => by simp at hu; rcases hu with rfl | rfl <;> rfl) (by rw [List.length_map]; omega) (by rw [List.length_map]; omega) (by rw [World.size_alloc]; omega)
  fun v' w' h1 h2 h3 => by
   obtain ⟨g1, g2⟩ := addA hown hl hb h1 h2 h3
   exact h v' w' g1 g2
end
def AddO (base : Nat) (w : World) (v : Value) (L : List AttrS) (e : Ending) (w' : World) : Prop := ∃ v', e = .returned v' ∧ AtO w' base v' L ∧ Grew w v w' v'
theorem plain_len {l : Tx} (h : plainP l = true) : l.length ≤ 100 := by
 unfold plainP at h
 simp only [Bool.and_eq_true, decide_eq_true_eq] at h
 exact h.1.1.2
set_option maxHeartbeats 6400000 in
set_option maxRecDepth 100000 in
theorem addCodec_any (base : Nat) (v : Value) (L : List AttrS) (x : CodecS) (Af : Option Addr) (lf kf : Nat) (w : World) (hE : Env w) (hown : AtO w base v L) (hl : L.length ≤ 900000) (hbase : base ≤ w.heap.size) (h7 : 7 ≤ base) (h : TextsV w base (.slice Af lf kf) x.feedback) (hg : goodC x = true) :
 Calls Tryz.prog 81 #[v, .agg #[.int .i64 x.type, .string x.name, .int .i64 x.clock, .int .i64 x.chans, .string x.format, .slice Af lf kf]] w (AddO base w v (L ++ attrsC x)) := by
 obtain ⟨ty, nm, ck, ch, fm, fb⟩ := x
 have h : TextsV w base (.slice Af lf kf) fb := h
 obtain ⟨⟨ht0, ht1⟩, hn, ⟨hk0, hk1⟩, hch, hf, hfl, hfe⟩ := goodC_parts hg
 have ht0 : 0 ≤ ty := ht0
 have ht1 : ty ≤ 127 := ht1
 have hk0 : 1 ≤ ck := hk0
 have hk1 : ck ≤ 1000000 := hk1
 have hch : ch = 1 ∨ ch = 2 := hch
 have hfl : fb.length ≤ 8 := hfl
 have hn : wordP 1 32 (tx nm) = true := hn
 have hf : (tx fm).isEmpty = true ∨ plainP (tx fm) = true := hf
 have hfe : ∀ f ∈ fb, plainP (tx f) = true := hfe
 have hnl := (wordP_len hn).2
 rw [tx_length] at hnl
 have hfml : fm.size ≤ 100 := by
  rcases hf with hf | hf
  · rw [← tx_length]
    have : tx fm = [] := List.isEmpty_iff.1 hf
    rw [this]
    simp
  · rw [← tx_length]
    exact plain_len hf
 have hfbl : ∀ f ∈ fb, f.size ≤ 100 := fun f hf => by
  rw [← tx_length]
  exact plain_len (hfe f hf)
 have hlf : lf = fb.length := by
  obtain ⟨_, _, e, -⟩ := Rows.form h
  injection e
 have hb0 : Below w.heap.size w (w.alloc (.cells #[.int .i64 ty, .string nm, .int .i64 ck, .int .i64 ch, .string fm, .slice Af lf kf] 50)) := (Below.refl _ w).alloc (Nat.le_refl _) _
 have hz := Whole.new w 50 #[.int .i64 ty, .string nm, .int .i64 ck, .int .i64 ch, .string fm, .slice Af lf kf]
 have HV := Lib.hid (And.intro (h.below (hb0.mono hbase)) (And.intro hlf.symm hfbl))
 have HVW : Hid (TextsV w base (.slice Af lf kf) fb) := Lib.hid h
 have HOWN : Hid (AtO (w.alloc (.cells #[.int .i64 ty, .string nm, .int .i64 ck, .int .i64 ch, .string fm, .slice Af lf kf] 50)) base v L) := Lib.hid (AtO.under hown hb0)
 have HEN := Lib.hid (hE.under hb0)
 have HBX := Lib.hid hz
 have HGR : Hid (Grew w v (w.alloc (.cells #[.int .i64 ty, .string nm, .int .i64 ck, .int .i64 ch, .string fm, .slice Af lf kf] 50)) v) := Lib.hid ((Grew.refl w v).under hb0)
 have HFIN : Hid (attrsC ⟨ty, nm, ck, ch, fm, fb⟩ = ⟨bs nCodec, bs (decI ty ++ 32 :: (tx nm ++ 47 :: (decI ck ++ (if ch = 2 then [47, 50] else []))))⟩ :: ((if (tx fm).isEmpty then [] else [⟨bs nFormat, bs (headT ty (tx fm))⟩]) ++ fb.map fun f => ⟨bs nFeedback, bs (headT ty (tx f))⟩)) := Lib.hid rfl
 have hmt : fm.toList.isEmpty = (tx fm).isEmpty := by rw [toList_tx]
 have hlf8 : lf ≤ 8 := by omega
 obtain ⟨T, hT⟩ : ∃ T, L ++ attrsC ⟨ty, nm, ck, ch, fm, fb⟩ = T := ⟨_, rfl⟩
 obtain ⟨q, hq⟩ : ∃ q, (tx fm).isEmpty = q := ⟨_, rfl⟩
 rw [HFIN.out, hq] at hT
 have HF := Lib.hid hT.symm
 have hT0 : L ++ attrsC ⟨ty, nm, ck, ch, fm, fb⟩ = T := by rw [HFIN.out, hq]; exact hT
 rw [hT0]
 rw [hq] at hmt
 clear hq hT0 hT
 obtain ⟨Av, nv, cv, hv⟩ : ∃ Av nv cv, v = .slice Av nv cv := by
  obtain ⟨A, c, e, -⟩ := Own.form hown
  exact ⟨A, _, c, e⟩
 clear HFIN hE h hg hb0 hz hown hn hf hfe hfl hlf hfbl
 obtain ⟨N, hN⟩ : ∃ N, w.heap.size = N := ⟨_, rfl⟩
 have HNB0 : Hid (base ≤ w.heap.size) := Lib.hid hbase
 have HNB : Hid (base ≤ N) := Lib.hid (by omega)
 rw [hN] at HBX
 go_enter Tryz.func81, Tryz.ntmps81
 go_upto_region 1 with fail
 generalize w.alloc (.cells #[.int .i64 ty, .string nm, .int .i64 ck, .int .i64 ch, .string fm, .slice Af lf kf] 50) = W0 at *
 have HN : Hid (N ≤ W0.heap.size) := Lib.hid (Nat.le_of_lt HBX.out.lt)
 try rw [hN] at HNB
 clear hN
 have k0 : W0.cell? ⟨N, 0, none⟩ = some (.int .i64 ty) := HBX.out.cell 0
 have HIT : Hid (∀ n : Int, 0 ≤ n → n ≤ 1000000 → ∀ W, Below W0.heap.size W0 W → Calls Tryz.prog 80 #[.int .i64 n] W fun e w' => e = .returned (.string (bs (decI n))) ∧ Below W.heap.size W w') := Lib.hid fun n h0 h1 W hW => itoa_any n W (HEN.out.under hW) h0 (by omega)
 have HIT1 := Lib.hid (HIT.out ty ht0 (by omega) W0 (Below.refl _ _))
 have htl := decI_len (n := ty) (by omega)
 have hckl := decI_len (n := ck) (by omega)
 obtain ⟨dt, hdt⟩ : ∃ a, bs (decI ty) = a := ⟨_, rfl⟩
 obtain ⟨dk, hdk⟩ : ∃ a, bs (decI ck) = a := ⟨_, rfl⟩
 rw [hdt] at htl HIT1
 rw [hdk] at hckl
 have HDT : Hid (tx dt = decI ty) := Lib.hid (by rw [← hdt, tx_bs])
 have HDK : Hid (tx dk = decI ck) := Lib.hid (by rw [← hdk, tx_bs])
 have q1 : ¬ 9223372036854775807 < dt.size + 1 := by omega
 go_upto_region 2 with (go_at_call 80; (with_reducible refine HIT1.out.mono ?_); rintro e w1 ⟨rfl, hb1⟩)
 have H1 : Hid (Below W0.heap.size W0 w1) := Lib.hid hb1
 clear hb1 k0 HIT1
 have HKD : Hid (tx (dt ++ ⟨#[32]⟩) = decI ty ++ [32]) := Lib.hid (by rw [tx_append, HDT.out]; rfl)
 have hkd : (dt ++ ⟨#[32]⟩ : ByteArray).size ≤ 20 := by rw [← tx_length, tx_append, List.length_append, tx_length]; show dt.size + 1 ≤ 20; omega
 obtain ⟨kd, hkd2⟩ : ∃ a : ByteArray, dt ++ ⟨#[32]⟩ = a := ⟨_, rfl⟩
 rw [hkd2] at HKD hkd
 simp only [hkd2]
 clear hkd2 q1 htl hdt
 have HF1 : Hid (∀ W, Below W0.heap.size W0 W → W.cell? ⟨N, 1, none⟩ = some (.string nm)) := Lib.hid fun W hW => (HBX.out.under hW).cell 1
 have HF2 : Hid (∀ W, Below W0.heap.size W0 W → W.cell? ⟨N, 2, none⟩ = some (.int .i64 ck)) := Lib.hid fun W hW => (HBX.out.under hW).cell 2
 have HIT2 : Hid (∀ W, Below W0.heap.size W0 W → Calls Tryz.prog 80 #[.int .i64 ck] W fun e w' => e = .returned (.string dk) ∧ Below W.heap.size W w') := Lib.hid (by rw [← hdk]; exact HIT.out ck (by omega) hk1)
 have HKB : Hid (∀ W W', Below W0.heap.size W0 W → Below W.heap.size W W' → Below W0.heap.size W0 W') := Lib.hid fun W W' h1 h2 => below_chain (Nat.le_refl _) h1 h2
 have HR0 : Hid (Below W0.heap.size W0 w1.drew) := Lib.hid H1.out.drew
 have q2 : ¬ 9223372036854775807 < kd.size + nm.size := by omega
 have q3 : ¬ 9223372036854775807 < kd.size + nm.size + 1 := by omega
 have q4 : ¬ 9223372036854775807 < kd.size + nm.size + 1 + dk.size := by omega
 clear hdk
 refine wp_region_held_drew (S := fun W => Below W0.heap.size W0 W) (by kernel_rfl) HR0.out (fun hHeld => ?_)
 refine wpAnyH_take (i := 0) (v := _) rfl (by as_aux_lemma => kernel_rfl) (by as_aux_lemma => kernel_rfl) (by as_aux_lemma => kernel_rfl) (fun _ _ _ h => h) (Or.inl ⟨by rfl, fun w h => by have e0 := HF1.out w h; have e1 := HF2.out w h; clear h; go_simp; (try with_reducible rfl)⟩) (by assumption) ?_
 simp only [Act.put, List.getElem_toArray, List.getElem_cons_succ, List.getElem_cons_zero, List.setIfInBounds_toArray, List.set_cons_succ, List.set_cons_zero]
 refine wpAnyH_take (i := 1) (v := _) rfl (by as_aux_lemma => kernel_rfl) (by as_aux_lemma => kernel_rfl) (by as_aux_lemma => kernel_rfl) (fun _ _ _ h => h) (Or.inl ⟨by rfl, fun w h => by have e0 := HF1.out w h; have e1 := HF2.out w h; clear h; go_simp; (try with_reducible rfl)⟩) (by assumption) ?_
 simp only [Act.put, List.getElem_toArray, List.getElem_cons_succ, List.getElem_cons_zero, List.setIfInBounds_toArray, List.set_cons_succ, List.set_cons_zero]
 refine wpAnyH_take (i := 2) (v := _) rfl (by as_aux_lemma => kernel_rfl) (by as_aux_lemma => kernel_rfl) (by as_aux_lemma => kernel_rfl) (fun _ _ _ h => h) (Or.inl ⟨by rfl, fun w h => by have e0 := HF1.out w h; have e1 := HF2.out w h; clear h; go_simp; (try with_reducible rfl)⟩) (by assumption) ?_
 simp only [Act.put, List.getElem_toArray, List.getElem_cons_succ, List.getElem_cons_zero, List.setIfInBounds_toArray, List.set_cons_succ, List.set_cons_zero]
 refine wpAnyH_take (i := 3) (v := _) rfl (by as_aux_lemma => kernel_rfl) (by as_aux_lemma => kernel_rfl) (by as_aux_lemma => kernel_rfl) (fun _ _ _ h => h) (Or.inl ⟨by rfl, fun w h => by have e0 := HF1.out w h; have e1 := HF2.out w h; clear h; go_simp; (try with_reducible rfl)⟩) (by assumption) ?_
 simp only [Act.put, List.getElem_toArray, List.getElem_cons_succ, List.getElem_cons_zero, List.setIfInBounds_toArray, List.set_cons_succ, List.set_cons_zero]
 refine wpAnyH_take (i := 4) (v := _) rfl (by as_aux_lemma => kernel_rfl) (by as_aux_lemma => kernel_rfl) (by as_aux_lemma => kernel_rfl) (fun _ _ _ h => h) (Or.inl ⟨by rfl, fun w h => by have e0 := HF1.out w h; have e1 := HF2.out w h; clear h; go_simp; (try with_reducible rfl)⟩) (by assumption) ?_
 simp only [Act.put, List.getElem_toArray, List.getElem_cons_succ, List.getElem_cons_zero, List.setIfInBounds_toArray, List.set_cons_succ, List.set_cons_zero]
 refine wpAnyH_take (i := 5) (v := _) rfl (by as_aux_lemma => kernel_rfl) (by as_aux_lemma => kernel_rfl) (by as_aux_lemma => kernel_rfl) (fun _ _ _ h => h) (Or.inl ⟨by rfl, fun w h => by have e0 := HF1.out w h; have e1 := HF2.out w h; clear h; go_simp; (try with_reducible rfl)⟩) (by assumption) ?_
 simp only [Act.put, List.getElem_toArray, List.getElem_cons_succ, List.getElem_cons_zero, List.setIfInBounds_toArray, List.set_cons_succ, List.set_cons_zero]
 refine wpAnyH_take (i := 6) (v := _) rfl (by as_aux_lemma => kernel_rfl) (by as_aux_lemma => kernel_rfl) (by as_aux_lemma => kernel_rfl) (fun _ _ _ h => h) (Or.inl ⟨by rfl, fun w h => by have e0 := HF1.out w h; have e1 := HF2.out w h; clear h; go_simp; (try with_reducible rfl)⟩) (by assumption) ?_
 simp only [Act.put, List.getElem_toArray, List.getElem_cons_succ, List.getElem_cons_zero, List.setIfInBounds_toArray, List.set_cons_succ, List.set_cons_zero]
 refine wpAnyH_ready (rs := [7]) (by as_aux_lemma => kernel_rfl) (by simp) ?_
 refine AllReadyH.cons (i := 7) rfl (fun K hK => ?_) AllReadyH.nil
 go_simp
 refine (HIT2.out _ hHeld).mono ?_
 rintro e w4 ⟨rfl, hb4⟩
 refine hK.out _ _ (HKB.out _ _ hHeld hb4) (fun hHeld4 => ?_)
 clear hK K hHeld
 have hHeld := hHeld4
 clear hHeld4
 refine wpAnyH_take (i := 8) (v := _) rfl (by as_aux_lemma => kernel_rfl) (by as_aux_lemma => kernel_rfl) (by as_aux_lemma => kernel_rfl) (fun _ _ _ h => h) (Or.inl ⟨by rfl, fun w h => by have e0 := HF1.out w h; have e1 := HF2.out w h; clear h; go_simp; (try with_reducible rfl)⟩) (by assumption) ?_
 simp only [Act.put, List.getElem_toArray, List.getElem_cons_succ, List.getElem_cons_zero, List.setIfInBounds_toArray, List.set_cons_succ, List.set_cons_zero]
 refine wpAnyH_take (i := 9) (v := _) rfl (by as_aux_lemma => kernel_rfl) (by as_aux_lemma => kernel_rfl) (by as_aux_lemma => kernel_rfl) (fun _ _ _ h => h) (Or.inl ⟨by rfl, fun w h => by have e0 := HF1.out w h; have e1 := HF2.out w h; clear h; go_simp; (try with_reducible rfl)⟩) (by assumption) ?_
 simp only [Act.put, List.getElem_toArray, List.getElem_cons_succ, List.getElem_cons_zero, List.setIfInBounds_toArray, List.set_cons_succ, List.set_cons_zero]
 refine wpAnyH_done (by as_aux_lemma => kernel_rfl) ?_ _
 have H2 := Lib.hid hHeld
 clear hHeld HF1 HF2 HIT2 HIT HKB HR0 q2 q3 q4
 have HS1 : Hid (tx (kd ++ nm ++ ⟨#[47]⟩ ++ dk) = decI ty ++ 32 :: (tx nm ++ 47 :: decI ck)) := Lib.hid (by rw [tx_append, tx_append, tx_append, HKD.out, HDK.out]; simp [tx])
 have hs1 : (kd ++ nm ++ ⟨#[47]⟩ ++ dk : ByteArray).size ≤ 100 := by rw [← tx_length, tx_append, tx_append, tx_append, List.length_append, List.length_append, List.length_append, tx_length, tx_length, tx_length, tx_length]; show kd.size + nm.size + 1 + dk.size ≤ 100; omega
 generalize (kd ++ nm ++ ⟨#[47]⟩ ++ dk : ByteArray) = s1 at *
 generalize w4 = w2 at *
 have k3 : w2.cell? ⟨N, 3, none⟩ = some (.int .i64 ch) := (HBX.out.under H2.out).cell 3
 go_upto_if 24 with fail
 go_cut [6] from 6 to 26 (fun s6 wc => ∃ s : ByteArray, s6 = .string s ∧ s = bs (decI ty ++ 32 :: (tx nm ++ 47 :: (decI ck ++ (if ch = 2 then [47, 50] else [])))) ∧ s.size ≤ 110 ∧ w2 = wc)
 case first =>
  rcases hch with rfl | rfl
  · go_wp2
    go_meet
    exact ⟨s1, rfl, tx_inj (by rw [HS1.out, tx_bs]; simp), by omega, rfl⟩
  · have q5 : ¬ 9223372036854775807 < s1.size + 2 := by omega
    go_wp2
    go_meet
    exact ⟨_, rfl, tx_inj (by rw [tx_append, HS1.out, tx_bs]; simp [tx]), by rw [← tx_length, tx_append, List.length_append, tx_length]; show s1.size + 2 ≤ 110; omega, rfl⟩
 case rest =>
  obtain ⟨s2, rfl, hs2, hs2l, rfl⟩ := hcut
  have HGW : Hid (Grew w v w2 v) := Lib.hid (HGR.out.under H2.out)
  have HGX : Hid (∀ w9 v9, Grew w2 v w9 v9 → Whole w9 N 50 #[.int .i64 ty, .string nm, .int .i64 ck, .int .i64 ch, .string fm, .slice Af lf kf]) := Lib.hid fun w9 v9 hg => hg.whole (HBX.out.under H2.out) (Own.apart HOWN.out HBX.out (by decide))
  have HOW : Hid (AtO w2 base v L) := Lib.hid (HOWN.out.under H2.out)
  have HVB : Hid (∀ k, v.ownBlock = some k → base ≤ k) := Lib.hid HOWN.out.base
  have HNV : Hid (v.ownBlock ≠ some N) := Lib.hid (Own.apart HOWN.out HBX.out (by decide))
  have HBN : Hid (base ≤ w2.heap.size) := Lib.hid (by have := H2.out.size; have := HN.out; have := HNB.out; omega)
  have HL0 : Hid (L.length ≤ 1000000) := Lib.hid (by omega)
  have HS2 : Hid (s2 = bs (decI ty ++ 32 :: (tx nm ++ 47 :: (decI ck ++ (if ch = 2 then [47, 50] else []))))) := Lib.hid hs2
  clear k3 hs2 hch
  subst hv
  go_upto_region 6 with (at_builtin; refine wpList_addA rfl (.tmp 27) (.tmp 30) rfl rfl rfl HOW.out HL0.out HBN.out ?_; intro v5 w5 ho5 hg5; have HA5 : Hid (AtO w5 base v5 (L ++ [(⟨bs nCodec, s2⟩ : AttrS)]) ∧ Grew w2 (.slice Av nv cv) w5 v5) := Lib.hid ⟨ho5, hg5⟩; clear ho5 hg5)
  have HBX5 : Hid (Whole w5 N 50 #[.int .i64 ty, .string nm, .int .i64 ck, .int .i64 ch, .string fm, .slice Af lf kf]) := Lib.hid (HGX.out _ _ HA5.out.2)
  have k4 : w5.cell? ⟨N, 4, none⟩ = some (.string fm) := HBX5.out.cell 4
  obtain ⟨Ax, nx, cx, hvx⟩ : ∃ A n c, v5 = .slice A n c := by
   obtain ⟨A, c, e, -⟩ := Own.form HA5.out.1
   exact ⟨A, _, c, e⟩
  subst hvx
  cases q with
  | true =>
    have HEND : Hid (L ++ (⟨bs nCodec, bs (decI ty ++ 32 :: (tx nm ++ 47 :: (decI ck ++ (if ch = 2 then [47, 50] else []))))⟩ :: ((if true = true then [] else [⟨bs nFormat, bs (headT ty (tx fm))⟩]) ++ fb.map fun f => (⟨bs nFeedback, bs (headT ty (tx f))⟩ : AttrS))) = (L ++ [(⟨bs nCodec, s2⟩ : AttrS)]) ++ fb.map fun f => ⟨bs nFeedback, bs (headT ty (tx f))⟩) := Lib.hid (by rw [HS2.out]; simp)
    have HLN : Hid ((L ++ [(⟨bs nCodec, s2⟩ : AttrS)]).length ≤ 900002) := Lib.hid (by rw [List.length_append]; simp; omega)
    have k5 : w5.cell? ⟨N, 5, none⟩ = some (.slice Af lf kf) := HBX5.out.cell 5
    go_wp2
    go_loopw [46, 0] (fun s46 s0 wr => ∃ k : Nat, k ≤ lf ∧ s46 = .int .i64 k ∧ (AtO wr base s0 ((L ++ [(⟨bs nCodec, s2⟩ : AttrS)]) ++ (fb.take k).map fun f => ⟨bs nFeedback, bs (headT ty (tx f))⟩) ∧ Grew w2 (.slice Av nv cv) wr s0)) (fun s46 _ _ => lf - (intOf s46).toNat)
    case atStart => exact ⟨0, by omega, rfl, by simpa using HA5.out.1, HA5.out.2⟩
    case round =>
     obtain ⟨k, hk, rfl, hst⟩ := hrel
     have HS := Lib.hid hst
     clear hst
     have HBL : Hid (Below base w wr) := Lib.hid ((HGW.out.trans HS.out.2).below HVB.out HNB0.out)
     by_cases hlt : k < lf
     · have hlt' : k < fb.length := by rw [HV.out.2.1]; exact hlt
       obtain ⟨ad, c', e1, had, d0⟩ := (HVW.out.below HBL.out).at_ hlt'
       injection e1 with e1 e1n e1c
       clear e1n e1c
       subst e1
       have hfs := HV.out.2.2 _ (getD_mem hlt')
       have HTK : Hid (((fb.take (k + 1)).map fun f => (⟨bs nFeedback, bs (headT ty (tx f))⟩ : AttrS)) = ((fb.take k).map fun f => ⟨bs nFeedback, bs (headT ty (tx f))⟩) ++ [⟨bs nFeedback, bs (headT ty (tx (fb.getD k default)))⟩]) := Lib.hid (by rw [List.take_add_one, getD_of hlt']; simp)
       obtain ⟨f, hf⟩ : ∃ f, fb.getD k default = f := ⟨_, rfl⟩
       rw [hf] at d0 hfs HTK
       have hk0' : (0 : Int) ≤ (k : Int) := by omega
       have hk1' : (k : Int) < (lf : Int) := by omega
       have q9 : ¬ 9223372036854775807 < kd.size + f.size := by omega
       have HTX : Hid (kd ++ f = bs (headT ty (tx f))) := Lib.hid (tx_inj (by rw [tx_append, HKD.out, tx_bs]; simp [headT]))
       have HLL : Hid (((L ++ [(⟨bs nCodec, s2⟩ : AttrS)]) ++ (fb.take k).map fun f => (⟨bs nFeedback, bs (headT ty (tx f))⟩ : AttrS)).length ≤ 1000000) := Lib.hid (by
        rw [List.length_append, List.length_map, List.length_take]
        have := HLN.out
        omega)
       have HNW : Hid (base ≤ wr.heap.size) := Lib.hid (by have := HBL.out.size; have := HNB0.out; omega)
       obtain ⟨Aw, nw, cw, hvw⟩ : ∃ A n c, u0 = .slice A n c := by
        obtain ⟨A, c, e, -⟩ := Own.form HS.out.1
        exact ⟨A, _, c, e⟩
       subst hvw
       clear hf had hlt'
       go_wp2_with (at_builtin; refine wpList_addA rfl (.tmp 50) (.tmp 55) rfl rfl rfl HS.out.1 HLL.out HNW.out ?_; intro v9 w9 ho9 hg9; have HA9 : Hid (AtO w9 base v9 ((L ++ [(⟨bs nCodec, s2⟩ : AttrS)]) ++ (fb.take (k + 1)).map fun f => ⟨bs nFeedback, bs (headT ty (tx f))⟩) ∧ Grew w2 (.slice Av nv cv) w9 v9) := Lib.hid ⟨by rw [HTK.out, ← List.append_assoc, ← HTX.out]; exact ho9, HS.out.2.trans hg9⟩; clear ho9 hg9)
       go_roundw
       case rel => exact ⟨k + 1, by omega, by go_num, HA9.out⟩
       case measure => simp [intOf]; omega
     · have e : k = lf := by omega
       subst e
       have HQ : Hid (AtO wr base u0 ((L ++ [(⟨bs nCodec, s2⟩ : AttrS)]) ++ fb.map fun f => ⟨bs nFeedback, bs (headT ty (tx f))⟩)) := Lib.hid (by
        have := HS.out.1
        rw [List.take_of_length_le (by rw [HV.out.2.1]; exact Nat.le_refl _)] at this
        exact this)
       go_wp2
       go_ret
       exact ⟨_, rfl, by rw [HF.out, HEND.out]; exact HQ.out, HGW.out.trans HS.out.2⟩
  | false =>
    have q7 : ¬ 9223372036854775807 < kd.size + fm.size := by omega
    have HTF : Hid (kd ++ fm = bs (headT ty (tx fm))) := Lib.hid (tx_inj (by rw [tx_append, HKD.out, tx_bs]; simp [headT]))
    have HL5 : Hid ((L ++ [(⟨bs nCodec, s2⟩ : AttrS)]).length ≤ 1000000) := Lib.hid (by rw [List.length_append]; simp; omega)
    have HN5 : Hid (base ≤ w5.heap.size) := Lib.hid (by have := HA5.out.2.only.size; have := HBN.out; omega)
    go_upto_region 8 with (at_builtin; refine wpList_addA rfl (.tmp 35) (.tmp 41) rfl rfl rfl HA5.out.1 HL5.out HN5.out ?_; intro v6 w6 ho6 hg6; have HA6 : Hid (AtO w6 base v6 (L ++ [(⟨bs nCodec, s2⟩ : AttrS)] ++ [(⟨bs nFormat, kd ++ fm⟩ : AttrS)]) ∧ Grew w2 (.slice Av nv cv) w6 v6) := Lib.hid ⟨ho6, HA5.out.2.trans hg6⟩; clear ho6 hg6)
    obtain ⟨Ay, ny, cy, hvy⟩ : ∃ A n c, v6 = .slice A n c := by
     obtain ⟨A, c, e, -⟩ := Own.form HA6.out.1
     exact ⟨A, _, c, e⟩
    subst hvy
    have HEND : Hid (L ++ (⟨bs nCodec, bs (decI ty ++ 32 :: (tx nm ++ 47 :: (decI ck ++ (if ch = 2 then [47, 50] else []))))⟩ :: ((if false = true then [] else [⟨bs nFormat, bs (headT ty (tx fm))⟩]) ++ fb.map fun f => (⟨bs nFeedback, bs (headT ty (tx f))⟩ : AttrS))) = (L ++ [(⟨bs nCodec, s2⟩ : AttrS)] ++ [(⟨bs nFormat, kd ++ fm⟩ : AttrS)]) ++ fb.map fun f => ⟨bs nFeedback, bs (headT ty (tx f))⟩) := Lib.hid (by rw [HS2.out, HTF.out]; simp)
    have HLN : Hid ((L ++ [(⟨bs nCodec, s2⟩ : AttrS)] ++ [(⟨bs nFormat, kd ++ fm⟩ : AttrS)]).length ≤ 900002) := Lib.hid (by rw [List.length_append, List.length_append]; simp; omega)
    have k5 : w6.cell? ⟨N, 5, none⟩ = some (.slice Af lf kf) := (HGX.out _ _ HA6.out.2).cell 5
    go_wp2
    go_loopw [46, 0] (fun s46 s0 wr => ∃ k : Nat, k ≤ lf ∧ s46 = .int .i64 k ∧ (AtO wr base s0 ((L ++ [(⟨bs nCodec, s2⟩ : AttrS)] ++ [(⟨bs nFormat, kd ++ fm⟩ : AttrS)]) ++ (fb.take k).map fun f => ⟨bs nFeedback, bs (headT ty (tx f))⟩) ∧ Grew w2 (.slice Av nv cv) wr s0)) (fun s46 _ _ => lf - (intOf s46).toNat)
    case atStart => exact ⟨0, by omega, rfl, by simpa using HA6.out.1, HA6.out.2⟩
    case round =>
     obtain ⟨k, hk, rfl, hst⟩ := hrel
     have HS := Lib.hid hst
     clear hst
     have HBL : Hid (Below base w wr) := Lib.hid ((HGW.out.trans HS.out.2).below HVB.out HNB0.out)
     by_cases hlt : k < lf
     · have hlt' : k < fb.length := by rw [HV.out.2.1]; exact hlt
       obtain ⟨ad, c', e1, had, d0⟩ := (HVW.out.below HBL.out).at_ hlt'
       injection e1 with e1 e1n e1c
       clear e1n e1c
       subst e1
       have hfs := HV.out.2.2 _ (getD_mem hlt')
       have HTK : Hid (((fb.take (k + 1)).map fun f => (⟨bs nFeedback, bs (headT ty (tx f))⟩ : AttrS)) = ((fb.take k).map fun f => ⟨bs nFeedback, bs (headT ty (tx f))⟩) ++ [⟨bs nFeedback, bs (headT ty (tx (fb.getD k default)))⟩]) := Lib.hid (by rw [List.take_add_one, getD_of hlt']; simp)
       obtain ⟨f, hf⟩ : ∃ f, fb.getD k default = f := ⟨_, rfl⟩
       rw [hf] at d0 hfs HTK
       have hk0' : (0 : Int) ≤ (k : Int) := by omega
       have hk1' : (k : Int) < (lf : Int) := by omega
       have q9 : ¬ 9223372036854775807 < kd.size + f.size := by omega
       have HTX : Hid (kd ++ f = bs (headT ty (tx f))) := Lib.hid (tx_inj (by rw [tx_append, HKD.out, tx_bs]; simp [headT]))
       have HLL : Hid (((L ++ [(⟨bs nCodec, s2⟩ : AttrS)] ++ [(⟨bs nFormat, kd ++ fm⟩ : AttrS)]) ++ (fb.take k).map fun f => (⟨bs nFeedback, bs (headT ty (tx f))⟩ : AttrS)).length ≤ 1000000) := Lib.hid (by
        rw [List.length_append, List.length_map, List.length_take]
        have := HLN.out
        omega)
       have HNW : Hid (base ≤ wr.heap.size) := Lib.hid (by have := HBL.out.size; have := HNB0.out; omega)
       obtain ⟨Aw, nw, cw, hvw⟩ : ∃ A n c, u0 = .slice A n c := by
        obtain ⟨A, c, e, -⟩ := Own.form HS.out.1
        exact ⟨A, _, c, e⟩
       subst hvw
       clear hf had hlt'
       go_wp2_with (at_builtin; refine wpList_addA rfl (.tmp 50) (.tmp 55) rfl rfl rfl HS.out.1 HLL.out HNW.out ?_; intro v9 w9 ho9 hg9; have HA9 : Hid (AtO w9 base v9 ((L ++ [(⟨bs nCodec, s2⟩ : AttrS)] ++ [(⟨bs nFormat, kd ++ fm⟩ : AttrS)]) ++ (fb.take (k + 1)).map fun f => ⟨bs nFeedback, bs (headT ty (tx f))⟩) ∧ Grew w2 (.slice Av nv cv) w9 v9) := Lib.hid ⟨by rw [HTK.out, ← List.append_assoc, ← HTX.out]; exact ho9, HS.out.2.trans hg9⟩; clear ho9 hg9)
       go_roundw
       case rel => exact ⟨k + 1, by omega, by go_num, HA9.out⟩
       case measure => simp [intOf]; omega
     · have e : k = lf := by omega
       subst e
       have HQ : Hid (AtO wr base u0 ((L ++ [(⟨bs nCodec, s2⟩ : AttrS)] ++ [(⟨bs nFormat, kd ++ fm⟩ : AttrS)]) ++ fb.map fun f => ⟨bs nFeedback, bs (headT ty (tx f))⟩)) := Lib.hid (by
        have := HS.out.1
        rw [List.take_of_length_le (by rw [HV.out.2.1]; exact Nat.le_refl _)] at this
        exact this)
       go_wp2
       go_ret
       exact ⟨_, rfl, by rw [HF.out, HEND.out]; exact HQ.out, HGW.out.trans HS.out.2⟩
def mcell (m : MediaS) (vC vE vR vS vY : Value) : Array Value := #[.int .i64 m.kind, .int .i64 m.port, .string m.mid, .int .i64 m.dir, vC, vE, vR, .bool m.sending, vS, vY, .int .i64 m.sctp]
def ccell (c : CodecS) (v : Value) : List Value := [.int .i64 c.type, .string c.name, .int .i64 c.clock, .int .i64 c.chans, .string c.format, v]
def tcell (s : ByteArray) : List Value := [.string s]
def ecell (x : ExtS) : List Value := [.int .i64 x.id, .string x.uri]
def ucell (n : Nat) : List Value := [.int .u32 n]
structure MW (base bm n : Nat) (w : World) (m : MediaS) (cs : List (CodecS × Value)) (vC vE vR vS vY : Value) : Prop where
 eqC : m.codecs = cs.map (·.1)
 box : Whole w bm 32 (mcell m vC vE vR vS vY)
 hC : Own w base 50 6 vC (cs.map fun c => ccell c.1 c.2)
 hF : ∀ c ∈ cs, Own w base 9 1 c.2 (c.1.feedback.map tcell)
 hE : Own w base 76 2 vE (m.exts.map ecell)
 hR : Own w base 9 1 vR (m.rids.map tcell)
 hS : Own w base 79 1 vS (m.sources.map ucell)
 hY : Own w base 82 31 vY (m.crypto.map cryC)
 ap : (vR :: cs.map (·.2)).Pairwise fun a b => a.ownBlock = none ∨ a.ownBlock ≠ b.ownBlock
 hbm : base ≤ bm
 siz : SizM m
 lens : m.codecs.length ≤ n ∧ m.exts.length ≤ n ∧ m.rids.length ≤ n ∧ m.sources.length ≤ n ∧ m.crypto.length ≤ n ∧ ∀ c ∈ m.codecs, c.feedback.length ≤ n
structure Rdt (base bm : Nat) (w w' : World) : Prop where
 low : Below base w w'
 kept : ∀ (g : Nat) (t : TypeId) (cs : Array Value), Whole w g t cs → t ≠ 50 → t ≠ 76 → t ≠ 9 → t ≠ 79 → t ≠ 82 → g ≠ bm → Whole w' g t cs
 rest : Go.KeepsOthers w w'
theorem Own.others {w w' : World} {base sz : Nat} {e : TypeId} {v : Value} {rs : List (List Value)} (h : Own w base e sz v rs) (hg : w.grownBy w' v.ownBlock) : Go.KeepsOthers w w' := Go.KeepsOthers.of_grownBy hg fun j o hj ho => by
 obtain ⟨cs, hc⟩ := h.whole hj
 rw [show w.heap[j]? = _ from hc] at ho
 cases ho
 rfl
theorem others_under {w w' : World} (hb : Below w.heap.size w w') : Go.KeepsOthers w w' := ⟨hb.size, fun k o hk _ => (hb.block k (Array.getElem?_eq_some_iff.1 hk).1).trans hk⟩
section
variable {base bm n : Nat} {w w' w2 : World} {m : MediaS} {cs : List (CodecS × Value)} {vC vE vR vS vY : Value}
theorem Rdt.refl (base bm : Nat) (w : World) : Rdt base bm w w := ⟨Below.refl _ _, fun _ _ _ h _ _ _ _ _ _ => h, Go.KeepsOthers.refl _⟩
theorem Rdt.trans (h : Rdt base bm w w') (k : Rdt base bm w' w2) : Rdt base bm w w2 := ⟨h.low.trans k.low, fun g t cs hw h1 h2 h3 h4 h5 h6 => k.kept g t cs (h.kept g t cs hw h1 h2 h3 h4 h5 h6) h1 h2 h3 h4 h5 h6, h.rest.trans k.rest⟩
theorem Rdt.under (h : Rdt base bm w w') (hb : Below w'.heap.size w' w2) (hB : base ≤ w'.heap.size) : Rdt base bm w w2 := h.trans ⟨hb.mono hB, fun g t cs hw _ _ _ _ _ _ => hw.under hb, others_under hb⟩
theorem Rdt.cell (h : Rdt base bm w w') (hbm : base ≤ bm) (i : Nat) (u : Value) : Rdt base bm w (w'.setCell ⟨bm, i, none⟩ u) := h.trans ⟨(Below.refl _ _).setCell (p := ⟨bm, i, none⟩) hbm _, fun g t cs hw _ _ _ _ _ h6 => hw.far (p := ⟨bm, i, none⟩) h6 _, Go.KeepsOthers.setCell _ _ _⟩
theorem MW.under (h : MW base bm n w m cs vC vE vR vS vY) (hb : Below w.heap.size w w') : MW base bm n w' m cs vC vE vR vS vY :=
 ⟨h.eqC, h.box.under hb, h.hC.under hb, fun c hc => (h.hF c hc).under hb, h.hE.under hb, h.hR.under hb, h.hS.under hb, h.hY.under hb, h.ap, h.hbm, h.siz, h.lens⟩
theorem MW.drewN (h : MW base bm n w m cs vC vE vR vS vY) (k : Nat) : MW base bm n (w.drewN k) m cs vC vE vR vS vY :=
 ⟨h.eqC, h.box, h.hC, h.hF, h.hE, h.hR, h.hS, h.hY, h.ap, h.hbm, h.siz, h.lens⟩
theorem MW.drew (h : MW base bm n w m cs vC vE vR vS vY) : MW base bm n w.drew m cs vC vE vR vS vY :=
 ⟨h.eqC, h.box, h.hC, h.hF, h.hE, h.hR, h.hS, h.hY, h.ap, h.hbm, h.siz, h.lens⟩
theorem MW.cell (h : MW base bm n w m cs vC vE vR vS vY) {m' : MediaS} (i : Nat) (u : Value) (hx : (mcell m vC vE vR vS vY).setIfInBounds i u = mcell m' vC vE vR vS vY)
 (h1 : m'.codecs = m.codecs) (h2 : m'.exts = m.exts) (h3 : m'.rids = m.rids) (h4 : m'.sources = m.sources) (h5 : m'.crypto = m.crypto) (hz : m'.mid.size ≤ 140737488355328) : MW base bm n (w.setCell ⟨bm, i, none⟩ u) m' cs vC vE vR vS vY := by
 refine ⟨by rw [h1]; exact h.eqC, ?_, h.hC.far (p := ⟨bm, i, none⟩) (h.hC.apart h.box (by decide)) u, fun c hc => (h.hF c hc).far (p := ⟨bm, i, none⟩) ((h.hF c hc).apart h.box (by decide)) u, ?_, ?_, ?_, ?_, h.ap, h.hbm, ?_, by rw [h1, h2, h3, h4, h5]; exact h.lens⟩
 · rw [← hx]
   exact h.box.set i u
 · rw [h2]
   exact h.hE.far (p := ⟨bm, i, none⟩) (h.hE.apart h.box (by decide)) u
 · rw [h3]
   exact h.hR.far (p := ⟨bm, i, none⟩) (h.hR.apart h.box (by decide)) u
 · rw [h4]
   exact h.hS.far (p := ⟨bm, i, none⟩) (h.hS.apart h.box (by decide)) u
 · rw [h5]
   exact h.hY.far (p := ⟨bm, i, none⟩) (h.hY.apart h.box (by decide)) u
 · obtain ⟨z1, z2, z3, z4, z5, ⟨z6, z7⟩, z8⟩ := h.siz
   exact ⟨hz, by rw [h1]; exact z2, by rw [h1]; exact z3, by rw [h2]; exact z4, by rw [h3]; exact z5, ⟨by rw [h4]; exact z6, by rw [h5]; exact z7⟩, by rw [h1, h2, h3, h4, h5]; exact z8⟩
theorem MW.media (h : MW base bm n w m cs vC vE vR vS vY) : MediaV w w.heap.size (mcell m vC vE vR vS vY) m vC vE vR vS vY := by
 refine ⟨rfl, ?_, ?_, ?_, ?_, ?_⟩
 · refine h.hC.rows (L := m.codecs) (Nat.le_refl _) (by rw [h.eqC]; simp) (fun i r x f hr hx hf => ?_)
   rw [h.eqC, List.getElem?_map] at hx
   rw [List.getElem?_map] at hr
   cases hc : cs[i]? with
   | none => rw [hc] at hx; cases hx
   | some c =>
     rw [hc] at hx hr
     obtain rfl : c.1 = x := by simpa using hx
     obtain rfl : ccell c.1 c.2 = r := by simpa using hr
     refine ⟨hf 0 (by decide), hf 1 (by decide), hf 2 (by decide), hf 3 (by decide), hf 4 (by decide), c.2, hf 5 (by decide), ?_⟩
     refine (h.hF c (List.mem_of_getElem? hc)).rows (L := c.1.feedback) (Nat.le_refl _) (by simp) (fun i r x f hr hx hf => ?_)
     rw [List.getElem?_map, hx] at hr
     obtain rfl : tcell x = r := by simpa using hr
     exact hf 0 (by decide)
 · refine h.hE.rows (L := m.exts) (Nat.le_refl _) (by simp) (fun i r x f hr hx hf => ?_)
   rw [List.getElem?_map, hx] at hr
   obtain rfl : ecell x = r := by simpa using hr
   exact ⟨hf 0 (by decide), hf 1 (by decide)⟩
 · refine h.hR.rows (L := m.rids) (Nat.le_refl _) (by simp) (fun i r x f hr hx hf => ?_)
   rw [List.getElem?_map, hx] at hr
   obtain rfl : tcell x = r := by simpa using hr
   exact hf 0 (by decide)
 · refine h.hS.rows (L := m.sources) (Nat.le_refl _) (by simp) (fun i r x f hr hx hf => ?_)
   rw [List.getElem?_map, hx] at hr
   obtain rfl : ucell x = r := by simpa using hr
   exact hf 0 (by decide)
 · refine h.hY.rows (L := m.crypto) (Nat.le_refl _) (by simp) (fun i r x f hr hx hf => ?_)
   rw [List.getElem?_map, hx] at hr
   obtain rfl : cryC x = r := by simpa using hr
   exact ⟨h.siz.typed.2 x (List.mem_of_getElem? hx), fun j hj => hf j hj⟩
end
def RdO (base bm n : Nat) (w : World) (m' : MediaS) (e : Ending) (w' : World) : Prop := e = .returned (.tuple #[]) ∧ (∃ cs vC vE vR vS vY, MW base bm n w' m' cs vC vE vR vS vY) ∧ Rdt base bm w w'
set_option maxHeartbeats 800000 in
theorem readMid_any (base bm n : Nat) (s : ByteArray) (m : MediaS) (cs : List (CodecS × Value)) (vC vE vR vS vY : Value) (w : World) (h : MW base bm n w m cs vC vE vR vS vY) (hs : s.size ≤ 140737488355328) :
 Calls Tryz.prog 125 #[.pointer (some ⟨bm, 0, none⟩), .string s] w (RdO base bm n w { m with mid := s }) := by
 have e0 : w.cell? ⟨bm, 2, none⟩ = some (.string m.mid) := h.box.cell 2
 have q0 := h.box.frz
 have HF := Lib.hid (h.cell (m' := { m with mid := s }) 2 (.string s) rfl rfl rfl rfl rfl rfl hs)
 have HR := Lib.hid ((Rdt.refl base bm w).cell h.hbm 2 (.string s))
 clear h
 go_enter Tryz.func125, Tryz.ntmps125
 go_wp2
 go_end0
 exact ⟨rfl, ⟨_, _, _, _, _, _, HF.out⟩, HR.out⟩
set_option maxHeartbeats 800000 in
theorem readNothing_any (base bm n : Nat) (s : ByteArray) (m : MediaS) (cs : List (CodecS × Value)) (vC vE vR vS vY : Value) (w : World) (h : MW base bm n w m cs vC vE vR vS vY) :
 Calls Tryz.prog 131 #[.pointer (some ⟨bm, 0, none⟩), .string s] w (RdO base bm n w m) := by
 have HF := Lib.hid h
 clear h
 go_enter Tryz.func131, Tryz.ntmps131
 go_wp2
 go_end0
 exact ⟨rfl, ⟨_, _, _, _, _, _, HF.out⟩, Rdt.refl _ _ _⟩
set_option maxHeartbeats 800000 in
theorem readSctp_any (base bm n : Nat) (s : ByteArray) (m : MediaS) (cs : List (CodecS × Value)) (vC vE vR vS vY : Value) (w : World) (h : MW base bm n w m cs vC vE vR vS vY) (hE : EnvR w) (hs : s.size ≤ 281474976710656) :
 Calls Tryz.prog 134 #[.pointer (some ⟨bm, 0, none⟩), .string s] w (RdO base bm n w { m with sctp := numP (tx s) }) := by
 have HN := Lib.hid (number_any s w hE hs)
 have HM := Lib.hid h
 have hbw : base ≤ w.heap.size := Nat.le_trans h.hbm (Nat.le_of_lt h.box.lt)
 have HX : Hid (∀ w1, Below w.heap.size w w1 → (∃ cs vC vE vR vS vY, MW base bm n (w1.setCell ⟨bm, 10, none⟩ (.int .i64 (numP (tx s)))) { m with sctp := numP (tx s) } cs vC vE vR vS vY) ∧ Rdt base bm w (w1.setCell ⟨bm, 10, none⟩ (.int .i64 (numP (tx s))))) := Lib.hid fun w1 hb =>
  ⟨⟨_, _, _, _, _, _, (HM.out.under hb).cell (m' := { m with sctp := numP (tx s) }) 10 _ rfl rfl rfl rfl rfl rfl HM.out.siz.mid⟩, (((Rdt.refl base bm w).under hb hbw).cell HM.out.hbm 10 _)⟩
 have HC : Hid (∀ w1, Below w.heap.size w w1 → w1.cell? ⟨bm, 10, none⟩ = some (.int .i64 m.sctp) ∧ ∀ i, w1.frozen? ⟨bm, i, none⟩ = false) := Lib.hid fun w1 hb => ⟨(HM.out.under hb).box.cell 10, (HM.out.under hb).box.frz⟩
 generalize numP (tx s) = k at *
 clear h hE
 go_enter Tryz.func134, Tryz.ntmps134
 go_wp2_with (go_at_call 69; (with_reducible refine HN.out.mono ?_); rintro e w1 ⟨rfl, hb1⟩; have H1 := Lib.hid (HX.out w1 hb1); obtain ⟨c0, q0⟩ := HC.out w1 hb1; clear hb1; dsimp only)
 go_end0
 exact ⟨rfl, H1.out.1, H1.out.2⟩
end Go.Proofs.YtlekmakofkpcdaaGreatDoor
