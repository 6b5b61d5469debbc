import Derived.Test.YtibpnjakimobmaaGreatPkJudgeTurnedA09
namespace Go.Proofs.YtibpnjakimobmaaGreat
open Go.RowKit
set_option linter.unusedVariables false
set_option linter.unusedSimpArgs false
def zeroDs : Array Value := #[.int .u64 0, .int .u64 0, .slice none 0 0, .string ⟨#[]⟩, .string ⟨#[]⟩, .slice none 0 0]
def MakeO (d : DescS) (c : ConfigS) (id : Nat) (name pass : ByteArray) (key : Tx) (w : World) (e : Ending) (w' : World) : Prop :=
 Below w.heap.size w w' ∧ ((mayA d c id name pass key = true ∧ ∃ R uB uM, e = .returned (.tuple #[.agg R, .int .i64 0]) ∧ DescV w' w'.heap.size R (descA d c id name pass key) uB uM) ∨
  (mayA d c id name pass key = false ∧ e = .returned (.tuple #[.agg zeroDs, .int .i64 1])))
theorem yieldsIf_load_arr {ops : Array Oper} {S : World → Prop} {op : Oper} {a : Act} (hw : Region.wanted op (yielded ops a.tmps) = true) (ty : TypeId) (x : Operand) (ho : op.op = .load ty x)
 (p : Addr) (hx : a.eval x = .pointer (some p)) (cs : Array Value) {d : TypeDesc} (hS : ∀ w, S w → ∀ j u, cs.toList[j]? = some u → w.cell? (p.add j) = some u) (hu : Tryz.prog.underlying ty = some d) (hd : d.isRow = true) {n : Nat} (hi : (Tryz.prog.info? ty).map (·.size) = some n) (hn : cs.size = n) : YieldsIf Tryz.prog ops S op (.agg cs) a := by
 have e : cs.toList.toArray = cs := by simp
 have h := yieldsIf_load_at (ops := ops) (S := S) (op := op) (a := a) hw ty x ho p hx cs.toList d hS hu hd (by rw [hi, ← hn]; simp)
 rwa [e] at h
theorem whole_cells {W : World} {g : Nat} {t : TypeId} {cs : Array Value} (h : Whole W g t cs) : ∀ j u, cs.toList[j]? = some u → W.cell? ((⟨g, 0, none⟩ : Addr).add j) = some u := fun j u hu => by
 rw [Addr.add_lit, Nat.zero_add, h.cell j, ← Array.getElem?_toList]
 exact hu
theorem all_oneD (id ver : Int) (vB vM : Value) (name pass : ByteArray) (h1 : vB.oneCell' = true) (h2 : vM.oneCell' = true) : (#[.int .u64 id, .int .u64 ver, vB, .string name, .string pass, vM] : Array Value).all (·.oneCell') = true := by
 rw [← Array.all_toList]
 show List.all [_, _, vB, _, _, vM] _ = true
 simp only [List.all_cons, List.all_nil, h1, h2]
 rfl
theorem infoStr9 : (Tryz.prog.info? 9).map (fun i => (i.zero, i.size, i.bytes)) = some (some (.string ⟨#[]⟩), 1, 16) := by kernel_rfl
theorem infoMedia9 : (Tryz.prog.info? 44).map (fun i => (i.zero, i.size, i.bytes)) = some (some (.agg #[.int .i64 0, .int .i64 0, .string ⟨#[]⟩, .int .i64 0, .slice none 0 0, .slice none 0 0, .slice none 0 0, .bool false, .slice none 0 0, .slice none 0 0, .int .i64 0]), 11, 176) := by kernel_rfl
theorem Tryz.sizeKey9 : (Tryz.prog.info? 30).map (·.size) = some 30 := by kernel_rfl
set_option maxHeartbeats 6400000 in
set_option maxRecDepth 100000 in
theorem r9Make_any (D K : Array Value) (key : Tx) (d : DescS) (c : ConfigS) (id : Nat) (name pass : ByteArray) (vB vM kC kE : Value) (w : World) (hD : DescV w w.heap.size D d vB vM) (hK : ConfV w w.heap.size K c kC kE) (hz : SizD d) (hs : SizC c) (hkey : key.length = 30)
 (hid : id < 18446744073709551616) (hn : name.size ≤ 140737488355328) (hp : pass.size ≤ 140737488355328) :
 Calls Tryz.prog 6 #[.agg D, .agg K, .int .u64 id, .string name, .string pass, .agg (keyC key).toArray] w (MakeO d c id name pass key w) := by
 obtain ⟨AM, cM, rfl, hcM, hmM, -⟩ := Rows.form hD.media
 obtain ⟨AB, cB, rfl, -⟩ := Rows.form hD.bundle
 obtain ⟨nM, hnM⟩ : ∃ n, d.media.length = n := ⟨_, rfl⟩
 obtain ⟨nB, hnB⟩ : ∃ n, d.bundle.length = n := ⟨_, rfl⟩
 rw [hnM] at hD
 rw [hnB] at hD
 obtain ⟨b, hb⟩ : ∃ b, w.heap.size = b := ⟨_, rfl⟩
 have HB := Lib.hid hb
 rw [hb] at hD hK
 obtain ⟨Y, hY⟩ : ∃ Y, (keyC key).toArray = Y := ⟨_, rfl⟩
 have HYS : Hid (Y.size = 30) := Lib.hid (by rw [← hY]; simp [keyC, hkey])
 have HYE := Lib.hid hY
 rw [hY]
 have HKS : Hid (K.size = 3) := Lib.hid hK.size
 have HDS : Hid (D.size = 6) := Lib.hid (by rw [hD.form]; rfl)
 have HV := Lib.hid (And.intro hD hK)
 have HZ := Lib.hid (And.intro hz (And.intro hs (And.intro hkey (And.intro hid (And.intro hn hp)))))
 obtain ⟨ver, hver⟩ : ∃ v, d.ver = v := ⟨_, rfl⟩
 have HDC : Hid (∀ W, Whole W b 26 D → W.cell? ⟨b, 1, none⟩ = some (.int .u64 ver) ∧ W.cell? ⟨b, 5, none⟩ = some (.slice AM nM cM)) := Lib.hid fun W h => by
  rw [hD.form, hver] at h
  exact ⟨h.cell 1, h.cell 5⟩
 have HG : Hid (∀ W, Below b w W → Calls Tryz.prog 9 #[.agg D] W fun e w' => e = .returned (.bool (goodD d)) ∧ Below W.heap.size W w') := Lib.hid fun W hW => r8Good_any D d _ _ W ((hD.below hW).more (by have := hW.size; omega)) hz
 have HL := Lib.hid (And.intro hnM (And.intro hnB hver))
 have hfx := boxes4 w D K Y zeroDs
 rw [hb] at hfx
 have HZD : Hid (zeroDs.size = 6 ∧ zeroDs.all (·.oneCell') = true) := Lib.hid ⟨rfl, all_oneD _ _ _ _ _ _ rfl rfl⟩
 have hzd : ∀ W, (zeroValue 26).run Tryz.prog W = .ok (.agg zeroDs) W := fun W => by kernel_rfl
 have hbz : ∀ W, (Instr.build 26 #[]).run Tryz.prog W = .ok (.agg zeroDs) W := fun W => run_build W 26 _ _ (by kernel_rfl)
 obtain ⟨Z, hZ⟩ : ∃ Z, zeroDs = Z := ⟨_, rfl⟩
 have HZE := Lib.hid hZ
 rw [hZ] at hfx HZD
 simp only [hZ] at hzd hbz
 have HF := Lib.hid hfx
 clear hZ hfx hY hD hK hz hs hkey hid hn hp hver hnM hnB hcM hmM
 go_enter Tryz.func6, Tryz.ntmps6
 go_upto_region 1 with fail
 generalize (((w.alloc (.cells D 26)).alloc (.cells K 29)).alloc (.cells Y 30)).alloc (.cells Z 26) = W0 at *
 try rw [hb]
 clear hb
 go_upto_if 19 with (first | (refine wpList_load_all rfl 26 (.tmp 6) rfl HF.out.d rfl Tryz.sizeDesc HDS.out Tryz.underlying26 rfl ?_) | (go_at_call 9; (with_reducible refine (HG.out _ HF.out.low).mono ?_); rintro e w1 ⟨rfl, hb1⟩))
 have H1 : Hid (Fix4 w w1 b D K Y Z) := Lib.hid (HF.out.under hb1)
 clear hb1
 cases hgd : goodD d with
 | false =>
   have hmay : mayA d c id name pass key = false := by unfold mayA; rw [hgd]; rfl
   have HM := Lib.hid hmay
   clear hgd hmay
   go_wp2_with (refine wpList_store_whole rfl 26 (.tmp 12) (.tmp 20) rfl rfl rfl H1.out.z Tryz.sizeDesc HZD.out.1 HZD.out.1 HZD.out.2 ?_)
   refine bodyPost_ret (ret_struct2 rfl rfl (H1.out.z.row Z) Tryz.underlying26 rfl Tryz.sizeDesc HZD.out.1) rfl ⟨?_, .inr ⟨HM.out, ?_⟩⟩
   · rw [HB.out]; exact below_row H1.out.low (by omega) _
   · rw [HZE.out]; rfl
 | true =>
   have HGD := Lib.hid hgd
   clear hgd
   have c1 := (HDC.out _ H1.out.d).1
   clear hzd hbz
   go_upto_region 4 with (refine wpList_store_whole (cs := #[.int .u64 id, .int .u64 ver, .slice none 0 0, .string name, .string pass, .slice none 0 0]) rfl 26 (.tmp 14) (.tmp 26) rfl rfl rfl (Whole.new w1 26 #[.int .u64 0, .int .u64 0, .slice none 0 0, .string ⟨#[]⟩, .string ⟨#[]⟩, .slice none 0 0]) Tryz.sizeDesc rfl rfl (all_oneD _ _ _ _ _ _ rfl rfl) ?_)
   try simp only [Act.put]
   have hgO : b + 4 ≤ w1.heap.size := H1.out.le
   have hb3 : Below w1.heap.size w1 ((w1.alloc (.cells #[.int .u64 0, .int .u64 0, .slice none 0 0, .string ⟨#[]⟩, .string ⟨#[]⟩, .slice none 0 0] 26)).setRow w1.heap.size #[.int .u64 id, .int .u64 ver, .slice none 0 0, .string name, .string pass, .slice none 0 0]) := below_row ((Below.refl _ _).alloc (Nat.le_refl _) _) (Nat.le_refl _) _
   have hw3 : Whole ((w1.alloc (.cells #[.int .u64 0, .int .u64 0, .slice none 0 0, .string ⟨#[]⟩, .string ⟨#[]⟩, .slice none 0 0] 26)).setRow w1.heap.size #[.int .u64 id, .int .u64 ver, .slice none 0 0, .string name, .string pass, .slice none 0 0]) w1.heap.size 26 #[.int .u64 id, .int .u64 ver, .slice none 0 0, .string name, .string pass, .slice none 0 0] := (Whole.new w1 26 #[.int .u64 0, .int .u64 0, .slice none 0 0, .string ⟨#[]⟩, .string ⟨#[]⟩, .slice none 0 0]).row _
   have hf3 := H1.out.under hb3
   generalize (w1.alloc (.cells #[.int .u64 0, .int .u64 0, .slice none 0 0, .string ⟨#[]⟩, .string ⟨#[]⟩, .slice none 0 0] 26)).setRow w1.heap.size #[.int .u64 id, .int .u64 ver, .slice none 0 0, .string name, .string pass, .slice none 0 0] = w3 at *
   generalize w1.heap.size = gO at *
   have H3 := Lib.hid (And.intro hf3 (And.intro hw3 hgO))
   have c5 := (HDC.out _ hf3.d).2
   clear hgO hb3 hw3 hf3 c1
   obtain ⟨f, hf⟩ : ∃ f : MediaS → MediaS, mediaA d.bundle c key = f := ⟨_, rfl⟩
   have HFE := Lib.hid hf
   clear hf
   go_wp2
   go_loopw [30] (fun s30 wr => ∃ (k : Nat) (uB uM : Value) (rows : List (List Value)), k ≤ nM ∧ s30 = .int .i64 k ∧ Fix4 w wr b D K Y Z ∧ Whole wr gO 26 #[.int .u64 id, .int .u64 ver, uB, .string name, .string pass, uM] ∧ MkI wr b gO ((d.media.take k).map f) uB uM rows) (fun s30 _ => nM - (intOf s30).toNat)
   case atStart => exact ⟨0, _, _, [], Nat.zero_le _, rfl, H3.out.1, H3.out.2.1, MkI.nil _ _ _⟩
   case round =>
    obtain ⟨k, uB, uM, rows, hk, rfl, hfx, hwO, hmk⟩ := hrel
    have HT := Lib.hid (And.intro hfx (And.intro hwO hmk))
    clear hfx hwO hmk c5
    by_cases hlt : k < nM
    · obtain ⟨ad, cM', M, vC, vE, vR, vS, vY, e1, had, hMV, hcl⟩ := HV.out.1.media.at_ (i := k) (by rw [HL.out.1]; exact hlt)
      injection e1 with e1 e1n e1c
      clear e1n e1c
      subst e1
      obtain ⟨m, hm⟩ : ∃ s, d.media.getD k default = s := ⟨_, rfl⟩
      rw [hm] at hMV
      have hmi : d.media[k]? = some m := by rw [← hm]; exact getD_of (by rw [HL.out.1]; exact hlt)
      have hmm : m ∈ d.media := List.mem_of_getElem? hmi
      have hgm : goodM m = true := (goodD_parts HGD.out).2.2.2.1 m hmm
      have HNX : Hid ((d.media.take (k + 1)).map f = (d.media.take k).map f ++ [f m]) := Lib.hid (by rw [List.take_add_one, hmi, List.map_append]; rfl)
      have HMS : Hid (M.size = 11) := Lib.hid hMV.size
      have HML : Hid (∀ W, Fix4 w W b D K Y Z → ∀ j u, M.toList[j]? = some u → W.cell? ((ad.add (k * 11)).add j) = some u) := Lib.hid fun W hW j u hu => (hW.low.cell (p := (ad.add (k * 11)).add j) (by rw [add_block, add_block]; exact had)).trans (hcl j u hu)
      have HC5 : Hid (∀ W, Fix4 w W b D K Y Z → W.cell? ⟨b, 5, none⟩ = some (.slice (some ad) nM cM)) := Lib.hid fun W hW => (HDC.out W hW.d).2
      have HCALL : Hid (∀ W, Fix4 w W b D K Y Z → Calls Tryz.prog 10 #[.agg D, .agg M, .agg K, .agg Y] W (MadeO b W (mediaA d.bundle c key m))) := Lib.hid fun W hW => by
       have := r9media_any D M K key d m c _ _ vC vE vR vS vY kC kE b W (by have := hW.le; omega) (HV.out.1.below hW.low) (hMV.below hW.low) (HV.out.2.below hW.low) HZ.out.2.1 HZ.out.1.count (HZ.out.1.media m hmm) HZ.out.2.2.1 hgm
       rwa [HYE.out] at this
      obtain ⟨wd, hwd⟩ : ∃ W, wr.drew = W := ⟨_, rfl⟩
      have HF0 : Hid (Fix4 w wd b D K Y Z) := Lib.hid (by rw [← hwd]; exact HT.out.1.under (Below.refl _ _).drew)
      have HDR : Hid (Below wr.heap.size wr wd) := Lib.hid (by rw [← hwd]; exact (Below.refl _ _).drew)
      have HWL : Hid (b + 4 ≤ wr.heap.size) := Lib.hid HT.out.1.le
      have HGM := Lib.hid (And.intro hmi (And.intro hgm had))
      clear hMV hcl hm hmi hmm hgm had
      have hk0 : (0 : Int) ≤ (k : Int) := by omega
      have hk1 : (k : Int) < (nM : Int) := by omega
      go_upto_region 7 with fail
      go_cut [16] from 33 to 41 (fun s16 wc => ∃ g M' vC vE vR vY, s16 = .pointer (some ⟨g, 0, none⟩) ∧ Whole wc g 44 M' ∧ Below wr.heap.size wr wc ∧ wr.heap.size ≤ g ∧ Held wc (fun k => (b ≤ k ∧ k < wr.heap.size) ∨ k = g) (fun W => MediaV W W.heap.size M' (mediaA d.bundle c key m) vC vE vR (.slice none 0 0) vY))
      case first =>
       refine wp_region_held_drew (S := fun W => Fix4 w W b D K Y Z) (by kernel_rfl) (by rw [hwd]; exact HF0.out) (fun hHeld => ?_)
       rw [hwd] at hHeld ⊢
       clear hwd
       refine wpAnyH_take (i := 0) (v := .agg D) rfl (by as_aux_lemma => kernel_rfl) (by as_aux_lemma => kernel_rfl) (by as_aux_lemma => kernel_rfl) (fun _ _ _ h => h) (yieldsIf_load_arr (by rfl) 26 (.tmp 6) rfl ⟨b, 0, none⟩ rfl _ (fun w h => whole_cells h.d) Tryz.underlying26 rfl Tryz.sizeDesc HDS.out) (by assumption) ?_
       simp only [Act.put, List.getElem_toArray, List.getElem_cons_succ, List.getElem_cons_zero, List.setIfInBounds_toArray, List.set_cons_succ, List.set_cons_zero]
       refine wpAnyH_take (i := 1) (v := _) rfl (by as_aux_lemma => kernel_rfl) (by as_aux_lemma => kernel_rfl) (by as_aux_lemma => kernel_rfl) (fun _ _ _ h => h) (Or.inl ⟨by rfl, fun w h => by have e0 := HC5.out w h; clear h; go_simp; (try with_reducible rfl)⟩) (by assumption) ?_
       simp only [Act.put, List.getElem_toArray, List.getElem_cons_succ, List.getElem_cons_zero, List.setIfInBounds_toArray, List.set_cons_succ, List.set_cons_zero]
       refine wpAnyH_take (i := 2) (v := _) rfl (by as_aux_lemma => kernel_rfl) (by as_aux_lemma => kernel_rfl) (by as_aux_lemma => kernel_rfl) (fun _ _ _ h => h) (Or.inl ⟨by rfl, fun w h => by have e0 := HC5.out w h; clear h; go_simp; (try with_reducible rfl)⟩) (by assumption) ?_
       simp only [Act.put, List.getElem_toArray, List.getElem_cons_succ, List.getElem_cons_zero, List.setIfInBounds_toArray, List.set_cons_succ, List.set_cons_zero]
       refine wpAnyH_take (i := 3) (v := _) rfl (by as_aux_lemma => kernel_rfl) (by as_aux_lemma => kernel_rfl) (by as_aux_lemma => kernel_rfl) (fun _ _ _ h => h) (Or.inl ⟨by rfl, fun w h => by have e0 := HC5.out w h; clear h; go_simp; (try with_reducible rfl)⟩) (by assumption) ?_
       simp only [Act.put, List.getElem_toArray, List.getElem_cons_succ, List.getElem_cons_zero, List.setIfInBounds_toArray, List.set_cons_succ, List.set_cons_zero]
       refine wpAnyH_take (i := 4) (v := _) rfl (by as_aux_lemma => kernel_rfl) (by as_aux_lemma => kernel_rfl) (by as_aux_lemma => kernel_rfl) (fun _ _ _ h => h) (Or.inl ⟨by rfl, fun w h => by have e0 := HC5.out w h; clear h; go_simp; (try with_reducible rfl)⟩) (by assumption) ?_
       simp only [Act.put, List.getElem_toArray, List.getElem_cons_succ, List.getElem_cons_zero, List.setIfInBounds_toArray, List.set_cons_succ, List.set_cons_zero]
       refine wpAnyH_take (i := 5) (v := .agg M) rfl (by as_aux_lemma => kernel_rfl) (by as_aux_lemma => kernel_rfl) (by as_aux_lemma => kernel_rfl) (fun _ _ _ h => h) (yieldsIf_load_arr (by rfl) 44 (.tmp 37) rfl (ad.add (k * 11)) rfl _ (fun w h => HML.out w h) Tryz.underlying44 rfl Tryz.sizeMedia HMS.out) (by assumption) ?_
       simp only [Act.put, List.getElem_toArray, List.getElem_cons_succ, List.getElem_cons_zero, List.setIfInBounds_toArray, List.set_cons_succ, List.set_cons_zero]
       refine wpAnyH_take (i := 6) (v := .agg K) rfl (by as_aux_lemma => kernel_rfl) (by as_aux_lemma => kernel_rfl) (by as_aux_lemma => kernel_rfl) (fun _ _ _ h => h) (yieldsIf_load_arr (by rfl) 29 (.tmp 7) rfl ⟨b + 1, 0, none⟩ rfl _ (fun w h => whole_cells h.k) Tryz.underlying29 rfl Tryz.sizeConfig HKS.out) (by assumption) ?_
       simp only [Act.put, List.getElem_toArray, List.getElem_cons_succ, List.getElem_cons_zero, List.setIfInBounds_toArray, List.set_cons_succ, List.set_cons_zero]
       refine wpAnyH_take (i := 7) (v := .agg Y) rfl (by as_aux_lemma => kernel_rfl) (by as_aux_lemma => kernel_rfl) (by as_aux_lemma => kernel_rfl) (fun _ _ _ h => h) (yieldsIf_load_arr (by rfl) 30 (.tmp 11) rfl ⟨b + 2, 0, none⟩ rfl _ (fun w h => whole_cells h.y) Tryz.underlying30 rfl Tryz.sizeKey9 HYS.out) (by assumption) ?_
       simp only [Act.put, List.getElem_toArray, List.getElem_cons_succ, List.getElem_cons_zero, List.setIfInBounds_toArray, List.set_cons_succ, List.set_cons_zero]
       refine wpAnyH_ready (rs := [8, 9]) (by as_aux_lemma => kernel_rfl) (by simp) ?_
       refine (AllReadyH.cons (i := 8) rfl (fun KK hK => ?_) (AllReadyH.cons (i := 9) rfl (fun KK hK => ?_) AllReadyH.nil))
       · go_simp
         refine (HCALL.out _ HF0.out).mono ?_
         rintro e w8 ⟨M', vC', vE', vR', vY', rfl, hb8, hh8⟩
         have HF8 : Hid (Fix4 w w8 b D K Y Z) := Lib.hid (HF0.out.under hb8)
         have HB8 : Hid (Below wr.heap.size wr w8) := Lib.hid (HDR.out.trans (hb8.mono HDR.out.size))
         have HH8 : Hid (Held w8 (fun k => b ≤ k ∧ k < wr.heap.size) (fun W => MediaV W W.heap.size M' (mediaA d.bundle c key m) vC' vE' vR' (.slice none 0 0) vY')) := Lib.hid (hh8.mono fun j hj => .inl ⟨hj.1, by have h1 := hj.2; have := HDR.out.size; omega⟩)
         clear hb8 hh8
         refine hK.out _ _ HF8.out (fun hHeld' => ?_)
         clear hK KK hHeld
         have hHeld := hHeld'
         clear hHeld'
         try simp only [Act.put]
         refine wpAnyH_ready (rs := [9]) (by as_aux_lemma => kernel_rfl) (by simp) ?_
         refine (AllReadyH.cons (i := 9) rfl (fun KK hK => ?_) AllReadyH.nil)
         go_simp
         have HF9 : Hid (Fix4 w (w8.alloc (.cells #[.int .i64 0, .int .i64 0, .string ⟨#[]⟩, .int .i64 0, .slice none 0 0, .slice none 0 0, .slice none 0 0, .bool false, .slice none 0 0, .slice none 0 0, .int .i64 0] 44)) b D K Y Z) := Lib.hid (HF8.out.under ((Below.refl _ _).alloc (Nat.le_refl _) _))
         have HB9 : Hid (Below wr.heap.size wr (w8.alloc (.cells #[.int .i64 0, .int .i64 0, .string ⟨#[]⟩, .int .i64 0, .slice none 0 0, .slice none 0 0, .slice none 0 0, .bool false, .slice none 0 0, .slice none 0 0, .int .i64 0] 44)) ∧ Whole (w8.alloc (.cells #[.int .i64 0, .int .i64 0, .string ⟨#[]⟩, .int .i64 0, .slice none 0 0, .slice none 0 0, .slice none 0 0, .bool false, .slice none 0 0, .slice none 0 0, .int .i64 0] 44)) w8.heap.size 44 #[.int .i64 0, .int .i64 0, .string ⟨#[]⟩, .int .i64 0, .slice none 0 0, .slice none 0 0, .slice none 0 0, .bool false, .slice none 0 0, .slice none 0 0, .int .i64 0] ∧ wr.heap.size ≤ w8.heap.size ∧ Held (w8.alloc (.cells #[.int .i64 0, .int .i64 0, .string ⟨#[]⟩, .int .i64 0, .slice none 0 0, .slice none 0 0, .slice none 0 0, .bool false, .slice none 0 0, .slice none 0 0, .int .i64 0] 44)) (fun k => (b ≤ k ∧ k < wr.heap.size) ∨ k = w8.heap.size) (fun W => MediaV W W.heap.size M' (mediaA d.bundle c key m) vC' vE' vR' (.slice none 0 0) vY')) := Lib.hid ⟨HB8.out.alloc HB8.out.size _, Whole.new _ _ _, HB8.out.size, HH8.out.step ((Only.refl (fun _ => False) w8).alloc _) (fun j hj => hj.elim) (fun j hj => hj.elim .inl (fun e => .inr (by omega)))⟩
         generalize w8.alloc (Obj.cells #[.int .i64 0, .int .i64 0, .string ⟨#[]⟩, .int .i64 0, .slice none 0 0, .slice none 0 0, .slice none 0 0, .bool false, .slice none 0 0, .slice none 0 0, .int .i64 0] 44) = w9 at *
         generalize w8.heap.size = g9 at *
         refine hK.out _ _ HF9.out (fun hHeld' => ?_)
         clear hK KK hHeld
         have hHeld := hHeld'
         clear hHeld'
         try simp only [Act.put]
         refine wpAnyH_ready (rs := [10]) (by as_aux_lemma => kernel_rfl) (by simp) ?_
         refine (AllReadyH.cons (i := 10) rfl (fun KK hK => ?_) AllReadyH.nil)
         have hhld : Held w9 (fun k => (b ≤ k ∧ k < wr.heap.size) ∨ k = g9) (fun W => MediaV W W.heap.size M' (mediaA d.bundle c key m) vC' vE' vR' (.slice none 0 0) vY') := HB9.out.2.2.2
         have HMV := Lib.hid (hhld _ (Only.refl _ _))
         have HFN : Hid (Whole (w9.setRow g9 M') g9 44 M' ∧ Below wr.heap.size wr (w9.setRow g9 M') ∧ wr.heap.size ≤ g9 ∧ Held (w9.setRow g9 M') (fun k => (b ≤ k ∧ k < wr.heap.size) ∨ k = g9) (fun W => MediaV W W.heap.size M' (mediaA d.bundle c key m) vC' vE' vR' (.slice none 0 0) vY') ∧ Fix4 w (w9.setRow g9 M') b D K Y Z) := Lib.hid ⟨HB9.out.2.1.row M', below_row HB9.out.1 HB9.out.2.2.1 M', HB9.out.2.2.1, hhld.step (only_row w9 g9 M') (fun j hj => .inl (.inr hj)) (fun j hj => .inl hj), HF9.out.only (only_row w9 g9 M') (fun j hj => by have h1 : j = g9 := hj; have := HB9.out.2.2.1; have := HWL.out; omega)⟩
         refine step_store_whole (cs := M') rfl 44 (.tmp 16) (.tmp 41) rfl rfl rfl HB9.out.2.1 Tryz.sizeMedia HMV.out.size rfl (all_list HMV.out.one) ?_
         refine hK.out _ _ HFN.out.2.2.2.2 (fun hHeld' => ?_)
         clear hK KK hHeld hHeld'
         try simp only [Act.put]
         refine wpAnyH_done (by as_aux_lemma => kernel_rfl) ?_ _
         go_wp2
         go_meet
         exact ⟨_, _, _, _, _, _, rfl, HFN.out.1, HFN.out.2.1, HFN.out.2.2.1, HFN.out.2.2.2.1⟩
       · go_simp
         have HF9 : Hid (Fix4 w (wd.alloc (.cells #[.int .i64 0, .int .i64 0, .string ⟨#[]⟩, .int .i64 0, .slice none 0 0, .slice none 0 0, .slice none 0 0, .bool false, .slice none 0 0, .slice none 0 0, .int .i64 0] 44)) b D K Y Z) := Lib.hid (HF0.out.under ((Below.refl _ _).alloc (Nat.le_refl _) _))
         have HB9 : Hid (Below wr.heap.size wr (wd.alloc (.cells #[.int .i64 0, .int .i64 0, .string ⟨#[]⟩, .int .i64 0, .slice none 0 0, .slice none 0 0, .slice none 0 0, .bool false, .slice none 0 0, .slice none 0 0, .int .i64 0] 44)) ∧ Whole (wd.alloc (.cells #[.int .i64 0, .int .i64 0, .string ⟨#[]⟩, .int .i64 0, .slice none 0 0, .slice none 0 0, .slice none 0 0, .bool false, .slice none 0 0, .slice none 0 0, .int .i64 0] 44)) wd.heap.size 44 #[.int .i64 0, .int .i64 0, .string ⟨#[]⟩, .int .i64 0, .slice none 0 0, .slice none 0 0, .slice none 0 0, .bool false, .slice none 0 0, .slice none 0 0, .int .i64 0] ∧ wr.heap.size ≤ wd.heap.size) := Lib.hid ⟨HDR.out.alloc HDR.out.size _, Whole.new _ _ _, HDR.out.size⟩
         generalize wd.alloc (Obj.cells #[.int .i64 0, .int .i64 0, .string ⟨#[]⟩, .int .i64 0, .slice none 0 0, .slice none 0 0, .slice none 0 0, .bool false, .slice none 0 0, .slice none 0 0, .int .i64 0] 44) = w9 at *
         generalize wd.heap.size = g9 at *
         refine hK.out _ _ HF9.out (fun hHeld' => ?_)
         clear hK KK hHeld
         have hHeld := hHeld'
         clear hHeld'
         try simp only [Act.put]
         refine wpAnyH_ready (rs := [8]) (by as_aux_lemma => kernel_rfl) (by simp) ?_
         refine (AllReadyH.cons (i := 8) rfl (fun KK hK => ?_) AllReadyH.nil)
         go_simp
         refine (HCALL.out _ HF9.out).mono ?_
         rintro e w8 ⟨M', vC', vE', vR', vY', rfl, hb8, hh8⟩
         have HF8 : Hid (Fix4 w w8 b D K Y Z) := Lib.hid (HF9.out.under hb8)
         have HB8 : Hid (Below wr.heap.size wr w8) := Lib.hid (HB9.out.1.trans (hb8.mono HB9.out.1.size))
         have HW8 : Hid (Whole w8 g9 44 #[.int .i64 0, .int .i64 0, .string ⟨#[]⟩, .int .i64 0, .slice none 0 0, .slice none 0 0, .slice none 0 0, .bool false, .slice none 0 0, .slice none 0 0, .int .i64 0]) := Lib.hid (HB9.out.2.1.under hb8)
         have HH8 : Hid (Held w8 (fun k => (b ≤ k ∧ k < wr.heap.size) ∨ k = g9) (fun W => MediaV W W.heap.size M' (mediaA d.bundle c key m) vC' vE' vR' (.slice none 0 0) vY')) := Lib.hid (hh8.mono fun j hj => by have h1 := HB9.out.1.size; have h2 := HB9.out.2.1.lt; have h3 := HB9.out.2.2; have h4 := HWL.out; rcases hj with hj | hj <;> (left; omega))
         clear hb8 hh8
         refine hK.out _ _ HF8.out (fun hHeld' => ?_)
         clear hK KK hHeld
         have hHeld := hHeld'
         clear hHeld'
         try simp only [Act.put]
         refine wpAnyH_ready (rs := [10]) (by as_aux_lemma => kernel_rfl) (by simp) ?_
         refine (AllReadyH.cons (i := 10) rfl (fun KK hK => ?_) AllReadyH.nil)
         have hhld : Held w8 (fun k => (b ≤ k ∧ k < wr.heap.size) ∨ k = g9) (fun W => MediaV W W.heap.size M' (mediaA d.bundle c key m) vC' vE' vR' (.slice none 0 0) vY') := HH8.out
         have HMV := Lib.hid (hhld _ (Only.refl _ _))
         have HFN : Hid (Whole (w8.setRow g9 M') g9 44 M' ∧ Below wr.heap.size wr (w8.setRow g9 M') ∧ wr.heap.size ≤ g9 ∧ Held (w8.setRow g9 M') (fun k => (b ≤ k ∧ k < wr.heap.size) ∨ k = g9) (fun W => MediaV W W.heap.size M' (mediaA d.bundle c key m) vC' vE' vR' (.slice none 0 0) vY') ∧ Fix4 w (w8.setRow g9 M') b D K Y Z) := Lib.hid ⟨HW8.out.row M', below_row HB8.out HB9.out.2.2 M', HB9.out.2.2, hhld.step (only_row w8 g9 M') (fun j hj => .inl (.inr hj)) (fun j hj => .inl hj), HF8.out.only (only_row w8 g9 M') (fun j hj => by have h1 : j = g9 := hj; have := HB9.out.2.2; have := HWL.out; omega)⟩
         refine step_store_whole (cs := M') rfl 44 (.tmp 16) (.tmp 41) rfl rfl rfl HW8.out Tryz.sizeMedia HMV.out.size rfl (all_list HMV.out.one) ?_
         refine hK.out _ _ HFN.out.2.2.2.2 (fun hHeld' => ?_)
         clear hK KK hHeld hHeld'
         try simp only [Act.put]
         refine wpAnyH_done (by as_aux_lemma => kernel_rfl) ?_ _
         go_wp2
         go_meet
         exact ⟨_, _, _, _, _, _, rfl, HFN.out.1, HFN.out.2.1, HFN.out.2.2.1, HFN.out.2.2.2.1⟩
      case rest =>
       obtain ⟨g, M', vC', vE', vR', vY', rfl, hwg, hbc, hge, hhd⟩ := hcut
       clear hwd
       generalize wc = wa at *
       have hfm : mediaA d.bundle c key m = f m := congrFun HFE.out m
       obtain ⟨x, hx⟩ : ∃ x, f m = x := ⟨_, rfl⟩
       rw [hfm, hx] at hhd
       rw [hx] at HNX
       have hmv : MediaV wa wa.heap.size M' x vC' vE' vR' (.slice none 0 0) vY' := hhd _ (Only.refl _ _)
       obtain ⟨a1, k1, hv1, -⟩ := Rows.form hmv.codecs
       obtain ⟨a2, k2, hv2, -⟩ := Rows.form hmv.exts
       obtain ⟨a3, k3, hv3, -⟩ := Rows.form hmv.rids
       obtain ⟨a4, k4, hv4, -⟩ := Rows.form hmv.crypto
       obtain ⟨n1, hn1⟩ : ∃ n, x.codecs.length = n := ⟨_, rfl⟩
       obtain ⟨n2, hn2⟩ : ∃ n, x.exts.length = n := ⟨_, rfl⟩
       obtain ⟨n3, hn3⟩ : ∃ n, x.rids.length = n := ⟨_, rfl⟩
       obtain ⟨n4, hn4⟩ : ∃ n, x.crypto.length = n := ⟨_, rfl⟩
       rw [hn1] at hv1
       rw [hn2] at hv2
       rw [hn3] at hv3
       rw [hn4] at hv4
       subst hv1 hv2 hv3 hv4
       clear hn1 hn2 hn3 hn4
       obtain ⟨mid, hmid⟩ : ∃ s, x.mid = s := ⟨_, rfl⟩
       obtain ⟨po, hpo⟩ : ∃ s, x.port = s := ⟨_, rfl⟩
       obtain ⟨ki, hki⟩ : ∃ s, x.kind = s := ⟨_, rfl⟩
       obtain ⟨di, hdi⟩ : ∃ s, x.dir = s := ⟨_, rfl⟩
       obtain ⟨se, hse⟩ : ∃ s, x.sending = s := ⟨_, rfl⟩
       obtain ⟨sc, hsc⟩ : ∃ s, x.sctp = s := ⟨_, rfl⟩
       have hM' := hmv.form
       rw [hmid, hpo, hki, hdi, hse, hsc] at hM'
       subst hM'
       have HX := Lib.hid (And.intro hpo hmid)
       clear hpo hmid hki hdi hse hsc
       have HMV := Lib.hid hmv
       have HHD := Lib.hid (And.intro hwg (And.intro hbc (And.intro hge hhd)))
       obtain ⟨ms, hms⟩ : ∃ l, (d.media.take k).map f = l := ⟨_, rfl⟩
       have hmsl : ms.length = k := by rw [← hms, List.length_map, List.length_take, HL.out.1]; omega
       have HTM := HT.out.2.2
       rw [hms] at HTM HNX
       have HTM := Lib.hid HTM
       obtain ⟨Ab, kb, hub, -⟩ := Own.form HTM.out.ownB
       obtain ⟨lb, hlb⟩ : ∃ l, ((takenMids ms).map tcell).length = l := ⟨_, rfl⟩
       have hlbk : lb ≤ k := by
        rw [← hlb, List.length_map]
        unfold takenMids
        rw [List.length_map, ← hmsl]
        exact List.length_filter_le _ _
       rw [hlb] at hub
       obtain ⟨Am, km, hum, -⟩ := Own.form HTM.out.ownM
       have hrl : rows.length = k := by rw [HTM.out.len, hmsl]
       rw [hrl] at hum
       subst hub
       subst hum
       have hfew := HZ.out.1.few
       rw [HL.out.1] at hfew
       have hO : Whole wa gO 26 #[.int .u64 id, .int .u64 ver, .slice Ab lb kb, .string name, .string pass, .slice Am k km] := HT.out.2.1.under hbc
       have HO := Lib.hid hO
       have HOB := Lib.hid (HTM.out.ownB.under hbc)
       have HOM := Lib.hid (HTM.out.ownM.under hbc)
       have HLN := Lib.hid (And.intro hlb (And.intro hmsl (And.intro hrl hms)))
       have HFX := Lib.hid (HT.out.1.under hbc)
       have HBL : Hid (∀ j, (Value.slice Ab lb kb).ownBlock = some j → b + 4 ≤ j ∧ j < wr.heap.size) := Lib.hid fun j hj => HTM.out.ownB.lt hj
       have HML2 : Hid (∀ j, (Value.slice Am k km).ownBlock = some j → b + 4 ≤ j ∧ j < wr.heap.size) := Lib.hid fun j hj => HTM.out.ownM.lt hj
       have HGO : Hid (b + 4 ≤ gO ∧ gO < wr.heap.size) := Lib.hid ⟨H3.out.2.2, HT.out.2.1.lt⟩
       have c1 := hwg.cell 1
       have c2 := hwg.cell 2
       have o2 := hO.cell 2
       have o5 := hO.cell 5
       clear hwg hbc hge hhd hmv hfm hx hlb hmsl hrl hms hO
       go_upto_if 44 with fail
       go_cut [] from 42 to 51 (fun wc => ∃ uB', Only (fun j => j = gO ∨ (Value.slice Ab lb kb).ownBlock = some j) wa wc ∧ Whole wc gO 26 #[.int .u64 id, .int .u64 ver, uB', .string name, .string pass, .slice Am k km] ∧ Own wc (b + 4) 9 1 uB' ((takenMids (ms ++ [x])).map tcell) ∧ (uB'.ownBlock = (Value.slice Ab lb kb).ownBlock ∨ ∃ g, uB'.ownBlock = some g ∧ wa.heap.size ≤ g))
       case first =>
        by_cases hp0 : po = 0
        · have htk : takenMids (ms ++ [x]) = takenMids ms := by
           unfold takenMids
           rw [List.filter_append]
           simp [tookT, HX.out.1, hp0]
          have HTK := Lib.hid htk
          clear htk
          go_wp2
          go_meet
          exact ⟨_, Only.refl _ _, HO.out, by rw [HTK.out]; exact HOB.out, .inl rfl⟩
        · have htk : takenMids (ms ++ [x]) = takenMids ms ++ [mid] := by
           unfold takenMids
           rw [List.filter_append]
           simp [tookT, HX.out.1, hp0, HX.out.2]
          have HTK := Lib.hid htk
          clear htk
          have HNA : Hid (Own (wa.alloc (.cells #[.string mid] 9)) (b + 4) 9 1 (.slice Ab lb kb) ((takenMids ms).map tcell) ∧ Whole (wa.alloc (.cells #[.string mid] 9)) wa.heap.size 9 #[.string mid] ∧ b + 4 ≤ (wa.alloc (.cells #[.string mid] 9)).heap.size ∧ Whole (wa.alloc (.cells #[.string mid] 9)) gO 26 #[.int .u64 id, .int .u64 ver, .slice Ab lb kb, .string name, .string pass, .slice Am k km]) := Lib.hid ⟨HOB.out.alloc _, Whole.new _ _ _, by rw [World.size_alloc]; have := HFX.out.le; omega, HO.out.alloc _⟩
          go_wp2_with (at_builtin; go_loud (refine wpList_appendE (r := [.string mid]) rfl (.tmp 46) (.tmp 49) rfl Tryz.underlying23 infoStr9 rfl (Nat.zero_lt_succ _) rfl HNA.out.1 rfl HNA.out.2.1 rfl (fun u hu => by simp at hu; subst hu; rfl) (by rw [HLN.out.1]; omega) (by rw [HLN.out.1]; omega) HNA.out.2.2.1 ?_; intro v8 w8 ho8 hg8 hn8; obtain ⟨A8, k8, hv8, -⟩ := Own.form ho8; generalize List.length _ = l8 at hv8; subst hv8; have H8 : Hid (Own w8 (b + 4) 9 1 (.slice A8 l8 k8) ((takenMids ms).map tcell ++ [[.string mid]]) ∧ (wa.alloc (.cells #[.string mid] 9)).grownBy w8 (Value.slice Ab lb kb).ownBlock ∧ ((Value.slice A8 l8 k8).ownBlock = (Value.slice Ab lb kb).ownBlock ∨ (Value.slice A8 l8 k8).ownBlock = some (wa.alloc (.cells #[.string mid] 9)).heap.size) ∧ Whole w8 gO 26 #[.int .u64 id, .int .u64 ver, .slice Ab lb kb, .string name, .string pass, .slice Am k km]) := Lib.hid ⟨ho8, hg8, hn8, HNA.out.2.2.2.grown hg8 (fun e => (HNA.out.1.apart HNA.out.2.2.2 (by decide)) e.symm)⟩; have c8 : w8.cell? ⟨gO, 2, none⟩ = some (.slice Ab lb kb) := H8.out.2.2.2.cell 2; have f8 := H8.out.2.2.2.frz 2; clear ho8 hg8 hn8))
          go_meet
          refine ⟨.slice A8 l8 k8, (((Only.refl (fun j => j = gO ∨ (Value.slice Ab lb kb).ownBlock = some j) wa).alloc (.cells #[.string mid] 9)).grown H8.out.2.1 (fun j hj => .inl (.inr hj))).setCell (p := ⟨gO, 2, none⟩) (.inl (.inl rfl)) _, H8.out.2.2.2.set 2 _, ?_, H8.out.2.2.1.imp (fun e => e) fun e => ⟨_, e, by rw [World.size_alloc]; omega⟩⟩
          rw [HTK.out, List.map_append]
          exact Own.far (p := ⟨gO, 2, none⟩) H8.out.1 (H8.out.1.apart H8.out.2.2.2 (by decide)) _
       case rest =>
        obtain ⟨uB', hon2, hO2, hB2, nB2⟩ := hcut
        obtain ⟨Bb, kb2, hub2, -⟩ := Own.form hB2
        obtain ⟨lb2, hlb2⟩ : ∃ l, ((takenMids (ms ++ [x])).map tcell).length = l := ⟨_, rfl⟩
        rw [hlb2] at hub2
        subst hub2
        have hg2 : Whole wc g 44 #[.int .i64 ki, .int .i64 po, .string mid, .int .i64 di, .slice a1 n1 k1, .slice a2 n2 k2, .slice a3 n3 k3, .bool se, .slice none 0 0, .slice a4 n4 k4, .int .i64 sc] := HHD.out.1.only hon2 (by
         have h1 := HHD.out.2.2.1
         have h2 := HGO.out.2
         rintro (h | h)
         · omega
         · have := (HBL.out g h).2; omega)
        have hM2 : Own wc (b + 4) 44 11 (.slice Am k km) rows := HOM.out.keep fun g' cs' hg' hw => hw.only hon2 (by
         rintro (h | h)
         · exact HOM.out.apart HO.out (by decide) (by rw [hg', h])
         · rcases HOM.out.apart2 HOB.out (by decide) with e | e
           · rw [e] at hg'; cases hg'
           · exact e (by rw [hg', h]))
        have HNA : Hid (Own (wc.alloc (.cells #[.int .i64 ki, .int .i64 po, .string mid, .int .i64 di, .slice a1 n1 k1, .slice a2 n2 k2, .slice a3 n3 k3, .bool se, .slice none 0 0, .slice a4 n4 k4, .int .i64 sc] 44)) (b + 4) 44 11 (.slice Am k km) rows ∧ Whole (wc.alloc (.cells #[.int .i64 ki, .int .i64 po, .string mid, .int .i64 di, .slice a1 n1 k1, .slice a2 n2 k2, .slice a3 n3 k3, .bool se, .slice none 0 0, .slice a4 n4 k4, .int .i64 sc] 44)) wc.heap.size 44 #[.int .i64 ki, .int .i64 po, .string mid, .int .i64 di, .slice a1 n1 k1, .slice a2 n2 k2, .slice a3 n3 k3, .bool se, .slice none 0 0, .slice a4 n4 k4, .int .i64 sc] ∧ b + 4 ≤ (wc.alloc (.cells #[.int .i64 ki, .int .i64 po, .string mid, .int .i64 di, .slice a1 n1 k1, .slice a2 n2 k2, .slice a3 n3 k3, .bool se, .slice none 0 0, .slice a4 n4 k4, .int .i64 sc] 44)).heap.size ∧ Whole (wc.alloc (.cells #[.int .i64 ki, .int .i64 po, .string mid, .int .i64 di, .slice a1 n1 k1, .slice a2 n2 k2, .slice a3 n3 k3, .bool se, .slice none 0 0, .slice a4 n4 k4, .int .i64 sc] 44)) gO 26 #[.int .u64 id, .int .u64 ver, .slice Bb lb2 kb2, .string name, .string pass, .slice Am k km]) := Lib.hid ⟨hM2.alloc _, Whole.new _ _ _, by rw [World.size_alloc]; have := HFX.out.le; have := hon2.size; omega, hO2.alloc _⟩
        have q5 := hO2.cell 5
        have H2 := Lib.hid (And.intro hon2 (And.intro hO2 (And.intro hB2 (And.intro nB2 hg2))))
        have HSZ : Hid (wc.heap.size = wc.heap.size) := Lib.hid rfl
        clear hon2 hO2 hB2 nB2 hg2 hM2 hlb2 c1 c2 o2 o5
        go_wp2_with (first | ((with_reducible refine wpList_load_all ?_ 44 (.tmp 16) ?_ H2.out.2.2.2.2 ?_ Tryz.sizeMedia ?_ Tryz.underlying44 rfl ?_); (with_reducible rfl); (with_reducible rfl); rfl; rfl) | (at_builtin; go_must (refine wpList_appendE (r := [.int .i64 ki, .int .i64 po, .string mid, .int .i64 di, .slice a1 n1 k1, .slice a2 n2 k2, .slice a3 n3 k3, .bool se, .slice none 0 0, .slice a4 n4 k4, .int .i64 sc]) rfl (.tmp 53) (.tmp 55) rfl Tryz.underlying24 infoMedia9 rfl (Nat.zero_lt_succ _) rfl HNA.out.1 rfl HNA.out.2.1 rfl (fun u hu => List.all_eq_true.1 HMV.out.one u hu) (by rw [HLN.out.2.2.1]; omega) (by rw [HLN.out.2.2.1]; omega) HNA.out.2.2.1 ?_); intro v8 w8 ho8 hg8 hn8; go_must (obtain ⟨A8, k8, hv8, -⟩ := Own.form ho8; have hr1 : (rows ++ [([.int .i64 ki, .int .i64 po, .string mid, .int .i64 di, .slice a1 n1 k1, .slice a2 n2 k2, .slice a3 n3 k3, .bool se, .slice none 0 0, .slice a4 n4 k4, .int .i64 sc] : List Value)]).length = k + 1 := (List.length_append.trans (congrArg (fun z => z + 1) HLN.out.2.2.1)); rw [hr1] at hv8; subst hv8; have H8 : Hid (Own w8 (b + 4) 44 11 (.slice A8 (k + 1) k8) (rows ++ [[.int .i64 ki, .int .i64 po, .string mid, .int .i64 di, .slice a1 n1 k1, .slice a2 n2 k2, .slice a3 n3 k3, .bool se, .slice none 0 0, .slice a4 n4 k4, .int .i64 sc]]) ∧ (wc.alloc (.cells #[.int .i64 ki, .int .i64 po, .string mid, .int .i64 di, .slice a1 n1 k1, .slice a2 n2 k2, .slice a3 n3 k3, .bool se, .slice none 0 0, .slice a4 n4 k4, .int .i64 sc] 44)).grownBy w8 (Value.slice Am k km).ownBlock ∧ ((Value.slice A8 (k + 1) k8).ownBlock = (Value.slice Am k km).ownBlock ∨ (Value.slice A8 (k + 1) k8).ownBlock = some (wc.alloc (.cells #[.int .i64 ki, .int .i64 po, .string mid, .int .i64 di, .slice a1 n1 k1, .slice a2 n2 k2, .slice a3 n3 k3, .bool se, .slice none 0 0, .slice a4 n4 k4, .int .i64 sc] 44)).heap.size) ∧ Whole w8 gO 26 #[.int .u64 id, .int .u64 ver, .slice Bb lb2 kb2, .string name, .string pass, .slice Am k km]) := Lib.hid ⟨ho8, hg8, hn8, HNA.out.2.2.2.grown hg8 (fun e => (HNA.out.1.apart HNA.out.2.2.2 (by decide)) e.symm)⟩; have c8 : w8.cell? ⟨gO, 5, none⟩ = some (.slice Am k km) := H8.out.2.2.2.cell 5; have f8 := H8.out.2.2.2.frz 5); clear ho8 hg8 hn8 hr1))
        have HU : Hid (Only (fun j => j = gO ∨ (Value.slice Ab lb kb).ownBlock = some j ∨ (Value.slice Am k km).ownBlock = some j) wa (w8.setCell ⟨gO, 5, none⟩ (.slice A8 (k + 1) k8))) := Lib.hid (((((H2.out.1.mono (fun j hj => hj.imp (fun e => e) .inl)).alloc (.cells #[.int .i64 ki, .int .i64 po, .string mid, .int .i64 di, .slice a1 n1 k1, .slice a2 n2 k2, .slice a3 n3 k3, .bool se, .slice none 0 0, .slice a4 n4 k4, .int .i64 sc] 44)).grown H8.out.2.1 (fun j hj => .inl (.inr (.inr hj))))).setCell (p := ⟨gO, 5, none⟩) (.inl (.inl rfl)) (.slice A8 (k + 1) k8))
        refine ⟨⟨_, _, _, ?_, rfl, rfl, rfl⟩, by simp [intOf]; omega⟩
        · have hle := H2.out.1.size
          have hwr := HHD.out.2.1.size
          have hon : Only (fun j => j = gO ∨ (Value.slice Ab lb kb).ownBlock = some j ∨ (Value.slice Am k km).ownBlock = some j ∨ wr.heap.size ≤ j) wr (w8.setCell ⟨gO, 5, none⟩ (.slice A8 (k + 1) k8)) :=
           ((Only.refl (fun j => j = gO ∨ (Value.slice Ab lb kb).ownBlock = some j ∨ (Value.slice Am k km).ownBlock = some j ∨ wr.heap.size ≤ j) wr).under HHD.out.2.1).next HU.out (fun j hj => by
             rcases hj with e | e | e
             · exact .inl (.inl e)
             · exact .inl (.inr (.inl e))
             · exact .inl (.inr (.inr (.inl e))))
          have nB : (Value.slice Bb lb2 kb2).ownBlock = (Value.slice Ab lb kb).ownBlock ∨ ∃ g, (Value.slice Bb lb2 kb2).ownBlock = some g ∧ wa.heap.size ≤ g := H2.out.2.2.2.1
          have nM' : (Value.slice A8 (k + 1) k8).ownBlock = (Value.slice Am k km).ownBlock ∨ ∃ g, (Value.slice A8 (k + 1) k8).ownBlock = some g ∧ wa.heap.size ≤ g := H8.out.2.2.1.imp (fun e => e) fun e => ⟨_, e, by rw [World.size_alloc]; omega⟩
          refine ⟨k + 1, by omega, by go_num, HFX.out.only HU.out (fun j hj => ?_), .slice Bb lb2 kb2, .slice A8 (k + 1) k8, H8.out.2.2.2.set 5 _, rows ++ [[.int .i64 ki, .int .i64 po, .string mid, .int .i64 di, .slice a1 n1 k1, .slice a2 n2 k2, .slice a3 n3 k3, .bool se, .slice none 0 0, .slice a4 n4 k4, .int .i64 sc]], ?_⟩
          · rcases hj with rfl | hj | hj
            · exact HGO.out.1
            · exact (HBL.out j hj).1
            · exact (HML2.out j hj).1
          · rw [show List.take (k + 1) (List.map f d.media) = ms ++ [x] by rw [← HNX.out, List.map_take]]
            refine MkI.step (U := fun j => j = gO ∨ (Value.slice Ab lb kb).ownBlock = some j ∨ (Value.slice Am k km).ownBlock = some j ∨ wr.heap.size ≤ j) HTM.out hon (fun j hj => hj) ?_ (Own.far (p := ⟨gO, 5, none⟩) H8.out.1 (H8.out.1.apart H8.out.2.2.2 (by decide)) _) (nB.imp (fun e => e) fun ⟨g, e, h⟩ => ⟨g, e, by omega⟩) (nM'.imp (fun e => e) fun ⟨g, e, h⟩ => ⟨g, e, by omega⟩) ?_
            · refine Own.far (p := ⟨gO, 5, none⟩) ?_ ?_ _
              · refine ((H2.out.2.2.1.alloc (.cells #[.int .i64 ki, .int .i64 po, .string mid, .int .i64 di, .slice a1 n1 k1, .slice a2 n2 k2, .slice a3 n3 k3, .bool se, .slice none 0 0, .slice a4 n4 k4, .int .i64 sc] 44)).grown H8.out.2.1 ?_)
                exact (H2.out.2.2.1.alloc (.cells #[.int .i64 ki, .int .i64 po, .string mid, .int .i64 di, .slice a1 n1 k1, .slice a2 n2 k2, .slice a3 n3 k3, .bool se, .slice none 0 0, .slice a4 n4 k4, .int .i64 sc] 44)).apart2 HNA.out.1 (by decide)
              · exact H2.out.2.2.1.apart H2.out.2.1 (by decide)
            · have hh : Held wa (fun k => (b ≤ k ∧ k < wr.heap.size) ∨ k = g) (fun W => RowM W [.int .i64 ki, .int .i64 po, .string mid, .int .i64 di, .slice a1 n1 k1, .slice a2 n2 k2, .slice a3 n3 k3, .bool se, .slice none 0 0, .slice a4 n4 k4, .int .i64 sc] x) := Held.imp HHD.out.2.2.2 fun W hW => ⟨_, _, _, _, hW⟩
              refine hh.step HU.out (fun j hj => ?_) (fun j hj => ?_)
              · have h0 := HWL.out
                rcases hj with rfl | hj | hj
                · exact .inl (.inl ⟨by have := HGO.out.1; omega, HGO.out.2⟩)
                · have := HBL.out j hj; exact .inl (.inl ⟨by omega, this.2⟩)
                · have := HML2.out j hj; exact .inl (.inl ⟨by omega, this.2⟩)
              · have h0 := HWL.out
                rcases hj with hj | rfl | hj | hj
                · exact .inl (.inl ⟨hj.1, by omega⟩)
                · exact .inl (.inl ⟨by have := HGO.out.1; omega, HGO.out.2⟩)
                · rcases nB with q | ⟨g', q, hg'⟩
                  · have := HBL.out j (by rw [← q]; exact hj); exact .inl (.inl ⟨by omega, this.2⟩)
                  · rw [q] at hj; obtain rfl := Option.some.inj hj; exact .inr hg'
                · rcases nM' with q | ⟨g', q, hg'⟩
                  · have := HML2.out j (by rw [← q]; exact hj); exact .inl (.inl ⟨by omega, this.2⟩)
                  · rw [q] at hj; obtain rfl := Option.some.inj hj; exact .inr hg'
    · obtain rfl : k = nM := by omega
      obtain ⟨Ab, kb, hub, -⟩ := Own.form HT.out.2.2.ownB
      generalize List.length _ = lb at hub
      obtain ⟨Am, km, hum, -⟩ := Own.form HT.out.2.2.ownM
      generalize List.length _ = lm at hum
      subst hub
      subst hum
      obtain ⟨dd, hdd⟩ : ∃ x, descA d c id name pass key = x := ⟨_, rfl⟩
      have hms : (d.media.take k).map f = d.media.map f := by rw [List.take_of_length_le (by rw [HL.out.1]; exact Nat.le_refl _)]
      have h1 : dd.bundle = takenMids ((d.media.take k).map f) := by rw [← hdd, hms, ← HFE.out]; rfl
      have h2 : dd.media = (d.media.take k).map f := by rw [← hdd, hms, ← HFE.out]; rfl
      have h3 : dd.id = id ∧ dd.ver = ver ∧ dd.name = name ∧ dd.pass = pass := by rw [← hdd, ← HL.out.2.2]; exact ⟨rfl, rfl, rfl, rfl⟩
      have hall := HT.out.2.2.all HT.out.2.1 dd h1 h2
      rw [h3.1, h3.2.1, h3.2.2.1, h3.2.2.2] at hall
      have hsd : SizD dd := by rw [← hdd]; exact sizD_made HZ.out.1 HZ.out.2.2.1 HZ.out.2.2.2.1 HZ.out.2.2.2.2.1 HZ.out.2.2.2.2.2
      have HALL := Lib.hid hall
      have HDD := Lib.hid hdd
      have HGR : Hid (Calls Tryz.prog 9 #[.agg #[.int .u64 id, .int .u64 ver, .slice Ab lb kb, .string name, .string pass, .slice Am lm km]] wr fun e w' => e = .returned (.bool (goodD dd)) ∧ Below wr.heap.size wr w') := Lib.hid (r8Good_any _ dd _ _ wr (hall _ (Only.refl _ _)) hsd)
      have HOD := Lib.hid (all_oneD id ver (.slice Ab lb kb) (.slice Am lm km) name pass rfl rfl)
      have hsz6 : (#[.int .u64 id, .int .u64 ver, .slice Ab lb kb, .string name, .string pass, .slice Am lm km] : Array Value).size = 6 := rfl
      obtain ⟨R, hR⟩ : ∃ R, (#[.int .u64 id, .int .u64 ver, .slice Ab lb kb, .string name, .string pass, .slice Am lm km] : Array Value) = R := ⟨_, rfl⟩
      have hwO := HT.out.2.1
      rw [hR] at HGR HOD hsz6 hwO
      simp only [hR] at HALL
      have HWO := Lib.hid hwO
      have HRE := Lib.hid hR
      clear hall hdd hms h1 h2 h3 hsd hwO hR
      go_upto_if 61 with (first | ((with_reducible refine wpList_load_all ?_ 26 (.tmp 14) ?_ HWO.out ?_ Tryz.sizeDesc ?_ Tryz.underlying26 rfl ?_); (with_reducible rfl); (with_reducible rfl); rfl; exact hsz6) | (go_at_call 9; (with_reducible refine HGR.out.mono ?_); rintro e w9 ⟨rfl, hb9⟩))
      have HF9 : Hid (Fix4 w w9 b D K Y Z) := Lib.hid (HT.out.1.under hb9)
      have HW9 := Lib.hid (HWO.out.under hb9)
      have HA9 : Hid (Held w9 (fun j => (b ≤ j ∧ j < b + 4) ∨ j = gO) (fun W => DescV W W.heap.size R dd (.slice Ab lb kb) (.slice Am lm km))) := Lib.hid (Held.under HALL.out hb9)
      clear hb9
      cases hgd : goodD dd with
      | false =>
        have hmay : mayA d c id name pass key = false := by unfold mayA; rw [HDD.out, hgd]; simp
        have HM := Lib.hid hmay
        clear hgd hmay
        go_wp2_with (refine wpList_store_whole (cs := #[.int .u64 0, .int .u64 0, .slice none 0 0, .string ⟨#[]⟩, .string ⟨#[]⟩, .slice none 0 0]) rfl 26 (.tmp 12) (.tmp 62) rfl rfl rfl HF9.out.z Tryz.sizeDesc rfl HZD.out.1 (all_oneD _ _ _ _ _ _ rfl rfl) ?_)
        refine bodyPost_ret (ret_struct2 rfl rfl (HF9.out.z.row #[.int .u64 0, .int .u64 0, .slice none 0 0, .string ⟨#[]⟩, .string ⟨#[]⟩, .slice none 0 0]) Tryz.underlying26 rfl Tryz.sizeDesc rfl) rfl ⟨?_, .inr ⟨HM.out, ?_⟩⟩
        · rw [HB.out]; exact below_row HF9.out.low (by omega) _
        · rfl
      | true =>
        have hmay : mayA d c id name pass key = true := by unfold mayA; rw [HDD.out, hgd, HGD.out]; rfl
        have HM := Lib.hid hmay
        clear hgd hmay
        go_wp2_with (first | ((with_reducible refine wpList_load_all ?_ 26 (.tmp 14) ?_ HW9.out ?_ Tryz.sizeDesc ?_ Tryz.underlying26 rfl ?_); (with_reducible rfl); (with_reducible rfl); rfl; exact hsz6) | (refine wpList_store_whole rfl 26 (.tmp 12) (.tmp 63) rfl rfl rfl HF9.out.z Tryz.sizeDesc hsz6 HZD.out.1 HOD.out ?_))
        refine bodyPost_ret (ret_struct2 rfl rfl (HF9.out.z.row R) Tryz.underlying26 rfl Tryz.sizeDesc hsz6) rfl ⟨?_, .inl ⟨HM.out, R, .slice Ab lb kb, .slice Am lm km, rfl, ?_⟩⟩
        · rw [HB.out]; exact below_row HF9.out.low (by omega) _
        · rw [HDD.out]
          exact HA9.out _ ((only_row w9 (b + 3) R).mono fun j hj => .inl ⟨by have h1 : j = b + 3 := hj; omega, by have h1 : j = b + 3 := hj; omega⟩)
end Go.Proofs.YtibpnjakimobmaaGreat
