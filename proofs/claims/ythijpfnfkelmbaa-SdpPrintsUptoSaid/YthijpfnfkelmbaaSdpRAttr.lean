/- The document's attr. -/
import Derived.Test.YthijpfnfkelmbaaSdpRLines
namespace Go.Proofs.Ythijpfnfkelmbaa
open Go.RowKit
set_option linter.unusedVariables false
set_option linter.unusedSimpArgs false

theorem cut1_at {l : Tx} {k : Nat} (c0 : UInt8) (h : ∀ c ∈ l.take k, c ≠ c0) (hk : l[k]? = some c0) : cutS [c0] l = (l.take k, l.drop (k + 1), true) := by
  have := cutS_clean (t := []) (l.take k) (l.drop (k + 1)) h
  have e : l.take k ++ [c0] ++ l.drop (k + 1) = l := by
    have hl : k < l.length := (List.getElem?_eq_some_iff.1 hk).1
    have h2 : l[k] = c0 := (List.getElem?_eq_some_iff.1 hk).2
    have : l.drop k = c0 :: l.drop (k + 1) := by rw [List.drop_eq_getElem_cons hl, h2]
    rw [List.append_assoc, List.singleton_append, ← this, List.take_append_drop]
  rwa [e] at this
theorem Try.sizeRsAttr : (Try.prog.info? 54).map (·.size) = some 2 := by kernel_rfl
def AttrE (w : World) (l : Tx) (e : Ending) (w' : World) : Prop := ∃ (a : AttrS) (b : Bool), e = .returned (.tuple #[.agg #[.string a.name, .string a.value], .bool b]) ∧ AttrO l a b ∧ Below w.heap.size w w'
theorem step_storeS {ops : Array Oper} {o : Oper} {a : Act} {w : World} {K : Act → World → Prop} {Q : Exit → Act → World → Prop} {E : Prop} {g n : Nat} {t : TypeId} {old : Array Value} (cs : Array Value) (hgd : o.guard = none) (ty : TypeId) (x y : Operand) (ho : o.op = .store ty x y) (hx : a.eval x = .pointer (some ⟨g, 0, none⟩)) (hy : a.eval y = .agg cs) (hg : Whole w g t old)
    (hi : (Try.prog.info? ty).map (·.size) = some n) (hn : cs.size = n) (hold : old.size = n) (h1 : cs.toList.all (·.oneCell') = true)
    (h : K (a.put o.dst undef) (w.setRow g cs)) : if Region.wanted o (yielded ops a.tmps) = true then Oper.wp Try.prog o a w K Q else E :=
  step_store_whole hgd ty x y ho hx hy hg hi hn hold (all_list h1) h
theorem same_flip {f : FuncId} {args : Array Value} {w : World} {v : Value} (h : Calls Try.prog f args w fun e w' => e = .returned v ∧ w = w') : Calls Try.prog f args w fun e w' => e = .returned v ∧ w' = w :=
  h.mono fun e w' ⟨h1, h2⟩ => ⟨h1, h2.symm⟩
set_option maxHeartbeats 3200000 in
set_option maxRecDepth 100000 in
theorem rattr_any (s : ByteArray) (w : World) (hs : s.size ≤ 8192) : Calls Try.prog 18 #[.string s] w (AttrE w (tx s)) := by
  obtain ⟨N, hN⟩ : ∃ N, w.heap.size = N := ⟨_, rfl⟩
  have HN := Lib.hid hN
  have hw0 := Whole.new w 54 #[.string ⟨#[]⟩, .string ⟨#[]⟩]
  have hb0 : Below w.heap.size w (w.alloc (.cells #[.string ⟨#[]⟩, .string ⟨#[]⟩] 54)) := (Below.refl _ w).alloc (Nat.le_refl _) _
  have hz0 : (w.alloc (.cells #[.string ⟨#[]⟩, .string ⟨#[]⟩] 54)).heap.size = w.heap.size + 1 := World.size_alloc ..
  rw [hN] at hw0 hb0 hz0
  have H0 := Lib.hid (And.intro hw0 (And.intro hb0 hz0))
  clear hw0 hb0 hz0
  go_enter Try.func18, Try.ntmps18
  go_upto_region 1 with fail
  generalize w.alloc (.cells #[.string ⟨#[]⟩, .string ⟨#[]⟩] 54) = w0 at *
  clear hN
  go_wp2
  go_loop [4] (fun i => ∃ k : Nat, k ≤ s.size ∧ i = .int .i64 k ∧ ∀ c ∈ (tx s).take k, c ≠ 58) (fun i => s.size - (intOf i).toNat)
  case atStart => exact ⟨0, Nat.zero_le _, rfl, fun c hc => by simp at hc⟩
  case round =>
    obtain ⟨k, hk, rfl, hno⟩ := hrel
    have HNO := Lib.hid hno
    clear hno
    by_cases hlt : k < s.size
    · have hkl : k < (tx s).length := by rw [tx_length]; exact hlt
      have HK : Hid ((tx s)[k]? = some s[k]) := Lib.hid (by rw [List.getElem?_eq_getElem hkl]; rfl)
      by_cases hc : s[k] = 58
      · have hz : ((s[k]).toNat : Int) = 58 := by rw [hc]; rfl
        have hz1 : (((s[k]).toNat : Int) == 58) = true := by rw [hz]; rfl
        have HC : Hid (cutS [58] (tx s) = (tx (s.extract 0 k), tx (s.extract (k + 1) s.size), true)) := Lib.hid (by
          have := cut1_at 58 HNO.out (by rw [HK.out, hc])
          rw [this, tx_extract, tx_extract, List.take_of_length_le (l := (tx s).drop (k + 1)) (by rw [List.length_drop, tx_length]; omega)]
          simp)
        have HZE : Hid ((s.extract 0 k).size ≤ s.size ∧ (s.extract (k + 1) s.size).size ≤ s.size) := Lib.hid (by simp; omega)
        have e1 : IntKind.i64.wrap ((k : Int) + 1) = (k : Int) + 1 := IntWalk.i64_in _ (by omega)
        have hlt1 : (k : Int) < (s.size : Int) := by omega
        obtain ⟨nm, hnm⟩ : ∃ x, s.extract 0 k = x := ⟨_, rfl⟩
        obtain ⟨vl, hvl⟩ : ∃ x, s.extract (k + 1) s.size = x := ⟨_, rfl⟩
        rw [hnm, hvl] at HC HZE
        have HS := Lib.hid hs
        obtain ⟨bw, hbw⟩ : ∃ b, wordP 1 32 (tx nm) = b := ⟨_, rfl⟩
        obtain ⟨bv, hbv⟩ : ∃ b, valP (tx vl) = b := ⟨_, rfl⟩
        have HW := Lib.hid (fun W => r1Word_32 nm W (by have := HZE.out.1; have := HS.out; unfold maxLen; omega))
        have HV := Lib.hid (fun W => r6Value_200 vl W (by have := HZE.out.2; have := HS.out; unfold maxLen; omega))
        rw [hbw] at HW
        rw [hbv] at HV
        have HR : Hid (AttrO (tx s) ⟨nm, vl⟩ (bw && bv)) := Lib.hid (by
          unfold AttrO attrP
          rw [HC.out]
          simp only [hbw, hbv]
          cases bw <;> cases bv <;> simp)
        clear hc hbw hbv
        have hh := H0.out
        go_upto_region 7 with fail
        clear hnm hvl hh e1
        have HB1 : Hid (Whole (w0.alloc (.cells #[.string nm, .string vl] 54)) N 54 #[.string ⟨#[]⟩, .string ⟨#[]⟩] ∧ Below N w (w0.alloc (.cells #[.string nm, .string vl] 54))) := Lib.hid ⟨H0.out.1.alloc _, H0.out.2.1.alloc (Nat.le_of_lt H0.out.1.lt) _⟩
        have q0 := (Whole.new w0 54 #[.string nm, .string vl]).cell 0
        have q1 := (Whole.new w0 54 #[.string nm, .string vl]).cell 1
        have HW1 := Whole.new w0 54 #[.string nm, .string vl]
        rw [H0.out.2.2] at q0 q1 HW1
        generalize w0.alloc (.cells #[.string nm, .string vl] 54) = w1 at *
        have q0 : w1.cell? ⟨N + 1, 0, none⟩ = some (.string nm) := q0
        have q1 : w1.cell? ⟨N + 1, 1, none⟩ = some (.string vl) := q1
        have HS1 := Lib.hid HW1
        clear HW1
        have HKP : Hid (w1.drew.cell? ⟨N + 1, 0, none⟩ = some (.string nm) ∧ w1.drew.cell? ⟨N + 1, 1, none⟩ = some (.string vl)) := Lib.hid ⟨q0, q1⟩
        have HKQ : Hid ((w1.drew.setRow N #[.string nm, .string vl]).cell? ⟨N + 1, 0, none⟩ = some (.string nm) ∧ (w1.drew.setRow N #[.string nm, .string vl]).cell? ⟨N + 1, 1, none⟩ = some (.string vl)) := Lib.hid ⟨(HS1.out.drew.farRow (by omega) _).cell 0, (HS1.out.drew.farRow (by omega) _).cell 1⟩
        have HG0 : Hid (∀ W : World, (W.cell? ⟨N + 1, 0, none⟩ = some (.string nm) ∧ W.cell? ⟨N + 1, 1, none⟩ = some (.string vl)) → W.cell? ⟨N + 1, 0, none⟩ = some (.string nm)) := Lib.hid fun W h => h.1
        have HG1 : Hid (∀ W : World, (W.cell? ⟨N + 1, 0, none⟩ = some (.string nm) ∧ W.cell? ⟨N + 1, 1, none⟩ = some (.string vl)) → W.cell? ⟨N + 1, 1, none⟩ = some (.string vl)) := Lib.hid fun W h => h.2
        clear q0 q1
        refine wp_region_held_drew (S := (fun W => W.cell? ⟨N + 1, 0, none⟩ = some (.string nm) ∧ W.cell? ⟨N + 1, 1, none⟩ = some (.string vl))) (by kernel_rfl) HKP.out (fun hHeld => ?_)
        cases bw with
        | false =>
          refine wpAnyH_take (i := 0) (v := _) rfl (by as_aux_lemma => kernel_rfl) (by as_aux_lemma => kernel_rfl) (by as_aux_lemma => kernel_rfl) (fun _ _ _ h => h) (Or.inl ⟨by rfl, fun w h => by have e0 := HG0.out w h; have e1 := HG1.out w h; clear h; go_simp; (try with_reducible rfl)⟩) (by assumption) ?_
          simp only [Act.put, List.getElem_toArray, List.getElem_cons_succ, List.getElem_cons_zero, List.setIfInBounds_toArray, List.set_cons_succ, List.set_cons_zero]
          refine wpAnyH_take (i := 1) (v := _) rfl (by as_aux_lemma => kernel_rfl) (by as_aux_lemma => kernel_rfl) (by as_aux_lemma => kernel_rfl) (fun _ _ _ h => h) (Or.inl ⟨by rfl, fun w h => by have e0 := HG0.out w h; have e1 := HG1.out w h; clear h; go_simp; (try with_reducible rfl)⟩) (by assumption) ?_
          simp only [Act.put, List.getElem_toArray, List.getElem_cons_succ, List.getElem_cons_zero, List.setIfInBounds_toArray, List.set_cons_succ, List.set_cons_zero]
          refine wpAnyH_take (i := 2) (v := _) rfl (by as_aux_lemma => kernel_rfl) (by as_aux_lemma => kernel_rfl) (by as_aux_lemma => kernel_rfl) (fun _ _ _ h => h) (Or.inl ⟨by rfl, fun w h => by have e0 := HG0.out w h; have e1 := HG1.out w h; clear h; go_simp; (try with_reducible rfl)⟩) (by assumption) ?_
          simp only [Act.put, List.getElem_toArray, List.getElem_cons_succ, List.getElem_cons_zero, List.setIfInBounds_toArray, List.set_cons_succ, List.set_cons_zero]
          refine wpAnyH_ready (rs := [3]) (by as_aux_lemma => kernel_rfl) (by simp) ?_
          refine AllReadyH.cons (i := 3) rfl (fun K hK => ?_) AllReadyH.nil
          go_simp
          refine (HW.out _).mono ?_
          rintro e w' ⟨rfl, rfl⟩
          refine hK.out _ _ HKP.out (fun hHeld => ?_)
          clear hK K
          refine wpAnyH_take (i := 4) (v := _) rfl (by as_aux_lemma => kernel_rfl) (by as_aux_lemma => kernel_rfl) (by as_aux_lemma => kernel_rfl) (fun _ _ _ h => h) (Or.inl ⟨by rfl, fun w h => by have e0 := HG0.out w h; have e1 := HG1.out w h; clear h; go_simp; (try with_reducible rfl)⟩) (by assumption) ?_
          simp only [Act.put, List.getElem_toArray, List.getElem_cons_succ, List.getElem_cons_zero, List.setIfInBounds_toArray, List.set_cons_succ, List.set_cons_zero]
          refine wpAnyH_take (i := 5) (v := _) rfl (by as_aux_lemma => kernel_rfl) (by as_aux_lemma => kernel_rfl) (by as_aux_lemma => kernel_rfl) (fun _ _ _ h => h) (Or.inr ⟨by rfl, rfl⟩) (by assumption) ?_
          simp only [Act.put, List.getElem_toArray, List.getElem_cons_succ, List.getElem_cons_zero, List.setIfInBounds_toArray, List.set_cons_succ, List.set_cons_zero]
          refine wpAnyH_take (i := 6) (v := _) rfl (by as_aux_lemma => kernel_rfl) (by as_aux_lemma => kernel_rfl) (by as_aux_lemma => kernel_rfl) (fun _ _ _ h => h) (Or.inr ⟨by rfl, rfl⟩) (by assumption) ?_
          simp only [Act.put, List.getElem_toArray, List.getElem_cons_succ, List.getElem_cons_zero, List.setIfInBounds_toArray, List.set_cons_succ, List.set_cons_zero]
          refine wpAnyH_take (i := 7) (v := _) rfl (by as_aux_lemma => kernel_rfl) (by as_aux_lemma => kernel_rfl) (by as_aux_lemma => kernel_rfl) (fun _ _ _ h => h) (Or.inr ⟨by rfl, rfl⟩) (by assumption) ?_
          simp only [Act.put, List.getElem_toArray, List.getElem_cons_succ, List.getElem_cons_zero, List.setIfInBounds_toArray, List.set_cons_succ, List.set_cons_zero]
          refine wpAnyH_take (i := 8) (v := _) rfl (by as_aux_lemma => kernel_rfl) (by as_aux_lemma => kernel_rfl) (by as_aux_lemma => kernel_rfl) (fun _ _ _ h => h) (Or.inl ⟨by rfl, fun w h => by have e0 := HG0.out w h; have e1 := HG1.out w h; clear h; go_simp; (try with_reducible rfl)⟩) (by assumption) ?_
          simp only [Act.put, List.getElem_toArray, List.getElem_cons_succ, List.getElem_cons_zero, List.setIfInBounds_toArray, List.set_cons_succ, List.set_cons_zero]
          refine wpAnyH_ready (rs := [9]) (by as_aux_lemma => kernel_rfl) (by simp) ?_
          refine AllReadyH.cons (i := 9) rfl (fun K hK => ?_) AllReadyH.nil
          refine step_storeS #[.string nm, .string vl] rfl 54 (.tmp 2) (.tmp 31) rfl rfl rfl HB1.out.1.drew Try.sizeRsAttr rfl rfl rfl ?_
          refine hK.out _ _ HKQ.out (fun hHeld => ?_)
          clear hK K
          try simp only [Act.put]
          refine wpAnyH_take (i := 10) (v := _) rfl (by as_aux_lemma => kernel_rfl) (by as_aux_lemma => kernel_rfl) (by as_aux_lemma => kernel_rfl) (fun _ _ _ h => h) (Or.inl ⟨by rfl, fun w h => by have e0 := HG0.out w h; have e1 := HG1.out w h; clear h; go_simp; (try with_reducible rfl)⟩) (by assumption) ?_
          simp only [Act.put, List.getElem_toArray, List.getElem_cons_succ, List.getElem_cons_zero, List.setIfInBounds_toArray, List.set_cons_succ, List.set_cons_zero]
          refine wpAnyH_done (by as_aux_lemma => kernel_rfl) ?_ _
          go_wp2
          (try simp only [Exit.inBlock, Exit.then])
          refine bodyPost_ret (ret_struct2 rfl rfl (HB1.out.1.drew.row _) Try.underlying54 rfl Try.sizeRsAttr rfl) rfl ?_
          exact ⟨⟨nm, vl⟩, _, rfl, HR.out, by rw [HN.out]; exact below_row HB1.out.2.drew (Nat.le_refl _) _⟩
        | true =>
          refine wpAnyH_take (i := 0) (v := _) rfl (by as_aux_lemma => kernel_rfl) (by as_aux_lemma => kernel_rfl) (by as_aux_lemma => kernel_rfl) (fun _ _ _ h => h) (Or.inl ⟨by rfl, fun w h => by have e0 := HG0.out w h; have e1 := HG1.out w h; clear h; go_simp; (try with_reducible rfl)⟩) (by assumption) ?_
          simp only [Act.put, List.getElem_toArray, List.getElem_cons_succ, List.getElem_cons_zero, List.setIfInBounds_toArray, List.set_cons_succ, List.set_cons_zero]
          refine wpAnyH_take (i := 1) (v := _) rfl (by as_aux_lemma => kernel_rfl) (by as_aux_lemma => kernel_rfl) (by as_aux_lemma => kernel_rfl) (fun _ _ _ h => h) (Or.inl ⟨by rfl, fun w h => by have e0 := HG0.out w h; have e1 := HG1.out w h; clear h; go_simp; (try with_reducible rfl)⟩) (by assumption) ?_
          simp only [Act.put, List.getElem_toArray, List.getElem_cons_succ, List.getElem_cons_zero, List.setIfInBounds_toArray, List.set_cons_succ, List.set_cons_zero]
          refine wpAnyH_take (i := 2) (v := _) rfl (by as_aux_lemma => kernel_rfl) (by as_aux_lemma => kernel_rfl) (by as_aux_lemma => kernel_rfl) (fun _ _ _ h => h) (Or.inl ⟨by rfl, fun w h => by have e0 := HG0.out w h; have e1 := HG1.out w h; clear h; go_simp; (try with_reducible rfl)⟩) (by assumption) ?_
          simp only [Act.put, List.getElem_toArray, List.getElem_cons_succ, List.getElem_cons_zero, List.setIfInBounds_toArray, List.set_cons_succ, List.set_cons_zero]
          refine wpAnyH_ready (rs := [3]) (by as_aux_lemma => kernel_rfl) (by simp) ?_
          refine AllReadyH.cons (i := 3) rfl (fun K hK => ?_) AllReadyH.nil
          go_simp
          refine (HW.out _).mono ?_
          rintro e w' ⟨rfl, rfl⟩
          refine hK.out _ _ HKP.out (fun hHeld => ?_)
          clear hK K
          refine wpAnyH_take (i := 4) (v := _) rfl (by as_aux_lemma => kernel_rfl) (by as_aux_lemma => kernel_rfl) (by as_aux_lemma => kernel_rfl) (fun _ _ _ h => h) (Or.inl ⟨by rfl, fun w h => by have e0 := HG0.out w h; have e1 := HG1.out w h; clear h; go_simp; (try with_reducible rfl)⟩) (by assumption) ?_
          simp only [Act.put, List.getElem_toArray, List.getElem_cons_succ, List.getElem_cons_zero, List.setIfInBounds_toArray, List.set_cons_succ, List.set_cons_zero]
          refine wpAnyH_take (i := 5) (v := _) rfl (by as_aux_lemma => kernel_rfl) (by as_aux_lemma => kernel_rfl) (by as_aux_lemma => kernel_rfl) (fun _ _ _ h => h) (Or.inl ⟨by rfl, fun w h => by have e0 := HG0.out w h; have e1 := HG1.out w h; clear h; go_simp; (try with_reducible rfl)⟩) (by assumption) ?_
          simp only [Act.put, List.getElem_toArray, List.getElem_cons_succ, List.getElem_cons_zero, List.setIfInBounds_toArray, List.set_cons_succ, List.set_cons_zero]
          refine wpAnyH_take (i := 6) (v := _) rfl (by as_aux_lemma => kernel_rfl) (by as_aux_lemma => kernel_rfl) (by as_aux_lemma => kernel_rfl) (fun _ _ _ h => h) (Or.inl ⟨by rfl, fun w h => by have e0 := HG0.out w h; have e1 := HG1.out w h; clear h; go_simp; (try with_reducible rfl)⟩) (by assumption) ?_
          simp only [Act.put, List.getElem_toArray, List.getElem_cons_succ, List.getElem_cons_zero, List.setIfInBounds_toArray, List.set_cons_succ, List.set_cons_zero]
          refine wpAnyH_ready (rs := [7]) (by as_aux_lemma => kernel_rfl) (by simp) ?_
          refine AllReadyH.cons (i := 7) rfl (fun K hK => ?_) AllReadyH.nil
          go_simp
          refine (HV.out _).mono ?_
          rintro e w' ⟨rfl, rfl⟩
          refine hK.out _ _ HKP.out (fun hHeld => ?_)
          clear hK K
          refine wpAnyH_take (i := 8) (v := _) rfl (by as_aux_lemma => kernel_rfl) (by as_aux_lemma => kernel_rfl) (by as_aux_lemma => kernel_rfl) (fun _ _ _ h => h) (Or.inl ⟨by rfl, fun w h => by have e0 := HG0.out w h; have e1 := HG1.out w h; clear h; go_simp; (try with_reducible rfl)⟩) (by assumption) ?_
          simp only [Act.put, List.getElem_toArray, List.getElem_cons_succ, List.getElem_cons_zero, List.setIfInBounds_toArray, List.set_cons_succ, List.set_cons_zero]
          refine wpAnyH_ready (rs := [9]) (by as_aux_lemma => kernel_rfl) (by simp) ?_
          refine AllReadyH.cons (i := 9) rfl (fun K hK => ?_) AllReadyH.nil
          refine step_storeS #[.string nm, .string vl] rfl 54 (.tmp 2) (.tmp 31) rfl rfl rfl HB1.out.1.drew Try.sizeRsAttr rfl rfl rfl ?_
          refine hK.out _ _ HKQ.out (fun hHeld => ?_)
          clear hK K
          try simp only [Act.put]
          refine wpAnyH_take (i := 10) (v := _) rfl (by as_aux_lemma => kernel_rfl) (by as_aux_lemma => kernel_rfl) (by as_aux_lemma => kernel_rfl) (fun _ _ _ h => h) (Or.inl ⟨by rfl, fun w h => by have e0 := HG0.out w h; have e1 := HG1.out w h; clear h; go_simp; (try with_reducible rfl)⟩) (by assumption) ?_
          simp only [Act.put, List.getElem_toArray, List.getElem_cons_succ, List.getElem_cons_zero, List.setIfInBounds_toArray, List.set_cons_succ, List.set_cons_zero]
          refine wpAnyH_done (by as_aux_lemma => kernel_rfl) ?_ _
          go_wp2
          (try simp only [Exit.inBlock, Exit.then])
          refine bodyPost_ret (ret_struct2 rfl rfl (HB1.out.1.drew.row _) Try.underlying54 rfl Try.sizeRsAttr rfl) rfl ?_
          exact ⟨⟨nm, vl⟩, _, rfl, HR.out, by rw [HN.out]; exact below_row HB1.out.2.drew (Nat.le_refl _) _⟩
      · have hz : ¬ ((s[k]).toNat : Int) = 58 := fun e => hc (by rw [← UInt8.toNat_inj]; have : (58 : UInt8).toNat = 58 := rfl; omega)
        have hz1 : (((s[k]).toNat : Int) == 58) = false := by rw [beq_eq_false_iff_ne]; exact hz
        have HNX : Hid (∀ c ∈ (tx s).take (k + 1), c ≠ 58) := Lib.hid (by
          rw [List.take_add_one, HK.out]
          intro c hcc
          simp at hcc
          rcases hcc with h | rfl
          · exact HNO.out c h
          · exact hc)
        clear hc hz
        go_wp2
        go_round
        case rel => exact ⟨k + 1, by omega, by go_num, HNX.out⟩
        case measure => simp [intOf]; omega
    · have hks : k = s.size := by omega
      have HA : Hid (tx (s.extract 0 k) = tx s ∧ cutS [58] (tx s) = (tx s, [], false)) := Lib.hid (by
        have e : (tx s).take k = tx s := List.take_of_length_le (by rw [tx_length]; omega)
        have := HNO.out
        rw [e] at this
        exact ⟨by rw [tx_extract]; simp [e], cutS_free (t := []) _ this⟩)
      have hge : (s.size : Int) ≤ (k : Int) := by omega
      obtain ⟨nm, hnm⟩ : ∃ x, s.extract 0 k = x := ⟨_, rfl⟩
      have HNM := Lib.hid hnm
      obtain ⟨bw, hbw⟩ : ∃ b, wordP 1 32 (tx nm) = b := ⟨_, rfl⟩
      have HW := Lib.hid (fun W => r1Word_32 nm W (by
        have := tx_length nm
        rw [← hnm, HA.out.1, tx_length] at this
        rw [← hnm, ← this]
        unfold maxLen
        omega))
      rw [hbw] at HW
      have HR : Hid (AttrO (tx s) ⟨nm, ⟨#[]⟩⟩ bw) := Lib.hid (by
        have e : tx nm = tx s := by rw [← hnm]; exact HA.out.1
        unfold AttrO attrP
        rw [HA.out.2]
        rw [e] at hbw
        simp only [hbw]
        cases bw with
        | true =>
          refine .inl ⟨rfl, ?_⟩
          simp only [Bool.not_false, Bool.true_or, Bool.and_self, if_true]
          rw [← e, bs_tx]
          rfl
        | false => exact .inr ⟨rfl, rfl⟩)
      clear hlt hks hbw
      go_upto_region 8 with fail
      clear hnm
      have HB1 : Hid (Whole (w0.alloc (.cells #[.string nm, .string ⟨#[]⟩] 54)) N 54 #[.string ⟨#[]⟩, .string ⟨#[]⟩] ∧ Below N w (w0.alloc (.cells #[.string nm, .string ⟨#[]⟩] 54))) := Lib.hid ⟨H0.out.1.alloc _, H0.out.2.1.alloc (Nat.le_of_lt H0.out.1.lt) _⟩
      have q0 := (Whole.new w0 54 #[.string nm, .string ⟨#[]⟩]).cell 0
      have q1 := (Whole.new w0 54 #[.string nm, .string ⟨#[]⟩]).cell 1
      generalize w0.alloc (.cells #[.string nm, .string ⟨#[]⟩] 54) = w1 at *
      generalize w0.heap.size = g5 at *
      have q0 : w1.cell? ⟨g5, 0, none⟩ = some (.string nm) := q0
      have q1 : w1.cell? ⟨g5, 1, none⟩ = some (.string ⟨#[]⟩) := q1
      refine wp_region_still_tail 4 (by kernel_rfl) (by kernel_rfl) ?_
      simp only [List.take_succ_cons, List.take_zero, List.drop_succ_cons, List.drop_zero]
      repeat still_step
      still_call (same_flip (HW.out _))
      refine wpStill_nil ?_
      change wpList _ _ _ _ _ w1.drew
      go_wp2_with (refine wpList_storeS #[.string nm, .string ⟨#[]⟩] rfl 54 (.tmp 2) (.tmp 40) rfl rfl rfl HB1.out.1.drew Try.sizeRsAttr rfl rfl rfl ?_)
      (try simp only [Exit.inBlock, Exit.then])
      refine bodyPost_ret (ret_struct2 rfl rfl (HB1.out.1.drew.row _) Try.underlying54 rfl Try.sizeRsAttr rfl) rfl ?_
      exact ⟨⟨nm, ⟨#[]⟩⟩, bw, rfl, HR.out, by rw [HN.out]; exact below_row HB1.out.2.drew (Nat.le_refl _) _⟩
end Go.Proofs.Ythijpfnfkelmbaa
