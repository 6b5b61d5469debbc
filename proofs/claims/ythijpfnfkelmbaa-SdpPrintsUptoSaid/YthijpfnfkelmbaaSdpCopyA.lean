/- The law's copies of descriptions: attrs, back, theirs, ours. -/
import Derived.Test.YthijpfnfkelmbaaSdpSame
import Derived.Test.YthijpfnfkelmbaaSdpRParse
namespace Go.Proofs.Ythijpfnfkelmbaa
open Go.RowKit
set_option linter.unusedVariables false
set_option linter.unusedSimpArgs false

theorem attrs_read {L : List AttrS} (i : Nat) (r : List Value) (x : AttrS) (f : Nat → Option Value) (hr : (L.map acell)[i]? = some r) (hx : L[i]? = some x) (hf : ∀ j, j < 2 → f j = r[j]?) : RAt f x := by
  rw [List.getElem?_map, hx] at hr
  obtain rfl : acell x = r := by simpa using hr
  exact ⟨hf 0 (by decide), hf 1 (by decide)⟩
theorem Own.reads {w : World} {base B : Nat} {e : TypeId} {v : Value} {L : List AttrS} (h : Own w base e 2 v (L.map acell)) (hB : w.heap.size ≤ B) : AttrsV w B v L := h.rows hB (by rw [List.length_map]) attrs_read

set_option maxHeartbeats 3200000 in
set_option maxRecDepth 100000 in
theorem back_any (v : Value) (L : List AttrS) (w : World) (h : AttrsV w w.heap.size v L) (hL : L.length * 32 ≤ 140737488351232) : Calls Try.prog 28 #[v] w fun e w' => ∃ v', e = .returned v' ∧ Own w' w.heap.size 54 2 v' (L.map acell) ∧ Below w.heap.size w w' := by
  obtain ⟨A, c, rfl, hc, hm, -⟩ := h.form
  obtain ⟨N, hN⟩ : ∃ N, w.heap.size = N := ⟨_, rfl⟩
  have HN := Lib.hid hN
  have H := Lib.hid h
  obtain ⟨n, hn⟩ : ∃ n, L.length = n := ⟨_, rfl⟩
  have HNN := Lib.hid hn
  rw [hn] at hc hL ⊢
  clear h hn hN
  unfold maxLen at hm
  have H0 : Hid (Own w N 54 2 (.slice none 0 0) (([] : List AttrS).map acell)) := Lib.hid (Own.nil _ _ _ _)
  go_enter Try.func28, Try.ntmps28
  go_wp2
  go_loopw [3, 7] (fun s3 s7 wr => ∃ k : Nat, k ≤ n ∧ s7 = .int .i64 k ∧ Own wr N 54 2 s3 ((L.take k).map acell) ∧ Below N w wr) (fun _ s7 _ => n - (intOf s7).toNat)
  case atStart => exact ⟨0, Nat.zero_le _, rfl, by rw [List.take_zero]; exact H0.out, Below.refl _ w⟩
  case round =>
    clear H0
    obtain ⟨k, hk, rfl, hown, hb⟩ := hrel
    have HS := Lib.hid (And.intro hown hb)
    clear hown hb
    by_cases hlt : k < n
    · obtain ⟨ad, c', e1, b1, x0, x1⟩ := H.out.at_ (i := k) (by rw [HNN.out]; exact hlt)
      injection e1 with e1 e1n e1c
      clear e1n e1c
      subst e1
      have gL := getD_of (L := L) (i := k) (by rw [HNN.out]; exact hlt)
      obtain ⟨a, ha⟩ : ∃ a, L.getD k default = a := ⟨_, rfl⟩
      rw [ha] at x0 x1 gL
      rw [HN.out] at b1
      have HTK : Hid ((L.take (k + 1)).map acell = (L.take k).map acell ++ [[.string a.name, .string a.value]]) := Lib.hid (by
        rw [List.take_add_one, gL]
        simp [acell])
      have HLK : Hid (((L.take k).map acell).length = k) := Lib.hid (by rw [List.length_map, List.length_take, HNN.out]; omega)
      have HG0 : Hid (∀ W, Below N w W → W.cell? (ad.add (k * 2)) = some (.string a.name)) := Lib.hid fun W hW => (hW.cell (p := ad.add (k * 2)) (by rw [add_block]; exact b1)).trans x0
      have HG1 : Hid (∀ W, Below N w W → W.cell? ⟨(ad.add (k * 2)).block, (ad.add (k * 2)).off + 1, none⟩ = some (.string a.value)) := Lib.hid fun W hW => (hW.cell (p := ⟨(ad.add (k * 2)).block, (ad.add (k * 2)).off + 1, none⟩) (by show (ad.add (k * 2)).block < _; rw [add_block]; exact b1)).trans x1
      have hNr : N ≤ wr.heap.size := by have := HS.out.2.size; rw [HN.out] at this; exact this
      have HR0 : Hid (Below N w wr.drew) := Lib.hid HS.out.2.drew
      have HA : Hid (Own (wr.alloc (.cells #[.string a.name, .string a.value] 54)).drew N 54 2 u3 ((L.take k).map acell) ∧ Below N w (wr.alloc (.cells #[.string a.name, .string a.value] 54)).drew ∧ Whole (wr.alloc (.cells #[.string a.name, .string a.value] 54)).drew wr.heap.size 54 #[.string a.name, .string a.value] ∧ N ≤ (wr.alloc (.cells #[.string a.name, .string a.value] 54)).drew.heap.size) := Lib.hid ⟨(HS.out.1.alloc _).drew, (HS.out.2.alloc hNr _).drew, (Whole.new _ _ _).drew, by show N ≤ (wr.alloc _).heap.size; rw [World.size_alloc]; omega⟩
      have hk0 : (0 : Int) ≤ (k : Int) := by omega
      have hk1 : (k : Int) < (n : Int) := by omega
      have e1 : IntKind.i64.wrap ((k : Int) + 1) = (k : Int) + 1 := IntWalk.i64_in _ (by omega)
      clear x0 x1 gL ha b1 hNr
      go_upto_region 5 with fail
      refine wp_region_held_drew (S := fun W => Below N w W) (by kernel_rfl) HR0.out (fun hHeld => ?_)
      refine wpAnyH_take (i := 0) (v := _) rfl (by as_aux_lemma => kernel_rfl) (by as_aux_lemma => kernel_rfl) (by as_aux_lemma => kernel_rfl) (fun _ _ _ h => h) (Or.inl ⟨by rfl, fun w h => by have e0 := HG0.out w h; have e1 := HG1.out w h; clear h; go_simp; (try with_reducible rfl)⟩) (by assumption) ?_
      simp only [Act.put, List.getElem_toArray, List.getElem_cons_succ, List.getElem_cons_zero, List.setIfInBounds_toArray, List.set_cons_succ, List.set_cons_zero]
      refine wpAnyH_take (i := 1) (v := _) rfl (by as_aux_lemma => kernel_rfl) (by as_aux_lemma => kernel_rfl) (by as_aux_lemma => kernel_rfl) (fun _ _ _ h => h) (Or.inl ⟨by rfl, fun w h => by have e0 := HG0.out w h; have e1 := HG1.out w h; clear h; go_simp; (try with_reducible rfl)⟩) (by assumption) ?_
      simp only [Act.put, List.getElem_toArray, List.getElem_cons_succ, List.getElem_cons_zero, List.setIfInBounds_toArray, List.set_cons_succ, List.set_cons_zero]
      refine wpAnyH_take (i := 2) (v := _) rfl (by as_aux_lemma => kernel_rfl) (by as_aux_lemma => kernel_rfl) (by as_aux_lemma => kernel_rfl) (fun _ _ _ h => h) (Or.inl ⟨by rfl, fun w h => by have e0 := HG0.out w h; have e1 := HG1.out w h; clear h; go_simp; (try with_reducible rfl)⟩) (by assumption) ?_
      simp only [Act.put, List.getElem_toArray, List.getElem_cons_succ, List.getElem_cons_zero, List.setIfInBounds_toArray, List.set_cons_succ, List.set_cons_zero]
      refine wpAnyH_take (i := 3) (v := _) rfl (by as_aux_lemma => kernel_rfl) (by as_aux_lemma => kernel_rfl) (by as_aux_lemma => kernel_rfl) (fun _ _ _ h => h) (Or.inl ⟨by rfl, fun w h => by have e0 := HG0.out w h; have e1 := HG1.out w h; clear h; go_simp; (try with_reducible rfl)⟩) (by assumption) ?_
      simp only [Act.put, List.getElem_toArray, List.getElem_cons_succ, List.getElem_cons_zero, List.setIfInBounds_toArray, List.set_cons_succ, List.set_cons_zero]
      refine wpAnyH_take (i := 4) (v := _) rfl (by as_aux_lemma => kernel_rfl) (by as_aux_lemma => kernel_rfl) (by as_aux_lemma => kernel_rfl) (fun _ _ _ h => h) (Or.inl ⟨by rfl, fun w h => by have e0 := HG0.out w h; have e1 := HG1.out w h; clear h; go_simp; (try with_reducible rfl)⟩) (by assumption) ?_
      simp only [Act.put, List.getElem_toArray, List.getElem_cons_succ, List.getElem_cons_zero, List.setIfInBounds_toArray, List.set_cons_succ, List.set_cons_zero]
      refine wpAnyH_take (i := 5) (v := _) rfl (by as_aux_lemma => kernel_rfl) (by as_aux_lemma => kernel_rfl) (by as_aux_lemma => kernel_rfl) (fun _ _ _ h => h) (Or.inl ⟨by rfl, fun w h => by have e0 := HG0.out w h; have e1 := HG1.out w h; clear h; go_simp; (try with_reducible rfl)⟩) (by assumption) ?_
      simp only [Act.put, List.getElem_toArray, List.getElem_cons_succ, List.getElem_cons_zero, List.setIfInBounds_toArray, List.set_cons_succ, List.set_cons_zero]
      refine wpAnyH_take (i := 6) (v := _) rfl (by as_aux_lemma => kernel_rfl) (by as_aux_lemma => kernel_rfl) (by as_aux_lemma => kernel_rfl) (fun _ _ _ h => h) (Or.inl ⟨by rfl, fun w h => by have e0 := HG0.out w h; have e1 := HG1.out w h; clear h; go_simp; (try with_reducible rfl)⟩) (by assumption) ?_
      simp only [Act.put, List.getElem_toArray, List.getElem_cons_succ, List.getElem_cons_zero, List.setIfInBounds_toArray, List.set_cons_succ, List.set_cons_zero]
      refine wpAnyH_take (i := 7) (v := _) rfl (by as_aux_lemma => kernel_rfl) (by as_aux_lemma => kernel_rfl) (by as_aux_lemma => kernel_rfl) (fun _ _ _ h => h) (Or.inl ⟨by rfl, fun w h => by have e0 := HG0.out w h; have e1 := HG1.out w h; clear h; go_simp; (try with_reducible rfl)⟩) (by assumption) ?_
      simp only [Act.put, List.getElem_toArray, List.getElem_cons_succ, List.getElem_cons_zero, List.setIfInBounds_toArray, List.set_cons_succ, List.set_cons_zero]
      refine wpAnyH_take (i := 8) (v := _) rfl (by as_aux_lemma => kernel_rfl) (by as_aux_lemma => kernel_rfl) (by as_aux_lemma => kernel_rfl) (fun _ _ _ h => h) (Or.inl ⟨by rfl, fun w h => by have e0 := HG0.out w h; have e1 := HG1.out w h; clear h; go_simp; (try with_reducible rfl)⟩) (by assumption) ?_
      simp only [Act.put, List.getElem_toArray, List.getElem_cons_succ, List.getElem_cons_zero, List.setIfInBounds_toArray, List.set_cons_succ, List.set_cons_zero]
      refine wpAnyH_take (i := 9) (v := _) rfl (by as_aux_lemma => kernel_rfl) (by as_aux_lemma => kernel_rfl) (by as_aux_lemma => kernel_rfl) (fun _ _ _ h => h) (Or.inl ⟨by rfl, fun w h => by have e0 := HG0.out w h; have e1 := HG1.out w h; clear h; go_simp; (try with_reducible rfl)⟩) (by assumption) ?_
      simp only [Act.put, List.getElem_toArray, List.getElem_cons_succ, List.getElem_cons_zero, List.setIfInBounds_toArray, List.set_cons_succ, List.set_cons_zero]
      refine wpAnyH_take (i := 10) (v := _) rfl (by as_aux_lemma => kernel_rfl) (by as_aux_lemma => kernel_rfl) (by as_aux_lemma => kernel_rfl) (fun _ _ _ h => h) (Or.inl ⟨by rfl, fun w h => by have e0 := HG0.out w h; have e1 := HG1.out w h; clear h; go_simp; (try with_reducible rfl)⟩) (by assumption) ?_
      simp only [Act.put, List.getElem_toArray, List.getElem_cons_succ, List.getElem_cons_zero, List.setIfInBounds_toArray, List.set_cons_succ, List.set_cons_zero]
      refine wpAnyH_take (i := 11) (v := _) rfl (by as_aux_lemma => kernel_rfl) (by as_aux_lemma => kernel_rfl) (by as_aux_lemma => kernel_rfl) (fun _ _ _ h => h) (Or.inl ⟨by rfl, fun w h => by have e0 := HG0.out w h; have e1 := HG1.out w h; clear h; go_simp; (try with_reducible rfl)⟩) (by assumption) ?_
      simp only [Act.put, List.getElem_toArray, List.getElem_cons_succ, List.getElem_cons_zero, List.setIfInBounds_toArray, List.set_cons_succ, List.set_cons_zero]
      refine wpAnyH_ready (rs := [12]) (by as_aux_lemma => kernel_rfl) (by simp) ?_
      refine AllReadyH.cons (i := 12) rfl (fun K hK => ?_) AllReadyH.nil
      go_simp
      refine hK.out _ _ HA.out.2.1 (fun hHeld' => ?_)
      clear hK K hHeld
      have hHeld := hHeld'
      clear hHeld'
      try simp only [Act.put]
      generalize (wr.alloc (.cells #[.string a.name, .string a.value] 54)).drew = w7 at *
      generalize wr.heap.size = g7 at *
      refine wpAnyH_ready (rs := [13]) (by as_aux_lemma => kernel_rfl) (by simp) ?_
      refine AllReadyH.cons (i := 13) rfl (fun K hK => ?_) AllReadyH.nil
      refine step_of rfl (wp_appendE (r := [.string a.name, .string a.value]) (.tmp 10) (.tmp 22) rfl Try.underlying23 Try.infoRSAttr rfl (Nat.zero_lt_succ _) rfl HA.out.1 rfl HA.out.2.2.1 rfl (fun u hu => by simp at hu; rcases hu with rfl | rfl <;> rfl) (by rw [HLK.out]; omega) (by rw [HLK.out]; omega) HA.out.2.2.2 ?_)
      intro v8 w8 ho8 hg8 hn8
      have hb8 : Below N w w8 := HA.out.2.1.grown hg8 HA.out.2.2.2 (fun j hj => (HA.out.1.lt hj).1)
      refine hK.out _ _ hb8 (fun hHeld' => ?_)
      have HNX : Hid (Own w8 N 54 2 v8 ((L.take (k + 1)).map acell) ∧ Below N w w8) := Lib.hid ⟨by rw [HTK.out]; exact ho8, hb8⟩
      clear hK K hHeld ho8 hg8 hn8 hb8
      have hHeld := hHeld'
      clear hHeld'
      try simp only [Act.put]
      refine wpAnyH_take (i := 14) (v := _) rfl (by as_aux_lemma => kernel_rfl) (by as_aux_lemma => kernel_rfl) (by as_aux_lemma => kernel_rfl) (fun _ _ _ h => h) (Or.inl ⟨by rfl, fun w h => by have e0 := HG0.out w h; have e1 := HG1.out w h; clear h; go_simp; (try with_reducible rfl)⟩) (by assumption) ?_
      simp only [Act.put, List.getElem_toArray, List.getElem_cons_succ, List.getElem_cons_zero, List.setIfInBounds_toArray, List.set_cons_succ, List.set_cons_zero]
      refine wpAnyH_done (by as_aux_lemma => kernel_rfl) ?_ _
      clear hHeld
      go_wp2
      go_roundw
      case rel => exact ⟨k + 1, by omega, by go_num, HNX.out⟩
      case measure => simp [intOf]; omega
    · obtain rfl : k = n := by omega
      have HT : Hid ((L.take k).map acell = L.map acell) := Lib.hid (by rw [List.take_of_length_le (by rw [HNN.out]; exact Nat.le_refl _)])
      go_wp2
      go_ret
      exact ⟨_, rfl, by rw [HN.out, ← HT.out]; exact HS.out.1, by rw [HN.out]; exact HS.out.2⟩

set_option maxHeartbeats 3200000 in
set_option maxRecDepth 100000 in
theorem attrs_any (v : Value) (L : List AttrS) (w : World) (h : AttrsV w w.heap.size v L) (hL : L.length * 32 ≤ 140737488351232) : Calls Try.prog 33 #[v] w fun e w' => ∃ v', e = .returned v' ∧ Own w' w.heap.size 49 2 v' (L.map acell) ∧ Below w.heap.size w w' := by
  obtain ⟨A, c, rfl, hc, hm, -⟩ := h.form
  obtain ⟨N, hN⟩ : ∃ N, w.heap.size = N := ⟨_, rfl⟩
  have HN := Lib.hid hN
  have H := Lib.hid h
  obtain ⟨n, hn⟩ : ∃ n, L.length = n := ⟨_, rfl⟩
  have HNN := Lib.hid hn
  rw [hn] at hc hL ⊢
  clear h hn hN
  unfold maxLen at hm
  have H0 : Hid (Own w N 49 2 (.slice none 0 0) (([] : List AttrS).map acell)) := Lib.hid (Own.nil _ _ _ _)
  go_enter Try.func33, Try.ntmps33
  go_wp2
  go_loopw [3, 7] (fun s3 s7 wr => ∃ k : Nat, k ≤ n ∧ s7 = .int .i64 k ∧ Own wr N 49 2 s3 ((L.take k).map acell) ∧ Below N w wr) (fun _ s7 _ => n - (intOf s7).toNat)
  case atStart => exact ⟨0, Nat.zero_le _, rfl, by rw [List.take_zero]; exact H0.out, Below.refl _ w⟩
  case round =>
    clear H0
    obtain ⟨k, hk, rfl, hown, hb⟩ := hrel
    have HS := Lib.hid (And.intro hown hb)
    clear hown hb
    by_cases hlt : k < n
    · obtain ⟨ad, c', e1, b1, x0, x1⟩ := H.out.at_ (i := k) (by rw [HNN.out]; exact hlt)
      injection e1 with e1 e1n e1c
      clear e1n e1c
      subst e1
      have gL := getD_of (L := L) (i := k) (by rw [HNN.out]; exact hlt)
      obtain ⟨a, ha⟩ : ∃ a, L.getD k default = a := ⟨_, rfl⟩
      rw [ha] at x0 x1 gL
      rw [HN.out] at b1
      have HTK : Hid ((L.take (k + 1)).map acell = (L.take k).map acell ++ [[.string a.name, .string a.value]]) := Lib.hid (by
        rw [List.take_add_one, gL]
        simp [acell])
      have HLK : Hid (((L.take k).map acell).length = k) := Lib.hid (by rw [List.length_map, List.length_take, HNN.out]; omega)
      have HG0 : Hid (∀ W, Below N w W → W.cell? (ad.add (k * 2)) = some (.string a.name)) := Lib.hid fun W hW => (hW.cell (p := ad.add (k * 2)) (by rw [add_block]; exact b1)).trans x0
      have HG1 : Hid (∀ W, Below N w W → W.cell? ⟨(ad.add (k * 2)).block, (ad.add (k * 2)).off + 1, none⟩ = some (.string a.value)) := Lib.hid fun W hW => (hW.cell (p := ⟨(ad.add (k * 2)).block, (ad.add (k * 2)).off + 1, none⟩) (by show (ad.add (k * 2)).block < _; rw [add_block]; exact b1)).trans x1
      have hNr : N ≤ wr.heap.size := by have := HS.out.2.size; rw [HN.out] at this; exact this
      have HR0 : Hid (Below N w wr.drew) := Lib.hid HS.out.2.drew
      have HA : Hid (Own (wr.alloc (.cells #[.string a.name, .string a.value] 49)).drew N 49 2 u3 ((L.take k).map acell) ∧ Below N w (wr.alloc (.cells #[.string a.name, .string a.value] 49)).drew ∧ Whole (wr.alloc (.cells #[.string a.name, .string a.value] 49)).drew wr.heap.size 49 #[.string a.name, .string a.value] ∧ N ≤ (wr.alloc (.cells #[.string a.name, .string a.value] 49)).drew.heap.size) := Lib.hid ⟨(HS.out.1.alloc _).drew, (HS.out.2.alloc hNr _).drew, (Whole.new _ _ _).drew, by show N ≤ (wr.alloc _).heap.size; rw [World.size_alloc]; omega⟩
      have hk0 : (0 : Int) ≤ (k : Int) := by omega
      have hk1 : (k : Int) < (n : Int) := by omega
      have e1 : IntKind.i64.wrap ((k : Int) + 1) = (k : Int) + 1 := IntWalk.i64_in _ (by omega)
      clear x0 x1 gL ha b1 hNr
      go_upto_region 5 with fail
      refine wp_region_held_drew (S := fun W => Below N w W) (by kernel_rfl) HR0.out (fun hHeld => ?_)
      refine wpAnyH_take (i := 0) (v := _) rfl (by as_aux_lemma => kernel_rfl) (by as_aux_lemma => kernel_rfl) (by as_aux_lemma => kernel_rfl) (fun _ _ _ h => h) (Or.inl ⟨by rfl, fun w h => by have e0 := HG0.out w h; have e1 := HG1.out w h; clear h; go_simp; (try with_reducible rfl)⟩) (by assumption) ?_
      simp only [Act.put, List.getElem_toArray, List.getElem_cons_succ, List.getElem_cons_zero, List.setIfInBounds_toArray, List.set_cons_succ, List.set_cons_zero]
      refine wpAnyH_take (i := 1) (v := _) rfl (by as_aux_lemma => kernel_rfl) (by as_aux_lemma => kernel_rfl) (by as_aux_lemma => kernel_rfl) (fun _ _ _ h => h) (Or.inl ⟨by rfl, fun w h => by have e0 := HG0.out w h; have e1 := HG1.out w h; clear h; go_simp; (try with_reducible rfl)⟩) (by assumption) ?_
      simp only [Act.put, List.getElem_toArray, List.getElem_cons_succ, List.getElem_cons_zero, List.setIfInBounds_toArray, List.set_cons_succ, List.set_cons_zero]
      refine wpAnyH_take (i := 2) (v := _) rfl (by as_aux_lemma => kernel_rfl) (by as_aux_lemma => kernel_rfl) (by as_aux_lemma => kernel_rfl) (fun _ _ _ h => h) (Or.inl ⟨by rfl, fun w h => by have e0 := HG0.out w h; have e1 := HG1.out w h; clear h; go_simp; (try with_reducible rfl)⟩) (by assumption) ?_
      simp only [Act.put, List.getElem_toArray, List.getElem_cons_succ, List.getElem_cons_zero, List.setIfInBounds_toArray, List.set_cons_succ, List.set_cons_zero]
      refine wpAnyH_take (i := 3) (v := _) rfl (by as_aux_lemma => kernel_rfl) (by as_aux_lemma => kernel_rfl) (by as_aux_lemma => kernel_rfl) (fun _ _ _ h => h) (Or.inl ⟨by rfl, fun w h => by have e0 := HG0.out w h; have e1 := HG1.out w h; clear h; go_simp; (try with_reducible rfl)⟩) (by assumption) ?_
      simp only [Act.put, List.getElem_toArray, List.getElem_cons_succ, List.getElem_cons_zero, List.setIfInBounds_toArray, List.set_cons_succ, List.set_cons_zero]
      refine wpAnyH_take (i := 4) (v := _) rfl (by as_aux_lemma => kernel_rfl) (by as_aux_lemma => kernel_rfl) (by as_aux_lemma => kernel_rfl) (fun _ _ _ h => h) (Or.inl ⟨by rfl, fun w h => by have e0 := HG0.out w h; have e1 := HG1.out w h; clear h; go_simp; (try with_reducible rfl)⟩) (by assumption) ?_
      simp only [Act.put, List.getElem_toArray, List.getElem_cons_succ, List.getElem_cons_zero, List.setIfInBounds_toArray, List.set_cons_succ, List.set_cons_zero]
      refine wpAnyH_take (i := 5) (v := _) rfl (by as_aux_lemma => kernel_rfl) (by as_aux_lemma => kernel_rfl) (by as_aux_lemma => kernel_rfl) (fun _ _ _ h => h) (Or.inl ⟨by rfl, fun w h => by have e0 := HG0.out w h; have e1 := HG1.out w h; clear h; go_simp; (try with_reducible rfl)⟩) (by assumption) ?_
      simp only [Act.put, List.getElem_toArray, List.getElem_cons_succ, List.getElem_cons_zero, List.setIfInBounds_toArray, List.set_cons_succ, List.set_cons_zero]
      refine wpAnyH_take (i := 6) (v := _) rfl (by as_aux_lemma => kernel_rfl) (by as_aux_lemma => kernel_rfl) (by as_aux_lemma => kernel_rfl) (fun _ _ _ h => h) (Or.inl ⟨by rfl, fun w h => by have e0 := HG0.out w h; have e1 := HG1.out w h; clear h; go_simp; (try with_reducible rfl)⟩) (by assumption) ?_
      simp only [Act.put, List.getElem_toArray, List.getElem_cons_succ, List.getElem_cons_zero, List.setIfInBounds_toArray, List.set_cons_succ, List.set_cons_zero]
      refine wpAnyH_take (i := 7) (v := _) rfl (by as_aux_lemma => kernel_rfl) (by as_aux_lemma => kernel_rfl) (by as_aux_lemma => kernel_rfl) (fun _ _ _ h => h) (Or.inl ⟨by rfl, fun w h => by have e0 := HG0.out w h; have e1 := HG1.out w h; clear h; go_simp; (try with_reducible rfl)⟩) (by assumption) ?_
      simp only [Act.put, List.getElem_toArray, List.getElem_cons_succ, List.getElem_cons_zero, List.setIfInBounds_toArray, List.set_cons_succ, List.set_cons_zero]
      refine wpAnyH_take (i := 8) (v := _) rfl (by as_aux_lemma => kernel_rfl) (by as_aux_lemma => kernel_rfl) (by as_aux_lemma => kernel_rfl) (fun _ _ _ h => h) (Or.inl ⟨by rfl, fun w h => by have e0 := HG0.out w h; have e1 := HG1.out w h; clear h; go_simp; (try with_reducible rfl)⟩) (by assumption) ?_
      simp only [Act.put, List.getElem_toArray, List.getElem_cons_succ, List.getElem_cons_zero, List.setIfInBounds_toArray, List.set_cons_succ, List.set_cons_zero]
      refine wpAnyH_take (i := 9) (v := _) rfl (by as_aux_lemma => kernel_rfl) (by as_aux_lemma => kernel_rfl) (by as_aux_lemma => kernel_rfl) (fun _ _ _ h => h) (Or.inl ⟨by rfl, fun w h => by have e0 := HG0.out w h; have e1 := HG1.out w h; clear h; go_simp; (try with_reducible rfl)⟩) (by assumption) ?_
      simp only [Act.put, List.getElem_toArray, List.getElem_cons_succ, List.getElem_cons_zero, List.setIfInBounds_toArray, List.set_cons_succ, List.set_cons_zero]
      refine wpAnyH_take (i := 10) (v := _) rfl (by as_aux_lemma => kernel_rfl) (by as_aux_lemma => kernel_rfl) (by as_aux_lemma => kernel_rfl) (fun _ _ _ h => h) (Or.inl ⟨by rfl, fun w h => by have e0 := HG0.out w h; have e1 := HG1.out w h; clear h; go_simp; (try with_reducible rfl)⟩) (by assumption) ?_
      simp only [Act.put, List.getElem_toArray, List.getElem_cons_succ, List.getElem_cons_zero, List.setIfInBounds_toArray, List.set_cons_succ, List.set_cons_zero]
      refine wpAnyH_take (i := 11) (v := _) rfl (by as_aux_lemma => kernel_rfl) (by as_aux_lemma => kernel_rfl) (by as_aux_lemma => kernel_rfl) (fun _ _ _ h => h) (Or.inl ⟨by rfl, fun w h => by have e0 := HG0.out w h; have e1 := HG1.out w h; clear h; go_simp; (try with_reducible rfl)⟩) (by assumption) ?_
      simp only [Act.put, List.getElem_toArray, List.getElem_cons_succ, List.getElem_cons_zero, List.setIfInBounds_toArray, List.set_cons_succ, List.set_cons_zero]
      refine wpAnyH_ready (rs := [12]) (by as_aux_lemma => kernel_rfl) (by simp) ?_
      refine AllReadyH.cons (i := 12) rfl (fun K hK => ?_) AllReadyH.nil
      go_simp
      refine hK.out _ _ HA.out.2.1 (fun hHeld' => ?_)
      clear hK K hHeld
      have hHeld := hHeld'
      clear hHeld'
      try simp only [Act.put]
      generalize (wr.alloc (.cells #[.string a.name, .string a.value] 49)).drew = w7 at *
      generalize wr.heap.size = g7 at *
      refine wpAnyH_ready (rs := [13]) (by as_aux_lemma => kernel_rfl) (by simp) ?_
      refine AllReadyH.cons (i := 13) rfl (fun K hK => ?_) AllReadyH.nil
      refine step_of rfl (wp_appendE (r := [.string a.name, .string a.value]) (.tmp 10) (.tmp 22) rfl Try.underlying30 Try.infoSAttr rfl (Nat.zero_lt_succ _) rfl HA.out.1 rfl HA.out.2.2.1 rfl (fun u hu => by simp at hu; rcases hu with rfl | rfl <;> rfl) (by rw [HLK.out]; omega) (by rw [HLK.out]; omega) HA.out.2.2.2 ?_)
      intro v8 w8 ho8 hg8 hn8
      have hb8 : Below N w w8 := HA.out.2.1.grown hg8 HA.out.2.2.2 (fun j hj => (HA.out.1.lt hj).1)
      refine hK.out _ _ hb8 (fun hHeld' => ?_)
      have HNX : Hid (Own w8 N 49 2 v8 ((L.take (k + 1)).map acell) ∧ Below N w w8) := Lib.hid ⟨by rw [HTK.out]; exact ho8, hb8⟩
      clear hK K hHeld ho8 hg8 hn8 hb8
      have hHeld := hHeld'
      clear hHeld'
      try simp only [Act.put]
      refine wpAnyH_take (i := 14) (v := _) rfl (by as_aux_lemma => kernel_rfl) (by as_aux_lemma => kernel_rfl) (by as_aux_lemma => kernel_rfl) (fun _ _ _ h => h) (Or.inl ⟨by rfl, fun w h => by have e0 := HG0.out w h; have e1 := HG1.out w h; clear h; go_simp; (try with_reducible rfl)⟩) (by assumption) ?_
      simp only [Act.put, List.getElem_toArray, List.getElem_cons_succ, List.getElem_cons_zero, List.setIfInBounds_toArray, List.set_cons_succ, List.set_cons_zero]
      refine wpAnyH_done (by as_aux_lemma => kernel_rfl) ?_ _
      clear hHeld
      go_wp2
      go_roundw
      case rel => exact ⟨k + 1, by omega, by go_num, HNX.out⟩
      case measure => simp [intOf]; omega
    · obtain rfl : k = n := by omega
      have HT : Hid ((L.take k).map acell = L.map acell) := Lib.hid (by rw [List.take_of_length_le (by rw [HNN.out]; exact Nat.le_refl _)])
      go_wp2
      go_ret
      exact ⟨_, rfl, by rw [HN.out, ← HT.out]; exact HS.out.1, by rw [HN.out]; exact HS.out.2⟩
end Go.Proofs.Ythijpfnfkelmbaa
