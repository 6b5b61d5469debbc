/- The program's Block. -/
import Derived.Test.YtomnomopcpdpoaaAesNew
import Derived.Test.YtomnomopcpdpoaaAesEnc
import Derived.Test.YtomnomopcpdpoaaAesRows
namespace Go.Proofs.Ytomnomopcpdpoaa
open Go.RowKit
set_option linter.unusedVariables false

set_option maxHeartbeats 3200000 in
set_option maxRecDepth 100000 in
theorem block_any (key s : Nat → B) (w : World) : Calls Try.prog 8 #[.agg (arr .u8 (fl 16 key)), .agg (arr .u8 (fl 16 s))] w fun e w' => e = .returned (.agg (arr .u8 (fl 16 (st (ks key) s 10)))) ∧ Below w.heap.size w w' := by
  have HNEW : Hid (∀ W, Calls Try.prog 12 #[.agg (bl key).toArray] W fun e w' => ∃ gc, e = .returned (.pointer (some ⟨gc, 0, none⟩)) ∧ Below W.heap.size W w' ∧ W.heap.size ≤ gc ∧ Whole w' gc 45 (ciph (ks key))) := Lib.hid fun W => newCipher_any key W
  have HENC : Hid (∀ W gc, Whole W gc 45 (ciph (ks key)) → Calls Try.prog 13 #[.pointer (some ⟨gc, 0, none⟩), .agg (bl s).toArray] W fun e w' => e = .returned (.agg (bl (st (ks key) s 10)).toArray) ∧ Below W.heap.size W w') := Lib.hid fun W gc h => encrypt_any (ks key) gc s W h
  rw [bl_arr, bl_arr, bl_arr]
  have hz := Try.zero22
  rw [bl_arr] at hz
  have k1 := bl_len key
  have s1 := bl_len s
  have r1 := bl_len (st (ks key) s 10)
  have z1 := bl_len zB
  have k2 := bl_one key
  have s2 := bl_one s
  have r2 := bl_one (st (ks key) s 10)
  generalize bl (st (ks key) s 10) = rl at *
  generalize bl key = kl at *
  generalize bl s = sl at *
  generalize bl zB = zl at *
  generalize ks key = K at *
  have hu := Try.underlying22
  have hi1 : (Try.prog.info? 22).map (·.size) = some kl.length := by rw [Try.info22, k1]
  have hi2 : (Try.prog.info? 22).map (·.size) = some sl.length := by rw [Try.info22, s1]
  have hi3 : (Try.prog.info? 22).map (·.size) = some rl.length := by rw [Try.info22, r1]
  have HF := Lib.hid (And.intro k1 (And.intro s1 (And.intro r1 (And.intro z1 (And.intro k2 (And.intro s2 (And.intro r2 (And.intro hu (And.intro hi1 (And.intro hi2 hi3))))))))))
  clear k1 s1 r1 z1 k2 s2 r2 hu hi1 hi2 hi3
  go_enter Try.func8, Try.ntmps8
  go_upto_region 1 with fail
  clear hz
  have a0 : Whole (((w.alloc (Obj.cells kl.toArray 22)).alloc (Obj.cells sl.toArray 22)).alloc (Obj.cells zl.toArray 22)) w.heap.size 22 kl.toArray := ((Whole.new _ _ _).alloc _).alloc _
  have a1 : Whole (((w.alloc (Obj.cells kl.toArray 22)).alloc (Obj.cells sl.toArray 22)).alloc (Obj.cells zl.toArray 22)) (w.heap.size + 1) 22 sl.toArray := (Whole.new2 _ _ _ _).alloc _
  have a2 : Whole (((w.alloc (Obj.cells kl.toArray 22)).alloc (Obj.cells sl.toArray 22)).alloc (Obj.cells zl.toArray 22)) (w.heap.size + 1 + 1) 22 zl.toArray := by
    have := Whole.new ((w.alloc (Obj.cells kl.toArray 22)).alloc (Obj.cells sl.toArray 22)) 22 zl.toArray
    rw [World.size_alloc, World.size_alloc] at this
    exact this
  have a3 : Below w.heap.size w (((w.alloc (Obj.cells kl.toArray 22)).alloc (Obj.cells sl.toArray 22)).alloc (Obj.cells zl.toArray 22)) := (two_new _ _ _ _).alloc (by simp; omega) _
  generalize ((w.alloc (Obj.cells kl.toArray 22)).alloc (Obj.cells sl.toArray 22)).alloc (Obj.cells zl.toArray 22) = W0 at *
  obtain ⟨N, hN⟩ : ∃ N, w.heap.size = N := ⟨_, rfl⟩
  obtain ⟨g3, hg3⟩ : ∃ g, N + 1 = g := ⟨_, rfl⟩
  obtain ⟨g4, hg4⟩ : ∃ g, g3 + 1 = g := ⟨_, rfl⟩
  have HN := Lib.hid hN
  rw [hN] at a0 a1 a2 a3 ⊢
  rw [hg3] at a1 a2 ⊢
  rw [hg4] at a2 ⊢
  have l3 : N < g3 := by omega
  have l4 : g3 < g4 := by omega
  have hs0 : N ≤ W0.heap.size := by have := a0.lt; omega
  have HA := Lib.hid (And.intro a0 (And.intro a1 (And.intro a2 a3)))
  have HKEEP : Hid (∀ W, Below W0.heap.size W0 W → W.rangeAt N 0 kl ∧ W.rangeAt g3 0 sl ∧ W.there g4 0 16) := Lib.hid fun W hW => ⟨(a0.under hW).range, (a1.under hW).range, (a2.under hW).there (by simpa using HF.out.2.2.2.1)⟩
  have hb0 : Below W0.heap.size W0 W0.drew := (Below.refl _ _).drew
  clear a0 a1 a2 a3 hN hg3 hg4
  have S0 := HKEEP.out _ (Below.refl _ W0)
  obtain ⟨k1, s1, r1, z1, k2, s2, r2, hu, hi1, hi2, hi3⟩ := HF.out
  refine wp_region_held_drew (S := fun w' => w'.rangeAt N 0 kl ∧ w'.rangeAt g3 0 sl ∧ w'.there g4 0 16) (by kernel_rfl) (HKEEP.out _ hb0) (fun hHeld => ?_)
  refine wpAnyH_take (i := 0) (v := .agg kl.toArray) rfl (by kernel_rfl) (by kernel_rfl) (by kernel_rfl) (fun _ _ _ h => h) (yieldsIf_load_mid (by rfl) 22 (.tmp 2) rfl N 0 rfl kl _ (fun w h => h.1) hu rfl hi1) (by assumption) ?_
  simp only [Act.put, List.setIfInBounds_toArray]
  refine wpAnyH_take (i := 2) (v := .agg sl.toArray) rfl (by kernel_rfl) (by kernel_rfl) (by kernel_rfl) (fun _ _ _ h => h) (yieldsIf_load_mid (by rfl) 22 (.tmp 3) rfl g3 0 rfl sl _ (fun w h => h.2.1) hu rfl hi2) (by assumption) ?_
  simp only [Act.put]
  refine wpAnyH_ready (rs := [1]) (by kernel_rfl) (by simp) ?_
  refine AllReadyH.cons (i := 1) rfl (fun K hK => ?_) AllReadyH.nil
  go_simp
  refine (HNEW.out _).mono ?_
  rintro e w3 ⟨gc, rfl, hb2, hgc, hcw⟩
  have hb3 : Below W0.heap.size W0 w3 := hb0.trans (hb2.mono hb0.size)
  refine hK.out _ _ (HKEEP.out _ hb3) (fun hHeld => ?_)
  clear hK K
  refine wpAnyH_ready (rs := [3]) (by kernel_rfl) (by simp) ?_
  refine AllReadyH.cons (i := 3) rfl (fun K hK => ?_) AllReadyH.nil
  go_simp
  refine (HENC.out _ _ hcw).mono ?_
  rintro e w4 ⟨rfl, hb4⟩
  have hb5 : Below W0.heap.size W0 w4 := hb3.trans (hb4.mono hb3.size)
  refine hK.out _ _ (HKEEP.out _ hb5) (fun hHeld => ?_)
  clear hK K
  refine wpAnyH_ready (rs := [4]) (by kernel_rfl) (by simp) ?_
  refine AllReadyH.cons (i := 4) rfl (fun K hK => ?_) AllReadyH.nil
  rw [if_pos (by rfl)]
  refine wp_store_mid 22 (.tmp 4) (.tmp 8) rfl g4 0 rl.toArray rfl rfl (by rw [List.size_toArray, r1]; exact (HKEEP.out _ hb5).2.2) (by rw [List.size_toArray]; exact hi3) (all_oneCell_toArray r2) ?_
  refine hK.out _ _ ⟨World.rangeAt_setCells_apart (HKEEP.out _ hb5).1 _ _ _ (.inl (by omega)), World.rangeAt_setCells_apart (HKEEP.out _ hb5).2.1 _ _ _ (.inl (by omega)), World.there_setCells (HKEEP.out _ hb5).2.2 _ _ _⟩ (fun hHeld => ?_)
  clear hK K
  refine wpAnyH_done (by kernel_rfl) ?_ _
  go_wp2
  have hw4 : Whole w4 g4 22 zl.toArray := HA.out.2.2.1.under hb5
  refine bodyPost_ret (v := .agg rl.toArray) (ret_whole (g := g4) rfl rfl (hw4.cellsAll rl (by rw [r1]; simpa using z1.symm)) Try.underlying22 Try.info22 (by simpa using r1)) rfl ⟨rfl, ?_⟩
  have := below_cells (show N ≤ g4 by omega) rl 0 w4 (HA.out.2.2.2.trans (hb5.mono hs0))
  rw [HN.out]
  exact this
end Go.Proofs.Ytomnomopcpdpoaa
