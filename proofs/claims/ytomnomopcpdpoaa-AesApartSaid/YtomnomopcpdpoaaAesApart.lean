/- The law AesApart, walked. -/
import Derived.Test.YtomnomopcpdpoaaAesAwake
import Derived.Test.YtomnomopcpdpoaaAesEq
namespace Go.Proofs.Ytomnomopcpdpoaa
open Go.RowKit
set_option linter.unusedVariables false

theorem eq16_enc (K f g : Nat → B) : eq16 (st K f 10) (st K g 10) = eq16 f g := by
  rw [Bool.eq_iff_iff, eq16_iff, eq16_iff]
  constructor
  · exact fun h => st_inj K f g 10 h
  · intro h
    have : ∀ n, ∀ i, i < 16 → st K f n i = st K g n i := by
      intro n
      induction n with
      | zero =>
        intro i hi
        show f i ^^^ K i = g i ^^^ K i
        rw [h i hi]
      | succ n ih => exact rd_congr (n + 1) (fun _ _ => rfl) ih
    exact this 10

set_option maxHeartbeats 3200000 in
set_option maxRecDepth 100000 in
theorem apart_walk (key s t : Nat → B) (w : World) : Calls Try.prog 6 #[.agg (arr .u8 (fl 16 key)), .agg (arr .u8 (fl 16 s)), .agg (arr .u8 (fl 16 t))] w fun e w' => e = .returned (.bool true) ∧ Below w.heap.size w w' := by
  have HBS : Hid (∀ W, Calls Try.prog 8 #[.agg (bl key).toArray, .agg (bl s).toArray] W fun e w' => e = .returned (.agg (bl (st (ks key) s 10)).toArray) ∧ Below W.heap.size W w') := Lib.hid fun W => block_any key s W
  have HBT : Hid (∀ W, Calls Try.prog 8 #[.agg (bl key).toArray, .agg (bl t).toArray] W fun e w' => e = .returned (.agg (bl (st (ks key) t 10)).toArray) ∧ Below W.heap.size W w') := Lib.hid fun W => block_any key t W
  have heq1 : ∀ W, (Op.equalIn 10000 22 (.agg (bl (st (ks key) s 10)).toArray) (.agg (bl (st (ks key) t 10)).toArray)).run Try.prog W = .ok (eq16 s t) W := fun W => by
    have := run_eq16 (st (ks key) s 10) (st (ks key) t 10) W
    rw [eq16_enc] at this
    exact this
  have heq2 : ∀ W, (Op.equalIn 10000 22 (.agg (bl s).toArray) (.agg (bl t).toArray)).run Try.prog W = .ok (eq16 s t) W := fun W => run_eq16 s t W
  have hgd := Try.guard22
  rw [bl_arr, bl_arr, bl_arr]
  have k1 := bl_len key
  have s1 := bl_len s
  have t1 := bl_len t
  generalize bl (st (ks key) s 10) = rl at *
  generalize bl (st (ks key) t 10) = rm at *
  generalize bl key = kl at *
  generalize bl s = sl at *
  generalize bl t = tl at *
  generalize eq16 s t = q at *
  have hu := Try.underlying22
  have hi1 : (Try.prog.info? 22).map (·.size) = some kl.length := by rw [Try.info22, k1]
  have hi2 : (Try.prog.info? 22).map (·.size) = some sl.length := by rw [Try.info22, s1]
  have hi3 : (Try.prog.info? 22).map (·.size) = some tl.length := by rw [Try.info22, t1]
  have HF := Lib.hid (And.intro hu (And.intro hi1 (And.intro hi2 hi3)))
  clear k1 s1 t1 hu hi1 hi2 hi3
  go_enter Try.func6, Try.ntmps6
  go_upto_region 3 with (go_at_call 7; (with_reducible refine (awake_any _).mono ?_); rintro e w1 ⟨rfl, hb1⟩)
  have a0 := (((Whole.new w 22 kl.toArray).alloc (Obj.cells sl.toArray 22)).alloc (Obj.cells tl.toArray 22)).under hb1
  have a1 := ((Whole.new2 w (Obj.cells kl.toArray 22) 22 sl.toArray).alloc (Obj.cells tl.toArray 22)).under hb1
  have a3 : Whole w1 (w.heap.size + 1 + 1) 22 tl.toArray := by
    have := Whole.new ((w.alloc (Obj.cells kl.toArray 22)).alloc (Obj.cells sl.toArray 22)) 22 tl.toArray
    rw [World.size_alloc, World.size_alloc] at this
    exact this.under hb1
  have a2 : Below w.heap.size w w1 := ((two_new (w := w) 22 22 kl.toArray sl.toArray).alloc (by simp; omega) (Obj.cells tl.toArray 22)).trans (hb1.mono (by simp; omega))
  have HKEEP : Hid (∀ W, Below w1.heap.size w1 W → W.rangeAt w.heap.size 0 kl ∧ W.rangeAt (w.heap.size + 1) 0 sl ∧ W.rangeAt (w.heap.size + 1 + 1) 0 tl) := Lib.hid fun W hW => ⟨(a0.under hW).range, (a1.under hW).range, (a3.under hW).range⟩
  have hb0 : Below w1.heap.size w1 w1.drew := (Below.refl _ _).drew
  obtain ⟨hu, hi1, hi2, hi3⟩ := HF.out
  refine wp_region_held_drew (S := fun w' => w'.rangeAt w.heap.size 0 kl ∧ w'.rangeAt (w.heap.size + 1) 0 sl ∧ w'.rangeAt (w.heap.size + 1 + 1) 0 tl) (by kernel_rfl) (HKEEP.out _ hb0) (fun hHeld => ?_)
  refine wpAnyH_take (i := 0) (v := .agg kl.toArray) rfl (by kernel_rfl) (by kernel_rfl) (by kernel_rfl) (fun _ _ _ h => h) (yieldsIf_load_mid (by rfl) 22 (.tmp 3) rfl w.heap.size 0 rfl kl _ (fun w h => h.1) hu rfl hi1) (by assumption) ?_
  simp only [Act.put, List.setIfInBounds_toArray]
  refine wpAnyH_take (i := 1) (v := .agg sl.toArray) rfl (by kernel_rfl) (by kernel_rfl) (by kernel_rfl) (fun _ _ _ h => h) (yieldsIf_load_mid (by rfl) 22 (.tmp 4) rfl (w.heap.size + 1) 0 rfl sl _ (fun w h => h.2.1) hu rfl hi2) (by assumption) ?_
  simp only [Act.put]
  refine wpAnyH_take (i := 3) (v := .agg kl.toArray) rfl (by kernel_rfl) (by kernel_rfl) (by kernel_rfl) (fun _ _ _ h => h) (yieldsIf_load_mid (by rfl) 22 (.tmp 3) rfl w.heap.size 0 rfl kl _ (fun w h => h.1) hu rfl hi1) (by assumption) ?_
  simp only [Act.put]
  refine wpAnyH_take (i := 4) (v := .agg tl.toArray) rfl (by kernel_rfl) (by kernel_rfl) (by kernel_rfl) (fun _ _ _ h => h) (yieldsIf_load_mid (by rfl) 22 (.tmp 5) rfl (w.heap.size + 1 + 1) 0 rfl tl _ (fun w h => h.2.2) hu rfl hi3) (by assumption) ?_
  simp only [Act.put]
  refine wpAnyH_take (i := 7) (v := .agg sl.toArray) rfl (by kernel_rfl) (by kernel_rfl) (by kernel_rfl) (fun _ _ _ h => h) (yieldsIf_load_mid (by rfl) 22 (.tmp 4) rfl (w.heap.size + 1) 0 rfl sl _ (fun w h => h.2.1) hu rfl hi2) (by assumption) ?_
  simp only [Act.put]
  refine wpAnyH_take (i := 8) (v := .agg tl.toArray) rfl (by kernel_rfl) (by kernel_rfl) (by kernel_rfl) (fun _ _ _ h => h) (yieldsIf_load_mid (by rfl) 22 (.tmp 5) rfl (w.heap.size + 1 + 1) 0 rfl tl _ (fun w h => h.2.2) hu rfl hi3) (by assumption) ?_
  simp only [Act.put]
  refine wpAnyH_take (i := 9) (v := .bool q) rfl (by kernel_rfl) (by kernel_rfl) (by kernel_rfl) (fun _ _ _ h => h) (Or.inl ⟨by rfl, fun w h => by go_simp⟩) (by assumption) ?_
  simp only [Act.put]
  refine wpAnyH_ready (rs := [2]) (by kernel_rfl) (by simp) ?_
  refine AllReadyH.cons (i := 2) rfl (fun K hK => ?_) AllReadyH.nil
  go_simp
  refine (HBS.out _).mono ?_
  rintro e w3 ⟨rfl, hb2⟩
  have hb3 : Below w1.heap.size w1 w3 := hb0.trans (hb2.mono hb0.size)
  refine hK.out _ _ (HKEEP.out _ hb3) (fun hHeld => ?_)
  clear hK K
  refine wpAnyH_ready (rs := [5]) (by kernel_rfl) (by simp) ?_
  refine AllReadyH.cons (i := 5) rfl (fun K hK => ?_) AllReadyH.nil
  go_simp
  refine (HBT.out _).mono ?_
  rintro e w4 ⟨rfl, hb4⟩
  have hb5 : Below w1.heap.size w1 w4 := hb3.trans (hb4.mono hb3.size)
  refine hK.out _ _ (HKEEP.out _ hb5) (fun hHeld => ?_)
  clear hK K
  refine wpAnyH_ready (rs := [6]) (by kernel_rfl) (by simp) ?_
  refine AllReadyH.cons (i := 6) rfl (fun K hK => ?_) AllReadyH.nil
  go_simp
  refine hK.out _ _ (HKEEP.out _ hb5) (fun hHeld => ?_)
  clear hK K
  refine wpAnyH_ready (rs := [10]) (by kernel_rfl) (by simp) ?_
  refine AllReadyH.cons (i := 10) rfl (fun K hK => ?_) AllReadyH.nil
  go_simp
  refine hK.out _ _ (HKEEP.out _ hb5) (fun hHeld => ?_)
  clear hK K
  refine wpAnyH_ready (rs := [11]) (by kernel_rfl) (by simp) ?_
  refine AllReadyH.cons (i := 11) rfl (fun K hK => ?_) AllReadyH.nil
  go_simp
  refine hK.out _ _ (HKEEP.out _ hb5) (fun hHeld => ?_)
  clear hK K
  refine wpAnyH_done (by kernel_rfl) ?_ _
  go_wp2
  go_ret
  exact ⟨rfl, a2.trans (hb5.mono a2.size)⟩
end Go.Proofs.Ytomnomopcpdpoaa
