import Derived.Test.YtbbedhecfipdjaaGreatDoorPkAttrOrderB
import Derived.Test.YtbbedhecfipdjaaGreatDoorPkAttrOrderA01
namespace Go.Proofs.YtbbedhecfipdjaaGreatDoor
open Go.RowKit
set_option linter.unusedVariables false
set_option linter.unusedSimpArgs false
theorem below_chain {N : Nat} {w W W' : World} (hN : N ≤ w.heap.size) (h1 : Below N w W) (h2 : Below W.heap.size W W') : Below N w W' := h1.trans (h2.mono (Nat.le_trans hN h1.size))
set_option maxHeartbeats 3200000 in
set_option maxRecDepth 100000 in
theorem alikeC_any (n m : Int) (y1 y2 y3 y4 y5 x1 x2 x3 x4 x5 : Value) (gk gx : Nat) (w : World) (hk : w.cell? ⟨gk, 0, none⟩ = some (.func (.func 85) #[] #[])) (hx : Whole w gx 58 #[.int .i64 m, x1, x2, x3, x4, x5]) :
 Calls Tryz.prog 135 #[.agg #[.int .i64 n, y1, y2, y3, y4, y5], .pointer (some ⟨gk, 0, none⟩), .pointer (some ⟨gx, 0, none⟩)] w fun e w' => e = .returned (.bool (n == m)) ∧ Below w.heap.size w w' := by
 have hb0 : Below w.heap.size w (w.alloc (.cells #[.int .i64 n, y1, y2, y3, y4, y5] 58)) := (Below.refl _ w).alloc (Nat.le_refl _) _
 have hz := Whole.new w 58 #[.int .i64 n, y1, y2, y3, y4, y5]
 have hgk : gk < w.heap.size := block_lt_of_cell hk
 have hkk : (w.alloc (.cells #[.int .i64 n, y1, y2, y3, y4, y5] 58)).cell? ⟨gk, 0, none⟩ = some (.func (.func 85) #[] #[]) := (hb0.cell (p := ⟨gk, 0, none⟩) hgk).trans hk
 have hxx := hx.under hb0
 have HB := Lib.hid (And.intro hb0 (And.intro hz (And.intro hkk hxx)))
 clear hb0 hz hkk hxx hk hx hgk
 obtain ⟨N, hN⟩ : ∃ N, w.heap.size = N := ⟨_, rfl⟩
 rw [hN] at HB ⊢
 go_enter Tryz.func135, Tryz.ntmps135
 go_upto_region 1 with fail
 generalize w.alloc (.cells #[.int .i64 n, y1, y2, y3, y4, y5] 58) = W0 at *
 have HG : Hid (∀ W, Below W0.heap.size W0 W → W.cell? ⟨gk, 0, none⟩ = some (.func (.func 85) #[] #[])) := Lib.hid fun W hW => (hW.cell (p := ⟨gk, 0, none⟩) (block_lt_of_cell HB.out.2.2.1)).trans HB.out.2.2.1
 have HO0 : Hid (∀ W, Below W0.heap.size W0 W → W.cell? ⟨N, 0, none⟩ = some (.int .i64 n)) := Lib.hid fun W hW => (HB.out.2.1.under hW).cell 0
 have HO1 : Hid (∀ W, Below W0.heap.size W0 W → W.cell? ⟨N, 1, none⟩ = some (y1)) := Lib.hid fun W hW => (HB.out.2.1.under hW).cell 1
 have HO2 : Hid (∀ W, Below W0.heap.size W0 W → W.cell? ⟨N, 2, none⟩ = some (y2)) := Lib.hid fun W hW => (HB.out.2.1.under hW).cell 2
 have HO3 : Hid (∀ W, Below W0.heap.size W0 W → W.cell? ⟨N, 3, none⟩ = some (y3)) := Lib.hid fun W hW => (HB.out.2.1.under hW).cell 3
 have HO4 : Hid (∀ W, Below W0.heap.size W0 W → W.cell? ⟨N, 4, none⟩ = some (y4)) := Lib.hid fun W hW => (HB.out.2.1.under hW).cell 4
 have HO5 : Hid (∀ W, Below W0.heap.size W0 W → W.cell? ⟨N, 5, none⟩ = some (y5)) := Lib.hid fun W hW => (HB.out.2.1.under hW).cell 5
 have HX0 : Hid (∀ W, Below W0.heap.size W0 W → W.cell? ⟨gx, 0, none⟩ = some (.int .i64 m)) := Lib.hid fun W hW => (HB.out.2.2.2.under hW).cell 0
 have HX1 : Hid (∀ W, Below W0.heap.size W0 W → W.cell? ⟨gx, 1, none⟩ = some (x1)) := Lib.hid fun W hW => (HB.out.2.2.2.under hW).cell 1
 have HX2 : Hid (∀ W, Below W0.heap.size W0 W → W.cell? ⟨gx, 2, none⟩ = some (x2)) := Lib.hid fun W hW => (HB.out.2.2.2.under hW).cell 2
 have HX3 : Hid (∀ W, Below W0.heap.size W0 W → W.cell? ⟨gx, 3, none⟩ = some (x3)) := Lib.hid fun W hW => (HB.out.2.2.2.under hW).cell 3
 have HX4 : Hid (∀ W, Below W0.heap.size W0 W → W.cell? ⟨gx, 4, none⟩ = some (x4)) := Lib.hid fun W hW => (HB.out.2.2.2.under hW).cell 4
 have HX5 : Hid (∀ W, Below W0.heap.size W0 W → W.cell? ⟨gx, 5, none⟩ = some (x5)) := Lib.hid fun W hW => (HB.out.2.2.2.under hW).cell 5
 have HC : Hid (∀ W, Below W0.heap.size W0 W → Calls Tryz.prog 85 #[.agg #[.int .i64 n, y1, y2, y3, y4, y5]] W fun e w' => e = .returned (.int .i64 n) ∧ Below W.heap.size W w') := Lib.hid fun W _ => codecType_any _ _ _ _ _ _ W
 have HD : Hid (∀ W, Below W0.heap.size W0 W → Calls Tryz.prog 85 #[.agg #[.int .i64 m, x1, x2, x3, x4, x5]] W fun e w' => e = .returned (.int .i64 m) ∧ Below W.heap.size W w') := Lib.hid fun W _ => codecType_any _ _ _ _ _ _ W
 have HKB : Hid (∀ W W', Below W0.heap.size W0 W → Below W.heap.size W W' → Below W0.heap.size W0 W') := Lib.hid fun W W' h1 h2 => below_chain (Nat.le_refl _) h1 h2
 have HR0 : Hid (Below W0.heap.size W0 W0.drew) := Lib.hid (Below.refl _ _).drew
 have hNW : N ≤ W0.heap.size := Nat.le_of_lt HB.out.2.1.lt
 have HN := Lib.hid hNW
 clear hN hNW
 refine wp_region_held_drew (S := fun W => Below W0.heap.size W0 W) (by kernel_rfl) HR0.out (fun hHeld => ?_)
 refine wpAnyH_take (i := 0) (v := _) rfl (by as_aux_lemma => kernel_rfl) (by as_aux_lemma => kernel_rfl) (by as_aux_lemma => kernel_rfl) (fun _ _ _ h => h) (Or.inl ⟨by rfl, fun w h => by have e0 := HG.out w h; have e1 := HO0.out w h; have e2 := HO1.out w h; have e3 := HO2.out w h; have e4 := HO3.out w h; have e5 := HO4.out w h; have e6 := HO5.out w h; have e7 := HX0.out w h; have e8 := HX1.out w h; have e9 := HX2.out w h; have e10 := HX3.out w h; have e11 := HX4.out w h; have e12 := HX5.out w h; clear h; go_simp; (try with_reducible rfl)⟩) (by assumption) ?_
 simp only [Act.put, La, Lb, Lc, Ld, Le, Lf]
 refine wpAnyH_take (i := 1) (v := _) rfl (by as_aux_lemma => kernel_rfl) (by as_aux_lemma => kernel_rfl) (by as_aux_lemma => kernel_rfl) (fun _ _ _ h => h) (Or.inl ⟨by rfl, fun w h => by have e0 := HG.out w h; have e1 := HO0.out w h; have e2 := HO1.out w h; have e3 := HO2.out w h; have e4 := HO3.out w h; have e5 := HO4.out w h; have e6 := HO5.out w h; have e7 := HX0.out w h; have e8 := HX1.out w h; have e9 := HX2.out w h; have e10 := HX3.out w h; have e11 := HX4.out w h; have e12 := HX5.out w h; clear h; go_simp; (try with_reducible rfl)⟩) (by assumption) ?_
 simp only [Act.put, La, Lb, Lc, Ld, Le, Lf]
 refine wpAnyH_take (i := 3) (v := _) rfl (by as_aux_lemma => kernel_rfl) (by as_aux_lemma => kernel_rfl) (by as_aux_lemma => kernel_rfl) (fun _ _ _ h => h) (Or.inl ⟨by rfl, fun w h => by have e0 := HG.out w h; have e1 := HO0.out w h; have e2 := HO1.out w h; have e3 := HO2.out w h; have e4 := HO3.out w h; have e5 := HO4.out w h; have e6 := HO5.out w h; have e7 := HX0.out w h; have e8 := HX1.out w h; have e9 := HX2.out w h; have e10 := HX3.out w h; have e11 := HX4.out w h; have e12 := HX5.out w h; clear h; go_simp; (try with_reducible rfl)⟩) (by assumption) ?_
 simp only [Act.put, La, Lb, Lc, Ld, Le, Lf]
 refine wpAnyH_take (i := 4) (v := _) rfl (by as_aux_lemma => kernel_rfl) (by as_aux_lemma => kernel_rfl) (by as_aux_lemma => kernel_rfl) (fun _ _ _ h => h) (Or.inl ⟨by rfl, fun w h => by have e0 := HG.out w h; have e1 := HO0.out w h; have e2 := HO1.out w h; have e3 := HO2.out w h; have e4 := HO3.out w h; have e5 := HO4.out w h; have e6 := HO5.out w h; have e7 := HX0.out w h; have e8 := HX1.out w h; have e9 := HX2.out w h; have e10 := HX3.out w h; have e11 := HX4.out w h; have e12 := HX5.out w h; clear h; go_simp; (try with_reducible rfl)⟩) (by assumption) ?_
 simp only [Act.put, La, Lb, Lc, Ld, Le, Lf]
 refine wpAnyH_ready (rs := [2]) (by as_aux_lemma => kernel_rfl) (by simp) ?_
 refine AllReadyH.cons (i := 2) rfl (fun K hK => ?_) AllReadyH.nil
 go_simp
 refine (HC.out _ hHeld).mono ?_
 rintro e w4 ⟨rfl, hb4⟩
 refine hK.out _ _ (HKB.out _ _ hHeld hb4) (fun hHeld4 => ?_)
 clear hK K hHeld
 have hHeld := hHeld4
 clear hHeld4
 refine wpAnyH_ready (rs := [5]) (by as_aux_lemma => kernel_rfl) (by simp) ?_
 refine AllReadyH.cons (i := 5) rfl (fun K hK => ?_) AllReadyH.nil
 go_simp
 refine (HD.out _ hHeld).mono ?_
 rintro e w4 ⟨rfl, hb4⟩
 refine hK.out _ _ (HKB.out _ _ hHeld hb4) (fun hHeld4 => ?_)
 clear hK K hHeld
 have hHeld := hHeld4
 clear hHeld4
 refine wpAnyH_take (i := 6) (v := _) rfl (by as_aux_lemma => kernel_rfl) (by as_aux_lemma => kernel_rfl) (by as_aux_lemma => kernel_rfl) (fun _ _ _ h => h) (Or.inl ⟨by rfl, fun w h => by have e0 := HG.out w h; have e1 := HO0.out w h; have e2 := HO1.out w h; have e3 := HO2.out w h; have e4 := HO3.out w h; have e5 := HO4.out w h; have e6 := HO5.out w h; have e7 := HX0.out w h; have e8 := HX1.out w h; have e9 := HX2.out w h; have e10 := HX3.out w h; have e11 := HX4.out w h; have e12 := HX5.out w h; clear h; go_simp; (try with_reducible rfl)⟩) (by assumption) ?_
 simp only [Act.put, La, Lb, Lc, Ld, Le, Lf]
 refine wpAnyH_take (i := 7) (v := _) rfl (by as_aux_lemma => kernel_rfl) (by as_aux_lemma => kernel_rfl) (by as_aux_lemma => kernel_rfl) (fun _ _ _ h => h) (Or.inl ⟨by rfl, fun w h => by have e0 := HG.out w h; have e1 := HO0.out w h; have e2 := HO1.out w h; have e3 := HO2.out w h; have e4 := HO3.out w h; have e5 := HO4.out w h; have e6 := HO5.out w h; have e7 := HX0.out w h; have e8 := HX1.out w h; have e9 := HX2.out w h; have e10 := HX3.out w h; have e11 := HX4.out w h; have e12 := HX5.out w h; clear h; go_simp; (try with_reducible rfl)⟩) (by assumption) ?_
 simp only [Act.put, La, Lb, Lc, Ld, Le, Lf]
 refine wpAnyH_done (by as_aux_lemma => kernel_rfl) ?_ _
 have HH := Lib.hid hHeld
 clear hHeld
 go_wp2
 go_ret
 exact ⟨rfl, HB.out.1.trans (HH.out.mono HN.out)⟩
set_option maxHeartbeats 3200000 in
set_option maxRecDepth 100000 in
theorem alikeE_any (n m : Int) (y1 x1 : Value) (gk gx : Nat) (w : World) (hk : w.cell? ⟨gk, 0, none⟩ = some (.func (.func 88) #[] #[])) (hx : Whole w gx 84 #[.int .i64 m, x1]) :
 Calls Tryz.prog 140 #[.agg #[.int .i64 n, y1], .pointer (some ⟨gk, 0, none⟩), .pointer (some ⟨gx, 0, none⟩)] w fun e w' => e = .returned (.bool (n == m)) ∧ Below w.heap.size w w' := by
 have hb0 : Below w.heap.size w (w.alloc (.cells #[.int .i64 n, y1] 84)) := (Below.refl _ w).alloc (Nat.le_refl _) _
 have hz := Whole.new w 84 #[.int .i64 n, y1]
 have hgk : gk < w.heap.size := block_lt_of_cell hk
 have hkk : (w.alloc (.cells #[.int .i64 n, y1] 84)).cell? ⟨gk, 0, none⟩ = some (.func (.func 88) #[] #[]) := (hb0.cell (p := ⟨gk, 0, none⟩) hgk).trans hk
 have hxx := hx.under hb0
 have HB := Lib.hid (And.intro hb0 (And.intro hz (And.intro hkk hxx)))
 clear hb0 hz hkk hxx hk hx hgk
 obtain ⟨N, hN⟩ : ∃ N, w.heap.size = N := ⟨_, rfl⟩
 rw [hN] at HB ⊢
 go_enter Tryz.func140, Tryz.ntmps140
 go_upto_region 1 with fail
 generalize w.alloc (.cells #[.int .i64 n, y1] 84) = W0 at *
 have HG : Hid (∀ W, Below W0.heap.size W0 W → W.cell? ⟨gk, 0, none⟩ = some (.func (.func 88) #[] #[])) := Lib.hid fun W hW => (hW.cell (p := ⟨gk, 0, none⟩) (block_lt_of_cell HB.out.2.2.1)).trans HB.out.2.2.1
 have HO0 : Hid (∀ W, Below W0.heap.size W0 W → W.cell? ⟨N, 0, none⟩ = some (.int .i64 n)) := Lib.hid fun W hW => (HB.out.2.1.under hW).cell 0
 have HO1 : Hid (∀ W, Below W0.heap.size W0 W → W.cell? ⟨N, 1, none⟩ = some (y1)) := Lib.hid fun W hW => (HB.out.2.1.under hW).cell 1
 have HX0 : Hid (∀ W, Below W0.heap.size W0 W → W.cell? ⟨gx, 0, none⟩ = some (.int .i64 m)) := Lib.hid fun W hW => (HB.out.2.2.2.under hW).cell 0
 have HX1 : Hid (∀ W, Below W0.heap.size W0 W → W.cell? ⟨gx, 1, none⟩ = some (x1)) := Lib.hid fun W hW => (HB.out.2.2.2.under hW).cell 1
 have HC : Hid (∀ W, Below W0.heap.size W0 W → Calls Tryz.prog 88 #[.agg #[.int .i64 n, y1]] W fun e w' => e = .returned (.int .i64 n) ∧ Below W.heap.size W w') := Lib.hid fun W _ => extID_any _ _ W
 have HD : Hid (∀ W, Below W0.heap.size W0 W → Calls Tryz.prog 88 #[.agg #[.int .i64 m, x1]] W fun e w' => e = .returned (.int .i64 m) ∧ Below W.heap.size W w') := Lib.hid fun W _ => extID_any _ _ W
 have HKB : Hid (∀ W W', Below W0.heap.size W0 W → Below W.heap.size W W' → Below W0.heap.size W0 W') := Lib.hid fun W W' h1 h2 => below_chain (Nat.le_refl _) h1 h2
 have HR0 : Hid (Below W0.heap.size W0 W0.drew) := Lib.hid (Below.refl _ _).drew
 have hNW : N ≤ W0.heap.size := Nat.le_of_lt HB.out.2.1.lt
 have HN := Lib.hid hNW
 clear hN hNW
 refine wp_region_held_drew (S := fun W => Below W0.heap.size W0 W) (by kernel_rfl) HR0.out (fun hHeld => ?_)
 refine wpAnyH_take (i := 0) (v := _) rfl (by as_aux_lemma => kernel_rfl) (by as_aux_lemma => kernel_rfl) (by as_aux_lemma => kernel_rfl) (fun _ _ _ h => h) (Or.inl ⟨by rfl, fun w h => by have e0 := HG.out w h; have e1 := HO0.out w h; have e2 := HO1.out w h; have e3 := HX0.out w h; have e4 := HX1.out w h; clear h; go_simp; (try with_reducible rfl)⟩) (by assumption) ?_
 simp only [Act.put, La, Lb, Lc, Ld, Le, Lf]
 refine wpAnyH_take (i := 1) (v := _) rfl (by as_aux_lemma => kernel_rfl) (by as_aux_lemma => kernel_rfl) (by as_aux_lemma => kernel_rfl) (fun _ _ _ h => h) (Or.inl ⟨by rfl, fun w h => by have e0 := HG.out w h; have e1 := HO0.out w h; have e2 := HO1.out w h; have e3 := HX0.out w h; have e4 := HX1.out w h; clear h; go_simp; (try with_reducible rfl)⟩) (by assumption) ?_
 simp only [Act.put, La, Lb, Lc, Ld, Le, Lf]
 refine wpAnyH_take (i := 3) (v := _) rfl (by as_aux_lemma => kernel_rfl) (by as_aux_lemma => kernel_rfl) (by as_aux_lemma => kernel_rfl) (fun _ _ _ h => h) (Or.inl ⟨by rfl, fun w h => by have e0 := HG.out w h; have e1 := HO0.out w h; have e2 := HO1.out w h; have e3 := HX0.out w h; have e4 := HX1.out w h; clear h; go_simp; (try with_reducible rfl)⟩) (by assumption) ?_
 simp only [Act.put, La, Lb, Lc, Ld, Le, Lf]
 refine wpAnyH_take (i := 4) (v := _) rfl (by as_aux_lemma => kernel_rfl) (by as_aux_lemma => kernel_rfl) (by as_aux_lemma => kernel_rfl) (fun _ _ _ h => h) (Or.inl ⟨by rfl, fun w h => by have e0 := HG.out w h; have e1 := HO0.out w h; have e2 := HO1.out w h; have e3 := HX0.out w h; have e4 := HX1.out w h; clear h; go_simp; (try with_reducible rfl)⟩) (by assumption) ?_
 simp only [Act.put, La, Lb, Lc, Ld, Le, Lf]
 refine wpAnyH_ready (rs := [2]) (by as_aux_lemma => kernel_rfl) (by simp) ?_
 refine AllReadyH.cons (i := 2) rfl (fun K hK => ?_) AllReadyH.nil
 go_simp
 refine (HC.out _ hHeld).mono ?_
 rintro e w4 ⟨rfl, hb4⟩
 refine hK.out _ _ (HKB.out _ _ hHeld hb4) (fun hHeld4 => ?_)
 clear hK K hHeld
 have hHeld := hHeld4
 clear hHeld4
 refine wpAnyH_ready (rs := [5]) (by as_aux_lemma => kernel_rfl) (by simp) ?_
 refine AllReadyH.cons (i := 5) rfl (fun K hK => ?_) AllReadyH.nil
 go_simp
 refine (HD.out _ hHeld).mono ?_
 rintro e w4 ⟨rfl, hb4⟩
 refine hK.out _ _ (HKB.out _ _ hHeld hb4) (fun hHeld4 => ?_)
 clear hK K hHeld
 have hHeld := hHeld4
 clear hHeld4
 refine wpAnyH_take (i := 6) (v := _) rfl (by as_aux_lemma => kernel_rfl) (by as_aux_lemma => kernel_rfl) (by as_aux_lemma => kernel_rfl) (fun _ _ _ h => h) (Or.inl ⟨by rfl, fun w h => by have e0 := HG.out w h; have e1 := HO0.out w h; have e2 := HO1.out w h; have e3 := HX0.out w h; have e4 := HX1.out w h; clear h; go_simp; (try with_reducible rfl)⟩) (by assumption) ?_
 simp only [Act.put, La, Lb, Lc, Ld, Le, Lf]
 refine wpAnyH_take (i := 7) (v := _) rfl (by as_aux_lemma => kernel_rfl) (by as_aux_lemma => kernel_rfl) (by as_aux_lemma => kernel_rfl) (fun _ _ _ h => h) (Or.inl ⟨by rfl, fun w h => by have e0 := HG.out w h; have e1 := HO0.out w h; have e2 := HO1.out w h; have e3 := HX0.out w h; have e4 := HX1.out w h; clear h; go_simp; (try with_reducible rfl)⟩) (by assumption) ?_
 simp only [Act.put, La, Lb, Lc, Ld, Le, Lf]
 refine wpAnyH_done (by as_aux_lemma => kernel_rfl) ?_ _
 have HH := Lib.hid hHeld
 clear hHeld
 go_wp2
 go_ret
 exact ⟨rfl, HB.out.1.trans (HH.out.mono HN.out)⟩
set_option maxHeartbeats 3200000 in
set_option maxRecDepth 100000 in
theorem alikeS_any (s r : ByteArray) (gk gx : Nat) (w : World) (hk : w.cell? ⟨gk, 0, none⟩ = some (.func (.func 91) #[] #[])) (hx : w.cell? ⟨gx, 0, none⟩ = some (.string r)) :
 Calls Tryz.prog 143 #[.string s, .pointer (some ⟨gk, 0, none⟩), .pointer (some ⟨gx, 0, none⟩)] w fun e w' => e = .returned (.bool (s.toList == r.toList)) ∧ Below w.heap.size w w' := by
 have HG : Hid (∀ W, Below w.heap.size w W → W.cell? ⟨gk, 0, none⟩ = some (.func (.func 91) #[] #[])) := Lib.hid fun W hW => (hW.cell (p := ⟨gk, 0, none⟩) (block_lt_of_cell hk)).trans hk
 have HX : Hid (∀ W, Below w.heap.size w W → W.cell? ⟨gx, 0, none⟩ = some (.string r)) := Lib.hid fun W hW => (hW.cell (p := ⟨gx, 0, none⟩) (block_lt_of_cell hx)).trans hx
 have HC : Hid (∀ W, Below w.heap.size w W → Calls Tryz.prog 91 #[.string s] W fun e w' => e = .returned (.string s) ∧ Below W.heap.size W w') := Lib.hid fun W _ => (itselfS_any _ W).mono fun e w' ⟨h1, h2⟩ => ⟨h1, h2 ▸ Below.refl _ _⟩
 have HD : Hid (∀ W, Below w.heap.size w W → Calls Tryz.prog 91 #[.string r] W fun e w' => e = .returned (.string r) ∧ Below W.heap.size W w') := Lib.hid fun W _ => (itselfS_any _ W).mono fun e w' ⟨h1, h2⟩ => ⟨h1, h2 ▸ Below.refl _ _⟩
 have HKB : Hid (∀ W W', Below w.heap.size w W → Below W.heap.size W W' → Below w.heap.size w W') := Lib.hid fun W W' h1 h2 => below_chain (Nat.le_refl _) h1 h2
 have HR0 : Hid (Below w.heap.size w w.drew) := Lib.hid (Below.refl _ _).drew
 clear hk hx
 go_enter Tryz.func143, Tryz.ntmps143
 go_upto_region 1 with fail
 refine wp_region_held_drew (S := fun W => Below w.heap.size w W) (by kernel_rfl) HR0.out (fun hHeld => ?_)
 refine wpAnyH_take (i := 0) (v := _) rfl (by as_aux_lemma => kernel_rfl) (by as_aux_lemma => kernel_rfl) (by as_aux_lemma => kernel_rfl) (fun _ _ _ h => h) (Or.inl ⟨by rfl, fun w h => by have e0 := HG.out w h; have e1 := HX.out w h; clear h; go_simp; (try with_reducible rfl)⟩) (by assumption) ?_
 simp only [Act.put, La, Lb, Lc, Ld, Le, Lf]
 refine wpAnyH_take (i := 1) (v := _) rfl (by as_aux_lemma => kernel_rfl) (by as_aux_lemma => kernel_rfl) (by as_aux_lemma => kernel_rfl) (fun _ _ _ h => h) (Or.inl ⟨by rfl, fun w h => by have e0 := HG.out w h; have e1 := HX.out w h; clear h; go_simp; (try with_reducible rfl)⟩) (by assumption) ?_
 simp only [Act.put, La, Lb, Lc, Ld, Le, Lf]
 refine wpAnyH_take (i := 3) (v := _) rfl (by as_aux_lemma => kernel_rfl) (by as_aux_lemma => kernel_rfl) (by as_aux_lemma => kernel_rfl) (fun _ _ _ h => h) (Or.inl ⟨by rfl, fun w h => by have e0 := HG.out w h; have e1 := HX.out w h; clear h; go_simp; (try with_reducible rfl)⟩) (by assumption) ?_
 simp only [Act.put, La, Lb, Lc, Ld, Le, Lf]
 refine wpAnyH_take (i := 4) (v := _) rfl (by as_aux_lemma => kernel_rfl) (by as_aux_lemma => kernel_rfl) (by as_aux_lemma => kernel_rfl) (fun _ _ _ h => h) (Or.inl ⟨by rfl, fun w h => by have e0 := HG.out w h; have e1 := HX.out w h; clear h; go_simp; (try with_reducible rfl)⟩) (by assumption) ?_
 simp only [Act.put, La, Lb, Lc, Ld, Le, Lf]
 refine wpAnyH_ready (rs := [2]) (by as_aux_lemma => kernel_rfl) (by simp) ?_
 refine AllReadyH.cons (i := 2) rfl (fun K hK => ?_) AllReadyH.nil
 go_simp
 refine (HC.out _ hHeld).mono ?_
 rintro e w4 ⟨rfl, hb4⟩
 refine hK.out _ _ (HKB.out _ _ hHeld hb4) (fun hHeld4 => ?_)
 clear hK K hHeld
 have hHeld := hHeld4
 clear hHeld4
 refine wpAnyH_ready (rs := [5]) (by as_aux_lemma => kernel_rfl) (by simp) ?_
 refine AllReadyH.cons (i := 5) rfl (fun K hK => ?_) AllReadyH.nil
 go_simp
 refine (HD.out _ hHeld).mono ?_
 rintro e w4 ⟨rfl, hb4⟩
 refine hK.out _ _ (HKB.out _ _ hHeld hb4) (fun hHeld4 => ?_)
 clear hK K hHeld
 have hHeld := hHeld4
 clear hHeld4
 refine wpAnyH_take (i := 6) (v := _) rfl (by as_aux_lemma => kernel_rfl) (by as_aux_lemma => kernel_rfl) (by as_aux_lemma => kernel_rfl) (fun _ _ _ h => h) (Or.inl ⟨by rfl, fun w h => by have e0 := HG.out w h; have e1 := HX.out w h; clear h; go_simp; (try with_reducible rfl)⟩) (by assumption) ?_
 simp only [Act.put, La, Lb, Lc, Ld, Le, Lf]
 refine wpAnyH_take (i := 7) (v := _) rfl (by as_aux_lemma => kernel_rfl) (by as_aux_lemma => kernel_rfl) (by as_aux_lemma => kernel_rfl) (fun _ _ _ h => h) (Or.inl ⟨by rfl, fun w h => by have e0 := HG.out w h; have e1 := HX.out w h; clear h; go_simp; (try with_reducible rfl)⟩) (by assumption) ?_
 simp only [Act.put, La, Lb, Lc, Ld, Le, Lf]
 refine wpAnyH_done (by as_aux_lemma => kernel_rfl) ?_ _
 have HH := Lib.hid hHeld
 clear hHeld
 go_wp2
 go_ret
 exact ⟨rfl, HH.out⟩
set_option maxHeartbeats 3200000 in
set_option maxRecDepth 100000 in
theorem alikeU_any (n m : Int) (gk gx : Nat) (w : World) (hk : w.cell? ⟨gk, 0, none⟩ = some (.func (.func 94) #[] #[])) (hx : w.cell? ⟨gx, 0, none⟩ = some (.int .u32 m)) :
 Calls Tryz.prog 144 #[.int .u32 n, .pointer (some ⟨gk, 0, none⟩), .pointer (some ⟨gx, 0, none⟩)] w fun e w' => e = .returned (.bool (n == m)) ∧ Below w.heap.size w w' := by
 have HG : Hid (∀ W, Below w.heap.size w W → W.cell? ⟨gk, 0, none⟩ = some (.func (.func 94) #[] #[])) := Lib.hid fun W hW => (hW.cell (p := ⟨gk, 0, none⟩) (block_lt_of_cell hk)).trans hk
 have HX : Hid (∀ W, Below w.heap.size w W → W.cell? ⟨gx, 0, none⟩ = some (.int .u32 m)) := Lib.hid fun W hW => (hW.cell (p := ⟨gx, 0, none⟩) (block_lt_of_cell hx)).trans hx
 have HC : Hid (∀ W, Below w.heap.size w W → Calls Tryz.prog 94 #[.int .u32 n] W fun e w' => e = .returned (.int .u32 n) ∧ Below W.heap.size W w') := Lib.hid fun W _ => (itselfU_any _ W).mono fun e w' ⟨h1, h2⟩ => ⟨h1, h2 ▸ Below.refl _ _⟩
 have HD : Hid (∀ W, Below w.heap.size w W → Calls Tryz.prog 94 #[.int .u32 m] W fun e w' => e = .returned (.int .u32 m) ∧ Below W.heap.size W w') := Lib.hid fun W _ => (itselfU_any _ W).mono fun e w' ⟨h1, h2⟩ => ⟨h1, h2 ▸ Below.refl _ _⟩
 have HKB : Hid (∀ W W', Below w.heap.size w W → Below W.heap.size W W' → Below w.heap.size w W') := Lib.hid fun W W' h1 h2 => below_chain (Nat.le_refl _) h1 h2
 have HR0 : Hid (Below w.heap.size w w.drew) := Lib.hid (Below.refl _ _).drew
 clear hk hx
 go_enter Tryz.func144, Tryz.ntmps144
 go_upto_region 1 with fail
 refine wp_region_held_drew (S := fun W => Below w.heap.size w W) (by kernel_rfl) HR0.out (fun hHeld => ?_)
 refine wpAnyH_take (i := 0) (v := _) rfl (by as_aux_lemma => kernel_rfl) (by as_aux_lemma => kernel_rfl) (by as_aux_lemma => kernel_rfl) (fun _ _ _ h => h) (Or.inl ⟨by rfl, fun w h => by have e0 := HG.out w h; have e1 := HX.out w h; clear h; go_simp; (try with_reducible rfl)⟩) (by assumption) ?_
 simp only [Act.put, La, Lb, Lc, Ld, Le, Lf]
 refine wpAnyH_take (i := 1) (v := _) rfl (by as_aux_lemma => kernel_rfl) (by as_aux_lemma => kernel_rfl) (by as_aux_lemma => kernel_rfl) (fun _ _ _ h => h) (Or.inl ⟨by rfl, fun w h => by have e0 := HG.out w h; have e1 := HX.out w h; clear h; go_simp; (try with_reducible rfl)⟩) (by assumption) ?_
 simp only [Act.put, La, Lb, Lc, Ld, Le, Lf]
 refine wpAnyH_take (i := 3) (v := _) rfl (by as_aux_lemma => kernel_rfl) (by as_aux_lemma => kernel_rfl) (by as_aux_lemma => kernel_rfl) (fun _ _ _ h => h) (Or.inl ⟨by rfl, fun w h => by have e0 := HG.out w h; have e1 := HX.out w h; clear h; go_simp; (try with_reducible rfl)⟩) (by assumption) ?_
 simp only [Act.put, La, Lb, Lc, Ld, Le, Lf]
 refine wpAnyH_take (i := 4) (v := _) rfl (by as_aux_lemma => kernel_rfl) (by as_aux_lemma => kernel_rfl) (by as_aux_lemma => kernel_rfl) (fun _ _ _ h => h) (Or.inl ⟨by rfl, fun w h => by have e0 := HG.out w h; have e1 := HX.out w h; clear h; go_simp; (try with_reducible rfl)⟩) (by assumption) ?_
 simp only [Act.put, La, Lb, Lc, Ld, Le, Lf]
 refine wpAnyH_ready (rs := [2]) (by as_aux_lemma => kernel_rfl) (by simp) ?_
 refine AllReadyH.cons (i := 2) rfl (fun K hK => ?_) AllReadyH.nil
 go_simp
 refine (HC.out _ hHeld).mono ?_
 rintro e w4 ⟨rfl, hb4⟩
 refine hK.out _ _ (HKB.out _ _ hHeld hb4) (fun hHeld4 => ?_)
 clear hK K hHeld
 have hHeld := hHeld4
 clear hHeld4
 refine wpAnyH_ready (rs := [5]) (by as_aux_lemma => kernel_rfl) (by simp) ?_
 refine AllReadyH.cons (i := 5) rfl (fun K hK => ?_) AllReadyH.nil
 go_simp
 refine (HD.out _ hHeld).mono ?_
 rintro e w4 ⟨rfl, hb4⟩
 refine hK.out _ _ (HKB.out _ _ hHeld hb4) (fun hHeld4 => ?_)
 clear hK K hHeld
 have hHeld := hHeld4
 clear hHeld4
 refine wpAnyH_take (i := 6) (v := _) rfl (by as_aux_lemma => kernel_rfl) (by as_aux_lemma => kernel_rfl) (by as_aux_lemma => kernel_rfl) (fun _ _ _ h => h) (Or.inl ⟨by rfl, fun w h => by have e0 := HG.out w h; have e1 := HX.out w h; clear h; go_simp; (try with_reducible rfl)⟩) (by assumption) ?_
 simp only [Act.put, La, Lb, Lc, Ld, Le, Lf]
 refine wpAnyH_take (i := 7) (v := _) rfl (by as_aux_lemma => kernel_rfl) (by as_aux_lemma => kernel_rfl) (by as_aux_lemma => kernel_rfl) (fun _ _ _ h => h) (Or.inl ⟨by rfl, fun w h => by have e0 := HG.out w h; have e1 := HX.out w h; clear h; go_simp; (try with_reducible rfl)⟩) (by assumption) ?_
 simp only [Act.put, La, Lb, Lc, Ld, Le, Lf]
 refine wpAnyH_done (by as_aux_lemma => kernel_rfl) ?_ _
 have HH := Lib.hid hHeld
 clear hHeld
 go_wp2
 go_ret
 exact ⟨rfl, HH.out⟩
end Go.Proofs.YtbbedhecfipdjaaGreatDoor
