/- The program's columns: with keys, turned. -/
import Derived.Test.YtomnomopcpdpoaaAesTurn
import Derived.Deep.RegionHeld3
namespace Go.Proofs.Ytomnomopcpdpoaa
open Go.RowKit
set_option linter.unusedVariables false

/-- A round's key, added. -/
def addK (K : Nat → B) (n : Nat) (f : Nat → B) (i : Nat) : B := f i ^^^ K (16 * n + i)
theorem ncf_add (K : Nat → B) (n : Nat) (f : Nat → B) (c : Nat) : bits .xor .u32 (ncf f c) (ncf K (4 * n + c)) = ncf (addK K n f) c := by
  unfold ncf
  rw [nc_xor]
  unfold addK
  rw [show 4 * (4 * n + c) = 16 * n + 4 * c by omega]
  rfl

theorem Try.arr44 : Try.prog.underlying 43 = some (.array (Try.prog.arrayLen 43) (Try.prog.elem 43)) := by kernel_rfl
theorem Try.len44 : Try.prog.arrayLen 43 = 44 := by kernel_rfl
theorem Try.size44 (w : World) : (sizeOf (Try.prog.elem 43)).run Try.prog w = .ok 1 w := by kernel_rfl
/-- The keys from a place on. -/
theorem slice44 (g off m L : Nat) (hm : m + L = 44) (hL : 0 < L) (w : World) : (Instr.sliceAt 43 (.pointer (some ⟨g, off, none⟩)) (some (.int .i64 m)) none none).run Try.prog w = .ok (.slice (some ⟨g, off + m, none⟩) L L) w := by
  rw [run_sliceAt_array_l w 43 ⟨g, off, none⟩ Try.arr44 .i64 m (by omega) (by rw [Try.len44]; omega), Try.size44]
  simp only [Result.andThen_ok, slicedAt, Try.len44, Int.toNat_natCast, Nat.mul_one]
  rw [if_neg (by omega), Addr.add_lit]
  congr 2
  · omega
  · omega

set_option maxHeartbeats 1600000 in
set_option maxRecDepth 100000 in
theorem added_any (K : Nat → B) (gc : Nat) (f : Nat → B) (n : Nat) (hn : n ≤ 10) (w : World) (hC : Whole w gc 45 (ciph K)) :
    Calls Try.prog 23 #[.pointer (some ⟨gc, 0, none⟩), .agg (arr .u32 (cw f)), .int .i64 n] w fun e w' => e = .returned (.agg (arr .u32 (cw (addK K n f)))) ∧ Below w.heap.size w w' := by
  have hgc := hC.lt
  have hx0 := ncf_add K n f 0
  have hx1 := ncf_add K n f 1
  have hx2 := ncf_add K n f 2
  have hx3 := ncf_add K n f 3
  have hcw : arr .u32 (cw (addK K n f)) = #[.int .u32 (ncf (addK K n f) 0), .int .u32 (ncf (addK K n f) 1), .int .u32 (ncf (addK K n f) 2), .int .u32 (ncf (addK K n f) 3)] := rfl
  have hcf : arr .u32 (cw f) = #[.int .u32 (ncf f 0), .int .u32 (ncf f 1), .int .u32 (ncf f 2), .int .u32 (ncf f 3)] := rfl
  rw [hcw, hcf]
  clear hcw hcf
  obtain ⟨m, hm⟩ : ∃ m, 4 * n = m := ⟨_, rfl⟩
  rw [hm] at hx0 hx1 hx2 hx3
  have k0 := (hC.cell (256 + m)).trans (ciph_key K (j := m) (by omega))
  have k1 := (hC.cell (256 + m + 1)).trans (ciph_key K (j := m + 1) (by omega))
  have k2 := (hC.cell (256 + m + 2)).trans (ciph_key K (j := m + 2) (by omega))
  have k3 := (hC.cell (256 + m + 3)).trans (ciph_key K (j := m + 3) (by omega))
  generalize ncf (addK K n f) 0 = z0 at *
  generalize ncf (addK K n f) 1 = z1 at *
  generalize ncf (addK K n f) 2 = z2 at *
  generalize ncf (addK K n f) 3 = z3 at *
  generalize ncf f 0 = x0 at *
  generalize ncf f 1 = x1 at *
  generalize ncf f 2 = x2 at *
  generalize ncf f 3 = x3 at *
  generalize hy0 : ncf K (m + 0) = y0 at *
  generalize hy1 : ncf K (m + 1) = y1 at *
  generalize hy2 : ncf K (m + 2) = y2 at *
  generalize hy3 : ncf K (m + 3) = y3 at *
  have e1 : 4 * (n : Int) = (m : Int) := by omega
  obtain ⟨L, hL⟩ : ∃ L, m + L = 44 := ⟨44 - m, by omega⟩
  have hs := fun w => slice44 gc 256 m L hL (by omega) w
  have i0 : 0 < L := by omega
  have i1 : (1 : Int) < (L : Int) := by omega
  have i2 : (2 : Int) < (L : Int) := by omega
  have i3 : (3 : Int) < (L : Int) := by omega
  have b1 : (m : Int) ≤ 40 := by omega
  have HX := Lib.hid (And.intro hx0 (And.intro hx1 (And.intro hx2 hx3)))
  clear hx0 hx1 hx2 hx3 hy0 hy1 hy2 hy3 hm hC hL
  go_enter Try.func23, Try.ntmps23
  go_upto_region 2 with fail
  have a0 := (Whole.new w 47 #[.int .u32 x0, .int .u32 x1, .int .u32 x2, .int .u32 x3]).alloc (Obj.cells #[.int .u32 0, .int .u32 0, .int .u32 0, .int .u32 0] 47)
  have a1 := Whole.new2 w (Obj.cells #[.int .u32 x0, .int .u32 x1, .int .u32 x2, .int .u32 x3] 47) 47 #[.int .u32 0, .int .u32 0, .int .u32 0, .int .u32 0]
  have a2 := two_new (w := w) 47 47 #[.int .u32 x0, .int .u32 x1, .int .u32 x2, .int .u32 x3] #[.int .u32 0, .int .u32 0, .int .u32 0, .int .u32 0]
  have r0 := (a2.cell (p := ⟨gc, 256 + m, none⟩) hgc).trans k0
  have r1 := (a2.cell (p := ⟨gc, 256 + m + 1, none⟩) hgc).trans k1
  have r2 := (a2.cell (p := ⟨gc, 256 + m + 2, none⟩) hgc).trans k2
  have r3 := (a2.cell (p := ⟨gc, 256 + m + 3, none⟩) hgc).trans k3
  generalize (w.alloc (Obj.cells #[.int .u32 x0, .int .u32 x1, .int .u32 x2, .int .u32 x3] 47)).alloc (Obj.cells #[.int .u32 0, .int .u32 0, .int .u32 0, .int .u32 0] 47) = W at *
  clear k0 k1 k2 k3
  have t0 := a0.cell 0
  have t1 := a0.cell 1
  have t2 := a0.cell 2
  have t3 := a0.cell 3
  simp only [List.getElem?_toArray, List.getElem?_cons_zero, List.getElem?_cons_succ] at t0 t1 t2 t3
  have v0 := a1.cell 0
  have v1 := a1.cell 1
  have v2 := a1.cell 2
  have v3 := a1.cell 3
  simp only [List.getElem?_toArray, List.getElem?_cons_zero, List.getElem?_cons_succ] at v0 v1 v2 v3
  have f0 := a1.frz 0
  have f1 := a1.frz 1
  have f2 := a1.frz 2
  have f3 := a1.frz 3
  have hput := ((((a1.set 0 (.int .u32 z0)).set 1 (.int .u32 z1)).set 2 (.int .u32 z2)).set 3 (.int .u32 z3)).drew
  have hbel := ((((a2.setCell (p := ⟨w.heap.size + 1, 0, none⟩) (show w.heap.size ≤ w.heap.size + 1 by omega) (.int .u32 z0)).setCell (p := ⟨w.heap.size + 1, 1, none⟩) (show w.heap.size ≤ w.heap.size + 1 by omega) (.int .u32 z1)).setCell (p := ⟨w.heap.size + 1, 2, none⟩) (show w.heap.size ≤ w.heap.size + 1 by omega) (.int .u32 z2)).setCell (p := ⟨w.heap.size + 1, 3, none⟩) (show w.heap.size ≤ w.heap.size + 1 by omega) (.int .u32 z3)).drew
  have H := Lib.hid (And.intro hput hbel)
  clear a0 a1 a2 hput hbel
  refine wp_region_still_tail 25 (by kernel_rfl) (by kernel_rfl) ?_
  simp only [List.take_succ_cons, List.take_zero, List.drop_succ_cons, List.drop_zero]
  repeat still_step
  refine wpStill_nil ?_
  change wpList _ _ _ _ _ W.drew
  obtain ⟨q0, q1, q2, q3⟩ := HX.out
  rw [q0, q1, q2, q3]
  clear q0 q1 q2 q3
  go_wp2
  exact bodyPost_ret (v := .agg #[.int .u32 z0, .int .u32 z1, .int .u32 z2, .int .u32 z3]) (ret_whole (g := w.heap.size + 1) rfl rfl H.out.1 Try.underlying47 Try.info47 rfl) rfl ⟨rfl, H.out.2⟩

theorem far4 {W : World} {g k o : Nat} (h : k < g) (u0 u1 u2 u3 : Value) : ((((W.setCell ⟨g, 0, none⟩ u0).setCell ⟨g, 1, none⟩ u1).setCell ⟨g, 2, none⟩ u2).setCell ⟨g, 3, none⟩ u3).cell? ⟨k, o, none⟩ = W.cell? ⟨k, o, none⟩ :=
  (((((Below.refl g W).setCell (p := ⟨g, 0, none⟩) (Nat.le_refl _) u0).setCell (p := ⟨g, 1, none⟩) (Nat.le_refl _) u1).setCell (p := ⟨g, 2, none⟩) (Nat.le_refl _) u2).setCell (p := ⟨g, 3, none⟩) (Nat.le_refl _) u3).cell (p := ⟨k, o, none⟩) h
/-- The columns through S, turned. -/
theorem ncf_ss (f : Nat → B) : ncf (ss f) 0 = nc (Sb (f 0).toNat) (Sb (f 5).toNat) (Sb (f 10).toNat) (Sb (f 15).toNat) ∧ ncf (ss f) 1 = nc (Sb (f 4).toNat) (Sb (f 9).toNat) (Sb (f 14).toNat) (Sb (f 3).toNat) ∧
    ncf (ss f) 2 = nc (Sb (f 8).toNat) (Sb (f 13).toNat) (Sb (f 2).toNat) (Sb (f 7).toNat) ∧ ncf (ss f) 3 = nc (Sb (f 12).toNat) (Sb (f 1).toNat) (Sb (f 6).toNat) (Sb (f 11).toNat) := ⟨rfl, rfl, rfl, rfl⟩

set_option maxHeartbeats 1600000 in
set_option maxRecDepth 100000 in
theorem turned_any (K : Nat → B) (gc : Nat) (f : Nat → B) (w : World) (hC : Whole w gc 45 (ciph K)) :
    Calls Try.prog 24 #[.pointer (some ⟨gc, 0, none⟩), .agg (arr .u32 (cw f))] w fun e w' => e = .returned (.agg (arr .u32 (cw (ss f)))) ∧ Below w.heap.size w w' := by
  have hgc := hC.lt
  obtain ⟨s0, s1, s2, s3⟩ := ncf_ss f
  have HB : Hid (∀ W, Whole W gc 45 (ciph K) → ∀ a0 b0 c0 d0 a1 b1 c1 d1 a2 b2 c2 d2 a3 b3 c3 d3 : B, Calls Try.prog 21 #[.pointer (some ⟨gc, 0, none⟩), .int .u32 (nc a0 b0 c0 d0), .int .u32 (nc a1 b1 c1 d1), .int .u32 (nc a2 b2 c2 d2), .int .u32 (nc a3 b3 c3 d3)] W fun e w' => e = .returned (.int .u32 (nc (Sb a0.toNat) (Sb b1.toNat) (Sb c2.toNat) (Sb d3.toNat))) ∧ ∃ n, w' = W.drewN n) :=
    Lib.hid fun W hW a0 b0 c0 d0 a1 b1 c1 d1 a2 b2 c2 d2 a3 b3 c3 d3 => boxed_any gc a0 b0 c0 d0 a1 b1 c1 d1 a2 b2 c2 d2 a3 b3 c3 d3 W fun j hj => (hW.cell j).trans (ciph_box K hj)
  have hcw : arr .u32 (cw (ss f)) = #[.int .u32 (ncf (ss f) 0), .int .u32 (ncf (ss f) 1), .int .u32 (ncf (ss f) 2), .int .u32 (ncf (ss f) 3)] := rfl
  have hcf : arr .u32 (cw f) = #[.int .u32 (ncf f 0), .int .u32 (ncf f 1), .int .u32 (ncf f 2), .int .u32 (ncf f 3)] := rfl
  rw [hcw, hcf, s0, s1, s2, s3]
  have n0 : ncf f 0 = nc (f 0) (f 1) (f 2) (f 3) := rfl
  have n1 : ncf f 1 = nc (f 4) (f 5) (f 6) (f 7) := rfl
  have n2 : ncf f 2 = nc (f 8) (f 9) (f 10) (f 11) := rfl
  have n3 : ncf f 3 = nc (f 12) (f 13) (f 14) (f 15) := rfl
  rw [n0, n1, n2, n3]
  clear s0 s1 s2 s3 hcw hcf n0 n1 n2 n3
  generalize f 0 = f0
  generalize f 1 = f1
  generalize f 2 = f2
  generalize f 3 = f3
  generalize f 4 = f4
  generalize f 5 = f5
  generalize f 6 = f6
  generalize f 7 = f7
  generalize f 8 = f8
  generalize f 9 = f9
  generalize f 10 = f10
  generalize f 11 = f11
  generalize f 12 = f12
  generalize f 13 = f13
  generalize f 14 = f14
  generalize f 15 = f15
  have B0 : Hid (∀ W, Whole W gc 45 (ciph K) → Calls Try.prog 21 #[.pointer (some ⟨gc, 0, none⟩), .int .u32 (nc f0 f1 f2 f3), .int .u32 (nc f4 f5 f6 f7), .int .u32 (nc f8 f9 f10 f11), .int .u32 (nc f12 f13 f14 f15)] W fun e w' => e = .returned (.int .u32 (nc (Sb f0.toNat) (Sb f5.toNat) (Sb f10.toNat) (Sb f15.toNat))) ∧ ∃ n, w' = W.drewN n) := Lib.hid fun W hW => HB.out W hW _ _ _ _ _ _ _ _ _ _ _ _ _ _ _ _
  have B1 : Hid (∀ W, Whole W gc 45 (ciph K) → Calls Try.prog 21 #[.pointer (some ⟨gc, 0, none⟩), .int .u32 (nc f4 f5 f6 f7), .int .u32 (nc f8 f9 f10 f11), .int .u32 (nc f12 f13 f14 f15), .int .u32 (nc f0 f1 f2 f3)] W fun e w' => e = .returned (.int .u32 (nc (Sb f4.toNat) (Sb f9.toNat) (Sb f14.toNat) (Sb f3.toNat))) ∧ ∃ n, w' = W.drewN n) := Lib.hid fun W hW => HB.out W hW _ _ _ _ _ _ _ _ _ _ _ _ _ _ _ _
  have B2 : Hid (∀ W, Whole W gc 45 (ciph K) → Calls Try.prog 21 #[.pointer (some ⟨gc, 0, none⟩), .int .u32 (nc f8 f9 f10 f11), .int .u32 (nc f12 f13 f14 f15), .int .u32 (nc f0 f1 f2 f3), .int .u32 (nc f4 f5 f6 f7)] W fun e w' => e = .returned (.int .u32 (nc (Sb f8.toNat) (Sb f13.toNat) (Sb f2.toNat) (Sb f7.toNat))) ∧ ∃ n, w' = W.drewN n) := Lib.hid fun W hW => HB.out W hW _ _ _ _ _ _ _ _ _ _ _ _ _ _ _ _
  have B3 : Hid (∀ W, Whole W gc 45 (ciph K) → Calls Try.prog 21 #[.pointer (some ⟨gc, 0, none⟩), .int .u32 (nc f12 f13 f14 f15), .int .u32 (nc f0 f1 f2 f3), .int .u32 (nc f4 f5 f6 f7), .int .u32 (nc f8 f9 f10 f11)] W fun e w' => e = .returned (.int .u32 (nc (Sb f12.toNat) (Sb f1.toNat) (Sb f6.toNat) (Sb f11.toNat))) ∧ ∃ n, w' = W.drewN n) := Lib.hid fun W hW => HB.out W hW _ _ _ _ _ _ _ _ _ _ _ _ _ _ _ _
  clear HB
  generalize nc (Sb f0.toNat) (Sb f5.toNat) (Sb f10.toNat) (Sb f15.toNat) = z0 at *
  generalize nc (Sb f4.toNat) (Sb f9.toNat) (Sb f14.toNat) (Sb f3.toNat) = z1 at *
  generalize nc (Sb f8.toNat) (Sb f13.toNat) (Sb f2.toNat) (Sb f7.toNat) = z2 at *
  generalize nc (Sb f12.toNat) (Sb f1.toNat) (Sb f6.toNat) (Sb f11.toNat) = z3 at *
  generalize nc f0 f1 f2 f3 = x0 at *
  generalize nc f4 f5 f6 f7 = x1 at *
  generalize nc f8 f9 f10 f11 = x2 at *
  generalize nc f12 f13 f14 f15 = x3 at *
  have HC := Lib.hid hC
  clear hC
  go_enter Try.func24, Try.ntmps24
  go_upto_region 1 with fail
  have a0 := (Whole.new w 47 #[.int .u32 x0, .int .u32 x1, .int .u32 x2, .int .u32 x3]).alloc (Obj.cells #[.int .u32 0, .int .u32 0, .int .u32 0, .int .u32 0] 47)
  have a1 := Whole.new2 w (Obj.cells #[.int .u32 x0, .int .u32 x1, .int .u32 x2, .int .u32 x3] 47) 47 #[.int .u32 0, .int .u32 0, .int .u32 0, .int .u32 0]
  have a2 := two_new (w := w) 47 47 #[.int .u32 x0, .int .u32 x1, .int .u32 x2, .int .u32 x3] #[.int .u32 0, .int .u32 0, .int .u32 0, .int .u32 0]
  generalize (w.alloc (Obj.cells #[.int .u32 x0, .int .u32 x1, .int .u32 x2, .int .u32 x3] 47)).alloc (Obj.cells #[.int .u32 0, .int .u32 0, .int .u32 0, .int .u32 0] 47) = W at *
  have t0 := a0.cell 0
  have t1 := a0.cell 1
  have t2 := a0.cell 2
  have t3 := a0.cell 3
  simp only [List.getElem?_toArray, List.getElem?_cons_zero, List.getElem?_cons_succ] at t0 t1 t2 t3
  have v0 := a1.cell 0
  have v1 := a1.cell 1
  have v2 := a1.cell 2
  have v3 := a1.cell 3
  simp only [List.getElem?_toArray, List.getElem?_cons_zero, List.getElem?_cons_succ] at v0 v1 v2 v3
  have g0 := a1.frz 0
  have g1 := a1.frz 1
  have g2 := a1.frz 2
  have g3 := a1.frz 3
  have HCW := Lib.hid (HC.out.below a2 hgc)
  have HA := Lib.hid (And.intro a1 a2)
  have hS : W.cell? ⟨w.heap.size, 0, none⟩ = some (.int .u32 x0) ∧ W.cell? ⟨w.heap.size, 1, none⟩ = some (.int .u32 x1) ∧ W.cell? ⟨w.heap.size, 2, none⟩ = some (.int .u32 x2) ∧ W.cell? ⟨w.heap.size, 3, none⟩ = some (.int .u32 x3) := ⟨t0, t1, t2, t3⟩
  have HS := Lib.hid hS
  clear a0 a1 a2 hS
  go_region_held3 (fun w' => w'.cell? ⟨w.heap.size, 0, none⟩ = some (.int .u32 x0) ∧ w'.cell? ⟨w.heap.size, 1, none⟩ = some (.int .u32 x1) ∧ w'.cell? ⟨w.heap.size, 2, none⟩ = some (.int .u32 x2) ∧ w'.cell? ⟨w.heap.size, 3, none⟩ = some (.int .u32 x3)) (first | exact HS.out | exact ⟨(far4 (Nat.lt_succ_self _) _ _ _ _).trans HS.out.1, (far4 (Nat.lt_succ_self _) _ _ _ _).trans HS.out.2.1, (far4 (Nat.lt_succ_self _) _ _ _ _).trans HS.out.2.2.1, (far4 (Nat.lt_succ_self _) _ _ _ _).trans HS.out.2.2.2⟩) (first
    | (go_at_call 21; (with_reducible refine (B0.out _ ?_).mono ?_); exact HCW.out; rintro e w1 ⟨rfl, n1, rfl⟩)
    | (go_at_call 21; (with_reducible refine (B1.out _ ?_).mono ?_); exact HCW.out; rintro e w1 ⟨rfl, n2, rfl⟩)
    | (go_at_call 21; (with_reducible refine (B2.out _ ?_).mono ?_); exact HCW.out; rintro e w1 ⟨rfl, n3, rfl⟩)
    | (go_at_call 21; (with_reducible refine (B3.out _ ?_).mono ?_); exact HCW.out; rintro e w1 ⟨rfl, n4, rfl⟩))
  all_goals
    go_wp2
    exact bodyPost_ret (v := .agg #[.int .u32 z0, .int .u32 z1, .int .u32 z2, .int .u32 z3]) (ret_whole (g := w.heap.size + 1) rfl rfl ((((Whole.set (HA.out.1.drewN _) 0 (.int .u32 z0)).set 1 (.int .u32 z1)).set 2 (.int .u32 z2)).set 3 (.int .u32 z3)) Try.underlying47 Try.info47 rfl) rfl
      ⟨rfl, (((Below.setCell (below_drewN' HA.out.2 _) (p := ⟨w.heap.size + 1, 0, none⟩) (Nat.le_succ _) (.int .u32 z0)).setCell (p := ⟨w.heap.size + 1, 1, none⟩) (Nat.le_succ _) (.int .u32 z1)).setCell (p := ⟨w.heap.size + 1, 2, none⟩) (Nat.le_succ _) (.int .u32 z2)).setCell (p := ⟨w.heap.size + 1, 3, none⟩) (Nat.le_succ _) (.int .u32 z3)⟩
end Go.Proofs.Ytomnomopcpdpoaa
