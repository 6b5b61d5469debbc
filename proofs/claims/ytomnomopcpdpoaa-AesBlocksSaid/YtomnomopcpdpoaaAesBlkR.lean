/- The document's Block. -/
import Derived.Test.YtomnomopcpdpoaaAesBlockR
import Derived.Test.YtomnomopcpdpoaaAesRows
namespace Go.Proofs.Ytomnomopcpdpoaa
open Go.RowKit
set_option linter.unusedVariables false

set_option maxHeartbeats 3200000 in
set_option maxRecDepth 100000 in
theorem rBlock_any (key s : Nat → B) (w : World) : Calls Try.prog 9 #[.agg (arr .u8 (fl 16 key)), .agg (arr .u8 (fl 16 s))] w fun e w' => e = .returned (.agg (arr .u8 (fl 16 (st (ks key) s 10)))) ∧ Below w.heap.size w w' := by
  have hbox := rbox_any
  have hkeys : ∀ gs W, Whole W gs 34 (arr .u8 (fl 256 Sb)) → Calls Try.prog 15 #[.pointer (some ⟨gs, 0, none⟩), .agg (bl key).toArray] W fun e w' => e = .returned (.agg (arr .u8 (fl 176 (ks key)))) ∧ Below W.heap.size W w' := fun gs W h => rkeys_any key gs W h
  have hblk : ∀ gs gw W, Whole W gs 34 (arr .u8 (fl 256 Sb)) → Whole W gw 37 (arr .u8 (fl 176 (ks key))) → Calls Try.prog 16 #[.pointer (some ⟨gs, 0, none⟩), .pointer (some ⟨gw, 0, none⟩), .agg (bl s).toArray] W fun e w' => e = .returned (.agg (bl (st (ks key) s 10)).toArray) ∧ Below W.heap.size W w' := fun gs gw W h1 h2 => rblock_any (ks key) s gs gw W h1 h2
  rw [bl_arr, bl_arr, bl_arr]
  have hz := Try.zero22
  rw [bl_arr] at hz
  have hzb := Try.zero34
  have hzk := Try.zero37
  have k1 := bl_len key
  have s1 := bl_len s
  have r1 := bl_len (st (ks key) s 10)
  have z1 := bl_len zB
  have k2 := bl_one key
  have s2 := bl_one s
  have r2 := bl_one (st (ks key) s 10)
  have x1 := arr_one .u8 (fl 256 Sb)
  have x2 : (arr .u8 (fl 256 Sb)).size = 256 := by simp
  have y1 := arr_one .u8 (fl 176 (ks key))
  have y2 : (arr .u8 (fl 176 (ks key))).size = 176 := by simp
  have zb2 : (arr .u8 (fl 256 zB)).size = 256 := by simp
  have zk2 : (arr .u8 (fl 176 zB)).size = 176 := by simp
  generalize bl (st (ks key) s 10) = rl at *
  generalize bl key = kl at *
  generalize bl s = sl at *
  generalize bl zB = zl at *
  generalize arr .u8 (fl 176 (ks key)) = ky at *
  generalize arr .u8 (fl 176 zB) = zk at *
  obtain ⟨bx, hbx⟩ : ∃ bx, arr .u8 (fl 256 Sb) = bx := ⟨_, rfl⟩
  obtain ⟨zb, hzb'⟩ : ∃ zb, arr .u8 (fl 256 zB) = zb := ⟨_, rfl⟩
  simp only [hbx] at hbox hkeys hblk x1 x2
  simp only [hzb'] at hzb zb2
  clear hbx hzb'
  have HB := Lib.hid hbox
  have HK := Lib.hid hkeys
  have HL := Lib.hid hblk
  have HF := Lib.hid (And.intro k1 (And.intro s1 (And.intro r1 (And.intro z1 (And.intro r2 (And.intro x1 (And.intro x2 (And.intro y1 (And.intro y2 (And.intro zb2 zk2))))))))))
  clear hbox hkeys hblk k1 s1 r1 z1 k2 s2 r2 x1 x2 y1 y2 zb2 zk2
  go_enter Try.func9, Try.ntmps9
  go_upto_region 1 with fail
  have a0 : Whole (((w.alloc (Obj.cells kl.toArray 22)).alloc (Obj.cells sl.toArray 22)).alloc (Obj.cells zl.toArray 22)) w.heap.size 22 kl.toArray := ((Whole.new _ _ _).alloc _).alloc _
  have a1 : Whole (((w.alloc (Obj.cells kl.toArray 22)).alloc (Obj.cells sl.toArray 22)).alloc (Obj.cells zl.toArray 22)) (w.heap.size + 1) 22 sl.toArray := (Whole.new2 _ _ _ _).alloc _
  have a2 : Whole (((w.alloc (Obj.cells kl.toArray 22)).alloc (Obj.cells sl.toArray 22)).alloc (Obj.cells zl.toArray 22)) (w.heap.size + 1 + 1) 22 zl.toArray := by
    have := Whole.new ((w.alloc (Obj.cells kl.toArray 22)).alloc (Obj.cells sl.toArray 22)) 22 zl.toArray
    rw [World.size_alloc, World.size_alloc] at this
    exact this
  have a3 : Below w.heap.size w (((w.alloc (Obj.cells kl.toArray 22)).alloc (Obj.cells sl.toArray 22)).alloc (Obj.cells zl.toArray 22)) := (two_new _ _ _ _).alloc (by simp; omega) _
  generalize ((w.alloc (Obj.cells kl.toArray 22)).alloc (Obj.cells sl.toArray 22)).alloc (Obj.cells zl.toArray 22) = W0 at *
  obtain ⟨N, hN⟩ : ∃ N, w.heap.size = N := ⟨_, rfl⟩
  obtain ⟨g3, hg3⟩ : ∃ g, N + 1 = g := ⟨_, rfl⟩
  obtain ⟨g4, hg4⟩ : ∃ g, g3 + 1 = g := ⟨_, rfl⟩
  have HN := Lib.hid hN
  rw [hN] at a0 a1 a2 a3 ⊢
  rw [hg3] at a1 a2 ⊢
  rw [hg4] at a2 ⊢
  have l3 : N < g3 := by omega
  have l4 : g3 < g4 := by omega
  have hs0 : N ≤ W0.heap.size := by have := a0.lt; omega
  have HA := Lib.hid (And.intro a0 (And.intro a1 (And.intro a2 a3)))
  clear a0 a1 a2 a3 hN hg3 hg4
  go_upto_region 2 with (first
    | (go_at_call 14; (with_reducible refine (HB.out _).mono ?_); rintro e w1 ⟨rfl, hb1⟩)
    | (refine wpList_store_whole rfl 34 (.tmp 5) (.tmp 7) rfl rfl rfl (Whole.new w1 34 zb) Try.info34 HF.out.2.2.2.2.2.2.1 HF.out.2.2.2.2.2.2.2.2.2.1 HF.out.2.2.2.2.2.1 ?_))
  have b0 : Below W0.heap.size W0 ((w1.alloc (Obj.cells zb 34)).setRow w1.heap.size bx) := below_row (hb1.alloc hb1.size _) hb1.size _
  have b1 : Whole ((w1.alloc (Obj.cells zb 34)).setRow w1.heap.size bx) w1.heap.size 34 bx := (Whole.new w1 34 zb).row bx
  generalize (w1.alloc (Obj.cells zb 34)).setRow w1.heap.size bx = W1 at *
  generalize w1.heap.size = g5 at *
  have HB1 := Lib.hid (And.intro b0 b1)
  clear hb1 b0 b1
  go_upto_region 3 with (first
    | (refine wpList_load_whole rfl 22 (.tmp 2) rfl rfl (HA.out.1.under HB1.out.1) Try.underlying22 Try.info22 (by simpa using HF.out.1) ?_)
    | (go_at_call 15; (with_reducible refine (HK.out _ _ HB1.out.2).mono ?_); rintro e w2 ⟨rfl, hb2⟩)
    | (refine wpList_store_whole rfl 37 (.tmp 6) (.tmp 9) rfl rfl rfl (Whole.new w2 37 zk) Try.info37 HF.out.2.2.2.2.2.2.2.2.1 HF.out.2.2.2.2.2.2.2.2.2.2 HF.out.2.2.2.2.2.2.2.1 ?_))
  have c0 : Below W1.heap.size W1 ((w2.alloc (Obj.cells zk 37)).setRow w2.heap.size ky) := below_row (hb2.alloc hb2.size _) hb2.size _
  have c1 : Whole ((w2.alloc (Obj.cells zk 37)).setRow w2.heap.size ky) w2.heap.size 37 ky := (Whole.new w2 37 zk).row ky
  generalize (w2.alloc (Obj.cells zk 37)).setRow w2.heap.size ky = W2 at *
  generalize w2.heap.size = g6 at *
  have HB2 := Lib.hid (And.intro c0 c1)
  clear hb2 c0 c1
  have d0 := HB1.out.1.trans (HB2.out.1.mono HB1.out.1.size)
  go_wp2_with (first
    | (refine wpList_load_whole rfl 22 (.tmp 3) rfl rfl (HA.out.2.1.under d0) Try.underlying22 Try.info22 (by simpa using HF.out.2.1) ?_)
    | (go_at_call 16; (with_reducible refine (HL.out _ _ _ (HB1.out.2.under HB2.out.1) HB2.out.2).mono ?_); rintro e w3 ⟨rfl, hb3⟩; have d1 := d0.trans (hb3.mono d0.size))
    | (refine wpList_store_whole rfl 22 (.tmp 4) (.tmp 11) rfl rfl rfl (HA.out.2.2.1.under d1) Try.info22 (by simpa using HF.out.2.2.1) (by simpa using HF.out.2.2.2.1) (all_oneCell_toArray HF.out.2.2.2.2.1) ?_))
  refine bodyPost_ret (v := .agg rl.toArray) (ret_whole (g := g4) rfl rfl ((HA.out.2.2.1.under d1).row _) Try.underlying22 Try.info22 (by simpa using HF.out.2.2.1)) rfl ⟨rfl, ?_⟩
  have := below_row (HA.out.2.2.2.trans (d1.mono hs0)) (show N ≤ g4 by omega) rl.toArray
  rw [HN.out]
  exact this
end Go.Proofs.Ytomnomopcpdpoaa
