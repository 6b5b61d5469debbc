/- The document's Stream. -/
import Derived.Test.YtomnomopcpdpoaaAesStr
import Derived.Test.YtomnomopcpdpoaaAesBlockR
namespace Go.Proofs.Ytomnomopcpdpoaa
open Go.RowKit
set_option linter.unusedVariables false

theorem Own8.far {w : World} {base : Nat} {v : Value} {xs : List Int} {p : Addr} (h : Own8 w base v xs) (hp : p.block < base) (u : Value) : Own8 (w.setCell p u) base v xs := by
  refine ⟨h.1, ?_⟩
  rcases h.2 with h0 | ⟨g, cap, cur, h1, h2, h3, h4⟩
  · exact .inl h0
  · exact .inr ⟨g, cap, cur, h1, h2, (Below.heap_setCell w p u g (by omega)).trans h3, h4⟩
theorem Own8.grown_low {w w' : World} {base : Nat} {v : Value} {xs : List Int} {g : Nat} {t : TypeId} {cs : Array Value} (h : Own8 w base v xs) (hg : w.grownBy w' v.ownBlock) (hw : Whole w g t cs) (hl : g < base) : Whole w' g t cs :=
  hw.grown hg fun e => by have := (h.lt e.symm).1; omega
/-- A block more of the stream. -/
theorem fl_more (f g : Nat → B) (d : Nat) (h : ∀ i, i < 16 → g i = f (d + i)) : fl d f ++ fl 16 g = fl (d + 16) f := by
  apply List.ext_getElem?
  intro i
  rw [fl_at]
  by_cases ha : i < d
  · rw [List.getElem?_append_left (by simpa using ha), fl_at, if_pos ha, if_pos (by omega)]
  · rw [List.getElem?_append_right (by simp; omega), fl_length, fl_at]
    by_cases hb : i < d + 16
    · rw [if_pos (by omega), if_pos hb, h _ (by omega), show d + (i - d) = i by omega]
    · rw [if_neg (by omega), if_neg hb]
theorem fl_take (f : Nat → B) (d n : Nat) (h : n ≤ d) : (fl d f).take n = fl n f := by
  apply List.ext_getElem?
  intro i
  by_cases hi : i < n
  · rw [List.getElem?_take_of_lt hi, fl_at, fl_at, if_pos (by omega), if_pos hi]
  · rw [List.getElem?_eq_none (by simp; omega), List.getElem?_eq_none (by simp; omega)]

set_option maxHeartbeats 400000 in
theorem rstream_none (key iv : Nat → B) (n : Int) (hn : n < 1 ∨ 65536 < n) (w : World) : Calls Try.prog 11 #[.agg (arr .u8 (fl 16 key)), .agg (arr .u8 (fl 16 iv)), .int .i64 n] w fun e w' => e = .returned (.slice none 0 0) ∧ Below w.heap.size w w' := by
  generalize arr .u8 (fl 16 key) = ka
  obtain ⟨kb, hkb⟩ : ∃ kb, arr .u8 (fl 16 iv) = kb := ⟨_, rfl⟩
  rw [hkb]
  clear hkb
  rcases hn with h | h
  · go_enter Try.func11, Try.ntmps11
    go_wp2
    go_ret
    exact ⟨rfl, two_new _ _ _ _⟩
  · have h' : ¬ n < 1 := by omega
    go_enter Try.func11, Try.ntmps11
    go_wp2
    go_ret
    exact ⟨rfl, two_new _ _ _ _⟩

set_option maxHeartbeats 6400000 in
set_option maxRecDepth 100000 in
theorem rstream_some (key iv : Nat → B) (n : Nat) (hn1 : 1 ≤ n) (hn2 : n ≤ 65536) (w : World) : Calls Try.prog 11 #[.agg (arr .u8 (fl 16 key)), .agg (arr .u8 (fl 16 iv)), .int .i64 n] w fun e w' => ∃ A c, e = .returned (.slice A n c) ∧ Below w.heap.size w w' ∧ (A = none → c = 0) ∧ Bs w' w'.heap.size A n (fl n (strm (ks key) iv)) := by
  have hbox := rbox_any
  have hkeys : ∀ gs W, Whole W gs 34 (arr .u8 (fl 256 Sb)) → Calls Try.prog 15 #[.pointer (some ⟨gs, 0, none⟩), .agg (arr .u8 (fl 16 key))] W fun e w' => e = .returned (.agg (arr .u8 (fl 176 (ks key)))) ∧ Below W.heap.size W w' := fun gs W h => rkeys_any key gs W h
  obtain ⟨K, hK⟩ : ∃ K, ks key = K := ⟨_, rfl⟩
  rw [hK] at hkeys ⊢
  clear hK
  have hblk : ∀ gs gw W f, Whole W gs 34 (arr .u8 (fl 256 Sb)) → Whole W gw 37 (arr .u8 (fl 176 K)) → Calls Try.prog 16 #[.pointer (some ⟨gs, 0, none⟩), .pointer (some ⟨gw, 0, none⟩), .agg (arr .u8 (fl 16 f))] W fun e w' => e = .returned (.agg (arr .u8 (fl 16 (st K f 10)))) ∧ Below W.heap.size W w' := fun gs gw W f h1 h2 => rblock_any K f gs gw W h1 h2
  have hz := Try.zero22
  have hzb := Try.zero34
  have hzk := Try.zero37
  have x1 := arr_one .u8 (fl 256 Sb)
  have x2 : (arr .u8 (fl 256 Sb)).size = 256 := by simp
  have y1 := arr_one .u8 (fl 176 K)
  have y2 : (arr .u8 (fl 176 K)).size = 176 := by simp
  have zb2 : (arr .u8 (fl 256 zB)).size = 256 := by simp
  have zk2 : (arr .u8 (fl 176 zB)).size = 176 := by simp
  have z2 : (arr .u8 (fl 16 zB)).size = 16 := by simp
  have k2 : (arr .u8 (fl 16 key)).size = 16 := by simp
  obtain ⟨bx, hbx⟩ : ∃ bx, arr .u8 (fl 256 Sb) = bx := ⟨_, rfl⟩
  obtain ⟨zb, hzb'⟩ : ∃ zb, arr .u8 (fl 256 zB) = zb := ⟨_, rfl⟩
  obtain ⟨zk, hzk'⟩ : ∃ zk, arr .u8 (fl 176 zB) = zk := ⟨_, rfl⟩
  obtain ⟨ky, hky⟩ : ∃ ky, arr .u8 (fl 176 K) = ky := ⟨_, rfl⟩
  obtain ⟨Z, hZ⟩ : ∃ Z, arr .u8 (fl 16 zB) = Z := ⟨_, rfl⟩
  obtain ⟨ka, hka⟩ : ∃ ka, arr .u8 (fl 16 key) = ka := ⟨_, rfl⟩
  obtain ⟨kb, hkb⟩ : ∃ kb, arr .u8 (fl 16 iv) = kb := ⟨_, rfl⟩
  simp only [hbx] at hbox hkeys hblk x1 x2
  simp only [hzb'] at hzb zb2
  simp only [hzk'] at hzk zk2
  simp only [hky] at hkeys hblk y1 y2
  simp only [hZ] at hz z2
  simp only [hka] at hkeys k2 ⊢
  rw [hkb]
  have HB := Lib.hid hbox
  have HK := Lib.hid hkeys
  have HL := Lib.hid hblk
  have HF := Lib.hid (And.intro x1 (And.intro x2 (And.intro y1 (And.intro y2 (And.intro zb2 (And.intro zk2 (And.intro z2 (And.intro k2 hkb))))))))
  clear hbox hkeys hblk x1 x2 y1 y2 zb2 zk2 z2 k2 hbx hzb' hzk' hky hZ hka hkb
  have b1 : ¬ (n : Int) < 1 := by omega
  have b2 : ¬ (n : Int) > 65536 := by omega
  go_enter Try.func11, Try.ntmps11
  go_upto_region 3 with fail
  have a0 := (Whole.new w 22 ka).alloc (Obj.cells kb 22)
  have a1 := Whole.new2 w (Obj.cells ka 22) 22 kb
  have a2 := two_new (w := w) 22 22 ka kb
  generalize (w.alloc (Obj.cells ka 22)).alloc (Obj.cells kb 22) = W0 at *
  obtain ⟨N, hN⟩ : ∃ N, w.heap.size = N := ⟨_, rfl⟩
  obtain ⟨g4, hg4⟩ : ∃ g, N + 1 = g := ⟨_, rfl⟩
  have HN := Lib.hid hN
  rw [hN] at a0 a1 a2 ⊢
  rw [hg4] at a1 ⊢
  have l4 : N < g4 := by omega
  have HA := Lib.hid (And.intro a0 (And.intro a1 a2))
  have hs0 : N ≤ W0.heap.size := by have := a0.lt; omega
  have hg4W : g4 < W0.heap.size := a1.lt
  clear a0 a1 a2 hN hg4
  go_upto_region 4 with (first
    | (go_at_call 14; (with_reducible refine (HB.out _).mono ?_); rintro e w1 ⟨rfl, hb1⟩)
    | (refine wpList_store_whole rfl 34 (.tmp 7) (.tmp 18) rfl rfl rfl (Whole.new w1 34 zb) Try.info34 HF.out.2.1 HF.out.2.2.2.2.1 HF.out.1 ?_))
  have b0 : Below W0.heap.size W0 ((w1.alloc (Obj.cells zb 34)).setRow w1.heap.size bx) := below_row (hb1.alloc hb1.size _) hb1.size _
  have b1' : Whole ((w1.alloc (Obj.cells zb 34)).setRow w1.heap.size bx) w1.heap.size 34 bx := (Whole.new w1 34 zb).row bx
  have b3' : W0.heap.size ≤ w1.heap.size := hb1.size
  generalize (w1.alloc (Obj.cells zb 34)).setRow w1.heap.size bx = W1 at *
  generalize w1.heap.size = gs at *
  have HB1 := Lib.hid (And.intro b0 (And.intro b1' b3'))
  clear hb1 b0 b1' b3'
  go_upto_region 5 with (first
    | (refine wpList_load_whole rfl 22 (.tmp 3) rfl rfl (HA.out.1.under HB1.out.1) Try.underlying22 Try.info22 HF.out.2.2.2.2.2.2.2.1 ?_)
    | (go_at_call 15; (with_reducible refine (HK.out _ _ HB1.out.2.1).mono ?_); rintro e w2 ⟨rfl, hb2⟩)
    | (refine wpList_store_whole rfl 37 (.tmp 8) (.tmp 20) rfl rfl rfl (Whole.new w2 37 zk) Try.info37 HF.out.2.2.2.1 HF.out.2.2.2.2.2.1 HF.out.2.2.1 ?_))
  have c0 : Below W1.heap.size W1 ((w2.alloc (Obj.cells zk 37)).setRow w2.heap.size ky) := below_row (hb2.alloc hb2.size _) hb2.size _
  have c1 : Whole ((w2.alloc (Obj.cells zk 37)).setRow w2.heap.size ky) w2.heap.size 37 ky := (Whole.new w2 37 zk).row ky
  have lgs : g4 < gs := by have := HB1.out.2.2; omega
  have lgw : g4 < w2.heap.size := by have := HB1.out.1.size; have := hb2.size; omega
  generalize (w2.alloc (Obj.cells zk 37)).setRow w2.heap.size ky = W2 at *
  generalize w2.heap.size = gw at *
  have d0 := HB1.out.1.trans (c0.mono HB1.out.1.size)
  have m1 := HB1.out.2.1.under c0
  have m2 := HA.out.2.1.under d0
  rw [← HF.out.2.2.2.2.2.2.2.2] at m2
  have m3 := HA.out.2.2.trans (d0.mono hs0)
  obtain ⟨Bz, hBz⟩ : ∃ Bz, W2.heap.size = Bz := ⟨_, rfl⟩
  have q1 := m1.lt
  have q2 := c1.lt
  have q3 := m2.lt
  rw [hBz] at q1 q2 q3
  have HI := Lib.hid (And.intro (Own8.nil W2 Bz) (And.intro m2 (And.intro m1 (And.intro c1 (And.intro m3 (show Bz ≤ W2.heap.size by omega))))))
  clear c0 c1 hb2 d0 m1 m2 m3 hBz
  go_wp2
  go_loopw [9] (fun s9 wr => ∃ j : Nat, 16 * j < n + 16 ∧ Own8 wr Bz s9 (fl (16 * j) (strm K iv)) ∧ Whole wr g4 22 (arr .u8 (fl 16 (ivs iv j))) ∧ Whole wr gs 34 bx ∧ Whole wr gw 37 ky ∧ Below N w wr ∧ Bz ≤ wr.heap.size) (fun s9 _ => n + 16 - lenOf s9)
  case atStart => exact ⟨0, by omega, HI.out⟩
  case round =>
    clear HI
    obtain ⟨j, hj, ho, h4, hs, hw, hb, hB⟩ := hrel
    obtain ⟨A, c, hv, hc1, hc2, hc3, hbs⟩ := ho.form
    rw [fl_length] at hv hc1
    subst hv
    obtain ⟨q, hq⟩ : ∃ q, 16 * j = q := ⟨_, rfl⟩
    rw [hq] at ho hbs hj hc1 ⊢
    by_cases hlt : q < n
    · have hlt' : (q : Int) < (n : Int) := by omega
      have H := Lib.hid (And.intro ho (And.intro h4 (And.intro hs (And.intro hw (And.intro hb (And.intro hB hq))))))
      clear ho h4 hs hw hb hB hq hc1 hc2 hc3 hbs
      go_upto_region 8 with (first
        | (refine wpList_load_whole rfl 22 (.tmp 4) rfl rfl H.out.2.1 Try.underlying22 Try.info22 (by simp) ?_)
        | (go_at_call 16; (with_reducible refine (HL.out _ _ _ _ H.out.2.2.1 H.out.2.2.2.1).mono ?_); rintro e w3 ⟨rfl, hb3⟩)
        | (refine wpList_store_whole rfl 22 (.tmp 10) (.tmp 26) rfl rfl rfl (Whole.new w3 22 Z) Try.info22 (by simp) HF.out.2.2.2.2.2.2.1 (arr_one _ _) ?_))
      have hNr : N ≤ wr.heap.size := by have := H.out.2.1.lt; omega
      have hB3 : Bz ≤ w3.heap.size := Nat.le_trans H.out.2.2.2.2.2.1 hb3.size
      have d0 := below_row ((Below.refl _ w3).alloc (Nat.le_refl _) (Obj.cells Z 22)) (Nat.le_refl _) (arr .u8 (fl 16 (st K (ivs iv j) 10)))
      have d5 := (Whole.new w3 22 Z).row (arr .u8 (fl 16 (st K (ivs iv j) 10)))
      have d6 := hb3.trans (d0.mono hb3.size)
      generalize (w3.alloc (Obj.cells Z 22)).setRow w3.heap.size (arr .u8 (fl 16 (st K (ivs iv j) 10))) = W4 at *
      generalize w3.heap.size = gb at *
      have hsrc := Bs.row d5 0 (Nat.zero_le _)
      rw [Nat.sub_zero, List.drop_zero, fl_length] at hsrc
      have HD := Lib.hid (And.intro (Own8.under H.out.1 d6) (And.intro (H.out.2.1.under d6) (And.intro (H.out.2.2.1.under d6) (And.intro (H.out.2.2.2.1.under d6) (And.intro (H.out.2.2.2.2.1.trans (d6.mono hNr)) (And.intro (show Bz ≤ W4.heap.size from Nat.le_trans H.out.2.2.2.2.2.1 d6.size) hsrc))))))
      clear d0 d5 d6 hsrc hb3 hB3
      have HMO : Hid (fl q (strm K iv) ++ fl 16 (st K (ivs iv j) 10) = fl (q + 16) (strm K iv)) := Lib.hid (fl_more _ _ _ fun i hi => by
        unfold strm
        have := H.out.2.2.2.2.2.2
        rw [show (q + i) / 16 = j by omega, show (q + i) % 16 = i by omega])
      have HQ : Hid (16 * j = q ∧ q < n) := Lib.hid ⟨H.out.2.2.2.2.2.2, hlt⟩
      go_upto_region 9 with (at_builtin; refine wpList_append8 rfl (.tmp 27) (.tmp 28) rfl rfl HD.out.1 rfl HD.out.2.2.2.2.2.2 (fun e => by cases e) (by rw [fl_length]; omega) HD.out.2.2.2.2.2.1 ?_; intro v5 w5 ho5 hg5 hat5)
      rw [HMO.out] at ho5
      have e4 := HD.out.1.grown_low hg5 HD.out.2.1 q3
      have e5 := HD.out.1.grown_low hg5 HD.out.2.2.1 q1
      have e6 := HD.out.1.grown_low hg5 HD.out.2.2.2.1 q2
      have e7 := HD.out.2.2.2.2.1.grown hg5 (by have := HD.out.2.2.2.2.2.1; omega) (fun k hk => by have := (HD.out.1.lt hk).1; omega)
      have e8 : Bz ≤ w5.heap.size := Nat.le_trans HD.out.2.2.2.2.2.1 hg5.size
      have HME : Hid (n + 16 - lenOf v5 < n + 16 - q) := Lib.hid (by
        obtain ⟨A', c', hv', _⟩ := ho5.form
        rw [hv', fl_length]
        show n + 16 - (q + 16) < n + 16 - q
        omega)
      have HI := Lib.hid (And.intro ho5 (And.intro e4 (And.intro e5 (And.intro e6 (And.intro e7 e8)))))
      clear ho5 e4 e5 e6 e7 e8 hg5 hat5
      go_wp2
      go_loopw [11] (fun s11 wr => ∃ (i : Nat) (g : Nat → B), i ≤ 16 ∧ s11 = .int .i64 ((i : Int) - 1) ∧ inc i g = ivs iv (j + 1) ∧ Own8 wr Bz v5 (fl (q + 16) (strm K iv)) ∧ Whole wr g4 22 (arr .u8 (fl 16 g)) ∧ Whole wr gs 34 bx ∧ Whole wr gw 37 ky ∧ Below N w wr ∧ Bz ≤ wr.heap.size) (fun s11 _ => (intOf s11 + 1).toNat)
      case atStart => exact ⟨16, ivs iv j, by omega, rfl, rfl, HI.out⟩
      case round =>
        clear HI
        obtain ⟨i, g, hi, rfl, hinc, ho, h4, hs, hw, hb, hB⟩ := hrel
        by_cases hlt2 : 0 < i
        · obtain ⟨k, rfl⟩ : ∃ k, i = k + 1 := ⟨i - 1, by omega⟩
          have ek : ((k + 1 : Nat) : Int) - 1 = (k : Int) := by omega
          rw [ek]
          have c1 := h4.atf (i := k) (by omega)
          have f1 := h4.frz k
          have hput := h4.putf k (g k + 1#8)
          have hx := inc_int (g k)
          obtain ⟨x0, x1⟩ := nb_in (g k)
          have bk : (k : Int) < 16 := by omega
          by_cases hz : g k + 1#8 = 0#8
          · rw [inc_more hz] at hinc
            have hz0 : nb (g k + 1#8) = 0 := by rw [hz]; rfl
            rw [hz0] at hput hx
            generalize nb (g k) = x at *
            have HX := Lib.hid (And.intro hinc (And.intro (ho.far (p := ⟨g4, k, none⟩) q3 (.int .u8 0)) (And.intro hput (And.intro (hs.far (p := ⟨g4, k, none⟩) (by simp; omega) (.int .u8 0)) (And.intro (hw.far (p := ⟨g4, k, none⟩) (by simp; omega) (.int .u8 0)) (And.intro (hb.setCell (p := ⟨g4, k, none⟩) (by simp; omega) (.int .u8 0)) (show Bz ≤ (wr.setCell ⟨g4, k, none⟩ (.int .u8 0)).heap.size by simpa [World.setCell] using hB)))))))
            clear hinc hput ho h4 hs hw hb hB ek hz hz0
            go_wp2
            go_roundw
            case rel =>
              obtain ⟨p0, p1⟩ := HX.out
              exact ⟨k, _, by omega, rfl, p0, p1⟩
            case measure => simp [intOf]
          · rw [inc_last hz] at hinc
            have hz0 : (nb (g k + 1#8) == 0) = false := by
              have : nb (g k + 1#8) ≠ nb 0#8 := fun e => hz (nb_inj e)
              exact beq_false_of_ne this
            have hz1 : (nb (g k + 1#8) != 0) = true := by rw [bne, hz0]; rfl
            rw [hinc] at hput
            generalize nb (g k + 1#8) = z at *
            generalize nb (g k) = x at *
            have HX := Lib.hid (And.intro (ho.far (p := ⟨g4, k, none⟩) q3 (.int .u8 z)) (And.intro hput (And.intro (hs.far (p := ⟨g4, k, none⟩) (by simp; omega) (.int .u8 z)) (And.intro (hw.far (p := ⟨g4, k, none⟩) (by simp; omega) (.int .u8 z)) (And.intro (hb.setCell (p := ⟨g4, k, none⟩) (by simp; omega) (.int .u8 z)) (show Bz ≤ (wr.setCell ⟨g4, k, none⟩ (.int .u8 z)).heap.size by simpa [World.setCell] using hB))))))
            clear hinc hput ho h4 hs hw hb hB ek hz
            go_wp2
            go_roundw
            case rel =>
              obtain ⟨p1, p2, p3, p4, p5, p6⟩ := HX.out
              exact ⟨j + 1, by have := HQ.out; omega, by rw [show 16 * (j + 1) = q + 16 by have := HQ.out; omega]; exact p1, p2, p3, p4, p5, p6⟩
            case measure => exact HME.out
        · obtain rfl : i = 0 := by omega
          rw [show (((0 : Nat) : Int) - 1) = -1 from rfl]
          have hg : g = ivs iv (j + 1) := hinc
          rw [hg] at h4
          have HX := Lib.hid (And.intro ho (And.intro h4 (And.intro hs (And.intro hw (And.intro hb hB)))))
          clear ho h4 hs hw hb hB hinc hg
          go_wp2
          go_roundw
          case rel =>
            obtain ⟨p1, p2, p3, p4, p5, p6⟩ := HX.out
            exact ⟨j + 1, by have := HQ.out; omega, by rw [show 16 * (j + 1) = q + 16 by have := HQ.out; omega]; exact p1, p2, p3, p4, p5, p6⟩
          case measure => exact HME.out
    · have hlt' : ¬ (q : Int) < (n : Int) := by omega
      have hqc : (n : Int) ≤ (c : Int) := by omega
      have H := Lib.hid (And.intro hbs (And.intro hb hc3))
      clear ho h4 hs hw hb hB hq hbs hc3
      go_wp2
      go_ret
      refine ⟨A, c, rfl, ?_⟩
      rw [HN.out]
      refine ⟨H.out.2.1, H.out.2.2, ?_⟩
      have := H.out.1.head (k := n) (by rw [fl_length]; omega)
      rw [fl_take (strm K iv) q n (by omega)] at this
      exact this
end Go.Proofs.Ytomnomopcpdpoaa
