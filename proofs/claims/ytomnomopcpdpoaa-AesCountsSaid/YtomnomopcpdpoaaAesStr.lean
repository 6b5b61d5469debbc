/- The program's Stream. -/
import Derived.Test.YtomnomopcpdpoaaAesBlk
import Derived.Test.YtomnomopcpdpoaaAesNext
import Derived.Test.YtomnomopcpdpoaaBytes
namespace Go.Proofs.Ytomnomopcpdpoaa
open Go.RowKit
set_option linter.unusedVariables false

set_option maxHeartbeats 400000 in
theorem stream_none (key iv : Nat → B) (n : Int) (hn : n < 1 ∨ 65536 < n) (w : World) : Calls Try.prog 10 #[.agg (arr .u8 (fl 16 key)), .agg (arr .u8 (fl 16 iv)), .int .i64 n] w fun e w' => e = .returned (.slice none 0 0) ∧ Below w.heap.size w w' := by
  generalize arr .u8 (fl 16 key) = ka
  obtain ⟨kb, hkb⟩ : ∃ kb, arr .u8 (fl 16 iv) = kb := ⟨_, rfl⟩
  rw [hkb]
  clear hkb
  rcases hn with h | h
  · go_enter Try.func10, Try.ntmps10
    go_wp2
    go_ret
    exact ⟨rfl, two_new _ _ _ _⟩
  · have h' : ¬ n < 1 := by omega
    go_enter Try.func10, Try.ntmps10
    go_wp2
    go_ret
    exact ⟨rfl, two_new _ _ _ _⟩

theorem fl_zero (n : Nat) : List.replicate n (0 : Int) = fl n (kT (fun _ => 0#8) 0) := by
  apply List.ext_getElem
  · simp
  · intro i h1 h2
    simp [fl, kT]
    rfl
theorem fl_kT0 (n : Nat) (f : Nat → B) : List.replicate n (0 : Int) = fl n (kT f 0) := by
  rw [fl_zero]
  exact fl_congr fun i _ => by unfold kT; simp
theorem fl_at (n : Nat) (f : Nat → B) (i : Nat) : (fl n f)[i]? = if i < n then some (nb (f i)) else none := by
  by_cases h : i < n
  · rw [if_pos h, List.getElem?_eq_getElem (by simpa using h)]
    simp [fl]
  · rw [if_neg h, List.getElem?_eq_none (by simp; omega)]
/-- A block's bytes are laid behind the first ones. -/
theorem splice_fl (n d m : Nat) (f g : Nat → B) (hm : m ≤ 16) (hd : d + m ≤ n) (hg : ∀ i, i < m → g i = f (d + i)) : splice (fl n (kT f d)) d ((fl 16 g).take m) = fl n (kT f (d + m)) := by
  have hlen : ((fl 16 g).take m).length = m := by simp; omega
  have hl2 : ((fl n (kT f d)).take d).length = d := by simp; omega
  apply List.ext_getElem?
  intro i
  unfold splice
  rw [fl_at]
  by_cases ha : i < d
  · rw [List.getElem?_append_left (by omega), List.getElem?_take_of_lt ha, fl_at, if_pos (by omega), if_pos (by omega)]
    unfold kT
    rw [if_pos ha, if_pos (by omega)]
  · rw [List.getElem?_append_right (by omega), hl2]
    by_cases hb : i < d + m
    · rw [List.getElem?_append_left (by omega), List.getElem?_take_of_lt (by omega), fl_at, if_pos (by omega), if_pos (by omega), hg _ (by omega)]
      unfold kT
      rw [if_pos hb, show d + (i - d) = i by omega]
    · rw [List.getElem?_append_right (by omega), hlen, List.getElem?_drop, fl_at, show d + m + (i - d - m) = i by omega]
      by_cases hc : i < n
      · rw [if_pos hc, if_pos hc]
        unfold kT
        rw [if_neg ha, if_neg hb]
      · rw [if_neg hc, if_neg hc]

def lenOf : Value → Nat
  | .slice _ L _ => L
  | _ => 0

set_option maxHeartbeats 3200000 in
set_option maxRecDepth 100000 in
theorem stream_some (key iv : Nat → B) (n : Nat) (hn1 : 1 ≤ n) (hn2 : n ≤ 65536) (w : World) : Calls Try.prog 10 #[.agg (arr .u8 (fl 16 key)), .agg (arr .u8 (fl 16 iv)), .int .i64 n] w fun e w' => ∃ g, e = .returned (.slice (some ⟨g, 0, none⟩) n n) ∧ Below w.heap.size w w' ∧ w.heap.size ≤ g ∧ Whole w' g 5 (arr .u8 (fl n (strm (ks key) iv))) := by
  have HNEW : Hid (∀ W, Calls Try.prog 12 #[.agg (arr .u8 (fl 16 key))] W fun e w' => ∃ gc, e = .returned (.pointer (some ⟨gc, 0, none⟩)) ∧ Below W.heap.size W w' ∧ W.heap.size ≤ gc ∧ Whole w' gc 45 (ciph (ks key))) := Lib.hid fun W => newCipher_any key W
  obtain ⟨K, hK⟩ : ∃ K, ks key = K := ⟨_, rfl⟩
  rw [hK] at HNEW ⊢
  clear hK
  have HENC : Hid (∀ W gc f, Whole W gc 45 (ciph K) → Calls Try.prog 13 #[.pointer (some ⟨gc, 0, none⟩), .agg (arr .u8 (fl 16 f))] W fun e w' => e = .returned (.agg (arr .u8 (fl 16 (st K f 10)))) ∧ Below W.heap.size W w') := Lib.hid fun W gc f h => encrypt_any K gc f W h
  have hz := Try.zero22
  obtain ⟨Z, hZ⟩ : ∃ Z, arr .u8 (fl 16 zB) = Z := ⟨_, rfl⟩
  obtain ⟨ka, hka⟩ : ∃ ka, arr .u8 (fl 16 key) = ka := ⟨_, rfl⟩
  obtain ⟨kb, hkb⟩ : ∃ kb, arr .u8 (fl 16 iv) = kb := ⟨_, rfl⟩
  rw [hka] at HNEW ⊢
  rw [hkb]
  simp only [hZ] at hz
  have HK16 : Hid (ka.size = 16 ∧ kb = arr .u8 (fl 16 iv) ∧ Z.size = 16) := Lib.hid ⟨by rw [← hka]; simp, hkb.symm, by rw [← hZ]; simp⟩
  clear hZ hka hkb
  have b1 : ¬ (n : Int) < 1 := by omega
  have b2 : ¬ (n : Int) > 65536 := by omega
  have hmk := make_bytes n (by omega)
  have HMK := Lib.hid hmk
  go_enter Try.func10, Try.ntmps10
  go_upto_region 3 with fail
  have a0 := (Whole.new w 22 ka).alloc (Obj.cells kb 22)
  have a1 := Whole.new2 w (Obj.cells ka 22) 22 kb
  have a2 := two_new (w := w) 22 22 ka kb
  generalize (w.alloc (Obj.cells ka 22)).alloc (Obj.cells kb 22) = W0 at *
  obtain ⟨N, hN⟩ : ∃ N, w.heap.size = N := ⟨_, rfl⟩
  obtain ⟨g4, hg4⟩ : ∃ g, N + 1 = g := ⟨_, rfl⟩
  have HN := Lib.hid hN
  rw [hN] at a0 a1 a2 ⊢
  rw [hg4] at a1 ⊢
  have l4 : N < g4 := by omega
  have HA := Lib.hid (And.intro a0 (And.intro a1 a2))
  have hs0 : N ≤ W0.heap.size := by have := a0.lt; omega
  clear a0 a1 a2 hN hg4
  go_upto_region 5 with (first
    | (refine wpList_load_whole rfl 22 (.tmp 3) rfl rfl HA.out.1 Try.underlying22 Try.info22 HK16.out.1 ?_)
    | (go_at_call 12; (with_reducible refine (HNEW.out _).mono ?_); rintro e w1 ⟨gc, rfl, hb1, hgc, hcw⟩))
  have c0 := Whole.new w1 5 (arr .u8 (List.replicate n 0))
  rw [fl_kT0 n (strm K iv)] at c0 ⊢
  have c1 := ((HA.out.2.1.under hb1).alloc (Obj.cells (arr .u8 (fl n (kT (strm K iv) 0))) 5))
  rw [HK16.out.2.1] at c1
  have c2 := hcw.alloc (Obj.cells (arr .u8 (fl n (kT (strm K iv) 0))) 5)
  have c3 := (HA.out.2.2.trans (hb1.mono hs0)).alloc (Nat.le_trans hs0 hb1.size) (Obj.cells (arr .u8 (fl n (kT (strm K iv) 0))) 5)
  have c4 := hcw.lt
  have c5 := (HA.out.2.1.under hb1).lt
  have hgN : N ≤ gc := Nat.le_trans hs0 hgc
  have hg4c : g4 < gc := Nat.lt_of_lt_of_le HA.out.2.1.lt hgc
  generalize w1.alloc (Obj.cells (arr .u8 (fl n (kT (strm K iv) 0))) 5) = W2 at *
  generalize w1.heap.size = g8 at *
  have HI := Lib.hid (And.intro c0 (And.intro c1 (And.intro c2 c3)))
  clear c0 c1 c2 c3 hb1 hcw hmk hgc
  go_wp2
  go_loopw [9] (fun s9 wr => ∃ (j d L o : Nat), d + L = n ∧ (0 < L → d = 16 * j) ∧ (0 < L → o = d) ∧ s9 = .slice (some ⟨g8, o, none⟩) L L ∧ Whole wr g8 5 (arr .u8 (fl n (kT (strm K iv) d))) ∧ Whole wr g4 22 (arr .u8 (fl 16 (ivs iv j))) ∧ Whole wr gc 45 (ciph K) ∧ Below N w wr) (fun s9 _ => lenOf s9)
  case atStart => exact ⟨0, 0, n, 0, by omega, fun _ => rfl, fun _ => rfl, rfl, HI.out⟩
  case round =>
    clear HI
    obtain ⟨j, d, L, o, hdl, hj, ho, rfl, h1, h2, h3, hb⟩ := hrel
    by_cases hL : 0 < L
    · obtain rfl := ho hL
      have hd := hj hL
      have bl1 : (0 : Int) < (L : Int) := by omega
      have H := Lib.hid (And.intro h1 (And.intro h2 (And.intro h3 (And.intro hb (And.intro hdl hd)))))
      have hNr : N ≤ wr.heap.size := by have := h2.lt; omega
      clear h1 h2 h3 hb hdl hd hj ho
      go_upto_region 9 with (first
        | (refine wpList_load_whole rfl 22 (.tmp 4) rfl rfl H.out.2.1 Try.underlying22 Try.info22 (by simp) ?_)
        | (go_at_call 13; (with_reducible refine (HENC.out _ _ _ H.out.2.2.1).mono ?_); rintro e w3 ⟨rfl, hb3⟩)
        | (refine wpList_store_whole rfl 22 (.tmp 10) (.tmp 29) rfl rfl rfl (Whole.new w3 22 Z) Try.info22 (by simp) HK16.out.2.2 (arr_one _ _) ?_))
      have l8 := (H.out.1.under hb3).lt
      have d1 := ((H.out.1.under hb3).alloc (Obj.cells Z 22)).farRow (g' := w3.heap.size) (by omega) (arr .u8 (fl 16 (st K (ivs iv j) 10)))
      have d2 := ((H.out.2.1.under hb3).alloc (Obj.cells Z 22)).farRow (g' := w3.heap.size) (by omega) (arr .u8 (fl 16 (st K (ivs iv j) 10)))
      have d3 := ((H.out.2.2.1.under hb3).alloc (Obj.cells Z 22)).farRow (g' := w3.heap.size) (by omega) (arr .u8 (fl 16 (st K (ivs iv j) 10)))
      have d4 := below_row ((H.out.2.2.2.1.trans (hb3.mono hNr)).alloc (Nat.le_trans hNr hb3.size) (Obj.cells Z 22)) (Nat.le_trans hNr hb3.size) (arr .u8 (fl 16 (st K (ivs iv j) 10)))
      have d5 := (Whole.new w3 22 Z).row (arr .u8 (fl 16 (st K (ivs iv j) 10)))
      generalize (w3.alloc (Obj.cells Z 22)).setRow w3.heap.size (arr .u8 (fl 16 (st K (ivs iv j) 10))) = W4 at *
      generalize w3.heap.size = gb at *
      have hsrc := Bs.row d5 0 (Nat.zero_le _)
      rw [Nat.sub_zero, List.drop_zero, fl_length] at hsrc
      have HD := Lib.hid (And.intro d1 (And.intro d2 (And.intro d3 (And.intro d4 hsrc))))
      clear d1 d2 d3 d4 d5 hsrc hb3
      have HNX : Hid (∀ W f, Calls Try.prog 17 #[.agg (arr .u8 (fl 16 f))] W fun e w' => e = .returned (.agg (arr .u8 (fl 16 (nxtB f)))) ∧ Below W.heap.size W w') := Lib.hid fun W f => next_any f W
      by_cases h16 : L ≤ 16
      · have HS : Hid (splice (fl n (kT (strm K iv) o)) o ((fl 16 (st K (ivs iv j) 10)).take L) = fl n (kT (strm K iv) (o + L))) := Lib.hid (splice_fl n o L _ _ h16 (by have := H.out.2.2.2.2.1; omega) (fun i hi => by
          unfold strm
          have := H.out.2.2.2.2.2
          rw [show (o + i) / 16 = j by omega, show (o + i) % 16 = i by omega]))
        go_wp2_with (first
          | (refine wpList_copy_arr rfl (.tmp 31) (.tmp 32) rfl rfl rfl HD.out.1 HD.out.2.2.2.2 (by rw [fl_length]; have := H.out.2.2.2.2.1; omega) (Below.refl g8 W4) (Nat.le_refl _) (m := L) (by show L = min 16 L; omega) ?_; intro w5 hw5 hb5; have e2 := HD.out.2.1.below hb5 (by omega); have e5 := hw5.out; rw [HS.out] at e5)
          | (refine wpList_load_whole rfl 22 (.tmp 4) rfl rfl e2 Try.underlying22 Try.info22 (by simp) ?_)
          | (go_at_call 17; (with_reducible refine (HNX.out _ _).mono ?_); rintro e w6 ⟨rfl, hb6⟩)
          | (refine wpList_store_whole rfl 22 (.tmp 4) (.tmp 26) rfl rfl rfl (Whole.under e2 hb6) Try.info22 (by simp) (by simp) (arr_one _ _) ?_))
        have e0 : Whole w5 g8 5 (arr .u8 (fl n (kT (strm K iv) (o + L)))) := e5
        have e3 := HD.out.2.2.1.below hb5 (by omega)
        have e4 := HD.out.2.2.2.1.trans (hb5.mono (by omega))
        have l4' := e2.lt
        have hN5 : N ≤ w5.heap.size := by omega
        have f0 := (e0.under hb6).farRow (g' := g4) (by omega) (arr .u8 (fl 16 (nxtB (ivs iv j))))
        have f2 : Whole (w6.setRow g4 (arr .u8 (fl 16 (nxtB (ivs iv j))))) g4 22 (arr .u8 (fl 16 (ivs iv (j + 1)))) := (Whole.under e2 hb6).row _
        have f3 := (e3.under hb6).farRow (g' := g4) (by omega) (arr .u8 (fl 16 (nxtB (ivs iv j))))
        have f4 := below_row (e4.trans (hb6.mono hN5)) (show N ≤ g4 by omega) (arr .u8 (fl 16 (nxtB (ivs iv j))))
        generalize w6.setRow g4 (arr .u8 (fl 16 (nxtB (ivs iv j)))) = W7 at *
        have HE := Lib.hid (And.intro f0 (And.intro f2 (And.intro f3 f4)))
        clear f0 f2 f3 f4 e0 e3 e4 l4' hN5 e2 e5 hb5 hb6 hw5
        try simp only [Act.put]
        go_roundw
        case rel =>
          have hd := H.out.2.2.2.2.1
          have hj := H.out.2.2.2.2.2
          refine ⟨j + 1, o + L, 0, o, by omega, fun h => by omega, fun h => by omega, by simp, HE.out⟩
        case measure => exact hL
      · have HS : Hid (splice (fl n (kT (strm K iv) o)) o ((fl 16 (st K (ivs iv j) 10)).take 16) = fl n (kT (strm K iv) (o + 16))) := Lib.hid (splice_fl n o 16 _ _ (Nat.le_refl _) (by have := H.out.2.2.2.2.1; omega) (fun i hi => by
          unfold strm
          have := H.out.2.2.2.2.2
          rw [show (o + i) / 16 = j by omega, show (o + i) % 16 = i by omega]))
        have b16 : (16 : Int) ≤ (L : Int) := by omega
        have n16 : ¬ L = 16 := by omega
        go_wp2_with (first
          | (refine wpList_copy_arr rfl (.tmp 31) (.tmp 32) rfl rfl rfl HD.out.1 HD.out.2.2.2.2 (by rw [fl_length]; have := H.out.2.2.2.2.1; omega) (Below.refl g8 W4) (Nat.le_refl _) (m := 16) (by show 16 = min 16 L; omega) ?_; intro w5 hw5 hb5; have e2 := HD.out.2.1.below hb5 (by omega); have e5 := hw5.out; rw [HS.out] at e5)
          | (refine wpList_load_whole rfl 22 (.tmp 4) rfl rfl e2 Try.underlying22 Try.info22 (by simp) ?_)
          | (go_at_call 17; (with_reducible refine (HNX.out _ _).mono ?_); rintro e w6 ⟨rfl, hb6⟩)
          | (refine wpList_store_whole rfl 22 (.tmp 4) (.tmp 26) rfl rfl rfl (Whole.under e2 hb6) Try.info22 (by simp) (by simp) (arr_one _ _) ?_))
        have e0 : Whole w5 g8 5 (arr .u8 (fl n (kT (strm K iv) (o + 16)))) := e5
        have e3 := HD.out.2.2.1.below hb5 (by omega)
        have e4 := HD.out.2.2.2.1.trans (hb5.mono (by omega))
        have l4' := e2.lt
        have hN5 : N ≤ w5.heap.size := by omega
        have f0 := (e0.under hb6).farRow (g' := g4) (by omega) (arr .u8 (fl 16 (nxtB (ivs iv j))))
        have f2 : Whole (w6.setRow g4 (arr .u8 (fl 16 (nxtB (ivs iv j))))) g4 22 (arr .u8 (fl 16 (ivs iv (j + 1)))) := (Whole.under e2 hb6).row _
        have f3 := (e3.under hb6).farRow (g' := g4) (by omega) (arr .u8 (fl 16 (nxtB (ivs iv j))))
        have f4 := below_row (e4.trans (hb6.mono hN5)) (show N ≤ g4 by omega) (arr .u8 (fl 16 (nxtB (ivs iv j))))
        generalize w6.setRow g4 (arr .u8 (fl 16 (nxtB (ivs iv j)))) = W7 at *
        have HE := Lib.hid (And.intro f0 (And.intro f2 (And.intro f3 f4)))
        clear f0 f2 f3 f4 e0 e3 e4 l4' hN5 e2 e5 hb5 hb6 hw5
        try simp only [Act.put]
        go_roundw
        case rel =>
          have hd := H.out.2.2.2.2.1
          have hj := H.out.2.2.2.2.2
          refine ⟨j + 1, o + 16, L - 16, o + 16, by omega, fun h => by omega, fun h => rfl, rfl, HE.out⟩
        case measure => show L - 16 < L; omega
    · obtain rfl : L = 0 := by omega
      have hdn : d = n := by omega
      rw [hdn, kT_all] at h1
      have H := Lib.hid (And.intro h1 hb)
      have hNg : N ≤ g8 := by omega
      clear h1 h2 h3 hb hdl hj ho hdn
      go_wp2
      go_ret
      refine ⟨g8, rfl, ?_⟩
      rw [HN.out]
      exact ⟨H.out.2, hNg, H.out.1⟩
end Go.Proofs.Ytomnomopcpdpoaa
