/- The law AesCounts, walked. -/
import Derived.Test.YtomnomopcpdpoaaAesStr
import Derived.Test.YtomnomopcpdpoaaAesAwake
namespace Go.Proofs.Ytomnomopcpdpoaa
open Go.RowKit
set_option linter.unusedVariables false

theorem Try.slc : Try.prog.underlying 26 = some (.slice (Try.prog.elem 26)) := by kernel_rfl
theorem Try.slcSize (w : World) : (sizeOf (Try.prog.elem 26)).run Try.prog w = .ok 1 w := by kernel_rfl
/-- s[q:q+16]. -/
theorem slice16 (go q r m : Nat) (hr : q + 16 = r) (hm : r ≤ m) (W : World) : (Instr.slice 26 (.slice (some ⟨go, 0, none⟩) m m) (some (.int .i64 q)) (some (.int .i64 r)) none).run Try.prog W = .ok (.slice (some ⟨go, q, none⟩) 16 (m - q)) W := by
  rw [run_slice_lh W 26 (some ⟨go, 0, none⟩) m m Try.slc .i64 .i64 q r (by omega) (by omega) (by omega), Try.slcSize]
  simp only [Result.andThen_ok, sliced, Int.toNat_natCast, Nat.mul_one]
  rw [if_neg (by omega), show r - q = 16 by omega]
  simp only [Option.map_some, Addr.add_lit, Nat.zero_add]
theorem strm_block (K iv : Nat → B) (m j : Nat) (h : 16 * j + 16 ≤ m) : ((fl m (strm K iv)).drop (16 * j)).take 16 = fl 16 (st K (ivs iv j) 10) := by
  apply List.ext_getElem?
  intro i
  rw [fl_at]
  by_cases hi : i < 16
  · rw [List.getElem?_take_of_lt hi, List.getElem?_drop, fl_at, if_pos (by omega), if_pos hi]
    unfold strm
    rw [show (16 * j + i) / 16 = j by omega, show (16 * j + i) % 16 = i by omega]
  · rw [List.getElem?_eq_none (by simp; omega), if_neg hi]

set_option maxHeartbeats 6400000 in
set_option maxRecDepth 100000 in
theorem counts_walk (key iv : Nat → B) (n : Int) (hnw : (Lit.int .u8 n).wf = true) (w : World) : Calls Try.prog 5 #[.agg (arr .u8 (fl 16 key)), .agg (arr .u8 (fl 16 iv)), .int .u8 n] w fun e w' => e = .returned (.bool true) ∧ Below w.heap.size w w' := by
  obtain ⟨n, rfl⟩ : ∃ m : Nat, n = (m : Int) := Int.eq_ofNat_of_zero_le (by simp [Lit.wf, IntKind.min, IntKind.max, IntKind.signed, IntKind.bits] at hnw; omega)
  have hn256 : n < 256 := by simp [Lit.wf, IntKind.min, IntKind.max, IntKind.signed, IntKind.bits] at hnw; omega
  clear hnw
  obtain ⟨m, hm⟩ : ∃ m, 16 * n = m := ⟨_, rfl⟩
  obtain ⟨K, hK⟩ : ∃ K, ks key = K := ⟨_, rfl⟩
  have HSTR : Hid (∀ W, Calls Try.prog 10 #[.agg (arr .u8 (fl 16 key)), .agg (arr .u8 (fl 16 iv)), .int .i64 m] W fun e w' => ∃ g, e = .returned (.slice g m m) ∧ Below W.heap.size W w' ∧ (0 < m → ∃ go, g = some ⟨go, 0, none⟩ ∧ W.heap.size ≤ go ∧ Whole w' go 5 (arr .u8 (fl m (strm K iv))))) := Lib.hid fun W => by
    by_cases h0 : m = 0
    · subst h0
      exact (stream_none key iv ((0 : Nat) : Int) (by omega) W).mono fun e w' ⟨h1, h2⟩ => ⟨none, h1, h2, fun h => by omega⟩
    · rw [← hK]
      exact (stream_some key iv m (by omega) (by omega) W).mono fun e w' ⟨g, h1, h2, h3, h4⟩ => ⟨some ⟨g, 0, none⟩, h1, h2, fun _ => ⟨g, rfl, h3, h4⟩⟩
  have HBK : Hid (∀ W f, Calls Try.prog 8 #[.agg (arr .u8 (fl 16 key)), .agg (arr .u8 (fl 16 f))] W fun e w' => e = .returned (.agg (arr .u8 (fl 16 (st K f 10)))) ∧ Below W.heap.size W w') := Lib.hid fun W f => by rw [← hK]; exact block_any key f W
  clear hK
  obtain ⟨ka, hka⟩ : ∃ ka, arr .u8 (fl 16 key) = ka := ⟨_, rfl⟩
  obtain ⟨kb, hkb⟩ : ∃ kb, arr .u8 (fl 16 iv) = kb := ⟨_, rfl⟩
  have hz := Try.zero22
  obtain ⟨Z, hZ⟩ : ∃ Z, arr .u8 (fl 16 zB) = Z := ⟨_, rfl⟩
  simp only [hZ] at hz
  simp only [hka] at HSTR HBK ⊢
  have HF : Hid (kb = arr .u8 (fl 16 iv) ∧ ka.size = 16 ∧ kb.size = 16 ∧ Z.size = 16) := Lib.hid ⟨hkb.symm, by rw [← hka]; simp, by rw [← hkb]; simp, by rw [← hZ]; simp⟩
  rw [hkb] at HSTR ⊢
  have hkk : Hid (∀ W j, Calls Try.prog 8 #[.agg ka, .agg (arr .u8 (fl 16 (ivs iv j)))] W fun e w' => e = .returned (.agg (arr .u8 (fl 16 (st K (ivs iv j) 10)))) ∧ Below W.heap.size W w') := Lib.hid fun W j => HBK.out W (ivs iv j)
  clear hka hkb hZ HBK
  have e1 : 16 * (n : Int) = (m : Int) := by omega
  have b0 : (m : Int) < 4096 := by omega
  have bn : (n : Int) < 256 := by omega
  have HM := Lib.hid hm
  clear hm
  go_enter Try.func5, Try.ntmps5
  go_upto_region 3 with (go_at_call 7; (with_reducible refine (awake_any _).mono ?_); rintro e w1 ⟨rfl, hb1⟩)
  have a0 := ((Whole.new w 22 ka).alloc (Obj.cells kb 22)).under hb1
  have a1 := (Whole.new2 w (Obj.cells ka 22) 22 kb).under hb1
  have a2 : Below w.heap.size w w1 := (two_new (w := w) 22 22 ka kb).trans (hb1.mono (by simp; omega))
  obtain ⟨N, hN⟩ : ∃ N, w.heap.size = N := ⟨_, rfl⟩
  obtain ⟨g4, hg4⟩ : ∃ g, N + 1 = g := ⟨_, rfl⟩
  have HN := Lib.hid hN
  rw [hN] at a0 a1 a2 ⊢
  rw [hg4] at a1 ⊢
  have l4 : N < g4 := by omega
  have hg4W : g4 < w1.heap.size := a1.lt
  have HA := Lib.hid (And.intro a0 (And.intro a1 a2))
  clear a0 a1 a2 hb1 hN hg4
  go_upto_region 6 with (first
    | (refine wpList_load_whole rfl 22 (.tmp 3) rfl rfl HA.out.1 Try.underlying22 Try.info22 HF.out.2.1 ?_)
    | (refine wpList_load_whole rfl 22 (.tmp 4) rfl rfl HA.out.2.1 Try.underlying22 Try.info22 HF.out.2.2.1 ?_)
    | (go_at_call 10; (with_reducible refine (HSTR.out _).mono ?_); rintro e w2 ⟨A, rfl, hb2, hA⟩))
  have c4 : Whole w2 g4 22 (arr .u8 (fl 16 (ivs iv 0))) := by
    have := HA.out.2.1.under hb2
    rw [HF.out.1] at this
    exact this
  have c3 := HA.out.1.under hb2
  have hN1 : N ≤ w1.heap.size := by omega
  have c5 := HA.out.2.2.trans (hb2.mono hN1)
  have c6 : 0 < m → ∃ go, A = some ⟨go, 0, none⟩ ∧ g4 < go ∧ Whole w2 go 5 (arr .u8 (fl m (strm K iv))) := fun h => by
    obtain ⟨go, r1, r2, r3⟩ := hA h
    exact ⟨go, r1, by omega, r3⟩
  have HI := Lib.hid (And.intro c3 (And.intro c4 (And.intro c6 c5)))
  clear c3 c4 c5 c6 hA hb2
  go_wp2
  go_loopw [8] (fun s8 wr => ∃ j : Nat, j ≤ n ∧ s8 = .int .i64 ((16 * j : Nat) : Int) ∧ Whole wr N 22 ka ∧ Whole wr g4 22 (arr .u8 (fl 16 (ivs iv j))) ∧ (0 < m → ∃ go, A = some ⟨go, 0, none⟩ ∧ g4 < go ∧ Whole wr go 5 (arr .u8 (fl m (strm K iv)))) ∧ Below N w wr) (fun s8 _ => m - (intOf s8).toNat)
  case atStart => exact ⟨0, by omega, rfl, HI.out⟩
  case round =>
    clear HI
    obtain ⟨j, hj, rfl, h3, h4, hg, hb⟩ := hrel
    obtain ⟨q, hq⟩ : ∃ q, 16 * j = q := ⟨_, rfl⟩
    rw [hq]
    by_cases hlt : q < m
    · obtain ⟨go, rfl, hgo, h5⟩ := hg (by omega)
      obtain ⟨r, hr⟩ : ∃ r, q + 16 = r := ⟨_, rfl⟩
      have hrm : r ≤ m := by have := HM.out; omega
      have bq : (q : Int) < (m : Int) := by omega
      have er : (q : Int) + 16 = (r : Int) := by omega
      have HQ := Lib.hid (And.intro hq (And.intro hr hrm))
      have hNr : N ≤ wr.heap.size := by have := h3.lt; omega
      have H := Lib.hid (And.intro h3 (And.intro h4 (And.intro h5 hb)))
      clear h3 h4 h5 hb hq hr hrm
      go_upto_region 10 with (first
        | (refine wpList_load_whole rfl 22 (.tmp 3) rfl rfl H.out.1 Try.underlying22 Try.info22 HF.out.2.1 ?_)
        | (refine wpList_load_whole rfl 22 (.tmp 4) rfl rfl H.out.2.1 Try.underlying22 Try.info22 (by simp) ?_)
        | (go_at_call 8; (with_reducible refine (hkk.out _ _).mono ?_); rintro e w3 ⟨rfl, hb3⟩)
        | (refine wpList_store_whole rfl 22 (.tmp 9) (.tmp 33) rfl rfl rfl (Whole.new w3 22 Z) Try.info22 (by simp) HF.out.2.2.2 (arr_one _ _) ?_))
      have d0 := below_row ((Below.refl _ w3).alloc (Nat.le_refl _) (Obj.cells Z 22)) (Nat.le_refl _) (arr .u8 (fl 16 (st K (ivs iv j) 10)))
      have d5 := (Whole.new w3 22 Z).row (arr .u8 (fl 16 (st K (ivs iv j) 10)))
      have d6 := hb3.trans (d0.mono hb3.size)
      generalize (w3.alloc (Obj.cells Z 22)).setRow w3.heap.size (arr .u8 (fl 16 (st K (ivs iv j) 10))) = W4 at *
      generalize w3.heap.size = gb at *
      have k3 := H.out.1.under d6
      have k4 := H.out.2.1.under d6
      have k5 := H.out.2.2.1.under d6
      have k6 := H.out.2.2.2.trans (d6.mono hNr)
      have hs1 := Bs.row d5 0 (Nat.zero_le _)
      rw [Nat.sub_zero, List.drop_zero, fl_length] at hs1
      have hs2 := (Bs.row k5 q (by rw [fl_length]; omega)).head (k := 16) (by rw [fl_length]; have := HQ.out; omega)
      rw [← HQ.out.1, strm_block K iv m j (by have := HQ.out; omega), HQ.out.1] at hs2
      have hc1 : ∀ d, (convert 26 9 (.slice (some ⟨gb, 0, none⟩) 16 16)).run Try.prog { W4 with drawn := d } = .ok (.string (strOfNums (fl 16 (st K (ivs iv j) 10)))) { W4 with drawn := d } := fun d => conv_text (w := { W4 with drawn := d }) (c := 16) hs1 (fun e => by cases e)
      have hc2 : ∀ d, (convert 26 9 (.slice (some ⟨go, q, none⟩) 16 (m - q))).run Try.prog { W4 with drawn := d } = .ok (.string (strOfNums (fl 16 (st K (ivs iv j) 10)))) { W4 with drawn := d } := fun d => conv_text (w := { W4 with drawn := d }) (c := m - q) hs2 (fun e => by cases e)
      have hsl := fun W => slice16 go q r m HQ.out.2.1 HQ.out.2.2 W
      have wr1 : IntKind.i64.wrap (r : Int) = (r : Int) := IntWalk.i64_in _ (by have := HQ.out; omega)
      generalize strOfNums (fl 16 (st K (ivs iv j) 10)) = sx at *
      have HK := Lib.hid (And.intro k3 (And.intro k4 (And.intro k5 k6)))
      clear k3 k4 k5 k6 hs1 hs2 d0 d5 d6 hb3
      have hc1 := hc1 (W4.drawn + 1)
      have hc2 := hc2 (W4.drawn + 1)
      have HK5 : Hid (Whole { W4 with drawn := W4.drawn + 1 } N 22 ka ∧ Whole { W4 with drawn := W4.drawn + 1 } g4 22 (arr .u8 (fl 16 (ivs iv j))) ∧ Whole { W4 with drawn := W4.drawn + 1 } go 5 (arr .u8 (fl m (strm K iv))) ∧ Below N w { W4 with drawn := W4.drawn + 1 }) := Lib.hid ⟨HK.out.1, HK.out.2.1, HK.out.2.2.1, HK.out.2.2.2.drew⟩
      refine wp_region_still_lit (by kernel_rfl) (by kernel_rfl) ?_
      generalize ({ W4 with drawn := W4.drawn + 1 } : World) = W5 at *
      clear HK
      repeat still_step
      refine wpStill_nil ?_
      clear hc1 hc2 hsl wr1
      go_wp2
      go_loopw [10] (fun s10 wr => ∃ (i : Nat) (g : Nat → B), i ≤ 16 ∧ s10 = .int .i64 ((i : Int) - 1) ∧ inc i g = ivs iv (j + 1) ∧ Whole wr N 22 ka ∧ Whole wr g4 22 (arr .u8 (fl 16 g)) ∧ Whole wr go 5 (arr .u8 (fl m (strm K iv))) ∧ Below N w wr) (fun s10 _ => (intOf s10 + 1).toNat)
      case atStart => exact ⟨16, ivs iv j, by omega, rfl, rfl, HK5.out⟩
      case round =>
        clear HK5
        obtain ⟨i, g, hi, rfl, hinc, h3, h4, h5, hb⟩ := hrel
        by_cases hlt2 : 0 < i
        · obtain ⟨k, rfl⟩ : ∃ k, i = k + 1 := ⟨i - 1, by omega⟩
          have ek : ((k + 1 : Nat) : Int) - 1 = (k : Int) := by omega
          rw [ek]
          have c1 := h4.atf (i := k) (by omega)
          have f1 := h4.frz k
          have hput := h4.putf k (g k + 1#8)
          have hx := inc_int (g k)
          obtain ⟨x0, x1⟩ := nb_in (g k)
          have bk : (k : Int) < 16 := by omega
          by_cases hz : g k + 1#8 = 0#8
          · rw [inc_more hz] at hinc
            have hz0 : nb (g k + 1#8) = 0 := by rw [hz]; rfl
            rw [hz0] at hput hx
            generalize nb (g k) = x at *
            have HX := Lib.hid (And.intro hinc (And.intro (h3.far (p := ⟨g4, k, none⟩) (by simp; omega) (.int .u8 0)) (And.intro hput (And.intro (h5.far (p := ⟨g4, k, none⟩) (by simp; omega) (.int .u8 0)) (hb.setCell (p := ⟨g4, k, none⟩) (by simp; omega) (.int .u8 0))))))
            clear hinc hput h3 h4 h5 hb ek hz hz0
            go_wp2
            go_roundw
            case rel =>
              obtain ⟨p0, p1⟩ := HX.out
              exact ⟨k, _, by omega, rfl, p0, p1⟩
            case measure => simp [intOf]
          · rw [inc_last hz] at hinc
            have hz0 : (nb (g k + 1#8) == 0) = false := by
              have : nb (g k + 1#8) ≠ nb 0#8 := fun e => hz (nb_inj e)
              exact beq_false_of_ne this
            have hz1 : (nb (g k + 1#8) != 0) = true := by rw [bne, hz0]; rfl
            rw [hinc] at hput
            generalize nb (g k + 1#8) = z at *
            generalize nb (g k) = x at *
            have HX := Lib.hid (And.intro (h3.far (p := ⟨g4, k, none⟩) (by simp; omega) (.int .u8 z)) (And.intro hput (And.intro (h5.far (p := ⟨g4, k, none⟩) (by simp; omega) (.int .u8 z)) (hb.setCell (p := ⟨g4, k, none⟩) (by simp; omega) (.int .u8 z)))))
            clear hinc hput h3 h4 h5 hb ek hz
            go_wp2
            go_roundw
            case rel =>
              obtain ⟨p3, p4, p5, p6⟩ := HX.out
              have hq := HQ.out.1
              have hr := HQ.out.2.1
              have hm := HM.out
              have hrm := HQ.out.2.2
              exact ⟨j + 1, by omega, by rw [show 16 * (j + 1) = r by omega], p3, p4, fun _ => ⟨go, rfl, hgo, p5⟩, p6⟩
            case measure => have := HQ.out; simp [intOf]; omega
        · obtain rfl : i = 0 := by omega
          rw [show (((0 : Nat) : Int) - 1) = -1 from rfl]
          have hg : g = ivs iv (j + 1) := hinc
          rw [hg] at h4
          have HX := Lib.hid (And.intro h3 (And.intro h4 (And.intro h5 hb)))
          clear h3 h4 h5 hb hinc hg
          go_wp2
          go_roundw
          case rel =>
            obtain ⟨p3, p4, p5, p6⟩ := HX.out
            have hq := HQ.out.1
            have hr := HQ.out.2.1
            have hm := HM.out
            have hrm := HQ.out.2.2
            exact ⟨j + 1, by omega, by rw [show 16 * (j + 1) = r by omega], p3, p4, fun _ => ⟨go, rfl, hgo, p5⟩, p6⟩
          case measure => have := HQ.out; simp [intOf]; omega
    · have bq : ¬ (q : Int) < (m : Int) := by omega
      have H := Lib.hid hb
      clear h3 h4 hg hb hq
      go_wp2
      go_ret
      refine ⟨rfl, ?_⟩
      rw [HN.out]
      exact H.out
end Go.Proofs.Ytomnomopcpdpoaa
