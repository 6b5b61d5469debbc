/- The first block of HMAC's sums (keyed). -/
import Derived.Test.YtloekfphkepafaaShaSum
namespace Go.Proofs.Ytloekfphkepafaa
open Go.RowKit
set_option linter.unusedVariables false

theorem Try.zero41 (w : World) : (zeroValue 41).run Try.prog w = .ok (.agg (arr .u8 z64)) w := by kernel_rfl
theorem Try.info41 : (Try.prog.info? 41).map (·.size) = some 64 := by kernel_rfl

theorem keyB_in8 (ks : List Int) (mask : Int) (hx : ∀ i, 0 ≤ ks.getD i 0 ∧ ks.getD i 0 < 256) (hm : 0 ≤ mask ∧ mask < 256) (j : Nat) : ∀ i, 0 ≤ (keyB ks mask j).getD i 0 ∧ (keyB ks mask j).getD i 0 < 256 := by
  induction j with
  | zero =>
    intro i
    exact append_in8 hx (fun i => by rw [getD_zeros]; omega) i
  | succ j ih =>
    intro i
    rw [keyB, getD_set]
    split
    · have := ih j
      rw [u8_xor _ _ this.1 this.2 hm.1 hm.2]
      have := Nat.xor_lt_two_pow (n := 8) (x := ((keyB ks mask j).getD j 0).toNat) (y := mask.toNat) (by omega) (by omega)
      omega
    · exact ih i

set_option maxHeartbeats 3200000 in
set_option maxRecDepth 100000 in
theorem keyed_any (A : Option Addr) (n cap : Nat) (ks : List Int) (mask : Int) (B : Nat) (w : World) (h : Bs w B A n ks) (hB : B ≤ w.heap.size) (hn : n ≤ 64) (hx : ∀ i, 0 ≤ ks.getD i 0 ∧ ks.getD i 0 < 256) (hm : 0 ≤ mask ∧ mask < 256) :
    Calls Try.prog 18 #[.slice A n cap, .int .u8 mask] w fun e w' => e = .returned (.agg (arr .u32 (keyS ks mask).list)) ∧ Below w.heap.size w w' := by
  have hz := Try.zero41
  have H0 : Hid (Whole ((w.alloc (.cells (arr .u32 z5) 33)).alloc (.cells (arr .u8 z64) 41)) w.heap.size 33 (arr .u32 z5) ∧ Whole ((w.alloc (.cells (arr .u32 z5) 33)).alloc (.cells (arr .u8 z64) 41)) (w.heap.size + 1) 41 (arr .u8 z64) ∧ Below w.heap.size w ((w.alloc (.cells (arr .u32 z5) 33)).alloc (.cells (arr .u8 z64) 41))) := Lib.hid ⟨(Whole.new _ _ _).alloc _, Whole.new2 _ _ _ _, two_new _ _ _ _⟩
  have HB := Lib.hid (And.intro h (And.intro hB (And.intro hx (And.intro hm hn))))
  obtain ⟨r, hr⟩ : ∃ r, keyS ks mask = r := ⟨_, rfl⟩
  obtain ⟨a1, b1, c1, d1, e1⟩ := r
  have hr2 : arr .u32 (keyS ks mask).list = #[.int .u32 a1, .int .u32 b1, .int .u32 c1, .int .u32 d1, .int .u32 e1] := by rw [hr]; rfl
  rw [hr2]
  have H5 := Lib.hid hr2
  clear h hx hr hr2
  go_enter Try.func18, Try.ntmps18
  have HS : Hid (splice z64 0 (ks.take n) = keyB ks mask 0 ∧ n = Nat.min n 64) := by
    apply Lib.hid
    have := HB.out.1.1
    refine ⟨?_, (Nat.min_eq_left hn).symm⟩
    rw [List.take_of_length_le (by omega)]
    have hd : List.drop n z64 = List.replicate (64 - n) 0 := by rw [z64, List.drop_replicate]
    simp only [splice, List.take_zero, List.nil_append, Nat.zero_add, this, hd, keyB]
  go_wp2_with (refine wpList_copy_arr rfl (.tmp 7) (.tmp 8) rfl rfl rfl (ys := z64) (xs := ks) H0.out.2.1 (HB.out.1.below (H0.out.2.2.mono HB.out.2.1)) (by decide) (Below.refl (w.heap.size + 1) _) (Nat.le_refl _) HS.out.2 ?_; intro w1 H1 hb1; rw [HS.out.1] at H1)
  have H2 : Hid (Whole w1 w.heap.size 33 (arr .u32 z5) ∧ Below w.heap.size w w1) := Lib.hid ⟨H0.out.1.below hb1 (Nat.lt_succ_self _), H0.out.2.2.trans (hb1.mono (Nat.le_succ _))⟩
  clear hb1 H0
  go_loopw [10] (fun s10 wr => ∃ k : Nat, k ≤ 64 ∧ s10 = .int .i64 k ∧ Whole wr w.heap.size 33 (arr .u32 z5) ∧ Whole wr (w.heap.size + 1) 41 (arr .u8 (keyB ks mask k)) ∧ Below w.heap.size w wr) (fun s10 _ => 64 - (intOf s10).toNat)
  case atStart => exact ⟨0, by omega, rfl, H2.out.1, H1.out, H2.out.2⟩
  case round =>
    clear H1 H2
    obtain ⟨k, hk, rfl, h1, h2, hb⟩ := hrel
    have hkl := keyB_length ks mask k (by have := HB.out.1.1; have := HB.out.2.2.2.2; omega)
    by_cases hlt : k < 64
    · have q := h2.at_ (i := k) (by rw [hkl]; exact hlt)
      have f := h2.frz k
      have hp := h2.put k (bits .xor .u8 ((keyB ks mask k).getD k 0) mask)
      have e : (keyB ks mask k).set k (bits .xor .u8 ((keyB ks mask k).getD k 0) mask) = keyB ks mask (k + 1) := rfl
      rw [e] at hp
      obtain ⟨y, hy⟩ : ∃ y, (keyB ks mask k).getD k 0 = y := ⟨_, rfl⟩
      rw [hy] at q hp
      have H := Lib.hid (And.intro h1 (And.intro hp hb))
      clear h1 h2 hp hb hy e hkl
      go_wp2
      go_roundw
      case rel => exact ⟨k + 1, by omega, by go_num, H.out.1.far (by simp) _, H.out.2.1, H.out.2.2.setCell (by simp) _⟩
      case measure => simp [intOf]; omega
    · obtain rfl : k = 64 := by omega
      rw [show ((64 : Nat) : Int) = 64 from rfl]
      have HN : Hid (∀ W, Below wr.heap.size wr W → Calls Try.prog 19 #[.agg (arr .u32 s0.list), .slice (some ⟨w.heap.size + 1, 0, none⟩) 64 64] W fun e w' => e = .returned (.agg (arr .u32 (keyS ks mask).list)) ∧ Below W.heap.size W w') :=
        Lib.hid fun W hbW => behind_arr s0 ⟨w.heap.size + 1, 0, none⟩ 64 (keyB ks mask 64) W (keyB_in8 ks mask HB.out.2.2.1 HB.out.2.2.2.1 64) (fun i hi => by
          rw [Addr.add_lit, Nat.zero_add]
          exact (h2.under hbW).at_ (by rw [hkl]; exact hi)) (h2.under hbW).lt
      have H := Lib.hid (And.intro h1 hb)
      have HBg := Lib.hid (fun W => begin_any W)
      rw [H5.out] at HN
      obtain ⟨S0, hS0⟩ : ∃ S0, arr .u32 s0.list = S0 := ⟨_, rfl⟩
      rw [hS0] at HN HBg
      clear h1 h2 hb hkl hS0
      go_upto_region 8 with fail
      go_region_law (first
        | (go_simp; go_at_call 15; (with_reducible refine (HBg.out _).mono ?_); rintro e w2 ⟨rfl, hb2'⟩; have hb2 : Below wr.heap.size wr w2 := ⟨hb2'.os, hb2'.tape, hb2'.output, hb2'.size, hb2'.block⟩; clear hb2')
        | (go_simp; go_at_call 19; (with_reducible refine (HN.out _ hb2).mono ?_); rintro e w3 ⟨rfl, hb3⟩; obtain ⟨p0, p1, p2, p3, p4, q0, q1, q2, q3, q4⟩ := Whole.five ((H.out.1.under hb2).under hb3)))
      all_goals
        go_wp2
        refine bodyPost_ret (v := .agg #[.int .u32 a1, .int .u32 b1, .int .u32 c1, .int .u32 d1, .int .u32 e1]) ?_ rfl ?_
        · exact ret_whole (cs := arr .u32 [a1, b1, c1, d1, e1]) (g := w.heap.size) rfl rfl (Whole.put5 ((H.out.1.under hb2).under hb3)) Try.underlying33 Try.info33 rfl
        · have h3 := H.out.2.trans (hb2.mono H.out.2.size)
          exact ⟨rfl, below_put5 (h3.trans (hb3.mono h3.size)) (Nat.le_refl _) _ _ _ _ _⟩

end Go.Proofs.Ytloekfphkepafaa
