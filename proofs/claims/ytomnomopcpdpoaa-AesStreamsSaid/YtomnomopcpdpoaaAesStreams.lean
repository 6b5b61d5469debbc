/- The law AesStreams, walked. -/
import Derived.Test.YtomnomopcpdpoaaAesStrR
import Derived.Test.YtomnomopcpdpoaaAesAwake
import Derived.Test.YtomnomopcpdpoaaAesEq
namespace Go.Proofs.Ytomnomopcpdpoaa
open Go.RowKit
set_option linter.unusedVariables false

/-- What a stream of n bytes answers, whichever n: a text of L bytes xs, or none. -/
def Streamed (f : FuncId) (kl sl : List Value) (n : Int) (L : Nat) (xs : List Int) : Prop :=
  ∀ W, Calls Try.prog f #[.agg kl.toArray, .agg sl.toArray, .int .i64 n] W fun e w' => ∃ A c, e = .returned (.slice A L c) ∧ Below W.heap.size W w' ∧ (A = none → c = 0) ∧ Bs w' w'.heap.size A L xs

theorem bs_nil (w : World) (B : Nat) : Bs w B none 0 [] := ⟨rfl, fun h => by omega⟩
theorem streamed_both (key iv : Nat → B) (n : Int) : ∃ L xs, Streamed 10 (bl key) (bl iv) n L xs ∧ Streamed 11 (bl key) (bl iv) n L xs := by
  by_cases h : n < 1 ∨ 65536 < n
  · refine ⟨0, [], fun W => ?_, fun W => ?_⟩
    · exact (stream_none key iv n h W).mono fun e w' ⟨h1, h2⟩ => ⟨none, 0, h1, h2, fun _ => rfl, bs_nil _ _⟩
    · exact (rstream_none key iv n h W).mono fun e w' ⟨h1, h2⟩ => ⟨none, 0, h1, h2, fun _ => rfl, bs_nil _ _⟩
  · obtain ⟨m, rfl⟩ := Int.eq_ofNat_of_zero_le (show 0 ≤ n by omega)
    refine ⟨m, fl m (strm (ks key) iv), fun W => ?_, fun W => ?_⟩
    · refine (stream_some key iv m (by omega) (by omega) W).mono fun e w' ⟨g, h1, h2, h3, h4⟩ => ⟨some ⟨g, 0, none⟩, m, h1, h2, (fun e => by cases e), ?_⟩
      have h5 := Bs.row h4 0 (Nat.zero_le _)
      rw [Nat.sub_zero, List.drop_zero, fl_length] at h5
      exact h5.more h4.lt
    · exact (rstream_some key iv m (by omega) (by omega) W).mono fun e w' ⟨A, c, h1, h2, h3, h4⟩ => ⟨A, c, h1, h2, h3, h4⟩

set_option maxHeartbeats 3200000 in
set_option maxRecDepth 100000 in
theorem streams_walk (key iv : Nat → B) (n : Int) (hnw : (Lit.int .i64 n).wf = true) (w : World) : Calls Try.prog 4 #[.agg (arr .u8 (fl 16 key)), .agg (arr .u8 (fl 16 iv)), .int .i64 n] w fun e w' => e = .returned (.bool true) ∧ Below w.heap.size w w' := by
  have hcase : ∃ r : Int, (r = n ∧ (n ≤ 2000 ∨ 65536 < n ∧ 2000 < n)) ∨ (n % 2000 = r ∧ 2000 < n ∧ n ≤ 65536) := by
    by_cases h : 2000 < n ∧ n ≤ 65536
    · exact ⟨n % 2000, .inr ⟨rfl, h⟩⟩
    · exact ⟨n, .inl ⟨rfl, by omega⟩⟩
  obtain ⟨r, hr⟩ := hcase
  obtain ⟨L, xs, hp, hq⟩ := streamed_both key iv r
  rw [bl_arr, bl_arr]
  have k1 := bl_len key
  have s1 := bl_len iv
  generalize bl key = kl at *
  generalize bl iv = sl at *
  have hu := Try.underlying22
  have hi1 : (Try.prog.info? 22).map (·.size) = some kl.length := by rw [Try.info22, k1]
  have hi2 : (Try.prog.info? 22).map (·.size) = some sl.length := by rw [Try.info22, s1]
  have HF := Lib.hid (And.intro hu (And.intro hi1 hi2))
  have HP := Lib.hid hp
  have HQ := Lib.hid hq
  clear k1 s1 hu hi1 hi2 hp hq hnw
  rcases hr with ⟨rfl, hr | ⟨hr1, hr2⟩⟩ | ⟨hr, hr1, hr2⟩
  all_goals
    go_enter Try.func4, Try.ntmps4
    go_upto_region 3 with (go_at_call 7; (with_reducible refine (awake_any _).mono ?_); rintro e w1 ⟨rfl, hb1⟩)
    have a0 := ((Whole.new w 22 kl.toArray).alloc (Obj.cells sl.toArray 22)).under hb1
    have a1 := (Whole.new2 w (Obj.cells kl.toArray 22) 22 sl.toArray).under hb1
    have a2 : Below w.heap.size w w1 := (two_new (w := w) 22 22 kl.toArray sl.toArray).trans (hb1.mono (by simp; omega))
    have HKEEP : Hid (∀ W, Below w1.heap.size w1 W → W.rangeAt w.heap.size 0 kl ∧ W.rangeAt (w.heap.size + 1) 0 sl) := Lib.hid fun W hW => ⟨(a0.under hW).range, (a1.under hW).range⟩
    have HA2 := Lib.hid a2
    clear a0 a1 a2 hb1
    go_upto_region 5 with fail
    have hb0 : Below w1.heap.size w1 w1.drew := (Below.refl _ _).drew
    obtain ⟨hu, hi1, hi2⟩ := HF.out
    refine wp_region_held_drew (S := fun w' => w'.rangeAt w.heap.size 0 kl ∧ w'.rangeAt (w.heap.size + 1) 0 sl) (by kernel_rfl) (HKEEP.out _ hb0) (fun hHeld => ?_)
    refine wpAnyH_take (i := 0) (v := .agg kl.toArray) rfl (by kernel_rfl) (by kernel_rfl) (by kernel_rfl) (fun _ _ _ h => h) (yieldsIf_load_mid (by rfl) 22 (.tmp 3) rfl w.heap.size 0 rfl kl _ (fun w h => h.1) hu rfl hi1) (by assumption) ?_
    simp only [Act.put, List.setIfInBounds_toArray]
    refine wpAnyH_take (i := 1) (v := .agg sl.toArray) rfl (by kernel_rfl) (by kernel_rfl) (by kernel_rfl) (fun _ _ _ h => h) (yieldsIf_load_mid (by rfl) 22 (.tmp 4) rfl (w.heap.size + 1) 0 rfl sl _ (fun w h => h.2) hu rfl hi2) (by assumption) ?_
    simp only [Act.put]
    refine wpAnyH_take (i := 2) (v := .int .i64 r) rfl (by kernel_rfl) (by kernel_rfl) (by kernel_rfl) (fun _ _ _ h => h) (Or.inl ⟨by rfl, fun w h => by go_simp⟩) (by assumption) ?_
    simp only [Act.put]
    refine wpAnyH_take (i := 5) (v := .agg kl.toArray) rfl (by kernel_rfl) (by kernel_rfl) (by kernel_rfl) (fun _ _ _ h => h) (yieldsIf_load_mid (by rfl) 22 (.tmp 3) rfl w.heap.size 0 rfl kl _ (fun w h => h.1) hu rfl hi1) (by assumption) ?_
    simp only [Act.put]
    refine wpAnyH_take (i := 6) (v := .agg sl.toArray) rfl (by kernel_rfl) (by kernel_rfl) (by kernel_rfl) (fun _ _ _ h => h) (yieldsIf_load_mid (by rfl) 22 (.tmp 4) rfl (w.heap.size + 1) 0 rfl sl _ (fun w h => h.2) hu rfl hi2) (by assumption) ?_
    simp only [Act.put]
    refine wpAnyH_take (i := 7) (v := .int .i64 r) rfl (by kernel_rfl) (by kernel_rfl) (by kernel_rfl) (fun _ _ _ h => h) (Or.inl ⟨by rfl, fun w h => by go_simp⟩) (by assumption) ?_
    simp only [Act.put]
    refine wpAnyH_ready (rs := [3]) (by kernel_rfl) (by simp) ?_
    refine AllReadyH.cons (i := 3) rfl (fun K hK => ?_) AllReadyH.nil
    go_simp
    refine (HP.out _).mono ?_
    rintro e w3 ⟨A1, c1, rfl, hb2, hn1, hs1⟩
    have hb3 : Below w1.heap.size w1 w3 := hb0.trans (hb2.mono hb0.size)
    have hv0 := conv_text hs1 hn1
    refine hK.out _ _ (HKEEP.out _ hb3) (fun hHeld => ?_)
    clear hK K
    refine wpAnyH_ready (rs := [4, 8]) (by kernel_rfl) (by simp) ?_
    refine AllReadyH.cons (i := 4) rfl (fun K hK => ?_) (AllReadyH.cons (i := 8) rfl (fun K hK => ?_) AllReadyH.nil)
    · go_simp
      refine hK.out _ _ (HKEEP.out _ hb3) (fun hHeld => ?_)
      clear hK K
      refine wpAnyH_ready (rs := [8]) (by kernel_rfl) (by simp) ?_
      refine AllReadyH.cons (i := 8) rfl (fun K hK => ?_) AllReadyH.nil
      go_simp
      refine (HQ.out _).mono ?_
      rintro e w4 ⟨A2, c2, rfl, hb4, hn2, hs2⟩
      have hb5 : Below w1.heap.size w1 w4 := hb3.trans (hb4.mono hb3.size)
      have hv1 := conv_text ((hs1.below hb4).more hb4.size) hn1
      have hv2 := conv_text hs2 hn2
      refine hK.out _ _ (HKEEP.out _ hb5) (fun hHeld => ?_)
      clear hK K
      refine wpAnyH_ready (rs := [9]) (by kernel_rfl) (by simp) ?_
      refine AllReadyH.cons (i := 9) rfl (fun K hK => ?_) AllReadyH.nil
      go_simp
      refine hK.out _ _ (HKEEP.out _ hb5) (fun hHeld => ?_)
      clear hK K
      refine wpAnyH_ready (rs := [10]) (by kernel_rfl) (by simp) ?_
      refine AllReadyH.cons (i := 10) rfl (fun K hK => ?_) AllReadyH.nil
      go_simp
      refine hK.out _ _ (HKEEP.out _ hb5) (fun hHeld => ?_)
      clear hK K
      refine wpAnyH_ready (rs := [11]) (by kernel_rfl) (by simp) ?_
      refine AllReadyH.cons (i := 11) rfl (fun K hK => ?_) AllReadyH.nil
      go_simp
      refine hK.out _ _ (HKEEP.out _ hb5) (fun hHeld => ?_)
      clear hK K
      refine wpAnyH_done (by kernel_rfl) ?_ _
      go_wp2
      go_ret
      exact ⟨rfl, HA2.out.trans (hb5.mono HA2.out.size)⟩
    · go_simp
      refine (HQ.out _).mono ?_
      rintro e w4 ⟨A2, c2, rfl, hb4, hn2, hs2⟩
      have hb5 : Below w1.heap.size w1 w4 := hb3.trans (hb4.mono hb3.size)
      have hv1 := conv_text ((hs1.below hb4).more hb4.size) hn1
      have hv2 := conv_text hs2 hn2
      refine hK.out _ _ (HKEEP.out _ hb5) (fun hHeld => ?_)
      clear hK K
      refine wpAnyH_ready (rs := [4, 9]) (by kernel_rfl) (by simp) ?_
      refine AllReadyH.cons (i := 4) rfl (fun K hK => ?_) (AllReadyH.cons (i := 9) rfl (fun K hK => ?_) AllReadyH.nil)
      · go_simp
        refine hK.out _ _ (HKEEP.out _ hb5) (fun hHeld => ?_)
        clear hK K
        refine wpAnyH_ready (rs := [9]) (by kernel_rfl) (by simp) ?_
        refine AllReadyH.cons (i := 9) rfl (fun K hK => ?_) AllReadyH.nil
        go_simp
        refine hK.out _ _ (HKEEP.out _ hb5) (fun hHeld => ?_)
        clear hK K
        refine wpAnyH_ready (rs := [10]) (by kernel_rfl) (by simp) ?_
        refine AllReadyH.cons (i := 10) rfl (fun K hK => ?_) AllReadyH.nil
        go_simp
        refine hK.out _ _ (HKEEP.out _ hb5) (fun hHeld => ?_)
        clear hK K
        refine wpAnyH_ready (rs := [11]) (by kernel_rfl) (by simp) ?_
        refine AllReadyH.cons (i := 11) rfl (fun K hK => ?_) AllReadyH.nil
        go_simp
        refine hK.out _ _ (HKEEP.out _ hb5) (fun hHeld => ?_)
        clear hK K
        refine wpAnyH_done (by kernel_rfl) ?_ _
        go_wp2
        go_ret
        exact ⟨rfl, HA2.out.trans (hb5.mono HA2.out.size)⟩
      · go_simp
        refine hK.out _ _ (HKEEP.out _ hb5) (fun hHeld => ?_)
        clear hK K
        refine wpAnyH_ready (rs := [4]) (by kernel_rfl) (by simp) ?_
        refine AllReadyH.cons (i := 4) rfl (fun K hK => ?_) AllReadyH.nil
        go_simp
        refine hK.out _ _ (HKEEP.out _ hb5) (fun hHeld => ?_)
        clear hK K
        refine wpAnyH_ready (rs := [10]) (by kernel_rfl) (by simp) ?_
        refine AllReadyH.cons (i := 10) rfl (fun K hK => ?_) AllReadyH.nil
        go_simp
        refine hK.out _ _ (HKEEP.out _ hb5) (fun hHeld => ?_)
        clear hK K
        refine wpAnyH_ready (rs := [11]) (by kernel_rfl) (by simp) ?_
        refine AllReadyH.cons (i := 11) rfl (fun K hK => ?_) AllReadyH.nil
        go_simp
        refine hK.out _ _ (HKEEP.out _ hb5) (fun hHeld => ?_)
        clear hK K
        refine wpAnyH_done (by kernel_rfl) ?_ _
        go_wp2
        go_ret
        exact ⟨rfl, HA2.out.trans (hb5.mono HA2.out.size)⟩
end Go.Proofs.Ytomnomopcpdpoaa
