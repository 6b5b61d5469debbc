/- Sign, of the program. -/
import Derived.Test.YteloaidnfcmadaaStConcat
import Derived.Test.YteloaidnfcmadaaStFill
namespace Go.Proofs.Yteloaidnfcmadaa
open Go.RowKit
set_option linter.unusedVariables false
set_option linter.unusedSimpArgs false

/-- What a Sign answers. -/
def SignV (w w' : World) (m : Msg) (ks : List Int) (v : Value) (x : Int) : Prop := (CanSign m ∧ x = 0 ∧ Own8 w' w.heap.size v (signB m ks)) ∨ (¬ CanSign m ∧ x = 1 ∧ v = .slice none 0 0)
theorem zero20 (w : World) : (Instr.makeSlice 22 (.int .i64 20) (.int .i64 20)).run Try.prog w = .ok (.slice (some ⟨w.heap.size, 0, none⟩) 20 20) (w.alloc (.cells (arr .u8 z20) 5)) := make_bytes 20 (by decide) w
theorem zero4 (w : World) : (Instr.makeSlice 22 (.int .i64 4) (.int .i64 4)).run Try.prog w = .ok (.slice (some ⟨w.heap.size, 0, none⟩) 4 4) (w.alloc (.cells (arr .u8 z4) 5)) := make_bytes 4 (by decide) w
theorem v8_zeros {w : World} {g n : Nat} {ys : List Int} (h : Whole w g 5 (arr .u8 ys)) (hl : ys.length = n) (hn : n ≤ 100) : V8 w w.heap.size (.slice (some ⟨g, 0, none⟩) n n) ys := by
  have h1 := Bs.row h 0 (Nat.zero_le _)
  rw [Nat.sub_zero, List.drop_zero] at h1
  subst hl
  exact ⟨_, _, rfl, Nat.le_refl _, by unfold maxLen; omega, (fun e => by cases e), h1.more h.lt⟩
/-- The two attributes that are added, as a source. -/
theorem src_two {w : World} {g g20 g4 : Nat} {t : TypeId} (h : Whole w g t #[.int .u16 8, .slice (some ⟨g20, 0, none⟩) 20 20, .int .u16 32808, .slice (some ⟨g4, 0, none⟩) 4 4]) (h20 : Whole w g20 5 (arr .u8 z20)) (h4 : Whole w g4 5 (arr .u8 z4)) :
    Src w (some ⟨g, 0, none⟩) 2 2 [(8, .slice (some ⟨g20, 0, none⟩) 20 20), (32808, .slice (some ⟨g4, 0, none⟩) 4 4)] ∧ ElsV w w.heap.size [(8, .slice (some ⟨g20, 0, none⟩) 20 20), (32808, .slice (some ⟨g4, 0, none⟩) 4 4)] [⟨8, z20⟩, ⟨32808, z4⟩] := by
  refine ⟨⟨rfl, (fun e => by cases e), fun ad e j u hj => ?_, fun u hu => ?_⟩, rfl, fun i hi => ?_⟩
  · cases e
    rw [Addr.add_lit, Nat.zero_add, h.cell]
    simpa [acells] using hj
  · simp only [acells, List.mem_cons, List.not_mem_nil, or_false] at hu
    rcases hu with rfl | rfl | rfl | rfl <;> rfl
  · match i, hi with
    | 0, _ => exact ⟨rfl, (v8_zeros h20 (by simp [z20]) (by omega))⟩
    | 1, _ => exact ⟨rfl, (v8_zeros h4 rfl (by omega))⟩
/-- What the two fills make of the message's bytes. -/
theorem fill_is {m : Msg} {ks : List Int} (h12 : m.id.length = 12) : crcP (macP (msgBytes (with2 m z20 z4)) ks (szN m + 24)) (szN m + 32) = signB m ks := by
  have hz := z20_len
  have hsz : szN m = 20 + (body m.at_).length := by rw [body_length]; rfl
  have ht := tag_len m ks
  have e0 : msgBytes (with2 m z20 z4) = be2 (kindOf m.cl m.me) ++ (be2 (((body m.at_).length + 32 : Nat) : Int) ++ (be4 554869826 ++ (m.id ++ (body m.at_ ++ ([0, 8, 0, 20] ++ (z20 ++ ([128, 40, 0, 4] ++ z4))))))) := by
    rw [with2_bytes m hz z4_len]; unfold preC; simp
  have d1 : ((szN m + 24 : Nat) : Int) - 20 = (((body m.at_).length + 24 : Nat) : Int) := by omega
  have d2 : ((szN m + 32 : Nat) : Int) - 20 = (((body m.at_).length + 32 : Nat) : Int) := by omega
  have e1 : splice (msgBytes (with2 m z20 z4)) 2 (be2 (((szN m + 24 : Nat) : Int) - 20)) = preM m ++ ([0, 8, 0, 20] ++ (z20 ++ ([128, 40, 0, 4] ++ z4))) := by
    rw [splice_at e0 (by simp) (by simp), d1]; unfold preM; simp
  have e2 : (preM m ++ ([0, 8, 0, 20] ++ (z20 ++ ([128, 40, 0, 4] ++ z4)))).take (szN m + 24 - 24) = preM m := by
    rw [List.take_append_of_le_length (by rw [preM_len h12]; omega), List.take_of_length_le (by rw [preM_len h12]; omega)]
  have e3 : macP (msgBytes (with2 m z20 z4)) ks (szN m + 24) = preM m ++ ([0, 8, 0, 20] ++ (tagOf m ks ++ ([128, 40, 0, 4] ++ z4))) := by
    unfold macP
    rw [e1, e2, splice_at (a := preM m ++ [0, 8, 0, 20]) (b := z20) (c := [128, 40, 0, 4] ++ z4) (by simp) (by simp [preM_len h12]) (by rw [hz]; exact ht)]
    unfold tagOf
    simp
  have e4 : splice (preM m ++ ([0, 8, 0, 20] ++ (tagOf m ks ++ ([128, 40, 0, 4] ++ z4)))) 2 (be2 (((szN m + 32 : Nat) : Int) - 20)) = preC m (tagOf m ks) ++ ([128, 40, 0, 4] ++ z4) := by
    rw [splice_at (a := be2 (kindOf m.cl m.me)) (b := be2 (((body m.at_).length + 24 : Nat) : Int)) (c := be4 554869826 ++ (m.id ++ (body m.at_ ++ ([0, 8, 0, 20] ++ (tagOf m ks ++ ([128, 40, 0, 4] ++ z4)))))) (by unfold preM; simp) (by simp) (by simp), d2]
    unfold preC
    simp
  have e5 : (preC m (tagOf m ks) ++ ([128, 40, 0, 4] ++ z4)).take (szN m + 32 - 8) = preC m (tagOf m ks) := by
    rw [List.take_append_of_le_length (by rw [preC_len h12 ht]; omega), List.take_of_length_le (by rw [preC_len h12 ht]; omega)]
  rw [e3]
  unfold crcP
  rw [e4, e5, splice_at (a := preC m (tagOf m ks) ++ [128, 40, 0, 4]) (b := z4) (c := []) (by simp) (by simp [preC_len h12 ht]) (by simp [z4]), signB_is]
  unfold sumOf
  simp

/-- The message's box, with the two attributes stored into it. -/
theorem sign_box {w X4 X5 : World} {N c g20 g4 : Nat} {A : Option Addr} {M : Array Value} {m : Msg} {v5 : Value} {q1 : List (Int × Value)} (hr : Row2 92 X5 X4.heap.size v5 (q1 ++ [(8, .slice (some ⟨g20, 0, none⟩) 20 20), (32808, .slice (some ⟨g4, 0, none⟩) 4 4)])) (hb5 : Below X4.heap.size X4 X5) (hbox : Whole X5 N 69 M) (e1 : ElsV X4 N q1 m.at_)
    (h20 : Whole X4 g20 5 (arr .u8 z20)) (h4 : Whole X4 g4 5 (arr .u8 z4)) (hm : MsgV w w.heap.size M m A c) (hb : Below N w X5) (hlt : N + 1 ≤ X4.heap.size) :
    ∃ M' A' c', Whole (X5.setCell ⟨N, 14, none⟩ v5) N 69 M' ∧ MsgV (X5.setCell ⟨N, 14, none⟩ v5) (X5.setCell ⟨N, 14, none⟩ v5).heap.size M' (with2 m z20 z4) A' c' ∧ Below N w (X5.setCell ⟨N, 14, none⟩ v5) := by
  obtain ⟨A', c', rfl, f1, f2, f3⟩ := hr.form
  have hll : (q1 ++ [((8 : Int), Value.slice (some ⟨g20, 0, none⟩) 20 20), (32808, .slice (some ⟨g4, 0, none⟩) 4 4)]).length = (m.at_ ++ [(⟨8, z20⟩ : At), ⟨32808, z4⟩]).length := by have a := e1.1; simp [a]
  rw [hll] at f1 hr ⊢
  obtain ⟨l, hl⟩ : ∃ l, (m.at_ ++ [(⟨8, z20⟩ : At), ⟨32808, z4⟩]).length = l := ⟨_, rfl⟩
  rw [hl] at f1 hr ⊢
  have h14 := hbox.set 14 (.slice A' l c')
  rw [hm.form, mv_set _ _ _ _ _ hm.id12] at h14
  have hrow : Row2 92 (X5.setCell ⟨N, 14, none⟩ (.slice A' l c')) X4.heap.size (.slice A' l c') (q1 ++ [(8, .slice (some ⟨g20, 0, none⟩) 20 20), (32808, .slice (some ⟨g4, 0, none⟩) 4 4)]) := hr.keep fun g cs hw => hw.far (p := ⟨N, 14, none⟩) (fun e => hw.ne hbox (by decide) e) _
  have hse : (X5.setCell ⟨N, 14, none⟩ (.slice A' l c')).heap.size = X5.heap.size := by simp [World.setCell]
  have hb6 : Below N X5 (X5.setCell ⟨N, 14, none⟩ (.slice A' l c')) := (Below.refl N X5).setCell (p := ⟨N, 14, none⟩) (Nat.le_refl _) _
  have hs5 := hb5.size
  have k1 : ElsV (X5.setCell ⟨N, 14, none⟩ (.slice A' l c')) X5.heap.size q1 m.at_ := ((e1.below ((hb5.mono (by omega)).trans hb6))).more (by omega)
  have h20' := (h20.under hb5).far (p := ⟨N, 14, none⟩) (fun e => (h20.under hb5).ne hbox (by decide) e) (.slice A' l c')
  have h4' := (h4.under hb5).far (p := ⟨N, 14, none⟩) (fun e => (h4.under hb5).ne hbox (by decide) e) (.slice A' l c')
  have k2 : ElsV (X5.setCell ⟨N, 14, none⟩ (.slice A' l c')) X5.heap.size [(8, .slice (some ⟨g20, 0, none⟩) 20 20), (32808, .slice (some ⟨g4, 0, none⟩) 4 4)] [⟨8, z20⟩, ⟨32808, z4⟩] := by
    rw [← hse]
    refine ⟨rfl, fun i hi => ?_⟩
    match i, hi with
    | 0, _ => exact ⟨rfl, v8_zeros h20' (by simp [z20]) (by omega)⟩
    | 1, _ => exact ⟨rfl, v8_zeros h4' rfl (by omega)⟩
  have hat := Row2.ats (N := X5.heap.size) hrow (k1.app k2).els (by rw [hse]; exact Nat.le_refl _)
  refine ⟨_, A', c', h14, ⟨?_, hm.id12, by show (m.at_ ++ [(⟨8, z20⟩ : At), ⟨32808, z4⟩]).length ≤ c'; rw [hl]; exact f1, f2, f3, hat⟩, hb.trans hb6⟩
  show _ = mv m.cl m.me m.id (.slice A' (m.at_ ++ [(⟨8, z20⟩ : At), ⟨32808, z4⟩]).length c')
  rw [hl]

set_option maxHeartbeats 6400000 in
set_option maxRecDepth 100000 in
theorem sign_any (M : Array Value) (m : Msg) (A : Option Addr) (c : Nat) (vk : Value) (ks : List Int) (w : World) (h : MsgV w w.heap.size M m A c) (hf : Fine m) (hs : m.at_.length ≤ 4398046511102) (hv : V8 w w.heap.size vk ks) (hkx : In256 ks) (hkl : ks.length ≤ 140737488355328) :
    Calls Try.prog 48 #[.agg M, vk] w fun e w' => ∃ v x, e = .returned (.tuple #[v, .int .i64 x]) ∧ SignV w w' m ks v x ∧ Below w.heap.size w w' := by
  have hg := Whole.new w 69 M
  have h14 := h.sl hg
  have hb0 : Below w.heap.size w (w.alloc (.cells M 69)) := (Below.refl _ w).alloc (Nat.le_refl _) _
  have hz0 : (w.alloc (.cells M 69)).heap.size = w.heap.size + 1 := by simp
  have H0 := Lib.hid (And.intro hg (And.intro hb0 hz0))
  have HM := Lib.hid h
  have HF := Lib.hid hf
  have HK := Lib.hid (And.intro hv (And.intro hkx hkl))
  have HSZ := Lib.hid (And.intro h.size h.one)
  have HVA : Hid (∀ W, Below w.heap.size w W → Calls Try.prog 41 #[.agg M] W fun e w' => e = .returned (.bool (valid? m)) ∧ Below W.heap.size W w') := Lib.hid fun W hb => valid_any M m A c W ((h.below hb).more hb.size)
  have HCF : Hid (∀ W n, Below w.heap.size w W → m.at_.length = n → Calls Try.prog 46 #[.slice A n c, .func (.func 68) #[] #[]] W fun e w' => ∃ b, e = .returned (.bool b) ∧ (b = true ↔ ¬ Free m.at_) ∧ Below W.heap.size W w') := Lib.hid fun W n hb hn => containsFunc_any A n c m.at_ W ((h.ats.below hb).more hb.size) hn (by omega)
  clear h hf hv hkx hkl hg hb0 hz0
  obtain ⟨n, hn⟩ : ∃ x, m.at_.length = x := ⟨_, rfl⟩
  have HE := Lib.hid hn
  rw [hn] at h14 hs
  clear hn
  obtain ⟨N, hN⟩ : ∃ N, w.heap.size = N := ⟨_, rfl⟩
  have HN := Lib.hid hN
  rw [hN] at H0 h14 HVA HCF ⊢
  obtain ⟨b0, hb0⟩ : ∃ b, valid? m = b := ⟨_, rfl⟩
  simp only [hb0] at HVA
  have HB0 := Lib.hid hb0
  clear hb0
  go_enter Try.func48, Try.ntmps48
  go_upto_region 1 with fail
  generalize w.alloc (.cells M 69) = W0 at *
  clear hN
  cases b0 with
  | false =>
    have hnv : ¬ CanSign m := fun hc => by
      have := (valid_iff m).2 (hc.valid.re0 z20_len z4_len)
      rw [HB0.out] at this
      cases this
    have HNV := Lib.hid hnv
    clear hnv
    go_wp2_with (first
      | (refine wpList_load_all rfl 69 (.tmp 2) rfl H0.out.1 rfl Try.sizeMsg HSZ.out.1 Try.underlying69 rfl ?_)
      | (go_at_call 41; (with_reducible refine (HVA.out _ H0.out.2.1).mono ?_); rintro e w1 ⟨rfl, hb1⟩; have HB1 := Lib.hid (H0.out.2.1.trans (hb1.mono (Nat.le_of_lt H0.out.1.lt))); clear hb1))
    go_ret2
    exact ⟨_, _, rfl, .inr ⟨HNV.out, rfl, rfl⟩, HB1.out⟩
  | true =>
    have HVV := Lib.hid ((valid_iff m).1 HB0.out)
    go_upto_if 14 with (first
      | (refine wpList_load_all rfl 69 (.tmp 2) rfl H0.out.1 rfl Try.sizeMsg HSZ.out.1 Try.underlying69 rfl ?_)
      | (go_at_call 41; (with_reducible refine (HVA.out _ H0.out.2.1).mono ?_); rintro e w1 ⟨rfl, hb1⟩; have hb1' := H0.out.2.1.trans (hb1.mono (Nat.le_of_lt H0.out.1.lt)); have hg1 := H0.out.1.under hb1; have e14 : w1.cell? ⟨N, 14, none⟩ = some (.slice A n c) := (hb1.cell (p := ⟨N, 14, none⟩) H0.out.1.lt).trans h14; have HB1 := Lib.hid (And.intro hb1' hg1); clear hb1 hb1' hg1)
      | (go_at_call 46; (with_reducible refine (HCF.out _ _ HB1.out.1 HE.out).mono ?_); rintro e w2 ⟨b, rfl, hbf, hb2⟩))
    have HB2 := Lib.hid (And.intro (HB1.out.1.trans (hb2.mono (Nat.le_of_lt HB1.out.2.lt))) (HB1.out.2.under hb2))
    cases b with
    | true =>
      have hnf := hbf.1 rfl
      have HNV : Hid (¬ CanSign m) := Lib.hid (fun hc => hnf hc.free)
      clear hbf hb2 hnf e14
      go_wp2
      go_ret2
      exact ⟨_, _, rfl, .inr ⟨HNV.out, rfl, rfl⟩, HB2.out.1⟩
    | false =>
      have hfree : Free m.at_ := Classical.byContradiction fun h => by cases hbf.2 h
      have HFR := Lib.hid hfree
      have d14 : w2.drew.cell? ⟨N, 14, none⟩ = some (.slice A n c) := (hb2.cell (p := ⟨N, 14, none⟩) HB1.out.2.lt).trans e14
      clear hbf hb2 hfree e14 h14
      go_upto_region 3 with fail
      go_cut [15] from 15 to 24 (fun s15 wc => s15 = .pointer (some ⟨N, 14, none⟩) ∧ ∃ M' A' c', Whole wc N 69 M' ∧ MsgV wc wc.heap.size M' (with2 m z20 z4) A' c' ∧ Below N w wc)
      case rest =>
        obtain ⟨rfl, M', A', c', hbx, hm2, hbw⟩ := hcut
        have HC := Lib.hid (And.intro hbx (And.intro hm2 (And.intro hbw (And.intro hm2.size hm2.one))))
        have hva := valid_any M' (with2 m z20 z4) A' c' wc hm2
        obtain ⟨b1, hb1⟩ : ∃ b, valid? (with2 m z20 z4) = b := ⟨_, rfl⟩
        rw [hb1] at hva
        have HVB := Lib.hid hva
        have HB1' := Lib.hid hb1
        clear hbx hm2 hbw hva hb1
        cases b1 with
        | false =>
          have HNV : Hid (¬ CanSign m) := Lib.hid (fun hc => by
            have := (valid_iff _).2 hc.valid
            rw [HB1'.out] at this
            cases this)
          go_wp2_with (first
            | (refine wpList_load_all rfl 69 (.tmp 2) rfl HC.out.1 rfl Try.sizeMsg HC.out.2.2.2.1 Try.underlying69 rfl ?_)
            | (go_at_call 41; (with_reducible refine HVB.out.mono ?_); rintro e w4 ⟨rfl, hb4⟩; have HB4 := Lib.hid (HC.out.2.2.1.trans (hb4.mono (Nat.le_of_lt HC.out.1.lt))); clear hb4))
          go_ret2
          exact ⟨_, _, rfl, .inr ⟨HNV.out, rfl, rfl⟩, HB4.out⟩
        | true =>
          have HVT := Lib.hid ((valid_iff _).1 HB1'.out)
          have HCS : Hid (CanSign m) := Lib.hid ⟨HFR.out, HVT.out⟩
          go_upto_region 6 with (first
            | (refine wpList_load_all rfl 69 (.tmp 2) rfl HC.out.1 rfl Try.sizeMsg HC.out.2.2.2.1 Try.underlying69 rfl ?_)
            | (go_at_call 41; (with_reducible refine HVB.out.mono ?_); rintro e w4 ⟨rfl, hb4⟩))
          have hbx4 := HC.out.1.under hb4
          have hm4 := (HC.out.2.1.below hb4).more hb4.size
          have hbw4 := HC.out.2.2.1.trans (hb4.mono (Nat.le_of_lt HC.out.1.lt))
          have HWR := Lib.hid (write_any M' (with2 m z20 z4) A' c' w4 hm4 HVT.out)
          have H4 := Lib.hid (And.intro hbx4 hbw4)
          clear hbx4 hm4 hbw4 hb4
          go_upto_region 7 with (first
            | (refine wpList_load_all rfl 69 (.tmp 2) rfl H4.out.1 rfl Try.sizeMsg HC.out.2.2.2.1 Try.underlying69 rfl ?_)
            | (go_at_call 45; (with_reducible refine HWR.out.mono ?_); rintro e w5 ⟨v5, rfl, ho5, hne5, hb5⟩))
          have hsz := with2_size (m := m) z20_len z4_len
          have hln := msgBytes_length (with2 m z20 z4) HF.out.id12
          rw [hsz] at hln
          have h20 : 20 ≤ szN m := by unfold szN; omega
          have h15 := HVT.out.size
          rw [hsz] at h15
          have hfl := fill_is (m := m) (ks := ks) HF.out.id12
          have hxx := in256_msg (HF.out.re2 (in256_zeros 20) (in256_zeros 4))
          obtain ⟨xs, hxs⟩ : ∃ xs, msgBytes (with2 m z20 z4) = xs := ⟨_, rfl⟩
          have hxx' : In256 xs := by rw [← hxs]; exact hxx
          rw [hxs] at ho5 hln hfl
          obtain ⟨l, hl⟩ : ∃ l, szN m + 32 = l := ⟨_, rfl⟩
          rw [hl] at hln hfl h15
          rw [show szN m + 24 = l - 8 by omega] at hfl
          have hl52 : 52 ≤ l := by omega
          obtain ⟨g, cap, cur, rfl, hgb, -, hlc, hcm, -, -⟩ := own_form ho5 hne5
          rw [hln] at ho5 hlc ⊢
          have hs1 : ∀ W, (Instr.slice 22 (.slice (some ⟨g, 0, none⟩) l cap) none (some (.int .i64 ((l : Int) - 8))) none).run Try.prog W = .ok (.slice (some ⟨g, 0, none⟩) (l - 8) cap) W := fun W => cut_head (by omega) (by omega) W
          have hvk : V8 w5 w4.heap.size vk ks := by
            have h0 := HK.out.1
            rw [HN.out] at h0
            exact (h0.below (H4.out.2.trans (hb5.mono (Nat.le_of_lt H4.out.1.lt)))).more (Nat.le_of_lt H4.out.1.lt)
          have HFM := Lib.hid (fillMAC_any g l cap (l - 8) w4.heap.size xs ks vk w5 ho5 hb5.size (by omega) (by omega) (by omega) hxx' hvk HK.out.2.1 HK.out.2.2)
          have H5 := Lib.hid (And.intro hgb (And.intro hb5 (And.intro hfl (And.intro hl52 h15))))
          have HIX : Hid (In256 (macP xs ks (l - 8))) := Lib.hid ((hxx'.splice (in256_be2 _)).splice (mac_in _ _))
          clear hsz hln h20 hfl hxx hxx' hxs hl ho5 hne5 hb5 hvk hcm hgb hlc
          go_upto_region 8 with (go_at_call 70; (with_reducible refine HFM.out.mono ?_); rintro e w6 ⟨rfl, hf6⟩)
          have HFC := Lib.hid (fillCRC_any g l cap w4.heap.size (macP xs ks (l - 8)) w6 hf6.own (Nat.le_trans H5.out.2.1.size hf6.only.size) (by omega) (by have := H5.out.2.2.2.2; omega) HIX.out)
          have H6 := Lib.hid hf6
          clear hf6 hs1 hl52 h15
          go_wp2_with (go_at_call 71; (with_reducible refine HFC.out.mono ?_); rintro e w7 ⟨rfl, hf7⟩)
          have hbA := (H6.out.below H5.out.1 H5.out.2.1.size).trans (hf7.below H5.out.1 (Nat.le_trans H5.out.2.1.size H6.out.only.size))
          have hb7 := H4.out.2.trans ((H5.out.2.1.trans hbA).mono (Nat.le_of_lt H4.out.1.lt))
          have ho7 := hf7.own
          rw [H5.out.2.2.1] at ho7
          have H7 := Lib.hid (And.intro (ho7.low (Nat.le_of_lt H4.out.1.lt)) hb7)
          clear hbA hb7 ho7 hf7
          go_wp2
          go_ret2
          exact ⟨_, _, rfl, .inl ⟨HCS.out, rfl, by rw [HN.out]; exact H7.out.1⟩, H7.out.2⟩
      have HTL : Hid (∀ W L, W.cell? ⟨N, 14, none⟩ = some (.slice A n c) → (TillOne (fun _ => True) (fun W => W.cell? ⟨N, 14, none⟩ = some (.slice A n c)) 10) L W) := Lib.hid fun W L h => TillOne.mk trivial h
      have HTS : Hid (∀ L, (TillOne (fun _ => True) (fun W => W.cell? ⟨N, 14, none⟩ = some (.slice A n c)) 10) L w2.drew) := Lib.hid fun L => HTL.out _ L d14
      have HG1 : Hid (∀ W, Ahead (TillOne (fun _ => True) (fun W => W.cell? ⟨N, 14, none⟩ = some (.slice A n c)) 10) 10 W → W.cell? ⟨N, 14, none⟩ = some (.slice A n c)) := Lib.hid fun W h => (TillOne.get h).2
      have D14 := Lib.hid (show w2.cell? ⟨N, 14, none⟩ = some (.slice A n c) from d14)
      clear d14
      refine wp_region_late (TillOne (fun _ => True) (fun W => W.cell? ⟨N, 14, none⟩ = some (.slice A n c)) 10) (by as_aux_lemma => kernel_rfl) ?_
      change wpLate Try.prog .any _ _ _ 11 #[false, false, false, false, false, false, false, false, false, false, false] _ _
      refine wpLate.take (i := 0) (q := 10) (oi := _) (v := ?_) rfl (by as_aux_lemma => kernel_rfl) (by as_aux_lemma => kernel_rfl) (by as_aux_lemma => kernel_rfl) (by as_aux_lemma => kernel_rfl) (by rfl) (fun _ _ _ h => h) (TillOne.set (by decide)) (HTS.out _) (Or.inl ⟨by rfl, ?_⟩) ?_
      case refine_2 => intro W hw; have e0 := HG1.out W hw; clear hw; go_simp; (try with_reducible rfl)
      simp only [Act.put, List.setIfInBounds_toArray, List.set_cons_succ, List.set_cons_zero]
      refine wpLate.take (i := 1) (q := 10) (oi := _) (v := ?_) rfl (by as_aux_lemma => kernel_rfl) (by as_aux_lemma => kernel_rfl) (by as_aux_lemma => kernel_rfl) (by as_aux_lemma => kernel_rfl) (by rfl) (fun _ _ _ h => h) (TillOne.set (by decide)) (HTS.out _) (Or.inl ⟨by rfl, ?_⟩) ?_
      case refine_2 => intro W hw; have e0 := HG1.out W hw; clear hw; go_simp; (try with_reducible rfl)
      simp only [Act.put, List.setIfInBounds_toArray, List.set_cons_succ, List.set_cons_zero]
      have hm20 := zero20
      have hm4 := zero4
      obtain ⟨Z20, hZ20⟩ : ∃ Z, arr .u8 z20 = Z := ⟨_, rfl⟩
      obtain ⟨Z4, hZ4⟩ : ∃ Z, arr .u8 z4 = Z := ⟨_, rfl⟩
      simp only [hZ20] at hm20
      simp only [hZ4] at hm4
      have HZZ := Lib.hid (And.intro hZ20 hZ4)
      clear hZ20 hZ4
      have hle : N + 1 ≤ w2.heap.size := HB2.out.2.lt
      have HLE := Lib.hid hle
      have HD : Hid (∀ W, Below (N + 1) w2 W → W.cell? ⟨N, 14, none⟩ = some (.slice A n c)) := Lib.hid fun W hb => ((HB2.out.2.below hb (Nat.lt_succ_self N)).cell 14).trans ((HB2.out.2.cell 14).symm.trans D14.out)
      refine wpLate.ready (rs := [2, 4]) (by as_aux_lemma => kernel_rfl) (by simp) (eachLate.cons rfl (fun K' hK' => ?_) (eachLate.cons rfl (fun K' hK' => ?_) eachLate.nil))
      · go_simp
        have h20 := (Whole.new w2 5 Z20).drew
        have hc1 : Below (N + 1) w2 (w2.alloc (.cells Z20 5)).drew := ((Below.refl (N + 1) w2).alloc hle _).drew
        have hl1 : N + 1 ≤ (w2.alloc (.cells Z20 5)).drew.heap.size := Nat.le_trans hle hc1.size
        refine hK'.out _ _ (HTL.out _ _ (HD.out _ hc1)) ?_
        clear hK' K'
        try simp only [Act.put]
        generalize (w2.alloc (.cells Z20 5)).drew = X1 at *
        obtain ⟨g20, hg20⟩ : ∃ g, w2.heap.size = g := ⟨_, rfl⟩
        rw [hg20] at h20 hle ⊢
        clear hg20
        have HTX : Hid (∀ L, (TillOne (fun _ => True) (fun W => W.cell? ⟨N, 14, none⟩ = some (.slice A n c)) 10) L X1) := Lib.hid fun L => HTL.out _ L (HD.out _ hc1)
        refine wpLate.take (i := 3) (q := 10) (oi := _) (v := ?_) rfl (by as_aux_lemma => kernel_rfl) (by as_aux_lemma => kernel_rfl) (by as_aux_lemma => kernel_rfl) (by as_aux_lemma => kernel_rfl) (by rfl) (fun _ _ _ h => h) (TillOne.set (by decide)) (HTX.out _) (Or.inl ⟨by rfl, ?_⟩) ?_
        case refine_2 => intro W hw; have e0 := HG1.out W hw; clear hw; go_simp; (try with_reducible rfl)
        simp only [Act.put, List.setIfInBounds_toArray, List.set_cons_succ, List.set_cons_zero]
        refine wpLate.ready (rs := [4]) (by as_aux_lemma => kernel_rfl) (by simp) (eachLate.cons rfl (fun K' hK' => ?_) eachLate.nil)
        go_simp
        have h4 := Whole.new X1 5 Z4
        have h20' := h20.alloc (.cells Z4 5)
        have hc2 : Below (N + 1) w2 (X1.alloc (.cells Z4 5)) := hc1.alloc hl1 _
        refine hK'.out _ _ (HTL.out _ _ (HD.out _ hc2)) ?_
        clear hK' K' h20 hc1 hl1
        try simp only [Act.put]
        generalize X1.alloc (.cells Z4 5) = X2 at *
        obtain ⟨g4, hg4⟩ : ∃ g, X1.heap.size = g := ⟨_, rfl⟩
        rw [hg4] at h4 ⊢
        clear hg4 hle
        have H22 := Lib.hid (And.intro h20' (And.intro h4 hc2))
        clear h20' h4 hc2 hm20 hm4
        have HTY : Hid (∀ L, (TillOne (fun _ => True) (fun W => W.cell? ⟨N, 14, none⟩ = some (.slice A n c)) 10) L X2) := Lib.hid fun L => HTL.out _ L (HD.out _ H22.out.2.2)
        refine wpLate.take (i := 5) (q := 10) (oi := _) (v := ?_) rfl (by as_aux_lemma => kernel_rfl) (by as_aux_lemma => kernel_rfl) (by as_aux_lemma => kernel_rfl) (by as_aux_lemma => kernel_rfl) (by rfl) (fun _ _ _ h => h) (TillOne.set (by decide)) (HTY.out _) (Or.inl ⟨by rfl, ?_⟩) ?_
        case refine_2 => intro W hw; have e0 := HG1.out W hw; clear hw; go_simp; (try with_reducible rfl)
        simp only [Act.put, List.setIfInBounds_toArray, List.set_cons_succ, List.set_cons_zero]
        refine wpLate.ready (rs := [6]) (by as_aux_lemma => kernel_rfl) (by simp) (eachLate.cons rfl (fun K' hK' => ?_) eachLate.nil)
        go_simp
        have hl2 : N + 1 ≤ X2.heap.size := Nat.le_trans HLE.out H22.out.2.2.size
        have h21 := Whole.new X2 92 #[.int .u16 8, .slice (some ⟨g20, 0, none⟩) 20 20, .int .u16 32808, .slice (some ⟨g4, 0, none⟩) 4 4]
        have hc3 : Below (N + 1) w2 (X2.alloc (.cells #[.int .u16 8, .slice (some ⟨g20, 0, none⟩) 20 20, .int .u16 32808, .slice (some ⟨g4, 0, none⟩) 4 4] 92)) := H22.out.2.2.alloc hl2 _
        have h203 := H22.out.1.alloc (.cells #[.int .u16 8, .slice (some ⟨g20, 0, none⟩) 20 20, .int .u16 32808, .slice (some ⟨g4, 0, none⟩) 4 4] 92)
        have h43 := H22.out.2.1.alloc (.cells #[.int .u16 8, .slice (some ⟨g20, 0, none⟩) 20 20, .int .u16 32808, .slice (some ⟨g4, 0, none⟩) 4 4] 92)
        refine hK'.out _ _ (HTL.out _ _ (HD.out _ hc3)) ?_
        clear hK' K'
        try simp only [Act.put]
        generalize X2.alloc (.cells #[.int .u16 8, .slice (some ⟨g20, 0, none⟩) 20 20, .int .u16 32808, .slice (some ⟨g4, 0, none⟩) 4 4] 92) = X3 at *
        obtain ⟨g21, hg21⟩ : ∃ g, X2.heap.size = g := ⟨_, rfl⟩
        rw [hg21] at h21 ⊢
        clear hg21 hl2
        have H33 := Lib.hid (And.intro h21 (And.intro h203 (And.intro h43 hc3)))
        clear h21 h203 h43 hc3
        refine wpLate.ready (rs := [7]) (by as_aux_lemma => kernel_rfl) (by simp) (eachLate.cons rfl (fun K' hK' => ?_) eachLate.nil)
        go_simp
        have hl3 : N + 1 ≤ X3.heap.size := Nat.le_trans HLE.out H33.out.2.2.2.size
        have h22 := Whole.new X3 67 #[.slice A n c, .slice (some ⟨g21, 0, none⟩) 2 2]
        have hal : Below X3.heap.size X3 (X3.alloc (.cells #[.slice A n c, .slice (some ⟨g21, 0, none⟩) 2 2] 67)) := (Below.refl _ _).alloc (Nat.le_refl _) _
        have hc4 : Below (N + 1) w2 (X3.alloc (.cells #[.slice A n c, .slice (some ⟨g21, 0, none⟩) 2 2] 67)) := H33.out.2.2.2.alloc hl3 _
        have h214 := H33.out.1.under hal
        have h204 := H33.out.2.1.under hal
        have h44 := H33.out.2.2.1.under hal
        refine hK'.out _ _ (HTL.out _ _ (HD.out _ hc4)) ?_
        clear hK' K'
        try simp only [Act.put]
        generalize X3.alloc (.cells #[.slice A n c, .slice (some ⟨g21, 0, none⟩) 2 2] 67) = X4 at *
        obtain ⟨g22, hg22⟩ : ∃ g, X3.heap.size = g := ⟨_, rfl⟩
        rw [hg22] at h22 ⊢
        clear hg22 hl3 hal
        rw [← HZZ.out.1] at h204
        rw [← HZZ.out.2] at h44
        have hat := HM.out.ats
        rw [HN.out] at hat
        have hat4 := hat.below (HB2.out.1.trans (hc4.mono (Nat.le_succ N)))
        obtain ⟨q1, hq1, hs1, hq1b⟩ := src_of hat4 HM.out.nil (fun e => by have := HM.out.fits; have := HM.out.nil e; omega)
        rw [HE.out] at hs1 hq1b
        obtain ⟨hs2, hq2⟩ := src_two h214 h204 h44
        have hN4 : N + 1 ≤ X4.heap.size := Nat.le_trans HLE.out hc4.size
        have HCC := Lib.hid (concatA_any g22 A n c ⟨g21, 0, none⟩ 2 2 q1 [(8, .slice (some ⟨g20, 0, none⟩) 20 20), (32808, .slice (some ⟨g4, 0, none⟩) 4 4)] X4 h22 hs1 hs2 (fun ad e hp => Nat.lt_of_lt_of_le (hq1b ad e hp) (by omega)) h214.lt (by decide) (by have := HVV.out.most; have := HE.out; omega))
        have H44 := Lib.hid (And.intro hc4 (And.intro hq1 (And.intro hN4 (And.intro h204 h44))))
        clear h22 hc4 h214 h204 h44 hat hat4 hq1 hs1 hq1b hs2 hq2 hN4
        refine wpLate.ready (rs := [8]) (by as_aux_lemma => kernel_rfl) (by simp) (eachLate.cons rfl (fun K' hK' => ?_) eachLate.nil)
        go_simp
        refine HCC.out.mono ?_
        rintro e X5 ⟨v5, rfl, hr5, hb5⟩
        obtain ⟨A5, c5, rfl, -⟩ := id hr5.form
        obtain ⟨l5, hl5⟩ : ∃ l, (q1 ++ [((8 : Int), Value.slice (some ⟨g20, 0, none⟩) 20 20), (32808, .slice (some ⟨g4, 0, none⟩) 4 4)]).length = l := ⟨_, rfl⟩
        rw [hl5] at hr5 ⊢
        have HL5 := Lib.hid hl5
        clear hl5
        have hc5 : Below (N + 1) w2 X5 := H44.out.1.trans (hb5.mono H44.out.2.2.1)
        refine hK'.out _ _ (HTL.out _ _ (HD.out _ hc5)) ?_
        clear hK' K'
        try simp only [Act.put]
        have HTW : Hid (∀ L, (TillOne (fun _ => True) (fun W => W.cell? ⟨N, 14, none⟩ = some (.slice A n c)) 10) L X5) := Lib.hid fun L => HTL.out _ L (HD.out _ hc5)
        refine wpLate.take (i := 9) (q := 10) (oi := _) (v := ?_) rfl (by as_aux_lemma => kernel_rfl) (by as_aux_lemma => kernel_rfl) (by as_aux_lemma => kernel_rfl) (by as_aux_lemma => kernel_rfl) (by rfl) (fun _ _ _ h => h) (TillOne.set (by decide)) (HTW.out _) (Or.inl ⟨by rfl, ?_⟩) ?_
        case refine_2 => intro W hw; have e0 := HG1.out W hw; clear hw; go_simp; (try with_reducible rfl)
        simp only [Act.put, List.setIfInBounds_toArray, List.set_cons_succ, List.set_cons_zero]
        have hbox5 := HB2.out.2.below hc5 (Nat.lt_succ_self N)
        have e14 : X5.cell? ⟨N, 14, none⟩ = some (.slice A n c) := HD.out _ hc5
        have f14 : X5.frozen? ⟨N, 14, none⟩ = false := hbox5.frz 14
        have H55 := Lib.hid (And.intro hr5 (And.intro hb5 (And.intro hc5 hbox5)))
        clear hr5 hb5 hc5 hbox5
        refine wpLate.ready (rs := [10]) (by as_aux_lemma => kernel_rfl) (by simp) (eachLate.cons rfl (fun K' hK' => ?_) eachLate.nil)
        go_simp
        refine hK'.out _ _ (TillOne.past trivial rfl) ?_
        clear hK' K' e14 f14
        try simp only [Act.put]
        refine wpLate.done (by as_aux_lemma => kernel_rfl) ?_ _
        go_wp2
        go_meet
        exact ⟨rfl, sign_box H55.out.1 H55.out.2.1 H55.out.2.2.2 H44.out.2.1 H44.out.2.2.2.1 H44.out.2.2.2.2 HM.out (HB2.out.1.trans (H55.out.2.2.1.mono (Nat.le_succ N))) H44.out.2.2.1⟩
      · go_simp
        have h4 := (Whole.new w2 5 Z4).drew
        have hc1 : Below (N + 1) w2 (w2.alloc (.cells Z4 5)).drew := ((Below.refl (N + 1) w2).alloc hle _).drew
        have hl1 : N + 1 ≤ (w2.alloc (.cells Z4 5)).drew.heap.size := Nat.le_trans hle hc1.size
        refine hK'.out _ _ (HTL.out _ _ (HD.out _ hc1)) ?_
        clear hK' K'
        try simp only [Act.put]
        generalize (w2.alloc (.cells Z4 5)).drew = X1 at *
        obtain ⟨g4, hg4⟩ : ∃ g, w2.heap.size = g := ⟨_, rfl⟩
        rw [hg4] at h4 hle ⊢
        clear hg4
        have HTX : Hid (∀ L, (TillOne (fun _ => True) (fun W => W.cell? ⟨N, 14, none⟩ = some (.slice A n c)) 10) L X1) := Lib.hid fun L => HTL.out _ L (HD.out _ hc1)
        refine wpLate.take (i := 5) (q := 10) (oi := _) (v := ?_) rfl (by as_aux_lemma => kernel_rfl) (by as_aux_lemma => kernel_rfl) (by as_aux_lemma => kernel_rfl) (by as_aux_lemma => kernel_rfl) (by rfl) (fun _ _ _ h => h) (TillOne.set (by decide)) (HTX.out _) (Or.inl ⟨by rfl, ?_⟩) ?_
        case refine_2 => intro W hw; have e0 := HG1.out W hw; clear hw; go_simp; (try with_reducible rfl)
        simp only [Act.put, List.setIfInBounds_toArray, List.set_cons_succ, List.set_cons_zero]
        refine wpLate.ready (rs := [2]) (by as_aux_lemma => kernel_rfl) (by simp) (eachLate.cons rfl (fun K' hK' => ?_) eachLate.nil)
        go_simp
        have h20 := Whole.new X1 5 Z20
        have h4' := h4.alloc (.cells Z20 5)
        have hc2 : Below (N + 1) w2 (X1.alloc (.cells Z20 5)) := hc1.alloc hl1 _
        refine hK'.out _ _ (HTL.out _ _ (HD.out _ hc2)) ?_
        clear hK' K' h4 hc1 hl1
        try simp only [Act.put]
        generalize X1.alloc (.cells Z20 5) = X2 at *
        obtain ⟨g20, hg20⟩ : ∃ g, X1.heap.size = g := ⟨_, rfl⟩
        rw [hg20] at h20 ⊢
        clear hg20 hle
        have H22 := Lib.hid (And.intro h20 (And.intro h4' hc2))
        clear h20 h4' hc2 hm20 hm4
        have HTY : Hid (∀ L, (TillOne (fun _ => True) (fun W => W.cell? ⟨N, 14, none⟩ = some (.slice A n c)) 10) L X2) := Lib.hid fun L => HTL.out _ L (HD.out _ H22.out.2.2)
        refine wpLate.take (i := 3) (q := 10) (oi := _) (v := ?_) rfl (by as_aux_lemma => kernel_rfl) (by as_aux_lemma => kernel_rfl) (by as_aux_lemma => kernel_rfl) (by as_aux_lemma => kernel_rfl) (by rfl) (fun _ _ _ h => h) (TillOne.set (by decide)) (HTY.out _) (Or.inl ⟨by rfl, ?_⟩) ?_
        case refine_2 => intro W hw; have e0 := HG1.out W hw; clear hw; go_simp; (try with_reducible rfl)
        simp only [Act.put, List.setIfInBounds_toArray, List.set_cons_succ, List.set_cons_zero]
        refine wpLate.ready (rs := [6]) (by as_aux_lemma => kernel_rfl) (by simp) (eachLate.cons rfl (fun K' hK' => ?_) eachLate.nil)
        go_simp
        have hl2 : N + 1 ≤ X2.heap.size := Nat.le_trans HLE.out H22.out.2.2.size
        have h21 := Whole.new X2 92 #[.int .u16 8, .slice (some ⟨g20, 0, none⟩) 20 20, .int .u16 32808, .slice (some ⟨g4, 0, none⟩) 4 4]
        have hc3 : Below (N + 1) w2 (X2.alloc (.cells #[.int .u16 8, .slice (some ⟨g20, 0, none⟩) 20 20, .int .u16 32808, .slice (some ⟨g4, 0, none⟩) 4 4] 92)) := H22.out.2.2.alloc hl2 _
        have h203 := H22.out.1.alloc (.cells #[.int .u16 8, .slice (some ⟨g20, 0, none⟩) 20 20, .int .u16 32808, .slice (some ⟨g4, 0, none⟩) 4 4] 92)
        have h43 := H22.out.2.1.alloc (.cells #[.int .u16 8, .slice (some ⟨g20, 0, none⟩) 20 20, .int .u16 32808, .slice (some ⟨g4, 0, none⟩) 4 4] 92)
        refine hK'.out _ _ (HTL.out _ _ (HD.out _ hc3)) ?_
        clear hK' K'
        try simp only [Act.put]
        generalize X2.alloc (.cells #[.int .u16 8, .slice (some ⟨g20, 0, none⟩) 20 20, .int .u16 32808, .slice (some ⟨g4, 0, none⟩) 4 4] 92) = X3 at *
        obtain ⟨g21, hg21⟩ : ∃ g, X2.heap.size = g := ⟨_, rfl⟩
        rw [hg21] at h21 ⊢
        clear hg21 hl2
        have H33 := Lib.hid (And.intro h21 (And.intro h203 (And.intro h43 hc3)))
        clear h21 h203 h43 hc3
        refine wpLate.ready (rs := [7]) (by as_aux_lemma => kernel_rfl) (by simp) (eachLate.cons rfl (fun K' hK' => ?_) eachLate.nil)
        go_simp
        have hl3 : N + 1 ≤ X3.heap.size := Nat.le_trans HLE.out H33.out.2.2.2.size
        have h22 := Whole.new X3 67 #[.slice A n c, .slice (some ⟨g21, 0, none⟩) 2 2]
        have hal : Below X3.heap.size X3 (X3.alloc (.cells #[.slice A n c, .slice (some ⟨g21, 0, none⟩) 2 2] 67)) := (Below.refl _ _).alloc (Nat.le_refl _) _
        have hc4 : Below (N + 1) w2 (X3.alloc (.cells #[.slice A n c, .slice (some ⟨g21, 0, none⟩) 2 2] 67)) := H33.out.2.2.2.alloc hl3 _
        have h214 := H33.out.1.under hal
        have h204 := H33.out.2.1.under hal
        have h44 := H33.out.2.2.1.under hal
        refine hK'.out _ _ (HTL.out _ _ (HD.out _ hc4)) ?_
        clear hK' K'
        try simp only [Act.put]
        generalize X3.alloc (.cells #[.slice A n c, .slice (some ⟨g21, 0, none⟩) 2 2] 67) = X4 at *
        obtain ⟨g22, hg22⟩ : ∃ g, X3.heap.size = g := ⟨_, rfl⟩
        rw [hg22] at h22 ⊢
        clear hg22 hl3 hal
        rw [← HZZ.out.1] at h204
        rw [← HZZ.out.2] at h44
        have hat := HM.out.ats
        rw [HN.out] at hat
        have hat4 := hat.below (HB2.out.1.trans (hc4.mono (Nat.le_succ N)))
        obtain ⟨q1, hq1, hs1, hq1b⟩ := src_of hat4 HM.out.nil (fun e => by have := HM.out.fits; have := HM.out.nil e; omega)
        rw [HE.out] at hs1 hq1b
        obtain ⟨hs2, hq2⟩ := src_two h214 h204 h44
        have hN4 : N + 1 ≤ X4.heap.size := Nat.le_trans HLE.out hc4.size
        have HCC := Lib.hid (concatA_any g22 A n c ⟨g21, 0, none⟩ 2 2 q1 [(8, .slice (some ⟨g20, 0, none⟩) 20 20), (32808, .slice (some ⟨g4, 0, none⟩) 4 4)] X4 h22 hs1 hs2 (fun ad e hp => Nat.lt_of_lt_of_le (hq1b ad e hp) (by omega)) h214.lt (by decide) (by have := HVV.out.most; have := HE.out; omega))
        have H44 := Lib.hid (And.intro hc4 (And.intro hq1 (And.intro hN4 (And.intro h204 h44))))
        clear h22 hc4 h214 h204 h44 hat hat4 hq1 hs1 hq1b hs2 hq2 hN4
        refine wpLate.ready (rs := [8]) (by as_aux_lemma => kernel_rfl) (by simp) (eachLate.cons rfl (fun K' hK' => ?_) eachLate.nil)
        go_simp
        refine HCC.out.mono ?_
        rintro e X5 ⟨v5, rfl, hr5, hb5⟩
        obtain ⟨A5, c5, rfl, -⟩ := id hr5.form
        obtain ⟨l5, hl5⟩ : ∃ l, (q1 ++ [((8 : Int), Value.slice (some ⟨g20, 0, none⟩) 20 20), (32808, .slice (some ⟨g4, 0, none⟩) 4 4)]).length = l := ⟨_, rfl⟩
        rw [hl5] at hr5 ⊢
        have HL5 := Lib.hid hl5
        clear hl5
        have hc5 : Below (N + 1) w2 X5 := H44.out.1.trans (hb5.mono H44.out.2.2.1)
        refine hK'.out _ _ (HTL.out _ _ (HD.out _ hc5)) ?_
        clear hK' K'
        try simp only [Act.put]
        have HTW : Hid (∀ L, (TillOne (fun _ => True) (fun W => W.cell? ⟨N, 14, none⟩ = some (.slice A n c)) 10) L X5) := Lib.hid fun L => HTL.out _ L (HD.out _ hc5)
        refine wpLate.take (i := 9) (q := 10) (oi := _) (v := ?_) rfl (by as_aux_lemma => kernel_rfl) (by as_aux_lemma => kernel_rfl) (by as_aux_lemma => kernel_rfl) (by as_aux_lemma => kernel_rfl) (by rfl) (fun _ _ _ h => h) (TillOne.set (by decide)) (HTW.out _) (Or.inl ⟨by rfl, ?_⟩) ?_
        case refine_2 => intro W hw; have e0 := HG1.out W hw; clear hw; go_simp; (try with_reducible rfl)
        simp only [Act.put, List.setIfInBounds_toArray, List.set_cons_succ, List.set_cons_zero]
        have hbox5 := HB2.out.2.below hc5 (Nat.lt_succ_self N)
        have e14 : X5.cell? ⟨N, 14, none⟩ = some (.slice A n c) := HD.out _ hc5
        have f14 : X5.frozen? ⟨N, 14, none⟩ = false := hbox5.frz 14
        have H55 := Lib.hid (And.intro hr5 (And.intro hb5 (And.intro hc5 hbox5)))
        clear hr5 hb5 hc5 hbox5
        refine wpLate.ready (rs := [10]) (by as_aux_lemma => kernel_rfl) (by simp) (eachLate.cons rfl (fun K' hK' => ?_) eachLate.nil)
        go_simp
        refine hK'.out _ _ (TillOne.past trivial rfl) ?_
        clear hK' K' e14 f14
        try simp only [Act.put]
        refine wpLate.done (by as_aux_lemma => kernel_rfl) ?_ _
        go_wp2
        go_meet
        exact ⟨rfl, sign_box H55.out.1 H55.out.2.1 H55.out.2.2.2 H44.out.2.1 H44.out.2.2.2.1 H44.out.2.2.2.2 HM.out (HB2.out.1.trans (H55.out.2.2.1.mono (Nat.le_succ N))) H44.out.2.2.1⟩
end Go.Proofs.Yteloaidnfcmadaa
