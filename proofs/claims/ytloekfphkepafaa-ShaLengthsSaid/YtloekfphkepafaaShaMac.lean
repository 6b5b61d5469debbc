/- HMAC of any key and message (MAC). -/
import Derived.Test.YtloekfphkepafaaShaKeyed
import Derived.Deep.RegionHeld3
import Derived.Deep.MidRow
namespace Go.Proofs.Ytloekfphkepafaa
open Go.RowKit
set_option linter.unusedVariables false

/-- Twenty numbers that fit a block. -/
def Fit20 (R : Array Value) : Prop := R.size = 20 ∧ R.all (·.oneCell') = true
theorem fit20_from (s : S5) (a : Nat) (xs : List Int) : Fit20 (arr .u8 (shaFrom s a xs)) := by
  unfold shaFrom dig
  exact ⟨by rw [arr_size, digN_length], arr_one _ _⟩
theorem fit20_sha (xs : List Int) : Fit20 (arr .u8 (sha xs)) := by
  unfold sha
  exact fit20_from _ _ _
theorem fit20_mac (ks ms : List Int) : Fit20 (arr .u8 (mac ks ms)) := by
  unfold mac macOf
  split
  · exact fit20_from _ _ _
  · exact fit20_from _ _ _
theorem digN_in8 (s : S5) (k : Nat) : ∀ i, 0 ≤ (digN s k).getD i 0 ∧ (digN s k).getD i 0 < 256 := by
  induction k with
  | zero => intro i; rw [digN, z20, getD_zeros]; omega
  | succ k ih =>
    intro i
    rw [digN, getD_set, getD_set, getD_set, getD_set]
    have := ih i
    split
    · omega
    · split
      · omega
      · split
        · omega
        · split
          · omega
          · exact this
theorem sha_in8 (xs : List Int) : ∀ i, 0 ≤ (sha xs).getD i 0 ∧ (sha xs).getD i 0 < 256 := by
  unfold sha shaFrom dig
  exact digN_in8 _ _
theorem from_in8 (s : S5) (a : Nat) (xs : List Int) : ∀ i, 0 ≤ (shaFrom s a xs).getD i 0 ∧ (shaFrom s a xs).getD i 0 < 256 := by
  unfold shaFrom dig
  exact digN_in8 _ _

/-- Block g is a variable of twenty bytes, as it was made. -/
def New20 (w : World) (g : Nat) : Prop := Whole w g 24 (arr .u8 z20)
theorem New20.there {w : World} {g : Nat} (h : New20 w g) : w.there g 0 20 := fun j hj => by
  have e := Whole.at_ h (i := j) (by simp [z20]; exact hj)
  rw [Nat.zero_add, e]
  exact ⟨rfl, Whole.frz h j⟩

/-- Cells that are stored one by one into a block that is known whole. -/
theorem Whole.cells {g : Nat} {t : TypeId} : ∀ (vs : List Value) (o : Nat) (w : World) (old : List Value), Whole w g t old.toArray → o + vs.length ≤ old.length → Whole (w.setCells g o vs) g t (old.take o ++ (vs ++ old.drop (o + vs.length))).toArray
  | [], o, w, old, h, _ => by simpa [World.setCells] using h
  | v :: r, o, w, old, h, hl => by
    have hl' : o + (r.length + 1) ≤ old.length := hl
    have h1 : Whole (w.setCell ⟨g, o, none⟩ v) g t (old.set o v).toArray := by
      have := h.set o v
      rw [List.setIfInBounds_toArray] at this
      exact this
    have h2 := Whole.cells r (o + 1) _ (old.set o v) h1 (by rw [List.length_set]; omega)
    have e : (old.set o v).take (o + 1) ++ (r ++ (old.set o v).drop (o + 1 + r.length)) = old.take o ++ (v :: r ++ old.drop (o + (v :: r).length)) := by
      have e1 : (old.set o v).take (o + 1) = old.take o ++ [v] := by
        rw [List.take_set, List.take_succ_eq_append_getElem (by omega), List.set_append_right _ _ (by rw [List.length_take]; omega)]
        have : min o old.length = o := by omega
        simp [this]
      have e2 : (old.set o v).drop (o + 1 + r.length) = old.drop (o + (v :: r).length) := by
        rw [List.drop_set, if_pos (by omega)]
        congr 1
        simp
        omega
      rw [e1, e2]
      simp
    rw [e] at h2
    exact h2
theorem Whole.cellsAll {w : World} {g : Nat} {t : TypeId} {old : Array Value} (h : Whole w g t old) (cs : List Value) (hl : cs.length = old.size) : Whole (w.setCells g 0 cs) g t cs.toArray := by
  obtain ⟨old⟩ := old
  have hl' : cs.length = old.length := by simpa using hl
  have := Whole.cells cs 0 w old h (by omega)
  rw [Nat.zero_add, List.take_zero, List.nil_append, List.drop_of_length_le (by omega), List.append_nil] at this
  exact this
theorem below_cells {B : Nat} {a : World} {g : Nat} (hg : B ≤ g) : ∀ (vs : List Value) (o : Nat) (w : World), Below B a w → Below B a (w.setCells g o vs)
  | [], _, _, h => h
  | v :: r, o, w, h => below_cells hg r (o + 1) _ (h.setCell (p := ⟨g, o, none⟩) hg v)

/-- What the key is, once it is short. -/
structure KeyAt (w : World) (msg : List Int) (ks : List Int) (R : Array Value) (A : Option Addr) (n : Nat) (wc : World) : Prop where
  bytes : Bs wc wc.heap.size A n ks
  in8 : ∀ i, 0 ≤ ks.getD i 0 ∧ ks.getD i 0 < 256
  short : n ≤ 64
  res : R = arr .u8 (macOf ks msg)
  new : New20 wc w.heap.size
  below : Below w.heap.size w wc

set_option maxHeartbeats 400000 in
set_option maxRecDepth 100000 in
theorem mac_walk (Ak Am : Option Addr) (nk ck nm cm : Nat) (ks ms : List Int) (B : Nat) (w : World) (hk : Bs w B Ak nk ks) (hm : Bs w B Am nm ms) (hB : B ≤ w.heap.size) (hck : nk ≤ ck) (hck2 : ck ≤ maxLen) (hcm : nm ≤ cm) (hcm2 : cm ≤ maxLen)
    (hkx : ∀ i, 0 ≤ ks.getD i 0 ∧ ks.getD i 0 < 256) (hmx : ∀ i, 0 ≤ ms.getD i 0 ∧ ms.getD i 0 < 256) (hnk : nk ≤ 281474976710656) (hnm : nm ≤ 281474976710656) :
    Calls Try.prog 13 #[.slice Ak nk ck, .slice Am nm cm] w fun e w' => e = .returned (.agg (arr .u8 (mac ks ms))) ∧ Below w.heap.size w w' := by
  have hz := Try.zero24
  have hF : Fit20 (arr .u8 (mac ks ms)) := fit20_mac _ _
  obtain ⟨cs, hcs⟩ : ∃ cs, (mac ks ms).map (Value.int .u8) = cs := ⟨_, rfl⟩
  have hR : arr .u8 (mac ks ms) = cs.toArray := by rw [← hcs]; rfl
  rw [hR] at hF ⊢
  have hl20 : cs.length = 20 := by simpa using hF.1
  have hone : ∀ v ∈ cs, v.oneCell' = true := by rw [← hcs]; intro v hv; obtain ⟨x, _, rfl⟩ := List.mem_map.1 hv; rfl
  have HF := Lib.hid (And.intro hl20 hone)
  clear hF hcs hl20 hone
  have hb0 : Below w.heap.size w (w.alloc (.cells (arr .u8 z20) 24)) := (Below.refl _ w).alloc (Nat.le_refl _) _
  have H0 := Lib.hid (And.intro hk (And.intro hm (And.intro hkx (And.intro hmx (And.intro hR hb0)))))
  have HN : Hid (New20 (w.alloc (.cells (arr .u8 z20) 24)) w.heap.size) := Lib.hid (Whole.new _ _ _)
  have HS := Lib.hid (sum_any Ak nk ck ks B (w.alloc (.cells (arr .u8 z20) 24)) (hk.below (hb0.mono hB)) (Nat.le_trans hB hb0.size) hck hck2 hkx hnk)
  have hF2 : Fit20 (arr .u8 (sha ks)) := fit20_sha _
  obtain ⟨R2, hR2⟩ : ∃ R2, arr .u8 (sha ks) = R2 := ⟨_, rfl⟩
  rw [hR2] at HS hF2
  have HR2 := Lib.hid hR2
  clear hk hm hkx hmx hR hb0 hR2
  go_enter Try.func13, Try.ntmps13
  go_upto_if 9 with fail
  go_cut [0, 5, 9] from 10 (fun s0 s5 s9 wc => ∃ A n c ks', s0 = .slice A n c ∧ KeyAt w ms ks' cs.toArray A n wc)
  case first =>
    by_cases h64 : 64 < nk
    · have h64' : (64 : Int) < (nk : Int) := by omega
      go_wp2_with (first
        | (go_at_call 9; (with_reducible refine HS.out.mono ?_); rintro e w1 ⟨rfl, hb1⟩)
        | (refine wpList_store_whole rfl 24 (.tmp 5) (.tmp 11) rfl rfl rfl (Whole.new _ _ _) Try.info24 hF2.1 (by rfl) hF2.2 ?_))
      go_meet
      have hb2 : Below w1.heap.size w1 ((w1.alloc (.cells (arr .u8 z20) 24)).setRow w1.heap.size R2) := below_row ((Below.refl _ w1).alloc (Nat.le_refl _) _) (Nat.le_refl _) _
      have hN1 : New20 w1 w.heap.size := Whole.under HN.out hb1
      have hW : Whole ((w1.alloc (.cells (arr .u8 z20) 24)).setRow w1.heap.size R2) w1.heap.size 24 (arr .u8 (sha ks)) := by
        rw [HR2.out]
        exact Whole.row (Whole.new _ _ _) _
      have hl : (sha ks).length = 20 := by have := (fit20_sha ks).1; rwa [arr_size] at this
      have hB := Bs.row hW 0 (Nat.zero_le _)
      rw [Nat.sub_zero, List.drop_zero, hl] at hB
      refine ⟨_, _, _, _, rfl, hB.more (by simp), sha_in8 _, by omega, ?_, Whole.under hN1 hb2, ?_⟩
      · rw [← H0.out.2.2.2.2.1, mac, if_pos (by rw [H0.out.1.1]; exact h64)]
      · have h3 := H0.out.2.2.2.2.2
        have h4 := h3.trans (hb1.mono h3.size)
        exact h4.trans (hb2.mono h4.size)
    · have h64' : ¬ (64 : Int) < (nk : Int) := by omega
      go_wp2_with fail
      go_meet
      refine ⟨_, _, _, ks, rfl, ⟨(H0.out.1.below (H0.out.2.2.2.2.2.mono hB)).more (by simp; omega), H0.out.2.2.1, by omega, ?_, HN.out, H0.out.2.2.2.2.2⟩⟩
      rw [← H0.out.2.2.2.2.1, mac, if_neg (by rw [H0.out.1.1]; omega)]
  case rest =>
    obtain ⟨A, n, c, ks', rfl, hK⟩ := hcut
    have HK := Lib.hid hK
    have hf1 : Fit20 (arr .u8 (shaFrom (keyS ks' 54) 64 ms)) := fit20_from _ _ _
    have hres := hK.res
    have HK1 := Lib.hid (keyed_any A n c ks' 54 wc.heap.size wc hK.bytes (Nat.le_refl _) hK.short hK.in8 (by omega))
    have HE1 : Hid (∀ W, Below wc.heap.size wc W → Calls Try.prog 16 #[.agg (arr .u32 (keyS ks' 54).list), .int .u64 64, .slice Am nm cm] W fun e w' => e = .returned (.agg (arr .u8 (shaFrom (keyS ks' 54) 64 ms))) ∧ Below W.heap.size W w') :=
      Lib.hid fun W hb => end_any (keyS ks' 54) 64 Am nm cm ms B W (H0.out.2.1.below ((hK.below.trans (hb.mono hK.below.size)).mono hB)) (Nat.le_trans hB (Nat.le_trans hK.below.size hb.size)) hcm hcm2 H0.out.2.2.2.1 (by omega) hnm
    obtain ⟨S1, hS1⟩ : ∃ S1, arr .u32 (keyS ks' 54).list = S1 := ⟨_, rfl⟩
    obtain ⟨R1, hR1⟩ : ∃ R1, arr .u8 (shaFrom (keyS ks' 54) 64 ms) = R1 := ⟨_, rfl⟩
    rw [hS1] at HK1 HE1
    rw [hR1] at HE1 hf1
    have H1 := Lib.hid (And.intro hS1 (And.intro hR1 hres))
    clear hK hres hS1 hR1 HN HS HR2 hF2
    go_wp2_with (first
      | (go_at_call 18; (with_reducible refine HK1.out.mono ?_); rintro e w1 ⟨rfl, hb1⟩)
      | (go_at_call 16; (with_reducible refine (HE1.out _ hb1).mono ?_); rintro e w2 ⟨rfl, hb2⟩)
      | (refine wpList_store_whole rfl 24 (.tmp 6) (.tmp 16) rfl rfl rfl (Whole.new _ _ _) Try.info24 hf1.1 (by rfl) hf1.2 ?_))
    obtain ⟨W, hW⟩ : ∃ W, (w2.alloc (.cells (arr .u8 z20) 24)).setRow w2.heap.size R1 = W := ⟨_, rfl⟩
    have hb3 : Below w2.heap.size w2 W := by rw [← hW]; exact below_row ((Below.refl _ w2).alloc (Nat.le_refl _) _) (Nat.le_refl _) _
    have hb4 : Below wc.heap.size wc W := (hb1.trans (hb2.mono hb1.size)).trans (hb3.mono (Nat.le_trans hb1.size hb2.size))
    have hin : Whole W w2.heap.size 24 (arr .u8 (shaFrom (keyS ks' 54) 64 ms)) := by rw [← hW, H1.out.2.1]; exact Whole.row (Whole.new _ _ _) _
    have hnew : New20 W w.heap.size := Whole.under HK.out.new hb4
    have HK2 : Hid (∀ V, Below W.heap.size W V → Calls Try.prog 18 #[.slice A n c, .int .u8 92] V fun e w' => e = .returned (.agg (arr .u32 (keyS ks' 92).list)) ∧ Below V.heap.size V w') :=
      Lib.hid fun V hV => keyed_any A n c ks' 92 wc.heap.size V (HK.out.bytes.below (hb4.trans (hV.mono hb4.size))) (Nat.le_trans hb4.size hV.size) HK.out.short HK.out.in8 (by omega)
    have hlen : (shaFrom (keyS ks' 54) 64 ms).length = 20 := by have := (fit20_from (keyS ks' 54) 64 ms).1; rwa [arr_size] at this
    have HE2 : Hid (∀ V, Below W.heap.size W V → Calls Try.prog 16 #[.agg (arr .u32 (keyS ks' 92).list), .int .u64 64, .slice (some ⟨w2.heap.size, 0, none⟩) 20 20] V fun e w' => e = .returned (.agg cs.toArray) ∧ Below V.heap.size V w') :=
      Lib.hid fun V hV => by
        have h1 := Bs.row (hin.under hV) 0 (Nat.zero_le _)
        rw [Nat.sub_zero, List.drop_zero, hlen] at h1
        have h2 := end_any (keyS ks' 92) 64 (some ⟨w2.heap.size, 0, none⟩) 20 20 _ _ V h1 (hin.under hV).lt (Nat.le_refl _) (by unfold maxLen; omega) (from_in8 _ _ _) (by omega) (by omega)
        rw [H1.out.2.2]
        exact h2
    rw [hW]
    obtain ⟨S2, hS2⟩ : ∃ S2, arr .u32 (keyS ks' 92).list = S2 := ⟨_, rfl⟩
    rw [hS2] at HK2 HE2
    have HX := Lib.hid (And.intro hnew (HK.out.below.trans (hb4.mono HK.out.below.size)))
    clear hin hnew hlen hb1 hb2 hb3 hb4 hW hS2 hf1 HK1 HE1 H1 hz
    have hu := Try.underlying24
    have hl20 := HF.out.1
    have hone := HF.out.2
    have hi : (Try.prog.info? 24).map (·.size) = some cs.length := by rw [Try.info24, hl20]
    have ht0 : W.there w.heap.size 0 20 := HX.out.1.there
    go_region_held3 (fun w' => w'.there w.heap.size 0 20) (first | assumption | (simp only [World.there_drew]; assumption) | exact World.there_setCells (by assumption) _ _ _) (first
      | (go_at_call 18; (with_reducible refine (HK2.out _ ((Below.refl _ W).drew)).mono ?_); rintro e w3 ⟨rfl, hb3'⟩; have hb3 : Below W.heap.size W w3 := ⟨hb3'.os, hb3'.tape, hb3'.output, hb3'.size, hb3'.block⟩; clear hb3'; have ht3 : w3.there w.heap.size 0 20 := New20.there (Whole.under HX.out.1 hb3))
      | (go_at_call 16; (with_reducible refine (HE2.out _ hb3).mono ?_); rintro e w4 ⟨rfl, hb4⟩; have ht4 : w4.there w.heap.size 0 20 := New20.there (Whole.under (Whole.under HX.out.1 hb3) hb4)))
    all_goals
      go_wp2
      have hN4 : New20 w4 w.heap.size := Whole.under (Whole.under HX.out.1 hb3) hb4
      have hb5 : Below w.heap.size w w4 := (HX.out.2.trans (hb3.mono HX.out.2.size)).trans (hb4.mono (Nat.le_trans HX.out.2.size hb3.size))
      refine bodyPost_ret (v := .agg cs.toArray) ?_ rfl ?_
      · exact ret_whole (g := w.heap.size) rfl rfl (Whole.cellsAll hN4 cs (by rw [arr_size]; exact hl20)) Try.underlying24 Try.info24 (by simpa using hl20)
      · exact ⟨rfl, below_cells (Nat.le_refl _) _ _ _ hb5⟩

end Go.Proofs.Ytloekfphkepafaa
