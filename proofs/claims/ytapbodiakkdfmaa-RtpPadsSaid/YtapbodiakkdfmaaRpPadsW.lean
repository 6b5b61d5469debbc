/- RtpPads walked: whatever a packet's payload and padding, the payload comes back, and the padding's bytes are noughts but the last one. -/
import Derived.Test.YtapbodiakkdfmaaRpF
import Derived.Test.YtapbodiakkdfmaaRpG
namespace Go.Proofs.Ytapbodiakkdfmaa
open Go.RowKit
set_option linter.unusedVariables false
set_option linter.unusedSimpArgs false

theorem flatB_length (mk : Bool) (ty : Int) (ys : List Int) (pad : Nat) : (flatB mk ty ys pad).length = 12 + ys.length + pad := by
  rw [flatB_cons]; simp [flatR_length]; omega
theorem flatB_mid (mk : Bool) (ty : Int) (ys : List Int) (pad i : Nat) (h1 : 12 + ys.length ≤ i) (h2 : i < 12 + ys.length + pad - 1) : (flatB mk ty ys pad).getD i 0 = 0 := by
  have hp : pad ≠ 0 := by omega
  have e : (flatB mk ty ys pad).getD i 0 = (padB pad).getD (i - (12 + ys.length)) 0 := by
    unfold flatB
    simp only [List.getD]
    rw [List.getElem?_append_right (by simp; omega)]
    congr 2
    simp
    omega
  rw [e]
  exact padB_mid hp _ (by omega)
theorem flatB_last (mk : Bool) (ty : Int) (ys : List Int) (pad : Nat) (hp : pad ≠ 0) : (flatB mk ty ys pad).getD (12 + ys.length + pad - 1) 0 = pad := by
  have h := padB_last hp ([if pad = 0 then 128 else 160, if mk then ty + 128 else ty] ++ be2 0 ++ be4 0 ++ be4 0 ++ ys)
  have e : ([if pad = 0 then 128 else 160, if mk then ty + 128 else ty] ++ be2 0 ++ be4 0 ++ be4 0 ++ ys).length = 12 + ys.length := by simp; omega
  rw [e] at h
  exact h
theorem build_pk4 (mk : Bool) (P : Value) (pad : Int) (hP : P.oneCell' = true) (w : World) : True := trivial

/-- The answer, and that nothing of what was there has turned. -/
def YesO (w : World) (e : Ending) (w' : World) : Prop := e = .returned (.bool true) ∧ Below w.heap.size w w'

set_option maxHeartbeats 3200000 in
set_option maxRecDepth 100000 in
theorem pads_cut (A : Option Addr) (n c : Nat) (xs ys : List Int) (pad m : Nat) (mk : Bool) (w : World) (hb : Bs w w.heap.size A n xs) (hA : A = none → c = 0) (hnc : n ≤ c) (hcm : c ≤ maxLen) (hn : n ≤ 140737488351232) (hx : In256 xs) (hp : pad ≤ 255)
    (hcut : 1200 < n) (hm : m = 1200) (hys : ys = xs.take m) :
    Calls Try.prog 4 #[.slice A n c, .int .u8 pad, .bool mk] w fun e w' => YesO w e w' := by
  have HAW := Lib.hid (awake12_yes w)
  obtain ⟨ad, rfl, -, -⟩ := hb.2 (by omega)
  have hc1 : 1200 ≤ c := by omega
  have hc0 : ¬ c = 0 := by omega
  have hlx : xs.length = n := hb.1
  have hyl : ys.length = m := by rw [hys, List.length_take]; omega
  have hm12 : m ≤ 1200 := by omega
  have hmn : m ≤ n := by omega
  have hyx : In256 ys := by rw [hys]; exact hx.take m
  have hyb : Bs w w.heap.size (some ad) m ys := by rw [hys]; exact hb.head hmn
  have HY := Lib.hid (And.intro hyl (And.intro hyx (And.intro hyb (And.intro hA (And.intro hnc hcm)))))
  obtain ⟨B, hB⟩ : ∃ B, flatB mk 96 ys pad = B := ⟨_, rfl⟩
  have HBE := Lib.hid hB
  obtain ⟨L, hL⟩ : ∃ L, 12 + m + pad = L := ⟨_, rfl⟩
  have hBl : B.length = L := by rw [← hB, flatB_length, hyl, hL]
  have HBU : Hid (∀ (A2 : Option Addr) (c2 : Nat) W, Bs W W.heap.size A2 m ys → (A2 = none → c2 = 0) → Calls Try.prog 11 #[.agg #[.bool mk, .int .i64 96, .int .u16 0, .int .u32 0, .int .u32 0, .slice none 0 0, .slice none 0 0, .slice A2 m c2, .int .i64 pad]] W fun e w' => ∃ v, e = .returned (.tuple #[v, .int .i64 0]) ∧ Own8 w' W.heap.size v B ∧ Below W.heap.size W w') := Lib.hid fun A2 c2 W h1 h2 => by
    have := build_flat mk 96 A2 c2 pad ys (by decide) (by decide) (by decide) (by omega) hp W (by rw [hyl]; exact h1) h2
    rw [hyl, hB] at this
    exact this
  have HPA : Hid (∀ (A2 : Option Addr) (c2 : Nat) W, V8 W W.heap.size (.slice A2 L c2) B → Calls Try.prog 12 #[.slice A2 L c2] W fun e w' => ParO mk ys pad W e w') := Lib.hid fun A2 c2 W h => by
    have := parse_flat mk 96 ys pad A2 c2 B W hB.symm (by decide) (by decide) (by omega) hyx hp (by rw [hBl]; exact h)
    rwa [hBl] at this
  have HMID : Hid (∀ k, 12 + m ≤ k → k < L - 1 → B.getD k 0 = 0) := Lib.hid fun k h1 h2 => by rw [← hB]; exact flatB_mid _ _ _ _ _ (by omega) (by omega)
  have HLST : Hid (pad ≠ 0 → B.getD (L - 1) 0 = pad) := Lib.hid fun h => by have := flatB_last mk 96 ys pad h; rw [hyl, hL, hB] at this; exact this
  have hsum : (12 : Int) + m + pad = L := by omega
  have hL12 : 12 + m ≤ L := by omega
  have hLp : L = 12 + m + pad := hL.symm
  have HNUM := Lib.hid (And.intro hL12 (And.intro hLp hm12))
  clear hb hA hnc hx hlx hyx hyb hB hys hL hm12 hLp
  go_enter Try.func4, Try.ntmps4
  go_upto_region 3 with (go_at_call 5; (with_reducible refine HAW.out.mono ?_); rintro e w1 ⟨rfl, hb1⟩)
  have H1 := Lib.hid hb1
  clear hb1
  go_upto_region 5 with fail
  rw [show (1200 : Nat) = m from hm.symm]
  clear hm
  have hpu : (pad : Int) % 256 = pad := by omega
  have hmk := Own8.made w1 (Nat.le_refl _)
  have hal : Below w1.heap.size w1 (w1.alloc (.cells #[] 5)) := (Below.refl _ _).alloc (Nat.le_refl _) _
  have hbsA := (HY.out.2.2.1.below (H1.out.trans (hal.mono H1.out.size)))
  have HA := Lib.hid (And.intro hmk (And.intro hal hbsA))
  clear hmk hal hbsA
  go_upto_region 6 with (first
    | (at_builtin; go_must (refine wpList_append8 rfl (.tmp 21) (.tmp 22) rfl rfl HA.out.1 rfl HA.out.2.2 HY.out.2.2.2.1 (by simp; omega) HA.out.2.1.size ?_); intro v2 w2 k1 k2 k3; rw [List.nil_append] at k1; obtain ⟨A2, c2, rfl, f1, f2, f3, f4⟩ := k1.form; rw [hyl] at f4)
    | (go_at_call 11; (with_reducible refine (HBU.out _ _ _ f4 f3).mono ?_); rintro e w3 ⟨v3, rfl, ho3, hb3⟩; obtain ⟨A3, c3, rfl, g1, g2, g3, g4⟩ := ho3.form; rw [hBl] at g1 g4))
  have hb2 : Below w1.heap.size w1 w2 := HA.out.2.1.grown k2 HA.out.2.1.size (fun k hk => (HA.out.1.lt hk).1)
  have hb13 : Below w1.heap.size w1 w3 := hb2.trans (hb3.mono hb2.size)
  have H3 := Lib.hid (And.intro hb13 (And.intro g4 (And.intro g1 (And.intro g2 g3))))
  clear hb2 hb13 hb3 k1 k2 k3 f1 f2 f3 f4 g1 g2 g3 g4 ho3
  have hL2000 : L ≤ 2000 := by have := HNUM.out; omega
  have hL1 : IntKind.i64.wrap ((L : Int) - 1) = ((L - 1 : Nat) : Int) := by rw [IntKind.wrap_i64]; have := HNUM.out; omega
  have hm12 := HNUM.out.2.2
  go_wp2
  go_loop [9] (fun s9 => ∃ k : Nat, 12 + m ≤ k ∧ k ≤ L ∧ s9 = .int .i64 k) (fun s9 => L - (intOf s9).toNat)
  case atStart => exact ⟨12 + m, Nat.le_refl _, hL12, by go_num⟩
  case round =>
    obtain ⟨k, hk1, hk2, rfl⟩ := hrel
    by_cases hlt : k < L - 1
    · obtain ⟨a3, rfl, -, hc⟩ := H3.out.2.1.2 (by omega)
      have hcell := hc k (by omega)
      rw [HMID.out k hk1 hlt] at hcell
      have hkL : k < L := by omega
      clear hc
      go_wp2
      go_round
      case rel => exact ⟨k + 1, by omega, by omega, by go_num⟩
      case measure => simp [intOf]; omega
    · clear hk1 hk2
      have HP3 := Lib.hid (HPA.out A3 c3 w3 ⟨A3, c3, by rw [hBl], by rw [hBl]; exact H3.out.2.2.1, H3.out.2.2.2.1, H3.out.2.2.2.2, by rw [hBl]; exact H3.out.2.1⟩)
      have hz : ∀ W, (zeroValue 37).run Try.prog W = .ok (.agg (pk false 0 0 0 0 (.slice none 0 0) (.slice none 0 0) (.slice none 0 0) 0)) W := fun W => by kernel_rfl
      have hZ : (pk false 0 0 0 0 (.slice none 0 0) (.slice none 0 0) (.slice none 0 0) 0).size = 9 := rfl
      generalize pk false 0 0 0 0 (.slice none 0 0) (.slice none 0 0) (.slice none 0 0) 0 = Z at hz hZ
      go_upto_region 14 with (first
        | (go_at_call 12; (with_reducible refine HP3.out.mono ?_); rintro e w4 ⟨ty4, sq4, ti4, so4, P4, rfl, hv4, hb4⟩; obtain ⟨A4, c4, rfl, j1, j2, j3, j4⟩ := hv4)
        | (refine wpList_store_whole (cs := pk mk ty4 sq4 ti4 so4 (.slice none 0 0) (.slice none 0 0) (.slice A4 m c4) pad) rfl 37 (.tmp 10) (.tmp 61) rfl rfl rfl (Whole.new w4 37 Z) Try.sizePk rfl hZ (pk_one rfl rfl rfl) ?_))
      try simp only [Act.put]
      have hg5 := (Whole.new w4 37 Z).row (pk mk ty4 sq4 ti4 so4 (.slice none 0 0) (.slice none 0 0) (.slice A4 m c4) pad)
      have hb5 := below_row ((Below.refl w4.heap.size w4).alloc (Nat.le_refl _) (.cells Z 37)) (Nat.le_refl _) (pk mk ty4 sq4 ti4 so4 (.slice none 0 0) (.slice none 0 0) (.slice A4 m c4) pad)
      rw [hyl] at j4
      have hj5 := j4.below hb5
      have hw35 : Below w3.heap.size w3 ((w4.alloc (.cells Z 37)).setRow w4.heap.size (pk mk ty4 sq4 ti4 so4 (.slice none 0 0) (.slice none 0 0) (.slice A4 m c4) pad)) := hb4.trans (hb5.mono hb4.size)
      generalize (w4.alloc (.cells Z 37)).setRow w4.heap.size (pk mk ty4 sq4 ti4 so4 (.slice none 0 0) (.slice none 0 0) (.slice A4 m c4) pad) = w5 at *
      generalize w4.heap.size = N4 at *
      have hw15 : Below w1.heap.size w1 w5 := H3.out.1.trans (hw35.mono H3.out.1.size)
      have hw05 : Below w.heap.size w w5 := H1.out.trans (hw15.mono H1.out.size)
      obtain ⟨c0, c1, c2', c3', c4', c5, c6, c7, c8⟩ := pk_cells hg5
      have q1 := conv_text (c := c4) hj5 j3
      have q2 := conv_text (c := c) (HY.out.2.2.1.below hw05) HY.out.2.2.2.1
      have HB5 := Lib.hid hw05
      have HBS5 := Lib.hid (H3.out.2.1.below hw35)
      clear hg5 hb5 j1 j2 j3 j4 hj5 hw35 hw15 hw05 c1 c2' c3' c4' c5 c6 hb4 hz
      by_cases hp0 : pad = 0
      · have hp0' : (pad : Int) = 0 := by omega
        have hp1 : ((pad : Int) == 0) = true := by rw [hp0']; rfl
        clear hp0 hp0'
        go_wp2
        go_ret
        exact ⟨rfl, HB5.out⟩
      · have hp1 : ((pad : Int) == 0) = false := by simp; omega
        have hlL : L - 1 < L := by have := HNUM.out; omega
        obtain ⟨a3, rfl, -, hc⟩ := HBS5.out.2 (by omega)
        have hcell := hc (L - 1) hlL
        rw [HLST.out hp0] at hcell
        clear hc hp0
        go_wp2
        go_ret
        exact ⟨rfl, HB5.out⟩

set_option maxHeartbeats 3200000 in
set_option maxRecDepth 100000 in
theorem pads_all (A : Option Addr) (n c : Nat) (xs ys : List Int) (pad m : Nat) (mk : Bool) (w : World) (hb : Bs w w.heap.size A n xs) (hA : A = none → c = 0) (hnc : n ≤ c) (hcm : c ≤ maxLen) (hn : n ≤ 140737488351232) (hx : In256 xs) (hp : pad ≤ 255)
    (hcut : ¬ 1200 < n) (hm : m = n) (hys : ys = xs.take m) :
    Calls Try.prog 4 #[.slice A n c, .int .u8 pad, .bool mk] w fun e w' => YesO w e w' := by
  have HAW := Lib.hid (awake12_yes w)
  subst hm
  have hlx : xs.length = m := hb.1
  have hyl : ys.length = m := by rw [hys, List.length_take]; omega
  have hm12 : m ≤ 1200 := by omega
  have hmn : m ≤ m := by omega
  have hyx : In256 ys := by rw [hys]; exact hx.take m
  have hyb : Bs w w.heap.size A m ys := by rw [hys]; exact hb.head hmn
  have HY := Lib.hid (And.intro hyl (And.intro hyx (And.intro hyb (And.intro hA (And.intro hnc hcm)))))
  obtain ⟨B, hB⟩ : ∃ B, flatB mk 96 ys pad = B := ⟨_, rfl⟩
  have HBE := Lib.hid hB
  obtain ⟨L, hL⟩ : ∃ L, 12 + m + pad = L := ⟨_, rfl⟩
  have hBl : B.length = L := by rw [← hB, flatB_length, hyl, hL]
  have HBU : Hid (∀ (A2 : Option Addr) (c2 : Nat) W, Bs W W.heap.size A2 m ys → (A2 = none → c2 = 0) → Calls Try.prog 11 #[.agg #[.bool mk, .int .i64 96, .int .u16 0, .int .u32 0, .int .u32 0, .slice none 0 0, .slice none 0 0, .slice A2 m c2, .int .i64 pad]] W fun e w' => ∃ v, e = .returned (.tuple #[v, .int .i64 0]) ∧ Own8 w' W.heap.size v B ∧ Below W.heap.size W w') := Lib.hid fun A2 c2 W h1 h2 => by
    have := build_flat mk 96 A2 c2 pad ys (by decide) (by decide) (by decide) (by omega) hp W (by rw [hyl]; exact h1) h2
    rw [hyl, hB] at this
    exact this
  have HPA : Hid (∀ (A2 : Option Addr) (c2 : Nat) W, V8 W W.heap.size (.slice A2 L c2) B → Calls Try.prog 12 #[.slice A2 L c2] W fun e w' => ParO mk ys pad W e w') := Lib.hid fun A2 c2 W h => by
    have := parse_flat mk 96 ys pad A2 c2 B W hB.symm (by decide) (by decide) (by omega) hyx hp (by rw [hBl]; exact h)
    rwa [hBl] at this
  have HMID : Hid (∀ k, 12 + m ≤ k → k < L - 1 → B.getD k 0 = 0) := Lib.hid fun k h1 h2 => by rw [← hB]; exact flatB_mid _ _ _ _ _ (by omega) (by omega)
  have HLST : Hid (pad ≠ 0 → B.getD (L - 1) 0 = pad) := Lib.hid fun h => by have := flatB_last mk 96 ys pad h; rw [hyl, hL, hB] at this; exact this
  have hsum : (12 : Int) + m + pad = L := by omega
  have hL12 : 12 + m ≤ L := by omega
  have hLp : L = 12 + m + pad := hL.symm
  have HNUM := Lib.hid (And.intro hL12 (And.intro hLp hm12))
  clear hb hA hnc hx hlx hyx hyb hB hys hL hm12 hLp
  go_enter Try.func4, Try.ntmps4
  go_upto_region 3 with (go_at_call 5; (with_reducible refine HAW.out.mono ?_); rintro e w1 ⟨rfl, hb1⟩)
  have H1 := Lib.hid hb1
  clear hb1
  go_upto_region 5 with fail
  have hpu : (pad : Int) % 256 = pad := by omega
  have hmk := Own8.made w1 (Nat.le_refl _)
  have hal : Below w1.heap.size w1 (w1.alloc (.cells #[] 5)) := (Below.refl _ _).alloc (Nat.le_refl _) _
  have hbsA := (HY.out.2.2.1.below (H1.out.trans (hal.mono H1.out.size)))
  have HA := Lib.hid (And.intro hmk (And.intro hal hbsA))
  clear hmk hal hbsA
  go_upto_region 6 with (first
    | (at_builtin; go_must (refine wpList_append8 rfl (.tmp 21) (.tmp 22) rfl rfl HA.out.1 rfl HA.out.2.2 HY.out.2.2.2.1 (by simp; omega) HA.out.2.1.size ?_); intro v2 w2 k1 k2 k3; rw [List.nil_append] at k1; obtain ⟨A2, c2, rfl, f1, f2, f3, f4⟩ := k1.form; rw [hyl] at f4)
    | (go_at_call 11; (with_reducible refine (HBU.out _ _ _ f4 f3).mono ?_); rintro e w3 ⟨v3, rfl, ho3, hb3⟩; obtain ⟨A3, c3, rfl, g1, g2, g3, g4⟩ := ho3.form; rw [hBl] at g1 g4))
  have hb2 : Below w1.heap.size w1 w2 := HA.out.2.1.grown k2 HA.out.2.1.size (fun k hk => (HA.out.1.lt hk).1)
  have hb13 : Below w1.heap.size w1 w3 := hb2.trans (hb3.mono hb2.size)
  have H3 := Lib.hid (And.intro hb13 (And.intro g4 (And.intro g1 (And.intro g2 g3))))
  clear hb2 hb13 hb3 k1 k2 k3 f1 f2 f3 f4 g1 g2 g3 g4 ho3
  have hL2000 : L ≤ 2000 := by have := HNUM.out; omega
  have hL1 : IntKind.i64.wrap ((L : Int) - 1) = ((L - 1 : Nat) : Int) := by rw [IntKind.wrap_i64]; have := HNUM.out; omega
  have hm12 := HNUM.out.2.2
  go_wp2
  go_loop [9] (fun s9 => ∃ k : Nat, 12 + m ≤ k ∧ k ≤ L ∧ s9 = .int .i64 k) (fun s9 => L - (intOf s9).toNat)
  case atStart => exact ⟨12 + m, Nat.le_refl _, hL12, by go_num⟩
  case round =>
    obtain ⟨k, hk1, hk2, rfl⟩ := hrel
    by_cases hlt : k < L - 1
    · obtain ⟨a3, rfl, -, hc⟩ := H3.out.2.1.2 (by omega)
      have hcell := hc k (by omega)
      rw [HMID.out k hk1 hlt] at hcell
      have hkL : k < L := by omega
      clear hc
      go_wp2
      go_round
      case rel => exact ⟨k + 1, by omega, by omega, by go_num⟩
      case measure => simp [intOf]; omega
    · clear hk1 hk2
      have HP3 := Lib.hid (HPA.out A3 c3 w3 ⟨A3, c3, by rw [hBl], by rw [hBl]; exact H3.out.2.2.1, H3.out.2.2.2.1, H3.out.2.2.2.2, by rw [hBl]; exact H3.out.2.1⟩)
      have hz : ∀ W, (zeroValue 37).run Try.prog W = .ok (.agg (pk false 0 0 0 0 (.slice none 0 0) (.slice none 0 0) (.slice none 0 0) 0)) W := fun W => by kernel_rfl
      have hZ : (pk false 0 0 0 0 (.slice none 0 0) (.slice none 0 0) (.slice none 0 0) 0).size = 9 := rfl
      generalize pk false 0 0 0 0 (.slice none 0 0) (.slice none 0 0) (.slice none 0 0) 0 = Z at hz hZ
      go_upto_region 14 with (first
        | (go_at_call 12; (with_reducible refine HP3.out.mono ?_); rintro e w4 ⟨ty4, sq4, ti4, so4, P4, rfl, hv4, hb4⟩; obtain ⟨A4, c4, rfl, j1, j2, j3, j4⟩ := hv4)
        | (refine wpList_store_whole (cs := pk mk ty4 sq4 ti4 so4 (.slice none 0 0) (.slice none 0 0) (.slice A4 m c4) pad) rfl 37 (.tmp 10) (.tmp 61) rfl rfl rfl (Whole.new w4 37 Z) Try.sizePk rfl hZ (pk_one rfl rfl rfl) ?_))
      try simp only [Act.put]
      have hg5 := (Whole.new w4 37 Z).row (pk mk ty4 sq4 ti4 so4 (.slice none 0 0) (.slice none 0 0) (.slice A4 m c4) pad)
      have hb5 := below_row ((Below.refl w4.heap.size w4).alloc (Nat.le_refl _) (.cells Z 37)) (Nat.le_refl _) (pk mk ty4 sq4 ti4 so4 (.slice none 0 0) (.slice none 0 0) (.slice A4 m c4) pad)
      rw [hyl] at j4
      have hj5 := j4.below hb5
      have hw35 : Below w3.heap.size w3 ((w4.alloc (.cells Z 37)).setRow w4.heap.size (pk mk ty4 sq4 ti4 so4 (.slice none 0 0) (.slice none 0 0) (.slice A4 m c4) pad)) := hb4.trans (hb5.mono hb4.size)
      generalize (w4.alloc (.cells Z 37)).setRow w4.heap.size (pk mk ty4 sq4 ti4 so4 (.slice none 0 0) (.slice none 0 0) (.slice A4 m c4) pad) = w5 at *
      generalize w4.heap.size = N4 at *
      have hw15 : Below w1.heap.size w1 w5 := H3.out.1.trans (hw35.mono H3.out.1.size)
      have hw05 : Below w.heap.size w w5 := H1.out.trans (hw15.mono H1.out.size)
      obtain ⟨c0, c1, c2', c3', c4', c5, c6, c7, c8⟩ := pk_cells hg5
      have q1 := conv_text (c := c4) hj5 j3
      have q2 := conv_text (c := c) (HY.out.2.2.1.below hw05) HY.out.2.2.2.1
      have HB5 := Lib.hid hw05
      have HBS5 := Lib.hid (H3.out.2.1.below hw35)
      clear hg5 hb5 j1 j2 j3 j4 hj5 hw35 hw15 hw05 c1 c2' c3' c4' c5 c6 hb4 hz
      by_cases hp0 : pad = 0
      · have hp0' : (pad : Int) = 0 := by omega
        have hp1 : ((pad : Int) == 0) = true := by rw [hp0']; rfl
        clear hp0 hp0'
        go_wp2
        go_ret
        exact ⟨rfl, HB5.out⟩
      · have hp1 : ((pad : Int) == 0) = false := by simp; omega
        have hlL : L - 1 < L := by have := HNUM.out; omega
        obtain ⟨a3, rfl, -, hc⟩ := HBS5.out.2 (by omega)
        have hcell := hc (L - 1) hlL
        rw [HLST.out hp0] at hcell
        clear hc hp0
        go_wp2
        go_ret
        exact ⟨rfl, HB5.out⟩

/-- The walk, whatever comes in. -/
theorem pads_walk (v : Value) (xs : List Int) (x : Int) (mk : Bool) (W : World) (hv : V8 W W.heap.size v xs) (hx : ∀ i, 0 ≤ xs.getD i 0 ∧ xs.getD i 0 < 256) (hl : xs.length ≤ 140737488351232) (hw : (Lit.int .u8 x).wf = true) :
    Calls Try.prog 4 #[v, .int .u8 x, .bool mk] W fun e w' => e = .returned (.bool true) ∧ Below W.heap.size W w' := by
  obtain ⟨A, c, rfl, h1, h2, h3, h4⟩ := hv
  simp [Lit.wf, IntKind.min, IntKind.max, IntKind.signed, IntKind.bits] at hw
  obtain ⟨p, rfl⟩ := Int.eq_ofNat_of_zero_le hw.1
  by_cases hc : 1200 < xs.length
  · exact pads_cut A xs.length c xs _ p 1200 mk W h4 h3 h1 h2 (by omega) hx (by omega) hc rfl rfl
  · exact pads_all A xs.length c xs _ p xs.length mk W h4 h3 h1 h2 (by omega) hx (by omega) hc rfl rfl
end Go.Proofs.Ytapbodiakkdfmaa
