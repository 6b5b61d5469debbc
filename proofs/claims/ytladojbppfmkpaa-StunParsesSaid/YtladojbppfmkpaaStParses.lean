/- The law StunParses. -/
import Derived.Test.YtladojbppfmkpaaStRParse
namespace Go.Proofs.Ytladojbppfmkpaa
open Go.RowKit
set_option linter.unusedVariables false

/-- Two that parse the same bytes answer the same. -/
theorem parsed_both {w1 w2 : World} {xs : List Int} {M1 M2 : Array Value} {x1 x2 : Int} (h1 : ParsedV w1 xs M1 x1) (h2 : ParsedV w2 xs M2 x2) : x1 = x2 ∧ ∃ m A1 c1 A2 c2, MsgV w1 w1.heap.size M1 m A1 c1 ∧ MsgV w2 w2.heap.size M2 m A2 c2 ∧ m.at_.length ≤ 16 := by
  have hz : ∀ w : World, MsgV w w.heap.size zM ⟨0, 0, [0, 0, 0, 0, 0, 0, 0, 0, 0, 0, 0, 0], []⟩ none 0 := fun w => ⟨rfl, rfl, Nat.le_refl _, Nat.zero_le _, fun _ => rfl, Ats.nil _ _ _⟩
  rcases h1 with ⟨m, A, c, hi, rfl, hm⟩ | ⟨hn, rfl, rfl⟩
  · rcases h2 with ⟨m', A', c', hi', rfl, hm'⟩ | ⟨hn', _⟩
    · have e := Is.same hi hi'
      subst e
      exact ⟨rfl, m, A, c, A', c', hm, hm', hi.1.most⟩
    · exact absurd hi (hn' m)
  · rcases h2 with ⟨m', A', c', hi', _⟩ | ⟨_, rfl, rfl⟩
    · exact absurd hi' (hn m')
    · exact ⟨rfl, _, none, 0, none, 0, hz w1, hz w2, Nat.zero_le _⟩

/-- Both are parsed, and lie in blocks g3 and g5. -/
structure Two5 (w : World) (N g3 g5 : Nat) (M3 M5 : Array Value) (W : World) : Prop where
  b3 : Whole W g3 25 M3
  b5 : Whole W g5 34 M5
  below : Below N w W
  n3 : N ≤ g3
  n5 : N ≤ g5
theorem Two5.under {w W W' : World} {N g3 g5 : Nat} {M3 M5 : Array Value} (h : Two5 w N g3 g5 M3 M5 W) (hb : Below W.heap.size W W') : Two5 w N g3 g5 M3 M5 W' :=
  ⟨h.b3.under hb, h.b5.under hb, h.below.trans (hb.mono (Nat.le_trans h.n3 (Nat.le_of_lt h.b3.lt))), h.n3, h.n5⟩

set_option maxHeartbeats 3200000 in
set_option maxRecDepth 100000 in
theorem parses_walk (v : Value) (xs : List Int) (w : World) (hv : V8 w w.heap.size v xs) (hx : In256 xs) (hl : xs.length ≤ 140737488351232) :
    Calls Try.prog 4 #[v] w fun e w' => e = .returned (.bool true) ∧ Below w.heap.size w w' := by
  have HV := Lib.hid (And.intro hv (And.intro hx hl))
  have HAW : Hid (∀ W, Calls Try.prog 9 #[] W fun e w' => e = .returned (.bool true) ∧ Below W.heap.size W w') := Lib.hid awake_yes
  have HZS : Hid (zM.size = 15) := Lib.hid zM_size
  have hz := Try.zeroMsg
  have hz2 := Try.zeroRMsg
  obtain ⟨Z, hZ⟩ : ∃ Z, zM = Z := ⟨_, rfl⟩
  rw [hZ] at HZS
  simp only [hZ] at hz hz2
  clear hZ hv hx hl
  obtain ⟨N, hN⟩ : ∃ N, w.heap.size = N := ⟨_, rfl⟩
  have HN := Lib.hid hN
  rw [hN] at HV
  clear hN
  go_enter Try.func4, Try.ntmps4
  go_upto_region 3 with (go_at_call 9; (with_reducible refine (HAW.out _).mono ?_); rintro e w1 ⟨rfl, hb1⟩)
  have hvb : ∀ W, Below N w W → V8 W W.heap.size v xs := fun W hb => (HV.out.1.below hb).more (by have := hb.size; rw [HN.out] at this; exact this)
  have HVB := Lib.hid hvb
  have hbl1 : Below N w w1 := by rw [← HN.out]; exact hb1
  have HPR := Lib.hid (rparse_any v xs w1 (hvb w1 hbl1) HV.out.2.1 (by have := HV.out.2.2; omega))
  have HB1 := Lib.hid hbl1
  clear hb1 hbl1 hvb
  go_upto_region 4 with (first
    | (go_at_call 13; (with_reducible refine HPR.out.mono ?_); rintro e w3 ⟨M3, x3, rfl, hp3, hb3⟩; have hs3 := parsed_size hp3)
    | (refine wpList_store_whole rfl 25 (.tmp 3) (.tmp 12) rfl rfl rfl (Whole.new w3 25 Z) Try.sizeRMsg hs3.1 HZS.out (hs3.2) ?_))
  have hN1 : N ≤ w1.heap.size := by have := HB1.out.size; rw [HN.out] at this; exact this
  have hN3 : N ≤ w3.heap.size := Nat.le_trans hN1 hb3.size
  have hbw : Below w3.heap.size w3 ((w3.alloc (.cells Z 25)).setRow w3.heap.size M3) := below_row ((Below.refl _ w3).alloc (Nat.le_refl _) _) (Nat.le_refl _) _
  have hg4 : Whole ((w3.alloc (.cells Z 25)).setRow w3.heap.size M3) w3.heap.size 25 M3 := (Whole.new w3 25 Z).row _
  have hbl4 : Below N w ((w3.alloc (.cells Z 25)).setRow w3.heap.size M3) := (HB1.out.trans (hb3.mono hN1)).trans (hbw.mono hN3)
  have HP3 := Lib.hid (And.intro hp3 hbw)
  generalize hw4 : (w3.alloc (.cells Z 25)).setRow w3.heap.size M3 = w4 at *
  obtain ⟨g3, hg3⟩ : ∃ x, w3.heap.size = x := ⟨_, rfl⟩
  have HG3 := Lib.hid hg3
  rw [hg3] at hg4 hN3 ⊢
  have HPS := Lib.hid (parse_any v xs w4 (HVB.out w4 hbl4) HV.out.2.1 (by have := HV.out.2.2; omega))
  have H4 := Lib.hid (And.intro hg4 (And.intro hbl4 (And.intro hs3 hN3)))
  clear hg4 hbl4 hbw hp3 hb3 hw4 hg3 hs3 hN1 hN3 HPR
  go_upto_region 5 with (first
    | (go_at_call 14; (with_reducible refine HPS.out.mono ?_); rintro e w5 ⟨M5, x5, rfl, hp5, hb5⟩; have hs5 := parsed_size hp5)
    | (refine wpList_store_whole rfl 34 (.tmp 5) (.tmp 17) rfl rfl rfl (Whole.new w5 34 Z) Try.sizeMsg hs5.1 HZS.out (hs5.2) ?_))
  obtain ⟨hxe, m, A3, c3, A5, c5, hm3, hm5, hmost⟩ := parsed_both HP3.out.1 hp5
  subst hxe
  have hN5 : N ≤ w5.heap.size := by have := hb5.size; have := H4.out.1.lt; have := H4.out.2.2.2; omega
  have hbw : Below w5.heap.size w5 ((w5.alloc (.cells Z 34)).setRow w5.heap.size M5) := below_row ((Below.refl _ w5).alloc (Nat.le_refl _) _) (Nat.le_refl _) _
  have hg6 : Whole ((w5.alloc (.cells Z 34)).setRow w5.heap.size M5) w5.heap.size 34 M5 := (Whole.new w5 34 Z).row _
  have htw : Two5 w N g3 w5.heap.size M3 M5 ((w5.alloc (.cells Z 34)).setRow w5.heap.size M5) := ⟨(H4.out.1.under hb5).under hbw, hg6, (H4.out.2.1.trans (hb5.mono (by have := H4.out.1.lt; have := H4.out.2.2.2; omega))).trans (hbw.mono hN5), H4.out.2.2.2, hN5⟩
  have hm6 := (hm5.below hbw).more (show w5.heap.size ≤ ((w5.alloc (.cells Z 34)).setRow w5.heap.size M5).heap.size from hbw.size)
  have hm36 : MsgV ((w5.alloc (.cells Z 34)).setRow w5.heap.size M5) ((w5.alloc (.cells Z 34)).setRow w5.heap.size M5).heap.size M3 m A3 c3 := by
    have h1 := hm3
    rw [HG3.out] at h1
    have hb34 : Below g3 w3 w4 := by have := HP3.out.2; rw [HG3.out] at this; exact this
    have h2 := ((h1.below hb34).below (hb5.mono (Nat.le_of_lt H4.out.1.lt))).below (hbw.mono (by have := hb5.size; have := H4.out.1.lt; omega))
    exact h2.more (by have := hb5.size; have := H4.out.1.lt; have := hbw.size; omega)
  generalize (w5.alloc (.cells Z 34)).setRow w5.heap.size M5 = w6 at *
  generalize w5.heap.size = g6 at *
  have HOU := Lib.hid (ours_any M5 m A5 c5 w6.drew ((hm6.below (Below.refl _ w6).drew)) (by omega))
  have r5 : (Try.prog.info? 34).map (·.size) = some M5.toList.length := by rw [Try.sizeMsg, Array.length_toList, hs5.1]
  have r0 : (Try.prog.info? 25).map (·.size) = some M3.toList.length := by rw [Try.sizeRMsg, Array.length_toList, H4.out.2.2.1.1]
  have HTW := Lib.hid htw
  have HKEEP : Hid (∀ W, Below w6.heap.size w6 W → W.rangeAt g6 0 M5.toList ∧ W.rangeAt g3 0 M3.toList) := Lib.hid fun W hb => ⟨(HTW.out.under hb).b5.rangeA, (HTW.out.under hb).b3.rangeA⟩
  have hb0 : Below w6.heap.size w6 w6.drew := (Below.refl _ w6).drew
  have HSA : Hid (∀ W M9 A9 c9, Below w6.heap.size w6 W → MsgV W W.heap.size M9 m A9 c9 → Calls Try.prog 15 #[.agg M9, .agg M3] W fun e w' => e = .returned (.bool true) ∧ Below W.heap.size W w') := Lib.hid fun W M9 A9 c9 hb h9 => same_yes M9 M3 m A9 A3 c9 c3 W h9 ((hm36.below hb).more hb.size)
  clear hg6 htw hm6 hm36 hm5 hm3 hp5 hbw hb5 hs5 HP3 H4 HPS
  obtain ⟨L5, hL5⟩ : ∃ l, M5.toList = l := ⟨_, rfl⟩
  obtain ⟨L0, hL0⟩ : ∃ l, M3.toList = l := ⟨_, rfl⟩
  have e5 : L5.toArray = M5 := by rw [← hL5]
  have e0 : L0.toArray = M3 := by rw [← hL0]
  rw [hL5] at r5
  rw [hL0] at r0
  rw [hL5, hL0] at HKEEP
  rw [← e5] at HOU
  rw [← e0] at HSA
  have hu5 := Try.underlying34
  have hu0 := Try.underlying25
  clear hL5 hL0 e5 e0
  refine wp_region_held_drew (S := fun W => W.rangeAt g6 0 L5 ∧ W.rangeAt g3 0 L0) (by kernel_rfl) (HKEEP.out _ hb0) (fun hHeld => ?_)
  refine wpAnyH_take (i := 0) (v := .int .i64 x3) rfl (by kernel_rfl) (by kernel_rfl) (by kernel_rfl) (fun _ _ _ h => h) (Or.inl ⟨by rfl, fun w h => by go_simp⟩) (by assumption) ?_
  simp only [Act.put, List.setIfInBounds_toArray]
  refine wpAnyH_take (i := 1) (v := .int .i64 x3) rfl (by kernel_rfl) (by kernel_rfl) (by kernel_rfl) (fun _ _ _ h => h) (Or.inl ⟨by rfl, fun w h => by go_simp⟩) (by assumption) ?_
  simp only [Act.put]
  refine wpAnyH_take (i := 2) (v := .bool true) rfl (by kernel_rfl) (by kernel_rfl) (by kernel_rfl) (fun _ _ _ h => h) (Or.inl ⟨by rfl, fun w h => by go_simp⟩) (by assumption) ?_
  simp only [Act.put]
  refine wpAnyH_take (i := 3) (v := .bool true) rfl (by kernel_rfl) (by kernel_rfl) (by kernel_rfl) (fun _ _ _ h => h) (Or.inl ⟨by rfl, fun w h => by go_simp⟩) (by assumption) ?_
  simp only [Act.put]
  refine wpAnyH_take (i := 4) (v := .agg L5.toArray) rfl (by kernel_rfl) (by kernel_rfl) (by kernel_rfl) (fun _ _ _ h => h) (yieldsIf_load_mid (by rfl) 34 (.tmp 5) rfl g6 0 rfl L5 _ (fun w h => h.1) hu5 rfl r5) (by assumption) ?_
  simp only [Act.put]
  refine wpAnyH_take (i := 6) (v := .agg L0.toArray) rfl (by kernel_rfl) (by kernel_rfl) (by kernel_rfl) (fun _ _ _ h => h) (yieldsIf_load_mid (by rfl) 25 (.tmp 3) rfl g3 0 rfl L0 _ (fun w h => h.2) hu0 rfl r0) (by assumption) ?_
  simp only [Act.put]
  refine wpAnyH_ready (rs := [5]) (by kernel_rfl) (by simp) ?_
  refine AllReadyH.cons (i := 5) rfl (fun K hK => ?_) AllReadyH.nil
  go_simp
  refine HOU.out.mono ?_
  rintro e w7 ⟨M7, A7, c7, rfl, hc7⟩
  have hb7 : Below w6.heap.size w6 w7 := hb0.trans hc7.below
  refine hK.out _ _ (HKEEP.out _ hb7) (fun hHeld => ?_)
  clear hK K
  refine wpAnyH_ready (rs := [7]) (by kernel_rfl) (by simp) ?_
  refine AllReadyH.cons (i := 7) rfl (fun K hK => ?_) AllReadyH.nil
  go_simp
  refine (HSA.out _ _ _ _ hb7 hc7.msg).mono ?_
  rintro e w9 ⟨rfl, hb9⟩
  have hb10 : Below w6.heap.size w6 w9 := hb7.trans (hb9.mono hb7.size)
  refine hK.out _ _ (HKEEP.out _ hb10) (fun hHeld => ?_)
  clear hK K
  refine wpAnyH_take (i := 8) (v := .bool true) rfl (by kernel_rfl) (by kernel_rfl) (by kernel_rfl) (fun _ _ _ h => h) (Or.inl ⟨by rfl, fun w h => by go_simp⟩) (by assumption) ?_
  simp only [Act.put]
  refine wpAnyH_take (i := 9) (v := .bool true) rfl (by kernel_rfl) (by kernel_rfl) (by kernel_rfl) (fun _ _ _ h => h) (Or.inl ⟨by rfl, fun w h => by go_simp⟩) (by assumption) ?_
  simp only [Act.put]
  refine wpAnyH_done (by kernel_rfl) ?_ _
  have HKZ := Lib.hid (HTW.out.under hb10)
  clear hHeld hb7 hb10 hc7 hb9 hb0 r5 r0 hu5 hu0
  simp only [List.getElem_toArray, List.getElem_cons_succ, List.getElem_cons_zero, List.setIfInBounds_toArray, List.set_cons_succ, List.set_cons_zero]
  go_wp2
  go_ret
  exact ⟨rfl, by rw [HN.out]; exact HKZ.out.below⟩
end Go.Proofs.Ytladojbppfmkpaa
