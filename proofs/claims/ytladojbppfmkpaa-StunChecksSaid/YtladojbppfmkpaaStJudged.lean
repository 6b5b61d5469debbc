/- judged: both Checks answer the same. -/
import Derived.Test.YtladojbppfmkpaaStCheck
import Derived.Test.YtladojbppfmkpaaStRCheck
namespace Go.Proofs.Ytladojbppfmkpaa
open Go.RowKit
set_option linter.unusedVariables false
set_option linter.unusedSimpArgs false
/-- Two that check the same bytes answer the same. -/
theorem checked_both {w1 w2 : World} {xs ks : List Int} {M1 M2 : Array Value} {x1 x2 : Int} (h1 : CheckV w1 xs ks M1 x1) (h2 : CheckV w2 xs ks M2 x2) : x1 = x2 ∧ ∃ m A1 c1 A2 c2, MsgV w1 w1.heap.size M1 m A1 c1 ∧ MsgV w2 w2.heap.size M2 m A2 c2 ∧ m.at_.length ≤ 16 := by
  have hz : ∀ w : World, MsgV w w.heap.size zM ⟨0, 0, [0, 0, 0, 0, 0, 0, 0, 0, 0, 0, 0, 0], []⟩ none 0 := fun w => ⟨rfl, rfl, Nat.le_refl _, Nat.zero_le _, fun _ => rfl, Ats.nil _ _ _⟩
  rcases h1 with ⟨m, A, c, hi, hs, rfl, hm⟩ | ⟨hn, rfl, rfl⟩ | ⟨⟨m, hi, hs⟩, rfl, rfl⟩
  · rcases h2 with ⟨m', A', c', hi', hs', rfl, hm'⟩ | ⟨hn', _⟩ | ⟨⟨m', hi', hs'⟩, _⟩
    · have e := Is.same hi hi'
      subst e
      exact ⟨rfl, m, A, c, A', c', hm, hm', hi.1.most⟩
    · exact absurd hi (hn' m)
    · have e := Is.same hi hi'
      subst e
      exact absurd hs hs'
  · rcases h2 with ⟨m', A', c', hi', _⟩ | ⟨_, rfl, rfl⟩ | ⟨⟨m', hi', hs'⟩, _⟩
    · exact absurd hi' (hn m')
    · exact ⟨rfl, _, none, 0, none, 0, hz w1, hz w2, Nat.zero_le _⟩
    · exact absurd hi' (hn m')
  · rcases h2 with ⟨m', A', c', hi', hs', _⟩ | ⟨hn', _⟩ | ⟨_, rfl, rfl⟩
    · have e := Is.same hi hi'
      subst e
      exact absurd hs' hs
    · exact absurd hi (hn' m)
    · exact ⟨rfl, _, none, 0, none, 0, hz w1, hz w2, Nat.zero_le _⟩
theorem checked_size {w' : World} {xs ks : List Int} {M : Array Value} {x : Int} (h : CheckV w' xs ks M x) : M.size = 15 ∧ M.all (·.oneCell') = true := by
  rcases h with ⟨m, A, c, _, _, _, hm⟩ | ⟨_, _, rfl⟩ | ⟨_, _, rfl⟩
  · exact ⟨hm.size, hm.one⟩
  · exact ⟨rfl, mv_one rfl⟩
  · exact ⟨rfl, mv_one rfl⟩
/-- Both have answered, and lie in blocks g3 and g5. -/
structure TwoC (w : World) (N g3 g5 : Nat) (M3 M5 : Array Value) (W : World) : Prop where
  b3 : Whole W g3 25 M3
  b5 : Whole W g5 34 M5
  below : Below N w W
  n3 : N ≤ g3
  n5 : N ≤ g5
theorem TwoC.under {w W W' : World} {N g3 g5 : Nat} {M3 M5 : Array Value} (h : TwoC w N g3 g5 M3 M5 W) (hb : Below W.heap.size W W') : TwoC w N g3 g5 M3 M5 W' :=
  ⟨h.b3.under hb, h.b5.under hb, h.below.trans (hb.mono (Nat.le_trans h.n3 (Nat.le_of_lt h.b3.lt))), h.n3, h.n5⟩

set_option maxHeartbeats 3200000 in
set_option maxRecDepth 100000 in
theorem judged_any (vb vk : Value) (xs ks : List Int) (w : World) (hb : V8 w w.heap.size vb xs) (hx : In256 xs) (hl : xs.length ≤ 140737488351232) (hk : V8 w w.heap.size vk ks) (hkx : In256 ks) (hkl : ks.length ≤ 140737488351232) :
    Calls Try.prog 20 #[vb, vk] w fun e w' => e = .returned (.bool true) ∧ Below w.heap.size w w' := by
  have HV := Lib.hid (And.intro hb (And.intro hx (And.intro hl (And.intro hk (And.intro hkx hkl)))))
  have HRC := Lib.hid (rcheck_any vb vk xs ks w hb hx (by omega) hk hkx hkl)
  obtain ⟨Ab, cb, rfl, b1, b2, b3, b4⟩ := hb
  obtain ⟨Ak, ck, rfl, k1, k2, k3, k4⟩ := hk
  clear b1 b2 b3 b4 k1 k2 k3 k4 hx hl hkx hkl
  obtain ⟨nb, hnb⟩ : ∃ x, xs.length = x := ⟨_, rfl⟩
  obtain ⟨nk, hnk⟩ : ∃ x, ks.length = x := ⟨_, rfl⟩
  rw [hnb, hnk] at HV HRC
  rw [hnb, hnk]
  have HNB := Lib.hid (And.intro hnb hnk)
  clear hnb hnk
  have HZS : Hid (zM.size = 15) := Lib.hid zM_size
  have hz := Try.zeroMsg
  have hz2 := Try.zeroRMsg
  obtain ⟨Z, hZ⟩ : ∃ Z, zM = Z := ⟨_, rfl⟩
  rw [hZ] at HZS
  simp only [hZ] at hz hz2
  clear hZ
  obtain ⟨N, hN⟩ : ∃ N, w.heap.size = N := ⟨_, rfl⟩
  have HN := Lib.hid hN
  rw [hN] at HV
  clear hN
  go_enter Try.func20, Try.ntmps20
  go_upto_region 2 with (first
    | (go_at_call 46; (with_reducible refine HRC.out.mono ?_); rintro e w3 ⟨M3, x5, rfl, hp3, hb3⟩; have hs3 := checked_size hp3)
    | (refine wpList_store_whole rfl 25 (.tmp 5) (.tmp 13) rfl rfl rfl (Whole.new w3 25 Z) Try.sizeRMsg hs3.1 HZS.out (hs3.2) ?_))
  have hN3 : N ≤ w3.heap.size := by have := hb3.size; rw [HN.out] at this; exact this
  have hbw : Below w3.heap.size w3 ((w3.alloc (.cells Z 25)).setRow w3.heap.size M3) := below_row ((Below.refl _ w3).alloc (Nat.le_refl _) _) (Nat.le_refl _) _
  have hg4 : Whole ((w3.alloc (.cells Z 25)).setRow w3.heap.size M3) w3.heap.size 25 M3 := (Whole.new w3 25 Z).row _
  have hbl4 : Below N w ((w3.alloc (.cells Z 25)).setRow w3.heap.size M3) := by rw [HN.out] at hb3; exact hb3.trans (hbw.mono hN3)
  have HP3 := Lib.hid (And.intro hp3 hbw)
  generalize hw4 : (w3.alloc (.cells Z 25)).setRow w3.heap.size M3 = w4 at *
  obtain ⟨g3, hg3⟩ : ∃ x, w3.heap.size = x := ⟨_, rfl⟩
  have HG3 := Lib.hid hg3
  rw [hg3] at hg4 hN3 ⊢
  have H4 := Lib.hid (And.intro hg4 (And.intro hbl4 (And.intro hs3 hN3)))
  have hN4 : N ≤ w4.heap.size := by have := hg4.lt; omega
  clear hg4 hbl4 hbw hp3 hb3 hw4 hg3 hs3 HRC
  have hle : N ≤ (w4.alloc (.cells #[] 5)).heap.size := by simp; omega
  have hbsA : Bs (w4.alloc (.cells #[] 5)) N Ab nb xs := by
    obtain ⟨A', c', e, -, -, -, hbs⟩ := HV.out.1
    cases e
    have := hbs.below (H4.out.2.1.alloc hN4 (.cells #[] 5))
    rwa [HNB.out.1] at this
  have hnilA : Ab = none → cb = 0 := by obtain ⟨A', c', e, -, -, hn, -⟩ := HV.out.1; cases e; exact hn
  have hnilK : Ak = none → ck = 0 := by obtain ⟨A', c', e, -, -, hn, -⟩ := HV.out.2.2.2.1; cases e; exact hn
  have HA := Lib.hid (And.intro hbsA (And.intro hnilA (And.intro hnilK hN4)))
  have HOA := Lib.hid (Own8.made w4 (Nat.le_refl _))
  clear hbsA hnilA hnilK hN4 hN3 hle
  go_wp2_with (at_builtin; go_must (refine wpList_append8 rfl (.tmp 16) (.tmp 17) rfl rfl HOA.out rfl HA.out.1 HA.out.2.1 (by have := HV.out.2.2.1; have := HNB.out.1; simp; omega) (by simp) ?_))
  intro v18 w18 h18 hg18 hh18
  have hb18 : Below w4.heap.size w4 w18 := ((Below.refl _ w4).alloc (Nat.le_refl _) (.cells #[] 5)).grown hg18 (by simp) (fun k hk => by cases hk; exact Nat.le_refl _)
  obtain ⟨A18, c18, rfl, -⟩ := id h18.form
  rw [HNB.out.1] at h18 ⊢
  have hN18 : N ≤ w18.heap.size := Nat.le_trans HA.out.2.2.2 hb18.size
  have hbsK : Bs (w18.alloc (.cells #[] 5)) N Ak nk ks := by
    obtain ⟨A', c', e, -, -, -, hbs⟩ := HV.out.2.2.2.1
    cases e
    have := hbs.below ((H4.out.2.1.trans (hb18.mono HA.out.2.2.2)).alloc hN18 (.cells #[] 5))
    rwa [HNB.out.2] at this
  have HK18 := Lib.hid (And.intro hbsK (And.intro h18 hb18))
  have HOK := Lib.hid (Own8.made w18 (Nat.le_refl _))
  clear hbsK h18 hb18 hg18 hh18 hN18
  go_wp2_with (at_builtin; go_must (refine wpList_append8 rfl (.tmp 19) (.tmp 20) rfl rfl HOK.out rfl HK18.out.1 HA.out.2.2.1 (by have := HV.out.2.2.2.2.2; have := HNB.out.2; simp; omega) (by simp) ?_))
  intro v21 w21 h21 hg21 hh21
  have hb21 : Below w18.heap.size w18 w21 := ((Below.refl _ w18).alloc (Nat.le_refl _) (.cells #[] 5)).grown hg21 (by simp) (fun k hk => by cases hk; exact Nat.le_refl _)
  have h18' := HK18.out.2.1.under hb21
  have hb4' := HK18.out.2.2.trans (hb21.mono HK18.out.2.2.size)
  have HCK := Lib.hid (check_any _ v21 xs ks w21 h18'.v8 HV.out.2.1 (by rw [HNB.out.1]; have := HV.out.2.2.1; omega) h21.v8 HV.out.2.2.2.2.1 (by rw [HNB.out.2]; have := HV.out.2.2.2.2.2; omega))
  have HB4 := Lib.hid hb4'
  clear h18' hb4' h21 hg21 hh21 hb21 HOA HOK
  go_upto_region 3 with (first
    | (go_at_call 19; (with_reducible refine HCK.out.mono ?_); rintro e w5 ⟨M5, y5, rfl, hp5, hb5⟩; have hs5 := checked_size hp5)
    | (refine wpList_store_whole rfl 34 (.tmp 7) (.tmp 23) rfl rfl rfl (Whole.new w5 34 Z) Try.sizeMsg hs5.1 HZS.out (hs5.2) ?_))
  obtain ⟨hxe, m, A3, c3, A5, c5, hm3, hm5, hmost⟩ := checked_both HP3.out.1 hp5
  subst hxe
  have hb45 : Below w4.heap.size w4 w5 := HB4.out.trans (hb5.mono HB4.out.size)
  have hN5 : N ≤ w5.heap.size := by have := hb45.size; have := H4.out.1.lt; have := H4.out.2.2.2; omega
  have hbw : Below w5.heap.size w5 ((w5.alloc (.cells Z 34)).setRow w5.heap.size M5) := below_row ((Below.refl _ w5).alloc (Nat.le_refl _) _) (Nat.le_refl _) _
  have hg6 : Whole ((w5.alloc (.cells Z 34)).setRow w5.heap.size M5) w5.heap.size 34 M5 := (Whole.new w5 34 Z).row _
  have htw : TwoC w N g3 w5.heap.size M3 M5 ((w5.alloc (.cells Z 34)).setRow w5.heap.size M5) := ⟨(H4.out.1.under hb45).under hbw, hg6, (H4.out.2.1.trans (hb45.mono (by have := H4.out.1.lt; have := H4.out.2.2.2; omega))).trans (hbw.mono hN5), H4.out.2.2.2, hN5⟩
  have hm6 := (hm5.below hbw).more (show w5.heap.size ≤ ((w5.alloc (.cells Z 34)).setRow w5.heap.size M5).heap.size from hbw.size)
  have hm36 : MsgV ((w5.alloc (.cells Z 34)).setRow w5.heap.size M5) ((w5.alloc (.cells Z 34)).setRow w5.heap.size M5).heap.size M3 m A3 c3 := by
    have h1 := hm3
    rw [HG3.out] at h1
    have hb34 : Below g3 w3 w4 := by have := HP3.out.2; rw [HG3.out] at this; exact this
    have h2 := ((h1.below hb34).below (hb45.mono (Nat.le_of_lt H4.out.1.lt))).below (hbw.mono (by have := hb45.size; have := H4.out.1.lt; omega))
    exact h2.more (by have := hb45.size; have := H4.out.1.lt; have := hbw.size; omega)
  generalize (w5.alloc (.cells Z 34)).setRow w5.heap.size M5 = w6 at *
  generalize w5.heap.size = g6 at *
  clear hb45 HCK HB4
  have HOU := Lib.hid (ours_any M5 m A5 c5 w6.drew ((hm6.below (Below.refl _ w6).drew)) (by omega))
  have r5 : (Try.prog.info? 34).map (·.size) = some M5.toList.length := by rw [Try.sizeMsg, Array.length_toList, hs5.1]
  have r0 : (Try.prog.info? 25).map (·.size) = some M3.toList.length := by rw [Try.sizeRMsg, Array.length_toList, H4.out.2.2.1.1]
  have HTW := Lib.hid htw
  have HKEEP : Hid (∀ W, Below w6.heap.size w6 W → W.rangeAt g6 0 M5.toList ∧ W.rangeAt g3 0 M3.toList) := Lib.hid fun W hb => ⟨(HTW.out.under hb).b5.rangeA, (HTW.out.under hb).b3.rangeA⟩
  have hb0 : Below w6.heap.size w6 w6.drew := (Below.refl _ w6).drew
  have HSA : Hid (∀ W M9 A9 c9, Below w6.heap.size w6 W → MsgV W W.heap.size M9 m A9 c9 → Calls Try.prog 15 #[.agg M9, .agg M3] W fun e w' => e = .returned (.bool true) ∧ Below W.heap.size W w') := Lib.hid fun W M9 A9 c9 hb h9 => same_yes M9 M3 m A9 A3 c9 c3 W h9 ((hm36.below hb).more hb.size)
  clear hg6 htw hm6 hm36 hm5 hm3 hp5 hbw hb5 hs5 HP3 H4
  obtain ⟨L5, hL5⟩ : ∃ l, M5.toList = l := ⟨_, rfl⟩
  obtain ⟨L0, hL0⟩ : ∃ l, M3.toList = l := ⟨_, rfl⟩
  have e5 : L5.toArray = M5 := by rw [← hL5]
  have e0 : L0.toArray = M3 := by rw [← hL0]
  rw [hL5] at r5
  rw [hL0] at r0
  rw [hL5, hL0] at HKEEP
  rw [← e5] at HOU
  rw [← e0] at HSA
  have hu5 := Try.underlying34
  have hu0 := Try.underlying25
  clear hL5 hL0 e5 e0
  refine wp_region_held_drew (S := fun W => W.rangeAt g6 0 L5 ∧ W.rangeAt g3 0 L0) (by kernel_rfl) (HKEEP.out _ hb0) (fun hHeld => ?_)
  refine wpAnyH_take (i := 0) (v := .int .i64 x5) rfl (by kernel_rfl) (by kernel_rfl) (by kernel_rfl) (fun _ _ _ h => h) (Or.inl ⟨by rfl, fun w h => by go_simp⟩) (by assumption) ?_
  simp only [Act.put, List.setIfInBounds_toArray]
  refine wpAnyH_take (i := 1) (v := .int .i64 x5) rfl (by kernel_rfl) (by kernel_rfl) (by kernel_rfl) (fun _ _ _ h => h) (Or.inl ⟨by rfl, fun w h => by go_simp⟩) (by assumption) ?_
  simp only [Act.put]
  refine wpAnyH_take (i := 2) (v := .bool true) rfl (by kernel_rfl) (by kernel_rfl) (by kernel_rfl) (fun _ _ _ h => h) (Or.inl ⟨by rfl, fun w h => by go_simp⟩) (by assumption) ?_
  simp only [Act.put]
  refine wpAnyH_take (i := 3) (v := .bool true) rfl (by kernel_rfl) (by kernel_rfl) (by kernel_rfl) (fun _ _ _ h => h) (Or.inl ⟨by rfl, fun w h => by go_simp⟩) (by assumption) ?_
  simp only [Act.put]
  refine wpAnyH_take (i := 4) (v := .agg L5.toArray) rfl (by kernel_rfl) (by kernel_rfl) (by kernel_rfl) (fun _ _ _ h => h) (yieldsIf_load_mid (by rfl) 34 (.tmp 7) rfl g6 0 rfl L5 _ (fun w h => h.1) hu5 rfl r5) (by assumption) ?_
  simp only [Act.put]
  refine wpAnyH_take (i := 6) (v := .agg L0.toArray) rfl (by kernel_rfl) (by kernel_rfl) (by kernel_rfl) (fun _ _ _ h => h) (yieldsIf_load_mid (by rfl) 25 (.tmp 5) rfl g3 0 rfl L0 _ (fun w h => h.2) hu0 rfl r0) (by assumption) ?_
  simp only [Act.put]
  refine wpAnyH_ready (rs := [5]) (by kernel_rfl) (by simp) ?_
  refine AllReadyH.cons (i := 5) rfl (fun K hK => ?_) AllReadyH.nil
  go_simp
  refine HOU.out.mono ?_
  rintro e w7 ⟨M7, A7, c7, rfl, hc7⟩
  have hb7 : Below w6.heap.size w6 w7 := hb0.trans hc7.below
  refine hK.out _ _ (HKEEP.out _ hb7) (fun hHeld => ?_)
  clear hK K
  refine wpAnyH_ready (rs := [7]) (by kernel_rfl) (by simp) ?_
  refine AllReadyH.cons (i := 7) rfl (fun K hK => ?_) AllReadyH.nil
  go_simp
  refine (HSA.out _ _ _ _ hb7 hc7.msg).mono ?_
  rintro e w9 ⟨rfl, hb9⟩
  have hb10 : Below w6.heap.size w6 w9 := hb7.trans (hb9.mono hb7.size)
  refine hK.out _ _ (HKEEP.out _ hb10) (fun hHeld => ?_)
  clear hK K
  refine wpAnyH_take (i := 8) (v := .bool true) rfl (by kernel_rfl) (by kernel_rfl) (by kernel_rfl) (fun _ _ _ h => h) (Or.inl ⟨by rfl, fun w h => by go_simp⟩) (by assumption) ?_
  simp only [Act.put]
  refine wpAnyH_take (i := 9) (v := .bool true) rfl (by kernel_rfl) (by kernel_rfl) (by kernel_rfl) (fun _ _ _ h => h) (Or.inl ⟨by rfl, fun w h => by go_simp⟩) (by assumption) ?_
  simp only [Act.put]
  refine wpAnyH_done (by kernel_rfl) ?_ _
  have HKZ := Lib.hid (HTW.out.under hb10)
  clear hHeld hb7 hb10 hc7 hb9 hb0 r5 r0 hu5 hu0
  simp only [List.getElem_toArray, List.getElem_cons_succ, List.getElem_cons_zero, List.setIfInBounds_toArray, List.set_cons_succ, List.set_cons_zero]
  go_wp2
  go_ret
  exact ⟨rfl, by rw [HN.out]; exact HKZ.out.below⟩
end Go.Proofs.Ytladojbppfmkpaa
