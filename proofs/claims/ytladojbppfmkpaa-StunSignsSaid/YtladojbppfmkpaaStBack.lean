/- The law StunBack. -/
import Derived.Test.YtladojbppfmkpaaStParse
import Derived.Test.YtladojbppfmkpaaStBuilds
import Derived.Test.YtladojbppfmkpaaStSame
namespace Go.Proofs.Ytladojbppfmkpaa
open Go.RowKit
set_option linter.unusedVariables false

/-- A message's box in block N, in a world behind w. -/
structure Bk (w : World) (N : Nat) (M : Array Value) (wr : World) : Prop where
  box : Whole wr N 25 M
  below : Below N w wr
  wN : w.heap.size = N
theorem Bk.under {w wr w' : World} {N : Nat} {M : Array Value} (h : Bk w N M wr) (hb : Below wr.heap.size wr w') : Bk w N M w' := ⟨h.box.under hb, h.below.trans (hb.mono (Nat.le_of_lt h.box.lt)), h.wN⟩
theorem Bk.msg {w wr : World} {N : Nat} {M : Array Value} {m : Msg} {A : Option Addr} {c : Nat} (h : Bk w N M wr) (hm : InMsg w M m A c) : MsgV wr wr.heap.size M m A c := by
  have := hm.msg
  rw [h.wN] at this
  exact (this.below h.below).more (Nat.le_of_lt h.box.lt)
theorem Bk.v8 {w wr : World} {N : Nat} {M : Array Value} {v : Value} {xs : List Int} (h : Bk w N M wr) (hv : V8 w w.heap.size v xs) : V8 wr wr.heap.size v xs := by
  rw [h.wN] at hv
  exact (hv.below h.below).more (Nat.le_of_lt h.box.lt)

/-- The second half: what is read is written as it stood. -/
theorem parsed_same {w' : World} {m : Msg} {M : Array Value} {x : Int} (hv : Valid m) (hf : Fine m) (h : ParsedV w' (msgBytes m) M x) : x = 0 ∧ ∃ A c, MsgV w' w'.heap.size M m A c := by
  rcases h with ⟨m', A, c, h1, h2, h3⟩ | ⟨h1, _⟩
  · have e := Is.same (⟨hv, hf, rfl⟩ : Is (msgBytes m) m) h1
    subst e
    exact ⟨h2, A, c, h3⟩
  · exact absurd ⟨hv, hf, rfl⟩ (h1 m)
theorem In256.append {a b : List Int} (ha : In256 a) (hb : In256 b) : In256 (a ++ b) := fun i => by
  by_cases hi : i < a.length
  · have e : (a ++ b).getD i 0 = a.getD i 0 := by simp [List.getD, List.getElem?_append_left hi]
    rw [e]; exact ha i
  · have e : (a ++ b).getD i 0 = b.getD (i - a.length) 0 := by simp [List.getD, List.getElem?_append_right (show a.length ≤ i by omega)]
    rw [e]; exact hb _
theorem In256.of_all {l : List Int} (h : ∀ x ∈ l, 0 ≤ x ∧ x < 256) : In256 l := fun i => by
  by_cases hi : i < l.length
  · have e : l.getD i 0 = l[i] := by simp [List.getD, hi]
    rw [e]; exact h _ (List.getElem_mem hi)
  · have e : l.getD i 0 = 0 := by simp [List.getD, List.getElem?_eq_none (show l.length ≤ i by omega)]
    rw [e]; omega
theorem in256_be2 (x : Int) : In256 (be2 x) := In256.of_all fun y hy => by
  simp only [be2, List.mem_cons, List.not_mem_nil, or_false] at hy
  rcases hy with rfl | rfl <;> omega
theorem in256_be4 (x : Int) : In256 (be4 x) := In256.of_all fun y hy => by
  simp only [be4, List.mem_cons, List.not_mem_nil, or_false] at hy
  rcases hy with rfl | rfl | rfl | rfl <;> omega
theorem in256_body {L : List At} (h : ∀ a ∈ L, In256 a.val) : In256 (body L) := by
  induction L with
  | nil => exact In256.nil
  | cons a r ih =>
    refine In256.append (In256.append (in256_be2 _) (In256.append (in256_be2 _) (In256.append (h a List.mem_cons_self) (In256.of_all fun x hx => ?_)))) (ih fun b hb => h b (List.mem_cons_of_mem _ hb))
    rw [List.eq_of_mem_replicate hx]; omega
theorem in256_msg {m : Msg} (hf : Fine m) : In256 (msgBytes m) := In256.append (in256_be2 _) (In256.append (in256_be2 _) (In256.append (in256_be4 _) (In256.append hf.idb (in256_body hf.vals))))
theorem parsed_size {w' : World} {xs : List Int} {M : Array Value} {x : Int} (h : ParsedV w' xs M x) : M.size = 15 ∧ M.all (·.oneCell') = true := by
  rcases h with ⟨m, A, c, _, _, h⟩ | ⟨_, _, rfl⟩
  · exact ⟨h.size, h.one⟩
  · exact ⟨zM_size, mv_one rfl⟩

set_option maxHeartbeats 3200000 in
set_option maxRecDepth 100000 in
theorem back_walk (M : Array Value) (m : Msg) (A : Option Addr) (c : Nat) (v : Value) (xs : List Int) (w : World) (h : InMsg w M m A c) (hv : V8 w w.heap.size v xs) (hx : In256 xs) (hl : xs.length ≤ 140737488351232) :
    Calls Try.prog 8 #[.agg M, v] w fun e w' => e = .returned (.bool true) ∧ Below w.heap.size w w' := by
  have HM := Lib.hid h
  have HSZ := Lib.hid (And.intro h.msg.size h.msg.one)
  obtain ⟨Av, cv, hve, -⟩ := id hv
  obtain ⟨n, hn⟩ : ∃ n, xs.length = n := ⟨_, rfl⟩
  rw [hn] at hve
  subst hve
  have HXN := Lib.hid hn
  have HV := Lib.hid (And.intro hv (And.intro hx hl))
  have hk0 : Bk w w.heap.size M (w.alloc (.cells M 25)) := ⟨Whole.new w 25 M, (Below.refl _ w).alloc (Nat.le_refl _) _, rfl⟩
  have HK0 := Lib.hid hk0
  have HAW : Hid (∀ W, Calls Try.prog 9 #[] W fun e w' => e = .returned (.bool true) ∧ Below W.heap.size W w') := Lib.hid awake_yes
  have HTH : Hid (∀ W, Bk w w.heap.size M W → Calls Try.prog 12 #[.agg M] W fun e w' => ∃ M' A' c', e = .returned (.agg M') ∧ Copied W w' m M' A' c') := Lib.hid fun W hk => theirs_any M m A c W (hk.msg h) h.most h.lens
  have HBU : Hid (∀ W M' A' c', MsgV W W.heap.size M' m A' c' → Calls Try.prog 11 #[.agg M'] W fun e w' => ∃ v x, e = .returned (.tuple #[v, .int .i64 x]) ∧ BuiltV W w' m v x ∧ Below W.heap.size W w') := Lib.hid fun W M' A' c' h => build_v M' m A' c' W h
  clear h hv hx hl hk0
  obtain ⟨N, hN⟩ : ∃ N, w.heap.size = N := ⟨_, rfl⟩
  have HN := Lib.hid hN
  rw [hN] at HK0 HTH
  go_enter Try.func8, Try.ntmps8
  go_upto_region 1 with fail
  generalize w.alloc (.cells M 25) = W0 at *
  clear hN hn
  go_upto_region 3 with (go_at_call 9; (with_reducible refine (HAW.out _).mono ?_); rintro e w1 ⟨rfl, hb1⟩)
  have HK1 := Lib.hid (HK0.out.under hb1)
  clear hb1
  go_upto_region 4 with (first
    | (refine wpList_load_all rfl 25 (.tmp 2) rfl HK1.out.box rfl Try.sizeRMsg HSZ.out.1 Try.underlying25 rfl ?_)
    | (go_at_call 12; (with_reducible refine (HTH.out _ HK1.out).mono ?_); rintro e w3 ⟨M3, A3, c3, rfl, hc3⟩; have hk3 := HK1.out.under hc3.below)
    | (go_at_call 11; (with_reducible refine (HBU.out _ _ _ _ hc3.msg).mono ?_); rintro e w4 ⟨v4, x4, rfl, ho4, hb4⟩))
  have HK4 := Lib.hid (hk3.under hb4)
  have HO4 := Lib.hid ho4
  clear hc3 hk3 ho4 hb4
  have hz := Try.zeroMsg
  have HZS : Hid (zM.size = 15) := Lib.hid zM_size
  obtain ⟨Z, hZ⟩ : ∃ Z, zM = Z := ⟨_, rfl⟩
  rw [hZ] at HZS
  simp only [hZ] at hz
  have HZ := Lib.hid hZ
  clear hZ
  rcases HO4.out with ⟨hval, rfl, ho4⟩ | ⟨hval, rfl, rfl⟩
  · have HVL := Lib.hid hval
    have hbl : (msgBytes m).length ≤ 1500 := by rw [msgBytes_length m HM.out.fine.id12]; exact hval.size
    have HPA := Lib.hid (parse_any v4 (msgBytes m) w4 ho4.v8 (in256_msg HM.out.fine) (by omega))
    clear hval ho4 hbl
    go_upto_region 6 with (first
      | (go_at_call 14; (with_reducible refine HPA.out.mono ?_); rintro e w5 ⟨M5, x5, rfl, hp5, hb5⟩; have hs5 := parsed_size hp5)
      | (refine wpList_store_whole rfl 34 (.tmp 7) (.tmp 26) rfl rfl rfl (Whole.new w5 34 Z) Try.sizeMsg hs5.1 HZS.out (hs5.2) ?_))
    obtain ⟨rfl, A5, c5, hm5⟩ := parsed_same HVL.out HM.out.fine hp5
    have hbw : Below w5.heap.size w5 ((w5.alloc (.cells Z 34)).setRow w5.heap.size M5) := below_row ((Below.refl _ w5).alloc (Nat.le_refl _) _) (Nat.le_refl _) _
    have hg6 : Whole ((w5.alloc (.cells Z 34)).setRow w5.heap.size M5) w5.heap.size 34 M5 := (Whole.new w5 34 Z).row _
    have hk6 := (HK4.out.under hb5).under hbw
    have hm6 := (hm5.below hbw).more (show w5.heap.size ≤ ((w5.alloc (.cells Z 34)).setRow w5.heap.size M5).heap.size from hbw.size)
    generalize (w5.alloc (.cells Z 34)).setRow w5.heap.size M5 = w6 at *
    generalize w5.heap.size = g6 at *
    have HOU := Lib.hid (ours_any M5 m A5 c5 w6.drew ((hm6.below (Below.refl _ w6).drew)) HM.out.most)
    have r5 : (Try.prog.info? 34).map (·.size) = some M5.toList.length := by rw [Try.sizeMsg, Array.length_toList, hs5.1]
    have r0 : (Try.prog.info? 25).map (·.size) = some M.toList.length := by rw [Try.sizeRMsg, Array.length_toList, HSZ.out.1]
    have HG6 := Lib.hid (And.intro hg6 hk6)
    have HKEEP : Hid (∀ W, Below w6.heap.size w6 W → W.rangeAt g6 0 M5.toList ∧ W.rangeAt N 0 M.toList) := Lib.hid fun W hb => ⟨(HG6.out.1.under hb).rangeA, (HG6.out.2.under hb).box.rangeA⟩
    have hb0 : Below w6.heap.size w6 w6.drew := (Below.refl _ w6).drew
    have HSA : Hid (∀ W M9 A9 c9, Below w6.heap.size w6 W → MsgV W W.heap.size M9 m A9 c9 → Calls Try.prog 15 #[.agg M9, .agg M] W fun e w' => e = .returned (.bool true) ∧ Below W.heap.size W w') := Lib.hid fun W M9 A9 c9 hb h9 => same_yes M9 M m A9 A c9 c W h9 ((HG6.out.2.under hb).msg HM.out)
    clear hg6 hk6 hm6 hm5 hp5 hbw hb5 hs5
    obtain ⟨L5, hL5⟩ : ∃ l, M5.toList = l := ⟨_, rfl⟩
    obtain ⟨L0, hL0⟩ : ∃ l, M.toList = l := ⟨_, rfl⟩
    have e5 : L5.toArray = M5 := by rw [← hL5]
    have e0 : L0.toArray = M := by rw [← hL0]
    rw [hL5] at r5
    rw [hL0] at r0
    rw [hL5, hL0] at HKEEP
    rw [← e5] at HOU
    rw [← e0] at HSA
    have hu5 := Try.underlying34
    have hu0 := Try.underlying25
    clear hL5 hL0 e5 e0
    refine wp_region_held_drew (S := fun W => W.rangeAt g6 0 L5 ∧ W.rangeAt N 0 L0) (by kernel_rfl) (HKEEP.out _ hb0) (fun hHeld => ?_)
    refine wpAnyH_take (i := 0) (v := .int .i64 0) rfl (by kernel_rfl) (by kernel_rfl) (by kernel_rfl) (fun _ _ _ h => h) (Or.inl ⟨by rfl, fun w h => by go_simp⟩) (by assumption) ?_
    simp only [Act.put, List.setIfInBounds_toArray]
    refine wpAnyH_take (i := 1) (v := .bool false) rfl (by kernel_rfl) (by kernel_rfl) (by kernel_rfl) (fun _ _ _ h => h) (Or.inl ⟨by rfl, fun w h => by go_simp⟩) (by assumption) ?_
    simp only [Act.put]
    refine wpAnyH_take (i := 2) (v := .bool false) rfl (by kernel_rfl) (by kernel_rfl) (by kernel_rfl) (fun _ _ _ h => h) (Or.inl ⟨by rfl, fun w h => by go_simp⟩) (by assumption) ?_
    simp only [Act.put]
    refine wpAnyH_take (i := 3) (v := .agg L5.toArray) rfl (by kernel_rfl) (by kernel_rfl) (by kernel_rfl) (fun _ _ _ h => h) (yieldsIf_load_mid (by rfl) 34 (.tmp 7) rfl g6 0 rfl L5 _ (fun w h => h.1) hu5 rfl r5) (by assumption) ?_
    simp only [Act.put]
    refine wpAnyH_take (i := 5) (v := .agg L0.toArray) rfl (by kernel_rfl) (by kernel_rfl) (by kernel_rfl) (fun _ _ _ h => h) (yieldsIf_load_mid (by rfl) 25 (.tmp 2) rfl N 0 rfl L0 _ (fun w h => h.2) hu0 rfl r0) (by assumption) ?_
    simp only [Act.put]
    refine wpAnyH_ready (rs := [4]) (by kernel_rfl) (by simp) ?_
    refine AllReadyH.cons (i := 4) rfl (fun K hK => ?_) AllReadyH.nil
    go_simp
    refine HOU.out.mono ?_
    rintro e w7 ⟨M7, A7, c7, rfl, hc7⟩
    have hb7 : Below w6.heap.size w6 w7 := hb0.trans hc7.below
    refine hK.out _ _ (HKEEP.out _ hb7) (fun hHeld => ?_)
    clear hK K
    refine wpAnyH_ready (rs := [6]) (by kernel_rfl) (by simp) ?_
    refine AllReadyH.cons (i := 6) rfl (fun K hK => ?_) AllReadyH.nil
    go_simp
    refine (HSA.out _ _ _ _ hb7 hc7.msg).mono ?_
    rintro e w9 ⟨rfl, hb9⟩
    have hb10 : Below w6.heap.size w6 w9 := hb7.trans (hb9.mono hb7.size)
    refine hK.out _ _ (HKEEP.out _ hb10) (fun hHeld => ?_)
    clear hK K
    refine wpAnyH_take (i := 7) (v := .bool false) rfl (by kernel_rfl) (by kernel_rfl) (by kernel_rfl) (fun _ _ _ h => h) (Or.inl ⟨by rfl, fun w h => by go_simp⟩) (by assumption) ?_
    simp only [Act.put]
    refine wpAnyH_take (i := 8) (v := .bool false) rfl (by kernel_rfl) (by kernel_rfl) (by kernel_rfl) (fun _ _ _ h => h) (Or.inl ⟨by rfl, fun w h => by go_simp⟩) (by assumption) ?_
    simp only [Act.put]
    refine wpAnyH_done (by kernel_rfl) ?_ _
    have HKZ := Lib.hid (HG6.out.2.under hb10)
    clear hHeld hb7 hb10 hc7 hb9 hb0 r5 r0 hu5 hu0
    go_upto_region 8 with fail
    have HPB := Lib.hid (parse_any (.slice Av n cv) xs w9 (HKZ.out.v8 HV.out.1) HV.out.2.1 (by have := HV.out.2.2; omega))
    go_upto_region 9 with (first
      | (go_at_call 14; (with_reducible refine HPB.out.mono ?_); rintro e w8 ⟨M8, x8, rfl, hp8, hb8⟩; have hs8 := parsed_size hp8)
      | (refine wpList_store_whole rfl 34 (.tmp 9) (.tmp 40) rfl rfl rfl (Whole.new w8 34 Z) Try.sizeMsg hs8.1 HZS.out (hs8.2) ?_))
    have hbw : Below w8.heap.size w8 ((w8.alloc (.cells Z 34)).setRow w8.heap.size M8) := below_row ((Below.refl _ w8).alloc (Nat.le_refl _) _) (Nat.le_refl _) _
    have hg9 : Whole ((w8.alloc (.cells Z 34)).setRow w8.heap.size M8) w8.heap.size 34 M8 := (Whole.new w8 34 Z).row _
    have hk9 := (HKZ.out.under hb8).under hbw
    generalize hw12 : (w8.alloc (.cells Z 34)).setRow w8.heap.size M8 = w12 at *
    clear hw12
    generalize hg12e : w8.heap.size = g12 at *
    rcases hp8 with ⟨m', A', c', his, rfl, hm'⟩ | ⟨hno, rfl, rfl⟩
    · rw [hg12e] at hm'
      have hm9 := (hm'.below hbw).more (show g12 ≤ w12.heap.size from Nat.le_of_lt hg9.lt)
      have HBV := Lib.hid (build_v M8 m' A' c' w12 hm9)
      have H9 := Lib.hid (And.intro hg9 (And.intro hs8 (And.intro hk9 his)))
      clear hg9 hs8 hk9 his hm9 hm' hbw hb8 hg12e
      go_upto_region 12 with (first
        | (refine wpList_load_all rfl 34 (.tmp 9) rfl H9.out.1 rfl Try.sizeMsg H9.out.2.1.1 Try.underlying34 rfl ?_)
        | (go_at_call 11; (with_reducible refine HBV.out.mono ?_); rintro e wA ⟨vA, xA, rfl, hoA, hbA⟩; obtain ⟨-, rfl, hoB⟩ := hoA.resolve_right (fun h => h.1 H9.out.2.2.2.1)))
      have hkA := H9.out.2.2.1.under hbA
      rw [H9.out.2.2.2.2.2] at hoB
      obtain ⟨A2, c2, rfl, -, -, n2, bs2⟩ := hoB.form
      have hcv2 := conv_text bs2 n2
      have hvb := hkA.v8 (by have := HV.out.1; exact this)
      obtain ⟨A3, c3, e3, -, -, n3, bs3⟩ := hvb
      rw [HXN.out] at e3 bs3 hcv2
      cases e3
      have hcv3 := conv_text bs3 n3
      have HKA := Lib.hid hkA
      rw [HXN.out]
      clear hoA hoB bs2 bs3 hkA hbA
      go_wp2
      go_ret
      exact ⟨rfl, by rw [HN.out]; exact HKA.out.below⟩
    · have c14 : w12.cell? ⟨g12, 14, none⟩ = some (.slice none 0 0) := hg9.cell 14
      have HKA := Lib.hid hk9
      clear hg9 hs8 hk9 hno hbw hb8 hg12e
      go_wp2
      go_ret
      exact ⟨rfl, by rw [HN.out]; exact HKA.out.below⟩
  · have hcw4 := HK4
    have HPB := Lib.hid (parse_any (.slice Av n cv) xs w4 (HK4.out.v8 HV.out.1) HV.out.2.1 (by have := HV.out.2.2; omega))
    go_upto_region 9 with (first
      | (go_at_call 14; (with_reducible refine HPB.out.mono ?_); rintro e w8 ⟨M8, x8, rfl, hp8, hb8⟩; have hs8 := parsed_size hp8)
      | (refine wpList_store_whole rfl 34 (.tmp 9) (.tmp 40) rfl rfl rfl (Whole.new w8 34 Z) Try.sizeMsg hs8.1 HZS.out (hs8.2) ?_))
    have hbw : Below w8.heap.size w8 ((w8.alloc (.cells Z 34)).setRow w8.heap.size M8) := below_row ((Below.refl _ w8).alloc (Nat.le_refl _) _) (Nat.le_refl _) _
    have hg9 : Whole ((w8.alloc (.cells Z 34)).setRow w8.heap.size M8) w8.heap.size 34 M8 := (Whole.new w8 34 Z).row _
    have hk9 := (HK4.out.under hb8).under hbw
    generalize hw12 : (w8.alloc (.cells Z 34)).setRow w8.heap.size M8 = w12 at *
    clear hw12
    generalize hg12e : w8.heap.size = g12 at *
    rcases hp8 with ⟨m', A', c', his, rfl, hm'⟩ | ⟨hno, rfl, rfl⟩
    · rw [hg12e] at hm'
      have hm9 := (hm'.below hbw).more (show g12 ≤ w12.heap.size from Nat.le_of_lt hg9.lt)
      have HBV := Lib.hid (build_v M8 m' A' c' w12 hm9)
      have H9 := Lib.hid (And.intro hg9 (And.intro hs8 (And.intro hk9 his)))
      clear hg9 hs8 hk9 his hm9 hm' hbw hb8 hg12e
      go_upto_region 12 with (first
        | (refine wpList_load_all rfl 34 (.tmp 9) rfl H9.out.1 rfl Try.sizeMsg H9.out.2.1.1 Try.underlying34 rfl ?_)
        | (go_at_call 11; (with_reducible refine HBV.out.mono ?_); rintro e wA ⟨vA, xA, rfl, hoA, hbA⟩; obtain ⟨-, rfl, hoB⟩ := hoA.resolve_right (fun h => h.1 H9.out.2.2.2.1)))
      have hkA := H9.out.2.2.1.under hbA
      rw [H9.out.2.2.2.2.2] at hoB
      obtain ⟨A2, c2, rfl, -, -, n2, bs2⟩ := hoB.form
      have hcv2 := conv_text bs2 n2
      have hvb := hkA.v8 (by have := HV.out.1; exact this)
      obtain ⟨A3, c3, e3, -, -, n3, bs3⟩ := hvb
      rw [HXN.out] at e3 bs3 hcv2
      cases e3
      have hcv3 := conv_text bs3 n3
      have HKA := Lib.hid hkA
      rw [HXN.out]
      clear hoA hoB bs2 bs3 hkA hbA
      go_wp2
      go_ret
      exact ⟨rfl, by rw [HN.out]; exact HKA.out.below⟩
    · have c14 : w12.cell? ⟨g12, 14, none⟩ = some (.slice none 0 0) := hg9.cell 14
      have HKA := Lib.hid hk9
      clear hg9 hs8 hk9 hno hbw hb8 hg12e
      go_wp2
      go_ret
      exact ⟨rfl, by rw [HN.out]; exact HKA.out.below⟩
end Go.Proofs.Ytladojbppfmkpaa
