/- The law IceFades: its walk. -/
import Derived.Test.YteloaidnfcmadaaIceAwake
namespace Go.Proofs.Yteloaidnfcmadaa
open Go.RowKit
set_option linter.unusedVariables false
set_option linter.unusedSimpArgs false

theorem built_a1 : Try.prog.built 33 [(1, .int .u16 1)] = some #[.int .u32 0, .int .u16 1] := by kernel_rfl
theorem build_a1 (w : World) : (Instr.build 33 #[(1, .int .u16 1)]).run Try.prog w = .ok (.agg #[.int .u32 0, .int .u16 1]) w := run_build w 33 _ _ built_a1
theorem Try.sizeCheck5 : (Try.prog.info? 36).map (·.size) = some 14 := by kernel_rfl
def cOne : Array Value := #[.int .u32 0, .int .u16 0, .int .i64 0, .string { data := #[97, 98, 58, 120] }, .string { data := #[112, 119] }, .int .i64 0, .int .i64 1, .bool true, .bool true, .slice none 0 0, .int .i64 0, .int .u8 0, .bool false, .slice none 0 0]
/-- What is known between the steps: the agent, the check's box. -/
structure Fd (N gc : Nat) (C : Array Value) (w W : World) (v : Value) (s : Ag) : Prop where
  ag : AgV W N N v s
  box : Whole W gc 36 C
  below : Below N w W
section
variable {N gc : Nat} {C : Array Value} {w W W' : World} {v v' : Value} {s s' : Ag}
theorem Fd.under (h : Fd N gc C w W v s) (hb : Below W.heap.size W W') : Fd N gc C w W' v s := ⟨h.ag.under hb, h.box.under hb, h.below.trans (hb.mono h.ag.lowsz)⟩
theorem Fd.move (h : Fd N gc C w W v s) (hA : AgV W' N N v' s') (hs : Stepped N v v' W W') : Fd N gc C w W' v' s' :=
  ⟨hA, h.box.only hs.only (h.ag.not_mine h.box (by decide) (by decide)), h.below.trans (hs.only.below (fun k hk => h.ag.mine_low hk) h.ag.lowsz)⟩
end
def fadeA (t : Int) : Ag := ⟨bAb, bPw, [⟨0, 1, t, true⟩], t⟩
theorem fade_fresh (t now : Int) (h : t ≤ now) : freshF (fadeA t) now = decide (now - t ≤ 30) := by
  show (true && decide (max now t - t ≤ 30)) = _
  rw [Bool.true_and, Int.max_eq_left h]

set_option maxHeartbeats 3200000 in
set_option maxRecDepth 100000 in
theorem fades_walk (t g l : Int) (w : World) (w0 : (Lit.int .u16 t).wf = true) (w1 : (Lit.int .u16 g).wf = true) (w2 : (Lit.int .u16 l).wf = true) :
    Calls Try.prog 5 #[.int .u16 t, .int .u16 g, .int .u16 l] w fun e w' => e = .returned (.bool true) ∧ Below w.heap.size w w' := by
  simp [Lit.wf, IntKind.min, IntKind.max, IntKind.signed, IntKind.bits] at w0 w1 w2
  obtain ⟨t0, t1⟩ := w0
  obtain ⟨g0, g1⟩ := w1
  obtain ⟨l0, l1⟩ := w2
  have hba := build_a1
  have HAW := Lib.hid awake5_yes
  have HNW : Hid (∀ W, Calls Try.prog 10 #[.string { data := #[97, 98] }, .string { data := #[112, 119] }] W fun e w' => e = .returned (.pointer (some ⟨W.heap.size, 0, none⟩)) ∧ w' = W.alloc (.cells #[.string bAb, .string bPw, .slice none 0 0, .int .i64 0] 55)) := Lib.hid fun W => new_any bAb bPw W
  obtain ⟨C, hC⟩ : ∃ C, cOne = C := ⟨_, rfl⟩
  have HSB : Hid (∀ W, Calls Try.prog 11 #[.agg C] W fun e w' => ∃ v, e = .returned v ∧ Own8 w' W.heap.size v (signB (reqOf kOne) (nums bPw)) ∧ In256 (signB (reqOf kOne) (nums bPw)) ∧ (signB (reqOf kOne) (nums bPw)).length ≤ 1500 ∧ Below W.heap.size W w') := Lib.hid (by rw [← hC]; exact sent_bytes)
  have HCS : Hid (C.size = 14) := Lib.hid (by rw [← hC]; rfl)
  have HCC := Lib.hid hC
  clear hC
  obtain ⟨N0, hN⟩ : ∃ N, w.heap.size = N := ⟨_, rfl⟩
  rw [hN]
  go_enter Try.func5, Try.ntmps5
  go_upto_region 3 with (go_at_call 7; (with_reducible refine (HAW.out _).mono ?_); rintro e w1 ⟨rfl, hb1⟩)
  have hA0 := new_agv bAb bPw w1 (by decide) (by decide) w1.heap.size (Nat.le_refl _)
  have hB0 := (Below.refl w1.heap.size w1).alloc (Nat.le_refl _) (.cells #[.string bAb, .string bPw, .slice none 0 0, .int .i64 0] 55)
  go_upto_region 4 with (go_at_call 10; (with_reducible refine (HNW.out _).mono ?_); rintro e w2 ⟨rfl, rfl⟩)
  have HN1 := Lib.hid (And.intro hb1 hb1.size)
  rw [hN] at HN1
  clear hN hb1
  obtain ⟨N, hN1⟩ : ∃ N, w1.heap.size = N := ⟨_, rfl⟩
  rw [hN1] at hA0 hB0 HN1 ⊢
  have HB0 := Lib.hid (And.intro hA0 hB0)
  clear hA0 hB0
  generalize w1.alloc (.cells #[.string bAb, .string bPw, .slice none 0 0, .int .i64 0] 55) = W2 at *
  clear hN1
  go_upto_region 5 with fail
  have HX3 := Lib.hid (Fd.mk (C := cOne) (HB0.out.1.under ((Below.refl W2.heap.size W2).alloc (Nat.le_refl _) (.cells cOne 36))) (Whole.new W2 36 cOne) (HB0.out.2.alloc HB0.out.1.lowsz (.cells cOne 36)))
  change Code.wp _ _ _ _ (W2.alloc (.cells cOne 36))
  rw [HCC.out] at HX3 ⊢
  generalize W2.alloc (.cells C 36) = W3 at *
  generalize W2.heap.size = gc at *
  have hc1 : max (0 : Int) t = t := Int.max_eq_right t0
  go_upto_region 7 with (first
    | (refine wpList_load_all rfl 36 (.tmp 8) rfl HX3.out.box rfl Try.sizeCheck5 HCS.out Try.underlying36 rfl ?_)
    | (go_at_call 11; (with_reducible refine (HSB.out _).mono ?_); rintro e w4 ⟨v4, rfl, ho4, hi4, hl4, hb4⟩)
    | (go_at_call 15; (with_reducible refine (handle_any N N (.slice none 0 0) ⟨bAb, bPw, [], 0⟩ _ _ _ 0 1 t _ (HX3.out.under hb4).ag ho4 hi4 (by omega) (by omega)).mono ?_); intro e w5 hh; obtain ⟨vr, v5, he5, hA5, hs5, hv5⟩ := sent_step (c' := t) hc1 rfl rfl (.inl rfl) hh; subst he5))
  have HX5 : Hid (Fd N gc C w1 w5 v5 (fadeA t)) := Lib.hid ((HX3.out.under hb4).move hA5 hs5)
  clear hb4 ho4 hi4 hl4 hh hA5 hs5 hv5 HX3
  obtain ⟨bg, hbg⟩ : ∃ b, decide (g ≤ 30) = b := ⟨_, rfl⟩
  obtain ⟨bl, hbl⟩ : ∃ b, decide (l ≤ 30) = b := ⟨_, rfl⟩
  have HF1 : Hid (Calls Try.prog 16 #[.pointer (some ⟨N, 0, none⟩), .int .i64 (t + g)] w5 fun e w' => e = .returned (.bool bg) ∧ Below w5.heap.size w5 w') := Lib.hid ((fresh_any N N v5 (fadeA t) (t + g) (by omega) w5 HX5.out.ag).mono fun e w' ⟨h1, h2⟩ => ⟨by
    rw [h1, fade_fresh t (t + g) (by omega), ← hbg]
    congr 2
    exact decide_eq_decide.2 (by omega), h2⟩)
  go_upto_region 8 with (go_at_call 16; (with_reducible refine HF1.out.mono ?_); rintro e w6 ⟨rfl, hb6⟩)
  have HX6 := Lib.hid (HX5.out.under hb6)
  clear hb6 HX5 HF1
  have hc2 : max t (t + g) = t + g := Int.max_eq_right (by omega)
  go_upto_region 9 with (first
    | (refine wpList_load_all rfl 36 (.tmp 8) rfl HX6.out.box rfl Try.sizeCheck5 HCS.out Try.underlying36 rfl ?_)
    | (go_at_call 11; (with_reducible refine (HSB.out _).mono ?_); rintro e w7 ⟨v7, rfl, ho7, hi7, hl7, hb7⟩)
    | (go_at_call 15; (with_reducible refine (handle_any N N v5 (fadeA t) _ _ _ 0 1 (t + g) _ (HX6.out.under hb7).ag ho7 hi7 (by omega) (by omega)).mono ?_); intro e w8 hh; obtain ⟨vr2, v8, he8, hA8, hs8, hv8⟩ := sent_step (c' := t + g) hc2 rfl rfl (.inr ⟨t, true, rfl⟩) hh; subst he8))
  have HX8 : Hid (Fd N gc C w1 w8 v8 (fadeA (t + g))) := Lib.hid ((HX6.out.under hb7).move hA8 hs8)
  clear hb7 ho7 hi7 hl7 hh hA8 hs8 hv8 HX6
  have HF2 : Hid (Calls Try.prog 16 #[.pointer (some ⟨N, 0, none⟩), .int .i64 (t + g + l)] w8 fun e w' => e = .returned (.bool bl) ∧ Below w8.heap.size w8 w') := Lib.hid ((fresh_any N N v8 (fadeA (t + g)) (t + g + l) (by omega) w8 HX8.out.ag).mono fun e w' ⟨h1, h2⟩ => ⟨by
    rw [h1, fade_fresh (t + g) (t + g + l) (by omega), ← hbl]
    congr 2
    exact decide_eq_decide.2 (by omega), h2⟩)
  go_upto_region 10 with (go_at_call 16; (with_reducible refine HF2.out.mono ?_); rintro e w9 ⟨rfl, hb9⟩)
  have HX9 := Lib.hid (HX8.out.under hb9)
  clear hb9 HX8 HF2
  have hfin : Below N0 w w9 := HN1.out.1.trans (HX9.out.below.mono HN1.out.2)
  have HFN := Lib.hid hfin
  clear hfin
  cases bg with
  | true =>
    have hg : g ≤ 30 := of_decide_eq_true hbg
    cases bl with
    | true =>
      have hl : l ≤ 30 := of_decide_eq_true hbl
      clear hbg hbl
      go_wp2
      go_ret
      exact ⟨rfl, HFN.out⟩
    | false =>
      have hl : ¬ l ≤ 30 := of_decide_eq_false hbl
      clear hbg hbl
      go_wp2
      go_ret
      exact ⟨rfl, HFN.out⟩
  | false =>
    have hg : ¬ g ≤ 30 := of_decide_eq_false hbg
    cases bl with
    | true =>
      have hl : l ≤ 30 := of_decide_eq_true hbl
      clear hbg hbl
      go_wp2
      go_ret
      exact ⟨rfl, HFN.out⟩
    | false =>
      have hl : ¬ l ≤ 30 := of_decide_eq_false hbl
      clear hbg hbl
      go_wp2
      go_ret
      exact ⟨rfl, HFN.out⟩
end Go.Proofs.Yteloaidnfcmadaa
