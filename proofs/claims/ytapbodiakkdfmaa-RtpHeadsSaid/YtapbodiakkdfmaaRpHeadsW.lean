/- RtpHeads walked. -/
import Derived.Test.YtapbodiakkdfmaaRpY
import Derived.Test.YtapbodiakkdfmaaRpZ
import Derived.Test.YtapbodiakkdfmaaRpG
namespace Go.Proofs.Ytapbodiakkdfmaa
open Go.RowKit
set_option linter.unusedVariables false
set_option linter.unusedSimpArgs false

set_option maxHeartbeats 3200000 in
set_option maxRecDepth 100000 in
theorem heads_walk (vb : Value) (xs : List Int) (M : Array Value) (X : PkX) (id : Int) (W : World) (hv : V8 W W.heap.size vb xs) (hx : ∀ i, 0 ≤ xs.getD i 0 ∧ xs.getD i 0 < 256) (hl : xs.length ≤ 140737488351232) (hM : InPk W M X) (hw : (Lit.int .i64 id).wf = true) :
    Calls Try.prog 3 #[vb, .agg M, .int .i64 id] W fun e w' => e = .returned (.bool true) ∧ Below W.heap.size W w' := by
  obtain ⟨A, c, rfl, h1, h2, h3, h4⟩ := hv
  obtain ⟨n, hn⟩ : ∃ n, xs.length = n := ⟨_, rfl⟩
  have HAW : Hid (∀ w, Calls Try.prog 5 #[] w fun e w' => e = .returned (.bool true) ∧ Below w.heap.size w w') := Lib.hid fun w => awake12_yes w
  obtain ⟨p, q, hpq⟩ : ∃ p q, hdV xs = (p, q) := ⟨_, _, rfl⟩
  have HH : Hid (∀ w, Below W.heap.size W w → Calls Try.prog 6 #[.slice A n c] w fun e w' => e = .returned (.tuple #[.int .i64 p, .int .i64 q]) ∧ Below w.heap.size w w') := Lib.hid fun w hb => by
    have := head_any A c xs W.heap.size w (h4.below hb) hx (by omega)
    rwa [hpq, hn] at this
  have HR : Hid (∀ w, Below W.heap.size W w → Calls Try.prog 7 #[.slice A n c] w fun e w' => e = .returned (.tuple #[.int .i64 p, .int .i64 q]) ∧ Below w.heap.size w w') := Lib.hid fun w hb => by
    have := rhead_any A c xs W.heap.size w (h4.below hb) hx (by omega)
    rwa [hpq, hn] at this
  have inb : ∀ w, Below W.heap.size W w → InPk w M X := fun w hb =>
    ⟨hM.form, fun h0 => by obtain ⟨ad, e1, e2, e3⟩ := (hM.us.below hb) h0; exact ⟨ad, e1, Nat.lt_of_lt_of_le e2 hb.size, e3⟩, hM.fits5, hM.most5, hM.none5, hM.len5, (hM.xs.below hb).more hb.size, hM.fits6, hM.most6, hM.none6, hM.len6, hM.vals6, hM.byt6, (hM.ys.below hb).more hb.size, hM.len7⟩
  have HT : Hid (∀ w, Below W.heap.size W w → Calls Try.prog 9 #[.agg M] w fun e w' => TheirsO X w e w') := Lib.hid fun w hb => theirs12_any M X w (inb w hb)
  have HRF : Hid (∀ w, Below W.heap.size W w → Calls Try.prog 10 #[.agg M, .int .i64 id] w fun e w' => FindO X.xs id w e w') := Lib.hid fun w hb => by
    have hf := hM.form
    have := rfind_any X.mr X.ty X.sq X.ti X.so X.pad id (.slice X.A5 X.us.length X.c5) (.slice X.A7 X.ys.length X.c7) X.A6 X.c6 X.xs w ((hM.xs.below hb).more hb.size) hM.len6 hM.vals6
    rwa [← hf] at this
  have HF : Hid (∀ w C P A' c', AtX w w.heap.size A' X.xs → Calls Try.prog 8 #[.agg (pk X.mr X.ty X.sq X.ti X.so C (.slice A' X.xs.length c') P X.pad), .int .i64 id] w fun e w' => FindO X.xs id w e w') := Lib.hid fun w C P A' c' h => find_any X.mr X.ty X.sq X.ti X.so X.pad id C P A' c' X.xs w h hM.len6 hM.vals6
  have hMs : M.size = 9 := by rw [hM.form]; rfl
  rw [hn]
  have hg := Whole.new W 28 M
  have hb0 := (Below.refl W.heap.size W).alloc (Nat.le_refl _) (.cells M 28)
  have H0 := Lib.hid (And.intro hg hb0)
  obtain ⟨fb, hfb⟩ : ∃ b, (findX X.xs id).isSome = b := ⟨_, rfl⟩
  obtain ⟨fl, hfl⟩ : ∃ b, (findX X.xs id).getD [] = b := ⟨_, rfl⟩
  have HFX := Lib.hid (And.intro hfb hfl)
  clear h1 h2 h3 h4 hx hl hn hM hpq hg hb0 inb hw hfb hfl
  go_enter Try.func3, Try.ntmps3
  go_upto_region 1 with fail
  generalize hW0 : W.alloc (.cells M 28) = W0 at *
  clear hW0
  go_upto_region 3 with (go_at_call 5; (with_reducible refine (HAW.out _).mono ?_); rintro e w1 ⟨rfl, hb1⟩)
  have k1 : Below W.heap.size W w1 := H0.out.2.trans (hb1.mono H0.out.2.size)
  have g1 := H0.out.1.under hb1
  clear hb1
  go_upto_region 4 with (go_at_call 6; (with_reducible refine (HH.out _ k1).mono ?_); rintro e w2 ⟨rfl, hb2⟩)
  have k2 : Below W.heap.size W w2 := k1.trans (hb2.mono k1.size)
  have g2 := g1.under hb2
  clear hb2 k1 g1
  go_upto_region 5 with (go_at_call 7; (with_reducible refine (HR.out _ k2).mono ?_); rintro e w3 ⟨rfl, hb3⟩)
  have k3 : Below W.heap.size W w3 := k2.trans (hb3.mono k2.size)
  have g3 := g2.under hb3
  clear hb3 k2 g2
  go_upto_region 6 with (first
    | (refine wpList_load_all rfl 28 (.tmp 4) rfl g3 rfl Try.sizeRPk hMs Try.underlying28 rfl ?_)
    | (go_at_call 9; (with_reducible refine (HT.out _ k3).mono ?_); rintro e w4 ⟨C4, P4, A4, c4, rfl, ht4, -, -, -, -, -, hb4⟩)
    | (go_at_call 8; (with_reducible refine (HF.out _ _ _ _ _ ht4).mono ?_); rintro e w5 ⟨v5, rfl, hv5, hb5⟩))
  have hb35 : Below w3.heap.size w3 w5 := hb4.trans (hb5.mono hb4.size)
  have k5 : Below W.heap.size W w5 := k3.trans (hb35.mono k3.size)
  have g5 := g3.under hb35
  rw [HFX.out.1]
  rw [HFX.out.2] at hv5
  clear hb35 hb4 hb5 k3 g3 ht4
  obtain ⟨A5, c5, hv5e, -, -, n5, s5⟩ := hv5
  obtain ⟨l, hl⟩ : ∃ l, fl.length = l := ⟨_, rfl⟩
  rw [hl] at hv5e s5
  subst hv5e
  have HV5 := Lib.hid (And.intro n5 s5)
  clear n5 s5
  go_upto_region 7 with (first
    | (refine wpList_load_all rfl 28 (.tmp 4) rfl g5 rfl Try.sizeRPk hMs Try.underlying28 rfl ?_)
    | (go_at_call 10; (with_reducible refine (HRF.out _ k5).mono ?_); rintro e w6 ⟨v6, rfl, hv6, hb6⟩; rw [HFX.out.2] at hv6; rw [HFX.out.1]; obtain ⟨A6, c6, hv6e, -, -, n6, s6⟩ := hv6; rw [hl] at hv6e s6; subst hv6e))
  have k6 : Below W.heap.size W w6 := k5.trans (hb6.mono k5.size)
  have q1 := conv_text (c := c5) (HV5.out.2.below hb6) HV5.out.1
  have q2 := conv_text (c := c6) s6 n6
  have HK := Lib.hid k6
  clear k5 g5 hb6 n6 s6 k6 hl
  go_wp2
  go_ret
  exact ⟨rfl, HK.out⟩
end Go.Proofs.Ytapbodiakkdfmaa
