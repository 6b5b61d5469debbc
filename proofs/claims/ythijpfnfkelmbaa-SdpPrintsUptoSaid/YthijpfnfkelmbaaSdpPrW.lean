/- SdpPrints: the law's walk. -/
import Derived.Test.YthijpfnfkelmbaaSdpU3
namespace Go.Proofs.Ythijpfnfkelmbaa
open Go.RowKit
set_option linter.unusedVariables false
set_option linter.unusedSimpArgs false

theorem PrO.one {x : SesS} {t u : ByteArray} {er f : Int} (h : PrO x t er) (h' : PrO x u f) : u = t ∧ f = er := by
  rcases h with ⟨h1, h2, h3⟩ | ⟨h1, h2, h3⟩
  · rcases h' with ⟨g1, g2, g3⟩ | ⟨g1, g2, g3⟩
    · exact ⟨tx_inj (by rw [h3, g3]), by rw [h2, g2]⟩
    · exact (g1 h1).elim
  · rcases h' with ⟨g1, g2, g3⟩ | ⟨g1, g2, g3⟩
    · exact (h1 g1).elim
    · exact ⟨by rw [h3, g3], by rw [h2, g2]⟩
set_option maxHeartbeats 3200000 in
set_option maxRecDepth 100000 in
theorem sprints_any (X : Array Value) (x : SesS) (a1 p1 : Value) (w : World) (hm : MaxL w) (h : SesV w w.heap.size X x a1 p1) (hz : SizS x) (hf : Fits x) (hl : (textS x).length ≤ 1099511627776) :
    Calls Try.prog 4 #[.agg X] w fun e w' => e = .returned (.bool true) ∧ Below w.heap.size w w' := by
  obtain ⟨e1, va1, vp1⟩ := h
  subst e1
  obtain ⟨A, k1, rfl, -⟩ := va1.form
  obtain ⟨P, j1, rfl, hj1, hm1, -⟩ := vp1.form
  obtain ⟨n1, hn1⟩ : ∃ n, x.attrs.length = n := ⟨_, rfl⟩
  obtain ⟨n, hn⟩ : ∃ n, x.parts.length = n := ⟨_, rfl⟩
  rw [hn1] at va1
  rw [hn] at vp1 hj1
  rw [hn1, hn]
  have hb : Below w.heap.size w (w.alloc (.cells #[.string x.origin, .string x.name, .string x.time, .slice A n1 k1, .slice P n j1] 26)) := (Below.refl _ w).alloc (Nat.le_refl _) _
  have g1 := Whole.new w 26 #[.string x.origin, .string x.name, .string x.time, .slice A n1 k1, .slice P n j1]
  have va := (va1.below hb).more hb.size
  have vp := (vp1.below hb).more hb.size
  have HM0 := Lib.hid (hm.under hb)
  have HZ := Lib.hid hz
  have HF := Lib.hid hf
  have HL := Lib.hid hl
  clear hn1 hn va1 vp1 hz hf hm hl
  obtain ⟨B, hB⟩ : ∃ B, w.heap.size = B := ⟨_, rfl⟩
  have HBE := Lib.hid hB
  go_enter Try.func4, Try.ntmps4
  go_upto_region 1 with fail
  rw [hB] at g1
  generalize hw0 : w.alloc (.cells #[.string x.origin, .string x.name, .string x.time, .slice A n1 k1, .slice P n j1] 26) = w0 at *
  try rw [hB]
  clear hw0 hB
  have HAW := Lib.hid (awake_any w0 HM0.out)
  have H0 := Lib.hid (And.intro hb (And.intro g1 (And.intro va vp)))
  clear hb g1 va vp
  go_upto_region 5 with (first
    | (go_at_call 8; (with_reducible refine HAW.out.mono ?_); rintro e w2 ⟨rfl, hb2⟩; have H2 : Hid (Below w.heap.size w w2 ∧ Whole w2 B 26 #[.string x.origin, .string x.name, .string x.time, .slice A n1 k1, .slice P n j1] ∧ AttrsV w2 w2.heap.size (.slice A n1 k1) x.attrs ∧ PartsV w2 w2.heap.size (.slice P n j1) x.parts) := Lib.hid ⟨H0.out.1.trans (hb2.mono H0.out.1.size), H0.out.2.1.under hb2, (H0.out.2.2.1.below hb2).more hb2.size, (H0.out.2.2.2.below hb2).more hb2.size⟩; have HRP : Hid (Calls Try.prog 13 #[.agg #[.string x.origin, .string x.name, .string x.time, .slice A n1 k1, .slice P n j1]] w2 (PrintO w2 x)) := Lib.hid (rPrint_any _ x _ _ w2 ⟨rfl, H2.out.2.2.1, H2.out.2.2.2⟩ HL.out); clear hb2)
    | ((with_reducible refine wpList_load_all ?_ 26 (.tmp 1) ?_ H3.out.2.1 ?_ Try.sizeRsSes ?_ Try.underlying26 ?_ ?_); (with_reducible rfl); (with_reducible rfl); rfl; rfl; rfl)
    | ((with_reducible refine wpList_load_all ?_ 26 (.tmp 1) ?_ H2.out.2.1 ?_ Try.sizeRsSes ?_ Try.underlying26 ?_ ?_); (with_reducible rfl); (with_reducible rfl); rfl; rfl; rfl)
    | (go_at_call 13; (with_reducible refine HRP.out.mono ?_); rintro e w3 ⟨t, er, rfl, hpr, hb3⟩; have H3 : Hid (Below w.heap.size w w3 ∧ Whole w3 B 26 #[.string x.origin, .string x.name, .string x.time, .slice A n1 k1, .slice P n j1] ∧ PrO x t er ∧ Calls Try.prog 15 #[.agg #[.string x.origin, .string x.name, .string x.time, .slice A n1 k1, .slice P n j1]] w3 (CopyO w3 x)) := Lib.hid ⟨H2.out.1.trans (hb3.mono H2.out.1.size), H2.out.2.1.under hb3, hpr, theirs_any _ x _ _ w3 ⟨rfl, (H2.out.2.2.1.below hb3).more hb3.size, (H2.out.2.2.2.below hb3).more hb3.size⟩ HF.out⟩; clear hpr hb3)
    | (go_at_call 15; (with_reducible refine H3.out.2.2.2.mono ?_); rintro e w4 ⟨Y, uA, uP, rfl, hY, hb4⟩; have H4 := Lib.hid (And.intro (H3.out.1.trans (hb4.mono H3.out.1.size)) (print_any Y x uA uP w4 hY HZ.out)); clear hY hb4)
    | (go_at_call 14; (with_reducible refine H4.out.2.mono ?_); rintro e w5 ⟨u, f, rfl, hpu, hb5⟩; obtain ⟨hu, hf5⟩ := PrO.one H3.out.2.2.1 hpu; subst hu hf5; have HB5 := Lib.hid (H4.out.1.trans (hb5.mono H4.out.1.size)); clear hpu hb5))
  have hq1 : (u.toList == u.toList) = true := by simp
  have hq2 : (f == f) = true := by simp
  go_wp2
  go_ret
  exact ⟨rfl, HB5.out⟩
end Go.Proofs.Ythijpfnfkelmbaa
