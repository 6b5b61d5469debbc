/- The program's Write: the part of a section, or a refusal. -/
import Derived.Test.YtmlapbadgjhhdaaGreatDoorAtAttrs
namespace Go.Proofs.YtmlapbadgjhhdaaGreatDoor
open Go.RowKit
set_option linter.unusedVariables false
set_option linter.unusedSimpArgs false

/-- What Write answers; E: the type of its attributes. -/
def WriteO (E : TypeId) (w : World) (m : MediaS) (e : Ending) (w' : World) : Prop :=
  ∃ P : Array Value, e = .returned (.tuple #[.agg P, .int .i64 (if mayM m = true then 0 else 1)]) ∧ Below w.heap.size w w' ∧
    (mayM m = true → ∃ v, P = #[.string (bs (lineM m)), .string (bs wConn), v] ∧ Own w' w.heap.size E 2 v ((attrsM m).map acell)) ∧ (mayM m = false → P = #[.string ⟨#[]⟩, .string ⟨#[]⟩, .slice none 0 0])
theorem WriteO.no {E : TypeId} {w w' : World} {m : MediaS} (h : mayM m = false) (hb : Below w.heap.size w w') : WriteO E w m (.returned (.tuple #[.agg #[.string ⟨#[]⟩, .string ⟨#[]⟩, .slice none 0 0], .int .i64 1])) w' :=
  ⟨_, by rw [if_neg (by rw [h]; decide)], hb, fun e => (by rw [h] at e; cases e), fun _ => rfl⟩
theorem WriteO.yes {E : TypeId} {w w' : World} {m : MediaS} {v : Value} {s : ByteArray} (h : mayM m = true) (hb : Below w.heap.size w w') (hs : s = bs (lineM m)) (ho : Own w' w.heap.size E 2 v ((attrsM m).map acell)) :
    WriteO E w m (.returned (.tuple #[.agg #[.string s, .string (bs wConn), v], .int .i64 0])) w' :=
  ⟨_, by rw [if_pos h], hb, fun _ => ⟨v, by rw [hs], ho⟩, fun e => (by rw [h] at e; cases e)⟩
theorem mayM_no {m : MediaS} (h : goodM m = false) : mayM m = false := by unfold mayM; rw [h]; rfl
set_option maxHeartbeats 6400000 in
set_option maxRecDepth 100000 in
theorem write_any (M : Array Value) (m : MediaS) (vC vE vR vS vY : Value) (w : World) (h : MediaV w w.heap.size M m vC vE vR vS vY) (hz : SizM m) (hE : Env w) (h7 : 7 ≤ w.heap.size) :
    Calls Tryz.prog 10 #[.agg M] w (WriteO 53 w m) := by
  have hb0 : Below w.heap.size w ((w.alloc (.cells M 28)).alloc (.cells #[.string ⟨#[]⟩, .string ⟨#[]⟩, .slice none 0 0] 38)) := two_new _ _ _ _
  have hw := (Whole.new w 28 M).alloc (.cells #[.string ⟨#[]⟩, .string ⟨#[]⟩, .slice none 0 0] 38)
  have hr := Whole.new2 w (.cells M 28) 38 #[.string ⟨#[]⟩, .string ⟨#[]⟩, .slice none 0 0]
  have HSZ := Lib.hid h.size
  have H0 := Lib.hid (And.intro hb0 (And.intro hw hr))
  have HM := Lib.hid h
  have HZ := Lib.hid hz
  have HEN := Lib.hid hE
  clear h hz hE hb0 hw hr
  obtain ⟨N, hN⟩ : ∃ N, w.heap.size = N := ⟨_, rfl⟩
  have HNW : Hid (w.heap.size = N) := Lib.hid hN
  have H7 : Hid (7 ≤ N) := Lib.hid (by omega)
  rw [hN] at H0
  clear hN h7
  go_enter Tryz.func10, Tryz.ntmps10
  go_upto_region 1 with fail
  simp only [HNW.out]
  generalize (w.alloc (.cells M 28)).alloc (.cells #[.string ⟨#[]⟩, .string ⟨#[]⟩, .slice none 0 0] 38) = W0 at *
  have HU : Hid (∀ W, Below N w W → MediaV W W.heap.size M m vC vE vR vS vY ∧ Env W ∧ 7 ≤ W.heap.size) := Lib.hid fun W hW => by
    rw [← HNW.out] at hW
    have h1 := hW.size
    exact ⟨HM.out.under hW, HEN.out.under hW, by have := H7.out; rw [← HNW.out] at this; omega⟩
  have HGO : Hid (Calls Tryz.prog 13 #[.agg M] W0 fun e w' => e = .returned (.bool (goodM m)) ∧ Below W0.heap.size W0 w') := Lib.hid (good_any M m vC vE vR vS vY W0 (HU.out _ H0.out.1).1 HZ.out)
  have HST : Hid (∀ W W', Below N w W ∧ Whole W N 28 M ∧ Whole W (N + 1) 38 #[.string ⟨#[]⟩, .string ⟨#[]⟩, .slice none 0 0] → Below W.heap.size W W' → Below N w W' ∧ Whole W' N 28 M ∧ Whole W' (N + 1) 38 #[.string ⟨#[]⟩, .string ⟨#[]⟩, .slice none 0 0]) := Lib.hid fun W W' h hb => ⟨h.1.trans (hb.mono (by rw [← HNW.out]; have := h.1.size; rw [HNW.out] at this ⊢; exact this)), h.2.1.under hb, h.2.2.under hb⟩
  cases hg : goodM m with
  | false =>
    have HNO := Lib.hid (mayM_no hg)
    rw [hg] at HGO
    clear hg
    go_wp2_with (first
      | ((with_reducible refine wpList_load_all ?_ 28 (.tmp 1) ?_ H0.out.2.1 ?_ Tryz.sizeMedia HSZ.out Tryz.underlying28 ?_ ?_); (with_reducible rfl); (with_reducible rfl); rfl; rfl)
      | (go_at_call 13; (with_reducible refine HGO.out.mono ?_); rintro e w1 ⟨rfl, hb1⟩; have H1 := Lib.hid (HST.out _ _ H0.out hb1); clear hb1)
      | ((with_reducible refine wpList_storeS #[.string ⟨#[]⟩, .string ⟨#[]⟩, .slice none 0 0] ?_ 38 (.tmp 2) (.tmp 8) ?_ ?_ ?_ H1.out.2.2 Tryz.sizeSPart ?_ ?_ ?_ ?_); (with_reducible rfl); (with_reducible rfl); rfl; rfl; rfl; rfl; rfl))
    refine bodyPost_ret (v := .tuple #[.agg #[.string ⟨#[]⟩, .string ⟨#[]⟩, .slice none 0 0], .int .i64 1]) ?_ rfl ?_
    · exact ret_struct2 (p := 2) (s := 3) rfl rfl (H1.out.2.2.row _) Tryz.underlying38 rfl Tryz.sizeSPart rfl
    · exact WriteO.no HNO.out (by rw [HNW.out]; exact below_row H1.out.1 (by omega) _)
  | true =>
    obtain ⟨hp, hmd, ⟨hd0, hd3⟩, hk, hs⟩ := goodM_parts hg
    have HK : Hid ((1 ≤ m.kind ∧ m.kind ≤ 3) ∧ (0 ≤ m.port ∧ m.port ≤ 9) ∧ ∀ c ∈ m.codecs, 0 ≤ c.type ∧ c.type ≤ 127) := Lib.hid ⟨by omega, by omega, fun c hc => (goodC_parts (hs.codecs c hc)).1⟩
    have HG := Lib.hid hg
    have HAT : Hid (∀ W, Below N w W → Calls Tryz.prog 23 #[.agg M] W fun e w' => ∃ v, e = .returned v ∧ AtO w' W.heap.size v (attrsM m) ∧ Below W.heap.size W w') := Lib.hid fun W hW => attributes_any M m vC vE vR vS vY W (HU.out W hW).1 HZ.out (HU.out W hW).2.1 (HU.out W hW).2.2 HG.out
    have HLI : Hid (∀ W, Below N w W → Calls Tryz.prog 24 #[.agg M] W fun e w' => e = .returned (.string (bs (lineM m))) ∧ Below W.heap.size W w') := Lib.hid fun W hW => line_any M m vC vE vR vS vY W (HU.out W hW).1 HZ.out (HU.out W hW).2.1 HK.out.1 HK.out.2.1 HK.out.2.2
    rw [hg] at HGO
    clear hg hp hmd hd0 hd3 hk hs HK
    go_upto_region 3 with (first
      | ((with_reducible refine wpList_load_all ?_ 28 (.tmp 1) ?_ H0.out.2.1 ?_ Tryz.sizeMedia HSZ.out Tryz.underlying28 ?_ ?_); (with_reducible rfl); (with_reducible rfl); rfl; rfl)
      | (go_at_call 13; (with_reducible refine HGO.out.mono ?_); rintro e w1 ⟨rfl, hb1⟩; have H1 := Lib.hid (HST.out _ _ H0.out hb1); clear hb1))
    go_upto_region 4 with (first
      | ((with_reducible refine wpList_load_all ?_ 28 (.tmp 1) ?_ H1.out.2.1 ?_ Tryz.sizeMedia HSZ.out Tryz.underlying28 ?_ ?_); (with_reducible rfl); (with_reducible rfl); rfl; rfl)
      | (go_at_call 23; (with_reducible refine (HAT.out _ H1.out.1).mono ?_); rintro e w2 ⟨v2, rfl, ho2, hb2⟩; have H2 := Lib.hid (HST.out _ _ H1.out hb2); have HO2 : Hid (AtO w2 N v2 (attrsM m)) := Lib.hid (Own.base_le ho2 (by have := H1.out.1.size; rw [HNW.out] at this; exact this)); clear hb2 ho2))
    obtain ⟨A2, c2, hv2, -⟩ := Own.form HO2.out
    rw [List.length_map] at hv2
    obtain ⟨n, hn⟩ : ∃ n, (attrsM m).length = n := ⟨_, rfl⟩
    rw [hn] at hv2
    subst hv2
    by_cases h64 : 64 < n
    · have HNO : Hid (mayM m = false) := Lib.hid (by unfold mayM; rw [HG.out, hn]; simp; omega)
      have h64 : (64 : Int) < (n : Int) := by omega
      clear hn
      go_wp2_with ((with_reducible refine wpList_storeS #[.string ⟨#[]⟩, .string ⟨#[]⟩, .slice none 0 0] ?_ 38 (.tmp 2) (.tmp 14) ?_ ?_ ?_ H2.out.2.2 Tryz.sizeSPart ?_ ?_ ?_ ?_); (with_reducible rfl); (with_reducible rfl); rfl; rfl; rfl; rfl; rfl)
      refine bodyPost_ret (v := .tuple #[.agg #[.string ⟨#[]⟩, .string ⟨#[]⟩, .slice none 0 0], .int .i64 1]) ?_ rfl ?_
      · exact ret_struct2 (p := 2) (s := 3) rfl rfl (H2.out.2.2.row _) Tryz.underlying38 rfl Tryz.sizeSPart rfl
      · exact WriteO.no HNO.out (by rw [HNW.out]; exact below_row H2.out.1 (by omega) _)
    · have HYE : Hid (mayM m = true) := Lib.hid (by unfold mayM; rw [HG.out, hn]; simp; omega)
      have h64 : (n : Int) ≤ (64 : Int) := by omega
      obtain ⟨sl, hsl⟩ : ∃ s, bs (lineM m) = s := ⟨_, rfl⟩
      have HSL := Lib.hid hsl
      rw [hsl] at HLI
      clear hn hsl
      go_wp2_with (first
        | ((with_reducible refine wpList_load_all ?_ 28 (.tmp 1) ?_ H2.out.2.1 ?_ Tryz.sizeMedia HSZ.out Tryz.underlying28 ?_ ?_); (with_reducible rfl); (with_reducible rfl); rfl; rfl)
        | (go_at_call 24; (with_reducible refine (HLI.out _ H2.out.1).mono ?_); rintro e w3 ⟨rfl, hb3⟩; have H3 := Lib.hid (HST.out _ _ H2.out hb3); have HO3 := Lib.hid (HO2.out.under hb3); clear hb3)
        | ((with_reducible refine wpList_storeS #[.string sl, .string ⟨#[73, 78, 32, 73, 80, 52, 32, 48, 46, 48, 46, 48, 46, 48]⟩, .slice A2 n c2] ?_ 38 (.tmp 2) (.tmp 18) ?_ ?_ ?_ H3.out.2.2 Tryz.sizeSPart ?_ ?_ ?_ ?_); (with_reducible rfl); (with_reducible rfl); rfl; rfl; rfl; rfl; rfl))
      refine bodyPost_ret (v := .tuple #[.agg #[.string sl, .string ⟨#[73, 78, 32, 73, 80, 52, 32, 48, 46, 48, 46, 48, 46, 48]⟩, .slice A2 n c2], .int .i64 0]) ?_ rfl ?_
      · exact ret_struct2 (p := 2) (s := 3) rfl rfl (H3.out.2.2.row _) Tryz.underlying38 rfl Tryz.sizeSPart rfl
      · exact WriteO.yes HYE.out (by rw [HNW.out]; exact below_row H3.out.1 (by omega) _) HSL.out.symm (by rw [HNW.out]; exact Own.farRow HO3.out (Own.apart HO3.out H3.out.2.2 (by decide)) _)
end Go.Proofs.YtmlapbadgjhhdaaGreatDoor
