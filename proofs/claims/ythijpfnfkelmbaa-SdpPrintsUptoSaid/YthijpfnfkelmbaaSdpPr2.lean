/- valid: may all that stands in a description stand in lines. -/
import Derived.Test.YthijpfnfkelmbaaSdpPr1
namespace Go.Proofs.Ythijpfnfkelmbaa
open Go.RowKit
set_option linter.unusedVariables false
set_option linter.unusedSimpArgs false

theorem all_bad {L : List PartS} {k : Nat} {p : PartS} (h : L[k]? = some p) (ha : okP p = false) : L.all okP = false := by
  rw [List.all_eq_false]
  exact ⟨p, List.mem_of_getElem? h, by rw [ha]; decide⟩
theorem all_yes {L : List PartS} (ha : ∀ (j : Nat) (p : PartS), L[j]? = some p → okP p = true) : L.all okP = true := by
  rw [List.all_eq_true]
  intro p hm
  obtain ⟨j, hj⟩ := List.getElem?_of_mem hm
  exact ha j p hj
set_option maxHeartbeats 3200000 in
set_option maxRecDepth 100000 in
theorem valid_any (X : Array Value) (x : SesS) (a1 p1 : Value) (w : World) (h : SesV w w.heap.size X x a1 p1) (hz : SizS x) : Calls Try.prog 30 #[.agg X] w fun e w' => e = .returned (.bool (okS x)) ∧ Below w.heap.size w w' := by
  obtain ⟨e1, va1, vp1⟩ := h
  subst e1
  obtain ⟨A, k1, rfl, -⟩ := va1.form
  obtain ⟨P, j1, rfl, hj1, hm1, -⟩ := vp1.form
  obtain ⟨n1, hn1⟩ : ∃ n, x.attrs.length = n := ⟨_, rfl⟩
  obtain ⟨n, hn⟩ : ∃ n, x.parts.length = n := ⟨_, rfl⟩
  rw [hn1] at va1
  rw [hn] at vp1 hj1
  rw [hn1, hn]
  unfold maxLen at hm1
  have hb : Below w.heap.size w (w.alloc (.cells #[.string x.origin, .string x.name, .string x.time, .slice A n1 k1, .slice P n j1] 33)) := (Below.refl _ w).alloc (Nat.le_refl _) _
  have g1 := Whole.new w 33 #[.string x.origin, .string x.name, .string x.time, .slice A n1 k1, .slice P n j1]
  have va := (va1.below hb).more hb.size
  have vp := (vp1.below hb).more hb.size
  have HNN := Lib.hid hn
  have HZ := Lib.hid hz
  obtain ⟨b1, hb1⟩ : ∃ b, valP (tx x.origin) = b := ⟨_, rfl⟩
  obtain ⟨b2, hb2⟩ : ∃ b, valP (tx x.name) = b := ⟨_, rfl⟩
  obtain ⟨b3, hb3⟩ : ∃ b, valP (tx x.time) = b := ⟨_, rfl⟩
  obtain ⟨b4, hb4⟩ : ∃ b, okA x.attrs = b := ⟨_, rfl⟩
  have HOK : Hid (okS x = (b1 && b2 && b3 && b4 && decide (n ≤ 8) && x.parts.all okP)) := Lib.hid (by unfold okS; rw [hb1, hb2, hb3, hb4, hn])
  have HV1 : Hid (∀ W, Calls Try.prog 23 #[.string x.origin] W fun e w' => e = .returned (.bool b1) ∧ W = w') := Lib.hid fun W => by rw [← hb1]; exact value_any _ W (by have := hz.1.1; unfold maxLen; omega)
  have HV2 : Hid (∀ W, Calls Try.prog 23 #[.string x.name] W fun e w' => e = .returned (.bool b2) ∧ W = w') := Lib.hid fun W => by rw [← hb2]; exact value_any _ W (by have := hz.1.2.1; unfold maxLen; omega)
  have HV3 : Hid (∀ W, Calls Try.prog 23 #[.string x.time] W fun e w' => e = .returned (.bool b3) ∧ W = w') := Lib.hid fun W => by rw [← hb3]; exact value_any _ W (by have := hz.1.2.2; unfold maxLen; omega)
  clear hn1 hn va1 vp1 hz hb1 hb2 hb3
  obtain ⟨B, hB⟩ : ∃ B, w.heap.size = B := ⟨_, rfl⟩
  have HBE := Lib.hid hB
  go_enter Try.func30, Try.ntmps30
  go_upto_region 1 with fail
  rw [hB] at g1 hb
  generalize hw0 : w.alloc (.cells #[.string x.origin, .string x.name, .string x.time, .slice A n1 k1, .slice P n j1] 33) = w0 at *

  have HB0 := Lib.hid (And.intro (by rw [hB]; exact hb : Below w.heap.size w w0) True.intro)
  clear hw0 hB
  obtain ⟨N, hN⟩ : ∃ N, w0.heap.size = N := ⟨_, rfl⟩
  have HN := Lib.hid hN
  rw [hN] at va vp
  have hBN : B < N := by rw [← hN]; exact g1.lt
  have HBN := Lib.hid hBN
  have c0 := g1.cell 0
  have c1 := g1.cell 1
  have c2 := g1.cell 2
  have c3 := g1.cell 3
  have c4 := g1.cell 4
  simp only [List.getElem?_toArray, List.getElem?_cons_zero, List.getElem?_cons_succ] at c0 c1 c2 c3 c4
  have HVA : Hid (Calls Try.prog 42 #[.slice A n1 k1] w0 fun e w' => e = .returned (.bool b4) ∧ Below w0.heap.size w0 w') := Lib.hid (by rw [← hb4]; exact validAttrs_any _ x.attrs w0 (va.more (by rw [hN]; exact Nat.le_refl _)) HZ.out.2.1)
  have HVP := Lib.hid vp
  have HG1 := Lib.hid g1
  clear va vp hN hBN hb hb4 g1
  cases b1 with
  | false =>
    have HR : Hid (false = okS x) := Lib.hid (by rw [HOK.out]; simp)
    go_wp2_with (go_at_call 23; (with_reducible refine (HV1.out _).mono ?_); rintro e w' ⟨rfl, rfl⟩)
    go_ret
    exact ⟨ret_bool HR.out, HB0.out.1⟩
  | true =>
  cases b2 with
  | false =>
    have HR : Hid (false = okS x) := Lib.hid (by rw [HOK.out]; simp)
    go_wp2_with (first | (go_at_call 23; (with_reducible refine (HV1.out _).mono ?_); rintro e w' ⟨rfl, rfl⟩) | (go_at_call 23; (with_reducible refine (HV2.out _).mono ?_); rintro e w' ⟨rfl, rfl⟩))
    go_ret
    exact ⟨ret_bool HR.out, HB0.out.1⟩
  | true =>
  cases b3 with
  | false =>
    have HR : Hid (false = okS x) := Lib.hid (by rw [HOK.out]; simp)
    go_wp2_with (first | (go_at_call 23; (with_reducible refine (HV1.out _).mono ?_); rintro e w' ⟨rfl, rfl⟩) | (go_at_call 23; (with_reducible refine (HV2.out _).mono ?_); rintro e w' ⟨rfl, rfl⟩) | (go_at_call 23; (with_reducible refine (HV3.out _).mono ?_); rintro e w' ⟨rfl, rfl⟩))
    go_ret
    exact ⟨ret_bool HR.out, HB0.out.1⟩
  | true =>
  cases b4 with
  | false =>
    have HR : Hid (false = okS x) := Lib.hid (by rw [HOK.out]; simp)
    go_wp2_with (first | (go_at_call 23; (with_reducible refine (HV1.out _).mono ?_); rintro e w' ⟨rfl, rfl⟩) | (go_at_call 23; (with_reducible refine (HV2.out _).mono ?_); rintro e w' ⟨rfl, rfl⟩) | (go_at_call 23; (with_reducible refine (HV3.out _).mono ?_); rintro e w' ⟨rfl, rfl⟩) | (go_at_call 42; (with_reducible refine HVA.out.mono ?_); rintro e w5 ⟨rfl, hb5⟩))
    go_ret
    exact ⟨ret_bool HR.out, HB0.out.1.trans (hb5.mono HB0.out.1.size)⟩
  | true =>
  by_cases h8 : 8 < n
  · have h8' : (8 : Int) < (n : Int) := by omega
    have HR : Hid (false = okS x) := Lib.hid (by rw [HOK.out]; have : decide (n ≤ 8) = false := decide_eq_false (by omega); rw [this]; simp)
    clear h8
    go_wp2_with (first | (go_at_call 23; (with_reducible refine (HV1.out _).mono ?_); rintro e w' ⟨rfl, rfl⟩) | (go_at_call 23; (with_reducible refine (HV2.out _).mono ?_); rintro e w' ⟨rfl, rfl⟩) | (go_at_call 23; (with_reducible refine (HV3.out _).mono ?_); rintro e w' ⟨rfl, rfl⟩) | (go_at_call 42; (with_reducible refine HVA.out.mono ?_); rintro e w5 ⟨rfl, hb5⟩; have c4' := (hb5.cell (p := ⟨B, 4, none⟩) (by show B < _; rw [HN.out]; exact HBN.out)).trans c4))
    go_ret
    exact ⟨ret_bool HR.out, HB0.out.1.trans (hb5.mono HB0.out.1.size)⟩
  have h8' : ¬ (8 : Int) < (n : Int) := by omega
  have h8n : n ≤ 8 := by omega
  have HOK2 : Hid (okS x = x.parts.all okP) := Lib.hid (by rw [HOK.out, decide_eq_true h8n]; simp)
  clear h8 HOK
  go_wp2_with (first | (go_at_call 23; (with_reducible refine (HV1.out _).mono ?_); rintro e w' ⟨rfl, rfl⟩) | (go_at_call 23; (with_reducible refine (HV2.out _).mono ?_); rintro e w' ⟨rfl, rfl⟩) | (go_at_call 23; (with_reducible refine (HV3.out _).mono ?_); rintro e w' ⟨rfl, rfl⟩) | (go_at_call 42; (with_reducible refine HVA.out.mono ?_); rintro e w5 ⟨rfl, hb5⟩; have c4' := (hb5.cell (p := ⟨B, 4, none⟩) (by show B < _; rw [HN.out]; exact HBN.out)).trans c4; have HB5 : Hid (Below N w0 w5) := Lib.hid (by rw [← HN.out]; exact hb5); clear hb5))
  clear c4' c0 c1 c2 c3 c4
  go_loopw [34] (fun s34 wr => ∃ k : Nat, k ≤ n ∧ s34 = .int .i64 k ∧ (∀ (j : Nat) (p : PartS), j < k → x.parts[j]? = some p → okP p = true) ∧ Below N w0 wr) (fun s34 _ => n - (intOf s34).toNat)
  case atStart => exact ⟨0, Nat.zero_le _, rfl, fun j a hj => by omega, HB5.out⟩
  case round =>
    obtain ⟨k, hk, rfl, hsame, hbl⟩ := hrel
    have HS := Lib.hid (And.intro hsame hbl)
    have HFB : Hid (∀ W, Below N w0 W → Below w.heap.size w W) := Lib.hid fun W hW => HB0.out.1.trans (hW.mono (by rw [HBE.out]; have := HBN.out; omega))
    by_cases hlt : k < n
    · obtain ⟨ad, c1', va, e1, b1, x0, x1, xa, xr⟩ := HVP.out.at_ (i := k) (by rw [HNN.out]; exact hlt)
      injection e1 with e1 e1n e1c
      clear e1n e1c
      subst e1
      have gL := getD_of (L := x.parts) (i := k) (by rw [HNN.out]; exact hlt)
      obtain ⟨p, hp⟩ : ∃ p, x.parts.getD k default = p := ⟨_, rfl⟩
      rw [hp] at x0 x1 xr gL
      have x0' := (hbl.cell (p := ad.add (k * 3)) (by rw [add_block]; exact b1)).trans x0
      have x1' := (hbl.cell (p := ⟨(ad.add (k * 3)).block, (ad.add (k * 3)).off + 1, none⟩) (by show (ad.add (k * 3)).block < _; rw [add_block]; exact b1)).trans x1
      have x2' := (hbl.cell (p := ⟨(ad.add (k * 3)).block, (ad.add (k * 3)).off + 2, none⟩) (by show (ad.add (k * 3)).block < _; rw [add_block]; exact b1)).trans xa
      have HG := Lib.hid gL
      have hzp := HZ.out.2.2 k p gL
      have hNr : N ≤ wr.heap.size := by have := hbl.size; rw [HN.out] at this; exact this
      have hal := (hbl.alloc hNr (.cells #[.string ⟨#[]⟩, .string ⟨#[]⟩, .slice none 0 0] 69))
      have HW1 : Hid (Whole (wr.alloc (.cells #[.string ⟨#[]⟩, .string ⟨#[]⟩, .slice none 0 0] 69)) wr.heap.size 69 #[.string ⟨#[]⟩, .string ⟨#[]⟩, .slice none 0 0]) := Lib.hid (Whole.new _ _ _)
      have HB1 := Lib.hid (And.intro hNr hal)
      have hk0 : (0 : Int) ≤ (k : Int) := by omega
      have hk1 : (k : Int) < (n : Int) := by omega
      have e1 : IntKind.i64.wrap ((k : Int) + 1) = (k : Int) + 1 := IntWalk.i64_in _ (by omega)
      obtain ⟨Aq, lq, cq, rfl⟩ : ∃ A l c, va = .slice A l c := by
        obtain ⟨A, c, e, -⟩ := xr.form
        exact ⟨_, _, _, e⟩
      have HXR := Lib.hid xr
      have hone : (#[.string p.line, .string p.conn, .slice Aq lq cq] : Array Value).toList.all (·.oneCell') = true := rfl
      clear x0 x1 xa gL hp b1 hbl hsame hNr hal xr
      have HWD : Hid (∀ W, Calls Try.prog 23 #[.string p.line] W fun e w' => e = .returned (.bool (valP (tx p.line))) ∧ W = w') := Lib.hid fun W => value_any _ W (by have := hzp.1; unfold maxLen; omega)
      have HMB : Hid (∀ W, Calls Try.prog 43 #[.string p.conn] W fun e w' => e = .returned (.bool (maybeP (tx p.conn))) ∧ W = w') := Lib.hid fun W => perhaps_any _ W (by have := hzp.2.1; unfold maxLen; omega)
      have HVB : Hid (∀ W, Below N w0 W → Calls Try.prog 42 #[.slice Aq lq cq] W fun e w' => e = .returned (.bool (okA p.attrs)) ∧ Below W.heap.size W w') := Lib.hid fun W hW => validAttrs_any _ p.attrs W ((HXR.out.below hW).more (by have := hW.size; rw [HN.out] at this; exact this)) hzp.2.2.1
      have HO : Hid (okP p = (valP (tx p.line) && maybeP (tx p.conn) && okA p.attrs)) := Lib.hid rfl
      generalize valP (tx p.line) = y1 at *
      generalize maybeP (tx p.conn) = y2 at *
      generalize okA p.attrs = y3 at *
      clear hzp
      go_upto_region 8 with ((with_reducible refine wpList_storeS #[.string p.line, .string p.conn, .slice Aq lq cq] ?_ 69 (.tmp 4) (.tmp 37) ?_ ?_ ?_ HW1.out Try.sizeSPart ?_ ?_ ?_ ?_); (with_reducible rfl); (with_reducible rfl); rfl; rfl; rfl; rfl; rfl)
      have hr := HW1.out.row #[.string p.line, .string p.conn, .slice Aq lq cq]
      have hb2 := below_row HB1.out.2 HB1.out.1 #[.string p.line, .string p.conn, .slice Aq lq cq]
      generalize (wr.alloc (.cells #[.string ⟨#[]⟩, .string ⟨#[]⟩, .slice none 0 0] 69)).setRow wr.heap.size #[.string p.line, .string p.conn, .slice Aq lq cq] = W2 at *
      generalize wr.heap.size = g at *
      have d0 := hr.cell 0
      have d1 := hr.cell 1
      have d2 := hr.cell 2
      simp only [List.getElem?_toArray, List.getElem?_cons_zero, List.getElem?_cons_succ] at d0 d1 d2
      have HB2 := Lib.hid hb2
      clear hr hb2 HW1 HB1 x0' x1' x2' hone
      cases y1 with
      | false =>
        have HR : Hid (false = okS x) := Lib.hid (by rw [HOK2.out, all_bad HG.out (by rw [HO.out]; rfl)])
        go_wp2_with (go_at_call 23; (with_reducible refine (HWD.out _).mono ?_); rintro e w' ⟨rfl, rfl⟩)
        go_ret
        exact ⟨ret_bool HR.out, HFB.out _ HB2.out⟩
      | true =>
      cases y2 with
      | false =>
        have HR : Hid (false = okS x) := Lib.hid (by rw [HOK2.out, all_bad HG.out (by rw [HO.out]; rfl)])
        go_wp2_with (first | (go_at_call 23; (with_reducible refine (HWD.out _).mono ?_); rintro e w' ⟨rfl, rfl⟩) | (go_at_call 43; (with_reducible refine (HMB.out _).mono ?_); rintro e w' ⟨rfl, rfl⟩))
        go_ret
        exact ⟨ret_bool HR.out, HFB.out _ HB2.out⟩
      | true =>
      have HVC := Lib.hid (HVB.out _ HB2.out)
      cases y3 with
      | false =>
        have HR : Hid (false = okS x) := Lib.hid (by rw [HOK2.out, all_bad HG.out (by rw [HO.out]; rfl)])
        go_wp2_with (first | (go_at_call 23; (with_reducible refine (HWD.out _).mono ?_); rintro e w' ⟨rfl, rfl⟩) | (go_at_call 43; (with_reducible refine (HMB.out _).mono ?_); rintro e w' ⟨rfl, rfl⟩) | (go_at_call 42; (with_reducible refine HVC.out.mono ?_); rintro e w6 ⟨rfl, hb6⟩; have HB3 : Hid (Below N w0 w6) := Lib.hid (HB2.out.trans (hb6.mono (by have := HB2.out.size; rw [HN.out] at this; exact this))); clear hb6))
        go_ret
        exact ⟨ret_bool HR.out, HFB.out _ HB3.out⟩
      | true =>
        have HR : Hid (∀ (j : Nat) (a : PartS), j < k + 1 → x.parts[j]? = some a → okP a = true) := Lib.hid fun j a hj e => by
          by_cases e2 : j = k
          · subst e2
            rw [HG.out] at e
            injection e with e
            subst e
            rw [HO.out]
            rfl
          · exact HS.out.1 j a (by omega) e
        go_wp2_with (first | (go_at_call 23; (with_reducible refine (HWD.out _).mono ?_); rintro e w' ⟨rfl, rfl⟩) | (go_at_call 43; (with_reducible refine (HMB.out _).mono ?_); rintro e w' ⟨rfl, rfl⟩) | (go_at_call 42; (with_reducible refine HVC.out.mono ?_); rintro e w6 ⟨rfl, hb6⟩; have HB3 : Hid (Below N w0 w6) := Lib.hid (HB2.out.trans (hb6.mono (by have := HB2.out.size; rw [HN.out] at this; exact this))); clear hb6))
        go_roundw
        case rel => exact ⟨k + 1, by omega, by go_num, HR.out, HB3.out⟩
        case measure => simp [intOf]; omega
    · obtain rfl : k = n := by omega
      have HR : Hid (true = okS x) := Lib.hid (by rw [HOK2.out, all_yes fun j a e => HS.out.1 j a (by have := (List.getElem?_eq_some_iff.1 e).1; rw [HNN.out] at this; exact this) e])
      clear hsame hbl
      go_wp2
      go_ret
      exact ⟨ret_bool HR.out, HFB.out _ HS.out.2⟩
end Go.Proofs.Ythijpfnfkelmbaa
