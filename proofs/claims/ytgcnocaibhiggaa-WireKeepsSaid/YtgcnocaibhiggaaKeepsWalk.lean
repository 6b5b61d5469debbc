/- The law WireKeeps, walked. -/
import Derived.Test.YtgcnocaibhiggaaKeepsAid
namespace Go.Proofs.Ytgcnocaibhiggaa
open Go.RowKit Go.Shelf
set_option linter.unusedVariables false
attribute [local go_sem] Oper.semAt_some

/-- Bytes that came in: nil, or at an address. -/
def BytesIn (w : World) (a : Option Addr) (len cap : Nat) (xs : List Int) : Prop :=
  xs.length = len ∧ ((a = none ∧ len = 0 ∧ cap = 0) ∨ ∃ ad, a = some ad ∧ ∀ i, i < len → w.cell? (ad.add i) = some (.int .u8 (xs.getD i 0)))

/-- The law's own copy with a byte behind it. -/
def RoomAt (w wc : World) (g n capr : Nat) (xs : List Int) : Prop :=
  ∃ cur, Whole wc g 5 cur ∧ cur.toList.take (n + 1) = u8s xs ++ u8s [77] ∧ w.heap.size ≤ g ∧ Below w.heap.size w wc ∧ n + 1 ≤ capr ∧ capr ≤ maxLen

theorem room_of_own {w wc : World} {v : Value} {n m : Nat} {xs : List Int} (h : wc.ownsRow w.heap.size 5 1 v m (u8s xs ++ [.int .u8 77])) (hb : Below w.heap.size w wc) (hx : xs.length = n) (hm : m = n + 1) :
    ∃ g capr, v = .slice (some ⟨g, 0, none⟩) (n + 1) capr ∧ RoomAt w wc g n capr xs := by
  subst hm
  have hv : v ≠ .slice none 0 0 := by
    intro e
    subst e
    rcases h.2 with ⟨_, h0⟩ | ⟨_, _, _, hv, _⟩
    · omega
    · cases hv
  obtain ⟨g, cap, cur, rfl, hg, hW, hl, hm, _, ht⟩ := own_form h hv
  exact ⟨g, cap, rfl, cur, hW, by simpa [u8s] using ht, hg, hb, hl, hm⟩

set_option maxHeartbeats 6400000 in
set_option maxRecDepth 100000 in
theorem keeps_walk (a : Option Addr) (len cap : Nat) (xs : List Int) (w : World) (hin : BytesIn w a len cap xs) (hreach : len ≤ 140737488351232) :
    Calls Try.prog 7 #[.slice a len cap] w fun e w' => e = .returned (.bool true) ∧ Below w.heap.size w w' := by
  obtain ⟨i0, hi, hz0, hz1, hz2⟩ := info_parts Try.infoByte
  have HI := Lib.hid hin
  refine calls_marks 5 Try.func7 rfl ?_
  simp only [Try.ntmps7, List.size_toArray, List.length_cons, List.length_nil, Nat.reduceAdd, Nat.reduceSub, Array.replicate_succ, Array.replicate_zero, List.push_toArray, List.append_toArray, List.nil_append, List.cons_append]
  go_upto_region 3 with (go_at_call 8; refine (awake_yes _).mono ?_; rintro e w1 ⟨rfl, hB1⟩)
  go_cut [3] from 19 (fun s3 wc => ∃ g capr, s3 = .slice (some ⟨g, 0, none⟩) (len + 1) capr ∧ RoomAt w wc g len capr xs)
  case first =>
    obtain ⟨hxl, hin⟩ := hin
    have HB := Lib.hid hB1
    have hOw : (w1.alloc (.cells #[] 5)).ownsRow w.heap.size 5 1 (.slice (some ⟨w1.heap.size, 0, none⟩) 0 0) 0 [] := ⟨rfl, .inr ⟨w1.heap.size, 0, #[], rfl, hB1.size, Whole.new _ _ _, Nat.le_refl _, by unfold maxLen; omega, rfl, rfl⟩⟩
    have HO := Lib.hid hOw
    clear hB1 hOw
    rcases hin with ⟨rfl, rfl, rfl⟩ | ⟨ad, rfl, hc⟩
    · obtain rfl : xs = [] := List.eq_nil_of_length_eq_zero hxl
      go_wp2_with (first
        | (at_builtin; refine wpList_append_own_none rfl (.tmp 21) (.tmp 22) 57 rfl w.heap.size 5 i0 1 Try.underlying57 hi (.slice (some ⟨w1.heap.size, 0, none⟩) 0 0) 0 [] rfl HO.out rfl ?_)
        | (at_builtin; go_must (refine wpList_append_own _ rfl (.tmp 23) (.tmp 24) 57 rfl w.heap.size 5 i0 (.int .u8 0) 1 1 Try.underlying57 hi hz0 hz1 hz2 rfl (by decide) _ _ _ rfl (HO.out.alloc _) ⟨w1.heap.size + 1, 0, none⟩ 1 1 [.int .u8 77] rfl rfl ?q1 ?q2 ?q3 ?q4 ?q5 ?_)))
      case q1 => have := cell_one_new (w1.alloc (.cells #[] 5)) (.int .u8 77) 5; simpa using this
      case q2 => intro u hu; simp at hu; subst hu; rfl
      case q3 => unfold maxLen; omega
      case q4 => omega
      case q5 => have := HB.out.size; simp at this ⊢; omega
      intro v' w2 hown hgr hnil
      have hz1' := HB.out.size
      have hb2 : Below w.heap.size w w2 := (((HB.out.mono (Nat.le_refl _)).alloc hz1' _).alloc (by simp; omega) _).grown hgr (by simp; omega) (fun k hk => by cases hk; exact hz1')
      obtain ⟨g, capr, rfl, hRm⟩ := room_of_own (n := 0) (xs := []) (by simpa [u8s] using hown) hb2 rfl rfl
      have HR := Lib.hid hRm
      clear hown hgr hnil hb2 hRm
      go_wp2
      go_meet
      exact ⟨g, capr, rfl, HR.out⟩
    · go_wp2_with (at_builtin; go_must (refine wpList_append_own _ rfl (.tmp 21) (.tmp 22) 57 rfl w.heap.size 5 i0 (.int .u8 0) 1 1 Try.underlying57 hi hz0 hz1 hz2 rfl (by decide) _ _ _ rfl HO.out ad len cap (u8s xs) rfl ?q0 ?q1 ?q2 ?q3 ?q4 ?q5 ?_))
      case q0 => simp [hxl]
      case q1 =>
        intro j u hj
        have hjl : j < xs.length := by have := (List.getElem?_eq_some_iff.1 hj).1; simpa using this
        have hu : u = .int .u8 (xs.getD j 0) := by simp [u8s, List.getElem?_eq_getElem hjl] at hj; rw [← hj]; simp [List.getD, List.getElem?_eq_getElem hjl]
        subst hu
        have hcj := hc j (by omega)
        exact Go.Lib.cell?_alloc_some _ (cell_later HB.out hcj)
      case q2 => intro u hu; obtain ⟨x, _, rfl⟩ := List.mem_map.1 hu; rfl
      case q3 => unfold maxLen; omega
      case q4 => omega
      case q5 => have := HB.out.size; simp at this ⊢; omega
      intro v1 w2 hown hgr hnil
      have hz1' := HB.out.size
      have hb2 : Below w.heap.size w w2 := ((HB.out.mono (Nat.le_refl _)).alloc hz1' _).grown hgr (by simp; omega) (fun k hk => by cases hk; exact hz1')
      have HO2 := Lib.hid hown
      have HB2 := Lib.hid hb2
      clear hown hgr hnil hb2
      go_wp2_with (at_builtin; go_must (refine wpList_append_own _ rfl (.tmp 23) (.tmp 24) 57 rfl w.heap.size 5 i0 (.int .u8 0) 1 1 Try.underlying57 hi hz0 hz1 hz2 rfl (by decide) _ _ _ rfl (HO2.out.alloc _) ⟨w2.heap.size, 0, none⟩ 1 1 [.int .u8 77] rfl rfl (cell_one_new _ _ _) ?q2 ?q3 ?q4 ?q5 ?_))
      case q2 => intro u hu; simp at hu; subst hu; rfl
      case q3 => unfold maxLen; omega
      case q4 => omega
      case q5 => have := HB2.out.size; simp at this ⊢; omega
      intro v' w3 hown hgr hnil
      have hz2' := HB2.out.size
      have hb3 : Below w.heap.size w w3 := (HB2.out.alloc hz2' _).grown hgr (by simp; omega) (fun k hk => by
        rcases HO2.out.2 with ⟨rfl, _⟩ | ⟨g', _, _, rfl, hg', _⟩
        · cases hk
        · cases hk; exact hg')
      obtain ⟨g, capr, rfl, hRm⟩ := room_of_own (n := len) (xs := xs) (by simpa using hown) hb3 hxl (by omega)
      have HR := Lib.hid hRm
      clear hown hgr hnil hb3 hRm
      go_wp2
      go_meet
      exact ⟨g, capr, rfl, HR.out⟩
  case rest =>
    obtain ⟨g, capr, rfl, hRm⟩ := hcut
    have hxl := hin.1
    have HR := Lib.hid hRm
    have HX := Lib.hid hxl
    obtain ⟨cur, hW, ht, hg, hb, hl, hm⟩ := hRm
    have hN1 := newReader_at ⟨g, 0, none⟩ len capr xs _ hxl (by omega) (fun i hi => row_cells hW ht i (by omega))
    have HN := Lib.hid hN1
    have HT := Lib.hid (And.intro hW (And.intro ht (And.intro hg (And.intro hb hm))))
    have hl1 : (len : Int) ≤ (capr : Int) := by omega
    have hl0 : (0 : Int) ≤ (len : Int) := by omega
    clear hxl hW ht hg hb hm hN1 hl hin
    go_wp2_with (go_at_call 29; go_must (refine HN.out.mono ?_); rintro e w2 ⟨b, rfl, hRd⟩)
    have hTk := take_all b len xs _ w2 HX.out (by omega) hRd
    have HK := Lib.hid hTk
    have hz2' : wc.heap.size ≤ w2.heap.size := by obtain ⟨_, _, _, _, _, _, _, _, _, _, h⟩ := hRd; exact h.size
    clear hTk hRd
    refine HK.out.mono ?_
    rintro e w3 ⟨gx, capx, curx, rfl, hgx, hWx, hlx, hmx, htx, hsx, hbx⟩
    have hgxB : wc.heap.size ≤ gx := by omega
    go_wp2_with fail
    go_loopw [38] (fun s38 wr => ∃ j : Nat, j ≤ len ∧ s38 = .int .i64 j ∧ ∃ cur', Whole wr gx 5 cur' ∧ cur'.size = curx.size ∧ (∀ i, i < len → ∃ z : Int, cur'[i]? = some (.int .u8 z)) ∧ Below wc.heap.size wc wr) (fun s38 _ => len - (intOf s38).toNat)
    case atStart => exact ⟨0, Nat.zero_le _, rfl, curx, hWx, rfl, fun i hi => ⟨xs.getD i 0, take_get htx (by have := HX.out; simp [u8s, List.getElem?_eq_getElem (show i < xs.length by omega), List.getD])⟩, hbx⟩
    case round =>
      obtain ⟨j, hj, rfl, cur', hW', hs', hz', hb'⟩ := hrel
      by_cases hlt : j < len
      · obtain ⟨z, hzj⟩ := hz' j hlt
        have hcj := hW'.cell j
        rw [hzj] at hcj
        have hfj := hW'.frz j
        have hji : (j : Int) < (len : Int) := by omega
        have HZ := Lib.hid (And.intro hW' (And.intro hs' (And.intro hz' hb')))
        clear hW' hs' hz' hb' hzj
        go_wp2
        go_roundw
        case rel =>
          obtain ⟨hW', hs', hz', hb'⟩ := HZ.out
          refine ⟨j + 1, by omega, by simp, _, hW'.set j _, by simpa using hs', fun i hi => ?_, hb'.setCell (p := ⟨gx, j, none⟩) hgxB _⟩
          by_cases e : j = i
          · subst e
            obtain ⟨z2, hz2⟩ := hz' j hi
            have hsz : j < cur'.size := (Array.getElem?_eq_some_iff.1 hz2).1
            exact ⟨_, by rw [Array.getElem?_setIfInBounds, if_pos rfl, if_pos hsz]⟩
          · rw [Array.getElem?_setIfInBounds, if_neg e]
            exact hz' i hi
        case measure => simp [intOf]; omega
      · obtain rfl : len = j := by omega
        have hyl : ((cur'.toList.take len).length = len) := by
          rw [List.length_take]
          have : len ≤ cur'.size := by
            rcases Nat.eq_zero_or_pos len with h0 | h0
            · omega
            · obtain ⟨z, hz⟩ := hz' (len - 1) (by omega)
              have := (Array.getElem?_eq_some_iff.1 hz).1
              omega
          simp; omega
        have hSl : Sl wr 5 (.slice (some ⟨gx, 0, none⟩) len capx) (cur'.toList.take len) (some gx) := by
          have hss : capx ≤ cur'.size := by omega
          refine .inr ⟨gx, 0, capx, cur', by rw [hyl], rfl, hW', by rw [hyl]; exact hlx, hmx, by omega, fun i hi => ?_⟩
          rw [hyl] at hi
          rw [List.getElem?_take, if_pos hi, Nat.zero_add]
          simp
        have HS := Lib.hid (And.intro hSl (And.intro hyl hb'))
        clear hW' hs' hz' hb' hyl hSl
        go_wp2_with fail
        go_loopw [6, 48] (fun s6 s48 wr => ∃ j : Nat, j ≤ 9 ∧ s48 = .int .i64 j ∧ ∃ ys ob, ys.length = len + j ∧ Sl wr 5 s6 ys ob ∧ (∀ q, ob = some q → wc.heap.size ≤ q) ∧ Below wc.heap.size wc wr) (fun _ s48 _ => 9 - (intOf s48).toNat)
        case atStart => exact ⟨0, by omega, rfl, _, _, HS.out.2.1, HS.out.1, fun q e => (by cases e; exact hgxB), HS.out.2.2⟩
        case round =>
          obtain ⟨j, hj, rfl, ys, ob, hyl, hSl, hobB, hb'⟩ := hrel
          obtain ⟨A6, cap6, rfl, _, _⟩ := hSl.form
          by_cases hlt : j < 9
          · have hji : (j : Int) < 9 := by omega
            rw [hyl] at hSl
            have HZ := Lib.hid (And.intro hSl (And.intro hobB (And.intro hb' hyl)))
            clear hSl hobB hb'
            rw [hyl]
            clear hyl
            go_wp2_with (at_builtin; go_must (refine wpList_append_sl (v := .slice A6 (len + j) cap6) (xs := ys) (ob := ob) rfl _ _ _ rfl i0 (.int .u8 0) 1 Try.underlying57 hi hz0 hz1 hz2 rfl rfl (len + j) HZ.out.2.2.2 (HZ.out.1.alloc _) ⟨wr.heap.size, 0, none⟩ 1 rfl (.int .u8 9) ?qx rfl ?qb1 ?qb2 ?_))
            case qx => exact (Whole.new wr _ _).cell 0
            case qb1 => unfold maxLen; omega
            case qb2 => omega
            intro g6 off6 capn w6 hS6 hgr hat
            have HY := Lib.hid (And.intro hS6 (And.intro hgr hat))
            clear hS6 hgr hat
            go_wp2
            go_roundw
            case rel =>
              obtain ⟨hS6, hgr, hat⟩ := HY.out
              obtain ⟨h1, h2, h3, h4⟩ := HZ.out
              have hz := h3.size
              refine ⟨j + 1, by omega, by simp, ys ++ [.int .u8 9], some g6, by simp; omega, hS6, fun q e => ?_, (h3.alloc hz _).grown hgr (by simp; omega) (fun k hk => h2 k hk)⟩
              cases e
              rcases hat with e | e
              · exact h2 _ e
              · omega
            case measure => simp [intOf]; omega
          · obtain rfl : j = 9 := by omega
            have HB4 := Lib.hid hb'
            clear hSl hobB hb' hyl
            have hWg := (HT.out.1).below HB4.out HT.out.1.lt
            have hN2 := newReader_at ⟨g, 0, none⟩ len capr xs _ HX.out (by omega) (fun i hi => row_cells hWg HT.out.2.1 i (by have := HX.out; omega))
            have HN2 := Lib.hid hN2
            clear hWg hN2
            go_wp2_with fail
            refine HN2.out.mono ?_
            rintro e w5 ⟨b5, rfl, hRd5⟩
            have hTk5 := take_all b5 len xs _ w5 HX.out (by omega) hRd5
            have hz5 : wr.heap.size ≤ w5.heap.size := by obtain ⟨_, _, _, _, _, _, _, _, _, _, h⟩ := hRd5; exact h.size
            have HK5 := Lib.hid hTk5
            clear hTk5 hRd5
            go_wp2_with fail
            refine HK5.out.mono ?_
            rintro e w6 ⟨gy, capy, cury, rfl, hgy, hWy, hly, hmy, hty, _, hby⟩
            have hzr := HB4.out.size
            have hgl := HT.out.1.lt
            have hB6 : Below wc.heap.size wc w6 := HB4.out.trans (hby.mono hzr)
            have hW6 := HT.out.1.below hB6 hgl
            have hggy : g ≠ gy := by omega
            have HY := Lib.hid (And.intro hWy (And.intro hty hB6))
            clear hWy hty hB6 hby hgy hmy hly
            go_wp2_with fail
            go_loopw [62] (fun s62 wx => ∃ j : Nat, j ≤ len ∧ s62 = .int .i64 j ∧ ∃ cur', Whole wx g 5 cur' ∧ (∀ i, i < len → ∃ z : Int, cur'[i]? = some (.int .u8 z)) ∧ cur'[len]? = some (.int .u8 77) ∧ Only (fun q => q = g) w6 wx) (fun s62 _ => len - (intOf s62).toNat)
            case atStart => exact ⟨0, Nat.zero_le _, rfl, cur, hW6, fun i hi => ⟨xs.getD i 0, take_get HT.out.2.1 (by rw [List.getElem?_append_left (by simp [HX.out]; omega)]; simp [u8s, List.getElem?_eq_getElem (show i < xs.length by have := HX.out; omega), List.getD])⟩, take_get HT.out.2.1 (by rw [List.getElem?_append_right (by simp [HX.out])]; simp [u8s, HX.out]), Only.refl _ _⟩
            case round =>
              obtain ⟨j, hj, rfl, cur', hW', hz', h77, hO'⟩ := hrel
              by_cases hlt : j < len
              · obtain ⟨z, hzj⟩ := hz' j hlt
                have hcj := hW'.cell j
                rw [hzj] at hcj
                have hfj := hW'.frz j
                have hji : (j : Int) < (len : Int) := by omega
                have HZ := Lib.hid (And.intro hW' (And.intro hz' (And.intro h77 hO')))
                clear hW' hz' h77 hO' hzj
                go_wp2
                go_roundw
                case rel =>
                  obtain ⟨hW', hz', h77, hO'⟩ := HZ.out
                  refine ⟨j + 1, by omega, by simp, _, hW'.set j _, fun i hi => ?_, ?_, hO'.setCell (p := ⟨g, j, none⟩) (.inl rfl) _⟩
                  · by_cases e : j = i
                    · subst e
                      obtain ⟨z2, hz2⟩ := hz' j hi
                      have hsz : j < cur'.size := (Array.getElem?_eq_some_iff.1 hz2).1
                      exact ⟨_, by rw [Array.getElem?_setIfInBounds, if_pos rfl, if_pos hsz]⟩
                    · rw [Array.getElem?_setIfInBounds, if_neg e]
                      exact hz' i hi
                  · rw [Array.getElem?_setIfInBounds, if_neg (by omega)]
                    exact h77
                case measure => simp [intOf]; omega
              · obtain rfl : len = j := by omega
                have h77c : wr.cell? ⟨g, len, none⟩ = some (.int .u8 77) := (hW'.cell len).trans h77
                have hWy' := HY.out.1.only hO' (fun e => hggy e.symm)
                have hBw : Below w.heap.size w wr := (HT.out.2.2.2.1.trans (HY.out.2.2.mono HT.out.2.2.2.1.size)).trans (hO'.below (fun k e => by rw [e]; exact HT.out.2.2.1) (Nat.le_trans HT.out.2.2.2.1.size HY.out.2.2.size))
                have HE := Lib.hid (And.intro h77c (And.intro hWy' hBw))
                clear hW' hz' h77 hO' h77c hWy' hBw
                go_wp2_with (first
                  | (go_at_call 31; refine (rput_nil _ _).mono ?_; rintro e w' ⟨rfl, rfl⟩)
                  | (go_at_call 32; refine (rall_nil _).mono ?_; rintro e w' ⟨rfl, rfl⟩))
                have hN0 := Whole.new wr 3 #[.int .i64 0]
                have hB0 := Whole.new (wr.alloc (.cells #[.int .i64 0] 3)) 61 #[.pointer none]
                rw [World.size_alloc] at hB0
                obtain ⟨Wf, hWf⟩ : ∃ Wf, (wr.alloc (.cells #[.int .i64 0] 3)).alloc (.cells #[.pointer none] 61) = Wf := ⟨_, rfl⟩
                have hzf : Wf.heap.size = wr.heap.size + 2 := by rw [← hWf]; simp
                have hBf : Below wr.heap.size wr Wf := by rw [← hWf]; exact ((Below.refl _ wr).alloc (Nat.le_refl _) _).alloc (by simp) _
                have hNf := hN0.alloc (.cells #[.pointer none] 61)
                rw [hWf] at hNf hB0 ⊢
                obtain ⟨nb, hnb⟩ : ∃ nb, wr.heap.size = nb := ⟨_, rfl⟩
                rw [hnb] at hNf hB0 hzf hBf ⊢
                have hgw := (cell_lt HE.out.1)
                have hWy2 := HE.out.2.1.lt
                have hwz := HE.out.2.2.size
                rw [hnb] at hgw hWy2 hwz
                have HF := Lib.hid (And.intro hNf (And.intro hB0 (And.intro hzf (And.intro hBf (And.intro hgw (And.intro hWy2 hwz))))))
                clear hN0 hB0 hNf hWf hBf hgw hWy2 hwz
                refine (wpIn_wide (n := 5)).1 ?_
                apply wpIn_rangeFunc_ownG (α := Nat × Int) (encs := encP) (Kp := fun _ _ => True) rfl (by decide) (gf := 57) (lb := #[.pointer (some ⟨nb + 1, 0, none⟩)]) rfl trivial (enters_of Try.func57 (by kernel_rfl) rfl)
                  (rstops_nil 4 (by decide) (nb + 1) encP (fun _ _ => True) Wf (by rw [HF.out.2.2.1]; omega) (HF.out.2.1.cell 0)) (fun _ _ => trivial) (fun _ _ _ _ _ _ _ _ => trivial) (Below.refl _ _) (fun _ => rfl)
                  (fun _ W => Below Wf.heap.size Wf W) (fun _ _ _ => False)
                  (fun s A B row hs hg hr => hs.grown hg hs.size (fun k e => (hr k e).1)) (fun c s A B row hs hg hr => hs) (Below.refl _ _)
                case hassign =>
                  intro l x W K hK
                  simp only [encP]
                  gi_wp2
                  exact hK
                case hbody =>
                  intro l pre x W hI hlen
                  exact absurd hlen (Nat.not_lt_zero _)
                case hstop =>
                  intro D c pre W hD hS hIx hK
                  exact hIx.elim
                case hdone =>
                  rintro D ys W hD hys hBW hK
                  have HG := Lib.hid (And.intro hD (And.intro hBW hK))
                  clear hD hBW hK hys
                  go_wp2_with (go_at_call 33; refine (tall_anySI _ _).mono ?_; rintro e w' ⟨rfl, rfl⟩)
                  have hT0 := Whole.new W 62 #[.pointer none]
                  obtain ⟨Wg, hWg⟩ : ∃ Wg, W.alloc (.cells #[.pointer none] 62) = Wg := ⟨_, rfl⟩
                  have hzg : Wg.heap.size = W.heap.size + 1 := by rw [← hWg]; simp
                  have hBg : Below W.heap.size W Wg := by rw [← hWg]; exact (Below.refl _ W).alloc (Nat.le_refl _) _
                  rw [hWg] at hT0 ⊢
                  have HT2 := Lib.hid (And.intro hT0 (And.intro hzg hBg))
                  clear hT0 hzg hBg hWg
                  refine (wpIn_wide (n := 5)).1 ?_
                  apply wpIn_rangeFunc_ownG (α := Nat × Int) (encs := encP) (Kp := fun _ _ => True) rfl (by decide) (gf := 59) (lb := #[.pointer (some ⟨W.heap.size, 0, none⟩)]) rfl trivial (enters_of Try.func59 (by kernel_rfl) rfl)
                    (tstops_nilSI 4 (by decide) W.heap.size encP (fun _ _ => True) Wg (by rw [HT2.out.2.1]; omega) (HT2.out.1.cell 0)) (fun _ _ => trivial) (fun _ _ _ _ _ _ _ _ => trivial) (Below.refl _ _) (fun _ => rfl)
                    (fun _ W2 => Below Wg.heap.size Wg W2) (fun _ _ _ => False)
                    (fun s A B row hs hg hr => hs.grown hg hs.size (fun k e => (hr k e).1)) (fun c s A B row hs hg hr => hs) (Below.refl _ _)
                  case hassign =>
                    intro l x W K hK
                    simp only [encP]
                    gi_wp2
                    exact hK
                  case hbody =>
                    intro l pre x W hI hlen
                    exact absurd hlen (Nat.not_lt_zero _)
                  case hstop =>
                    intro D c pre W hD hS hIx hK
                    exact hIx.elim
                  case hdone =>
                    rintro D2 ys2 W2 hD2 hys2 hBW2 hK2
                    have HG2 := Lib.hid (And.intro hD2 (And.intro hBW2 hK2))
                    clear hD2 hBW2 hK2 hys2
                    go_upto_region 33 with (go_at_call 34; refine (get_nilSI _ _).mono ?_; rintro e w8 ⟨rfl, hb8⟩)
                    have z1 : Wf.heap.size ≤ W.heap.size := HG.out.2.1.size
                    have z2 : Wg.heap.size ≤ W2.heap.size := HG2.out.2.1.size
                    have z3 := HT2.out.2.1
                    have hBW8 : Below W.heap.size W w8 := HT2.out.2.2.trans ((HG2.out.2.1.mono (by omega)).trans (hb8.mono (by omega)))
                    have hBf8 : Below Wf.heap.size Wf w8 := HG.out.2.1.trans (hBW8.mono z1)
                    have hBr8 : Below nb wr w8 := HF.out.2.2.2.1.trans (hBf8.mono (by omega))
                    have hBw8 : Below w.heap.size w w8 := HE.out.2.2.trans (hBr8.mono HF.out.2.2.2.2.2.2)
                    have hn8 : w8.cell? ⟨nb, 0, none⟩ = some (.int .i64 0) := (hBf8.cell (p := ⟨nb, 0, none⟩) (by show nb < _; omega)).trans (HF.out.1.cell 0)
                    have h778 : w8.cell? ⟨g, len, none⟩ = some (.int .u8 77) := (hBr8.cell (p := ⟨g, len, none⟩) HF.out.2.2.2.2.1).trans HE.out.1
                    have hWy8 := HE.out.2.1.below hBr8 HF.out.2.2.2.2.2.1
                    have hcy : (convert 57 9 (.slice (some ⟨gy, 0, none⟩) len capy)).run Try.prog w8 = .ok (.string (strOfNums xs)) w8 := conv_any w8 _ len capy xs HX.out (fun i hi => row_cells (rest := []) hWy8 (by simpa [u8s] using HY.out.2.1) i (by have := HX.out; omega))
                    have hca : (convert 57 9 (.slice a len cap)).run Try.prog w8 = .ok (.string (strOfNums xs)) w8 := by
                      obtain ⟨hxl, hin⟩ := HI.out
                      rcases hin with ⟨rfl, h0, _⟩ | ⟨ad, rfl, hc⟩
                      · obtain rfl : xs = [] := List.eq_nil_of_length_eq_zero (by omega)
                        exact run_convert_bytes_nil w8 57 5 Try.underlying57 Try.underlying5 len cap 9 Try.underlying9
                      · exact conv_any w8 ad len cap xs hxl (fun i hi => cell_later hBw8 (hc i hi))
                    have hd1 : w8.heap[D]? = some (.deferred (some [])) := (hBW8.block D (Array.getElem?_eq_some_iff.1 HG.out.2.2).1).trans HG.out.2.2
                    have hd2 : w8.heap[D2]? = some (.deferred (some [])) := (hb8.block D2 (Array.getElem?_eq_some_iff.1 HG2.out.2.2).1).trans HG2.out.2.2
                    have hDD : D < D2 := by
                      have h1 := (Array.getElem?_eq_some_iff.1 HG.out.2.2).1
                      have h2 := HG2.out.1
                      omega
                    have hnl : nb < w8.heap.size := by have := hBf8.size; omega
                    have hli : (len : Int) < (len : Int) + 1 := by omega
                    have HQ := Lib.hid (And.intro hBw8 (And.intro hd1 (And.intro hd2 hDD)))
                    clear hBW8 hBf8 hBr8 hBw8 hWy8 hd1 hd2 hDD hb8 z1 z2 z3
                    go_wp2_with (first
                      | (go_at_call 35; refine (bad_nil _).mono ?_; rintro e w' ⟨rfl, rfl⟩)
                      | (go_at_call 36; refine (left_nil _).mono ?_; rintro e w' ⟨rfl, rfl⟩)
                      | (go_at_call 37; refine (u32_nil _).mono ?_; rintro e w' ⟨rfl, rfl⟩)
                      | (go_at_call 30; refine (take_nil _ _).mono ?_; rintro e w' ⟨rfl, rfl⟩)
                      | (go_at_call 38; refine (rlen_nil _).mono ?_; rintro e w' ⟨rfl, rfl⟩)
                      | (go_at_call 39; refine (put_nilSI _ _ _).mono ?_; rintro e w9 ⟨rfl, hb9⟩; have hn9 := (hb9.cell (p := ⟨nb, 0, none⟩) hnl).trans hn8)
                      | (go_at_call 40; refine (drop_nilSI _ _).mono ?_; rintro e w10 ⟨rfl, hb10⟩; have hn10 := (hb10.cell (p := ⟨nb, 0, none⟩) (Nat.lt_of_lt_of_le hnl hb9.size)).trans hn9)
                      | (go_at_call 41; refine (len_nilSI _).mono ?_; rintro e w' ⟨rfl, rfl⟩))
                    obtain ⟨hBw8, hd1, hd2, hDD⟩ := HQ.out
                    have z8 := hBw8.size
                    have z9 := hb9.size
                    have l1 := (Array.getElem?_eq_some_iff.1 hd1).1
                    have l2 := (Array.getElem?_eq_some_iff.1 hd2).1
                    have e1 : w10.heap[D]? = some (.deferred (some [])) := (hb10.block D (by omega)).trans ((hb9.block D l1).trans hd1)
                    have e2 : w10.heap[D2]? = some (.deferred (some [])) := (hb10.block D2 (by omega)).trans ((hb9.block D2 l2).trans hd2)
                    have q1 := HG.out.1
                    have q2 := HF.out.2.2.2.2.2.2
                    have q3 := HF.out.2.2.1
                    exact marks_end2 5 Try.f7 2 rfl (D1 := D) (D2 := D2) (by omega) (hBw8.trans ((hb9.mono z8).trans (hb10.mono (by omega)))) e1 e2 (by omega) (by omega) _ rfl

end Go.Proofs.Ytgcnocaibhiggaa
