/- The law WireTurned, walked. -/
import Derived.Test.YtgcnocaibhiggaaTurnStart
import Derived.Deep.LoopGhost
import Derived.Deep.RegionHeld3
namespace Go.Proofs.Ytgcnocaibhiggaa
open Go.RowKit Go.Shelf Go.Maps
set_option linter.unusedVariables false
attribute [local go_sem] Oper.semAt_some

/-- A row of int32 that came in. -/
def IsNums (w : World) (a : Option Addr) (len : Nat) (zs : List Int) : Prop := ∀ i, i < len → ∃ x, a = some x ∧ w.cell? (x.add i) = some (.int .i32 (zs.getD i 0))

set_option maxHeartbeats 6400000 in
set_option maxRecDepth 100000 in
theorem turn_walk (a : Option Addr) (len cap : Nat) (zs : List Int) (more : Int) (w : World) (hz : IsNums w a len zs) (hlc : len ≤ cap) (hl63 : len ≤ 9223372036854775807) :
    Calls Try.prog 6 #[.slice a len cap, .int .i32 more] w fun e w' => e = .returned (.bool true) ∧ Below w.heap.size w w' := by
  obtain ⟨n, hn, hn1, hnl⟩ : ∃ n : Nat, n = (if 200 < len then 200 else len) ∧ n ≤ 200 ∧ n ≤ len := ⟨_, rfl, by split <;> omega, by split <;> omega⟩
  have Hn := Lib.hid hn
  have HZ := Lib.hid hz
  clear hn hz
  refine calls_marks 5 Try.func6 rfl ?_
  simp only [Try.ntmps6, List.size_toArray, List.length_cons, List.length_nil, Nat.reduceAdd, Nat.reduceSub, Array.replicate_succ, Array.replicate_zero, List.push_toArray, List.append_toArray, List.nil_append, List.cons_append]
  go_upto_if 18 with (go_at_call 8; refine (awake_yes _).mono ?_; rintro e w1 ⟨rfl, hB1⟩; have hbx := boxes_start hB1; have c0 := hbx.lst.cell 0; have f0 := hbx.lst.frz 0; simp at c0; have HB := Lib.hid hbx; clear hB1 hbx)
  go_cut [2] from 19 (fun s2 wc => s2 = .pointer (some ⟨w.heap.size, 0, none⟩) ∧ Boxes w wc (.slice a n cap) more)
  case first =>
    go_wp2
    all_goals go_meet
    · refine ⟨rfl, ?_⟩
      have hq := Hn.out
      rw [if_pos (by omega)] at hq
      rw [hq]
      exact HB.out.set _
    · refine ⟨rfl, ?_⟩
      have hq := Hn.out
      rw [if_neg (by omega)] at hq
      rw [hq]
      exact HB.out
  case rest =>
    obtain ⟨rfl, hbx⟩ := hcut
    have c0 := hbx.lst.cell 0
    simp at c0
    have hbl := hbx.lst.lt
    have HB2 := Lib.hid hbx
    clear f0 HB hbx hlc
    have hwr : IntKind.i64.wrap ((n : Int) + 1) = (n : Int) + 1 := by rw [IntKind.wrap_i64]; omega
    go_upto_region 5 with fail
    go_cut [5, 6] from 21 (fun s5 s6 wd => ∃ rB tB b tb, s5 = .pointer (some ⟨rB, 0, none⟩) ∧ s6 = .pointer (some ⟨tB, 0, none⟩) ∧ TInv w wd a n cap more rB tB b tb (.slice none 0 0) none 0 [] none [])
    case first =>
      go_region_held3 (fun W => W.cell? ⟨w.heap.size, 0, none⟩ = some (.slice a n cap)) (first | exact c0 | exact Go.Lib.cell?_alloc_some _ (c0) | exact Go.Lib.cell?_alloc_some _ (Go.Lib.cell?_alloc_some _ (c0)) | exact Go.Lib.cell?_alloc_some _ (Go.Lib.cell?_alloc_some _ (Go.Lib.cell?_alloc_some _ (c0))) | exact Go.Lib.cell?_alloc_some _ (Go.Lib.cell?_alloc_some _ (Go.Lib.cell?_alloc_some _ (Go.Lib.cell?_alloc_some _ (c0)))))
        (first
        | (go_at_call 15; refine (newRing_eq _ _).mono ?_; rintro e wx ⟨rfl, rfl⟩)
        | (go_at_call 25; refine (newTable_eq _ _).mono ?_; rintro e wy ⟨rfl, rfl⟩))
      all_goals (go_wp2_with fail; go_meet)
      all_goals
        refine ⟨_, _, ?_, ?_, rfl, rfl, ?_⟩
        rotate_left 2
        refine tinv_perm HB2.out (fun W h1 h2 h3 h4 => ⟨?_, ?_, ?_, ?_⟩) ?_ ?_
        all_goals first | exact h1 | exact h2 | exact h3 | exact h4 | omega
    case rest =>
      obtain ⟨rB, tB, b, tb, rfl, rfl, hI0⟩ := hcut
      have c1 := hI0.lst.cell 0
      simp at c1
      have HI := Lib.hid hI0
      clear hI0 c0 HB2 hbl
      go_wp2_with fail
      go_loopg [31] n (fun gk s31 wr => ∃ j : Nat, j ≤ n ∧ gk = n - j ∧ s31 = .int .i64 j ∧ ∃ v ob xs mv L, TInv w wr a n cap more rB tB b tb v ob 0 xs mv L ∧ xs = firsts (fun i => zs.getD i 0) j ∧ pairsIX L = firsts (fun i => (((i : Nat) : Int), zs.getD i 0)) j ∧ (0 < j ∨ v = .slice none 0 0))
      case atStart => exact ⟨0, Nat.zero_le _, rfl, rfl, _, _, _, _, _, HI.out, rfl, rfl, .inr rfl⟩
      case round =>
        obtain ⟨j, hj, rfl, rfl, v, ob, xs, mv, L, hI, hxs, hL, hv⟩ := hrel
        by_cases hlt : j < n
        · obtain ⟨ad, rfl, hx⟩ := HZ.out j (by omega)
          obtain ⟨x, hxe⟩ : ∃ x, zs.getD j 0 = x := ⟨_, rfl⟩
          rw [hxe] at hx
          have hadl : ad.block < w.heap.size := by have := cell_lt hx; rwa [block_add] at this
          have hcl : ∀ W, Below w.heap.size w W → W.cell? (ad.add j) = some (.int .i32 x) := fun W hb => (hb.cell (p := ad.add j) (by rw [block_add]; exact hadl)).trans hx
          have hxl : xs.length = j := by rw [hxs, firsts_length]
          have hLl : L.length = j := by have := pairs_lengthIX L; rw [hL, firsts_length] at this; omega
          have hbn : blkOf L (j : Int) = none := by
            rw [blkOf_pairsIX, hL]
            intro q hq
            obtain ⟨i, hi, rfl⟩ := firsts_mem hq
            intro e
            have e2 : ((i : Nat) : Int) = (j : Int) := e
            omega
          have hxj := hcl _ hI.below
          have r1 := hI.rbox.cell 0
          have r2 := hI.lst.cell 0
          simp at r1 r2
          have hji : (j : Int) < (n : Int) := by omega
          have hj0 : (0 : Int) ≤ (j : Int) := by omega
          have HI1 := Lib.hid hI
          have HQ := Lib.hid (And.intro hxe (And.intro hxs (And.intro hL (And.intro hxl (And.intro hLl (And.intro hbn (And.intro hcl hx)))))))
          have hI1 := hI.drew
          have HPut := Lib.hid (put_room b ((n : Int) + 1) v 0 xs ob x _ hI1.ring (by omega) (by omega))
          have HI2 := Lib.hid hI1
          clear hI hI1 hx hxe hxs hL hxl hLl hbn hcl hadl
          go_wp2_with fail
          go_still_tail 5, (by kernel_rfl)
          change wpList _ _ _ _ _ wr.drew
          go_wp2_with (go_at_call 16; go_must (refine HPut.out.mono ?_))
          rintro e w2 ⟨rfl, v2, ob2, hR2, hO2, hat2⟩
          have hI2 := tinv_ring HI2.out hR2 hO2 hat2
          have hxj2 := HQ.out.2.2.2.2.2.2.1 _ hI2.below
          have q1 := hI2.tbox.cell 0
          have q2 := hI2.lst.cell 0
          simp at q1 q2
          have hI3 := hI2.drew
          have HPut2 := Lib.hid (tput_anyIX hI3.tab (k := (j : Int)) (kok_small _ (by omega) (by omega)) x (by have := HQ.out.2.2.2.2.1; omega))
          have HI3 := Lib.hid hI3
          clear hI2 hI3 hR2 hO2 hat2
          go_wp2_with fail
          go_still_tail 6, (by kernel_rfl)
          change wpList _ _ _ _ _ w2.drew
          go_wp2_with (go_at_call 26; go_must (refine HPut2.out.mono ?_))
          rintro e w3 ⟨r3, mv3, L3, rfl, hT3, hO3, hin3, hmv3, hl3, hp3⟩
          obtain ⟨hr3, hpp⟩ := hp3 HQ.out.2.2.2.2.2.1 (by have := HQ.out.2.2.2.2.1; omega)
          subst hr3
          have HI4 := Lib.hid (And.intro (tinv_tab HI3.out hT3 hO3 hin3) hpp)
          clear hT3 hO3 hin3 hmv3 hl3 hp3 hpp
          go_wp2_with fail
          go_roundg (n - (j + 1))
          case measure => omega
          case rel =>
            refine ⟨j + 1, by omega, rfl, by simp, v2, ob2, _, mv3, L3, HI4.out.1, ?_, ?_, .inl (by omega)⟩
            · rw [HQ.out.2.1, firsts_succ, HQ.out.1]
            · rw [HI4.out.2, HQ.out.2.2.1, firsts_succ, HQ.out.1]
        · obtain rfl : j = n := by omega
          have hxl : xs.length = j := by rw [hxs, firsts_length]
          have hLl : L.length = j := by have := pairs_lengthIX L; rw [hL, firsts_length] at this; omega
          have r1 := hI.rbox.cell 0
          simp at r1
          have r1A : ((wr.alloc (.cells #[.int .i64 0] 3)).alloc (.cells #[.int .i64 0] 3)).cell? ⟨rB, 0, none⟩ = _ := Go.Lib.cell?_alloc_some _ (Go.Lib.cell?_alloc_some _ r1)
          have HI1 := Lib.hid hI
          have HQ := Lib.hid (And.intro hxs (And.intro hL (And.intro hxl (And.intro hLl hv))))
          clear hI hxs hL hxl hLl hv
          go_wp2_with (go_at_call 18; refine (ringAll_any _ _).mono ?_; rintro e w' ⟨rfl, rfl⟩)
          obtain ⟨Wf, hWf⟩ : ∃ Wf, ((wr.alloc (.cells #[.int .i64 0] 3)).alloc (.cells #[.int .i64 0] 3)).alloc (.cells #[.pointer (some ⟨b, 0, none⟩)] 30) = Wf := ⟨_, rfl⟩
          obtain ⟨n1, n2, n3, hBf, hzf⟩ := new3 wr (.cells #[.int .i64 0] 3) (.cells #[.int .i64 0] 3) (.cells #[.pointer (some ⟨b, 0, none⟩)] 30)
          rw [hWf] at n1 n2 n3 hBf hzf
          rw [hWf]
          have hIf := HI1.out.under hBf
          have hmvf : ∀ mb, mv = some mb → mb < Wf.heap.size := by
            intro mb e
            rcases hIf.tab.map with ⟨e2, _⟩ | ⟨mb2, D, e2, hm, _⟩
            · rw [e2] at e; cases e
            · rw [e2] at e; cases e; exact hm.lt
          obtain ⟨nb, hnb⟩ : ∃ nb, wr.heap.size = nb := ⟨_, rfl⟩
          have hwz := HI1.out.below.size
          have hbW := hIf.ring.1.lt
          have hblr := HI1.out.ring.1.lt
          rw [hnb] at n1 n2 n3 hBf hzf hwz hblr ⊢
          have hsafe := safeR_start hIf.ring (by rw [HQ.out.2.2.1]; exact HQ.out.2.2.2.2)
          have N1 : Whole Wf nb 3 #[.int .i64 0] := n1
          have N2 : Whole Wf (nb + 1) 3 #[.int .i64 0] := n2
          have N3 : Whole Wf (nb + 1 + 1) 30 #[.pointer (some ⟨b, 0, none⟩)] := n3
          have HS := Lib.hid (And.intro hIf (And.intro N1 (And.intro N2 (And.intro N3 (And.intro hmvf hsafe)))))
          clear hWf hIf hmvf hsafe N1 N2 N3 n1 n2 n3 r1A hnb
          refine (wpIn_wide (n := 5)).1 ?_
          apply wpIn_rangeFunc_ownG (α := Nat) (encs := fun i => encP (place xs (i % j))) (Kp := KpS (SafeR Wf.heap.size b)) rfl (by decide) (gf := 43) (lb := #[.pointer (some ⟨nb + 1 + 1, 0, none⟩)]) rfl trivial (enters_of Try.func43 (by kernel_rfl) rfl)
            (ring_stops_any (fun i => encP (place xs (i % j))) (fun i => i) 4 (by decide) (nb + 1 + 1) b ((j : Int) + 1) v 0 xs ob (SafeR Wf.heap.size b)
              (by intro i hi; rw [HQ.out.2.2.1] at hi; rw [Nat.mod_eq_of_lt hi]; simp) Wf (by omega) (HS.out.2.2.2.1.cell 0) HS.out.1.ring
              (by rcases HQ.out.2.2.2.2 with e | e
                  · exact .inl (by rw [HQ.out.2.2.1]; exact e)
                  · by_cases e0 : 0 < j
                    · exact .inl (by rw [HQ.out.2.2.1]; exact e0)
                    · exact .inr ⟨List.eq_nil_of_length_eq_zero (by rw [HQ.out.2.2.1]; omega), rfl, e⟩)
              (by rw [HQ.out.2.2.1]; omega) HS.out.2.2.2.2.2)
            (fun h k => h.trans k) (fun W l o o' hB hl hc _ => kpR_put hbW W l o o' hB hl hc) (Below.refl _ _) (fun _ => rfl)
            (fun pre W => ∃ v ob k xs', TInv w W a j cap more rB tB b tb v ob k xs' mv L ∧ (k < xs'.length ∨ j = 0) ∧ (xs'.length : Int) ≤ max ((j : Int) + 1) 1 ∧ Whole W nb 3 #[.int .i64 pre.length] ∧ Whole W (nb + 1) 3 #[.int .i64 0])
            (fun _ _ _ => False)
            (fun s A B row hs hg hr => by
              obtain ⟨v, ob, k, xs', h1, h2, h3, h4, h5⟩ := hs
              exact ⟨v, ob, k, xs', h1.grown hg (fun r e => ⟨by have := (hr r e).1; omega, (hr r e).2, fun e2 => by have := HS.out.2.2.2.2.1 r e2; have := (hr r e).1; omega⟩), h2, h3, h4.grownOther hg (fun r e => (hr r e).2), h5.grownOther hg (fun r e => (hr r e).2)⟩)
            (fun c s A B row hs hg hr => hs.elim)
            ⟨v, ob, 0, xs, HS.out.1, by rw [HQ.out.2.2.1]; omega, by rw [HQ.out.2.2.1]; omega, HS.out.2.1, HS.out.2.2.1⟩
          case hassign =>
            intro l x W K hK
            simp only [encP]
            gi_wp2
            exact hK
          case hbody =>
            rintro l pre i W ⟨v1, ob1, k1, xs1, hI, hk1, hl1, hN, hM⟩ hlen
            rw [HQ.out.2.2.1] at hlen
            obtain ⟨i', hi', hil⟩ : ∃ i', i % j = i' ∧ i' < j := ⟨_, rfl, Nat.mod_lt _ (by omega)⟩
            obtain ⟨x, hx⟩ : ∃ x, zs.getD i' 0 = x := ⟨_, rfl⟩
            have hxs' : xs.getD i' 0 = x := by
              rw [HQ.out.1, ← hx]
              simp [List.getD, firsts_get _ hil]
            obtain ⟨ad, rfl, hxc⟩ := HZ.out i' (by omega)
            rw [hx] at hxc
            have hadl : ad.block < w.heap.size := by have := cell_lt hxc; rwa [block_add] at this
            have hk1' : k1 < xs1.length := by omega
            have g1 := hI.rbox.cell 0
            have g2 := hI.more.cell 0
            simp at g1 g2
            have HI1b := Lib.hid hI
            have HP1 := Lib.hid (rput_any hI.ring (.inl hk1') more (by omega))
            have HN := Lib.hid (And.intro hN (And.intro hM (And.intro hxc hadl)))
            clear hI hN hM hxc hadl
            simp only [place, hi', hxs']
            gi_wp2_with (refine ⟨trivial, ?_⟩; gi_at_call 16; go_must (refine (CallsIn.inRound l (callsIn_wide.2 HP1.out)).mono ?_))
            rintro e W1 ⟨r1', v2, k2, xs2, ob2, rfl, hR2, hk2, hl2, hm2, hO2, hat2⟩
            have hI2 := tinv_ring HI1b.out hR2 hO2 hat2
            have g3 := hI2.rbox.cell 0
            have g4 := hI2.more.cell 0
            simp at g3 g4
            have HI2b := Lib.hid (And.intro hI2 (And.intro hR2 (And.intro hO2 hat2)))
            have HP2 := Lib.hid (rput_any hI2.ring (.inl hk2) more (by have := hm2 (by omega); omega))
            clear hI2 hR2 hO2 hat2
            gi_wp2_with (refine ⟨trivial, ?_⟩; gi_at_call 16; go_must (refine (CallsIn.inRound l (callsIn_wide.2 HP2.out)).mono ?_))
            rintro e W2 ⟨r2', v3, k3, xs3, ob3, rfl, hR3, hk3, hl3, hm3, hO3, hat3⟩
            have hI3 := tinv_ring HI2b.out.1 hR3 hO3 hat3
            have hxc3 := (hI3.below.cell (p := ad.add i') (by rw [block_add]; exact HN.out.2.2.2)).trans HN.out.2.2.1
            have hN1 := HN.out.1.only HI2b.out.2.2.1 (HI1b.out.offR HN.out.1 (by decide) (by decide))
            have hM1 := HN.out.2.1.only HI2b.out.2.2.1 (HI1b.out.offR HN.out.2.1 (by decide) (by decide))
            have hN3 := hN1.only hO3 (HI2b.out.1.offR hN1 (by decide) (by decide))
            have hM3 := hM1.only hO3 (HI2b.out.1.offR hM1 (by decide) (by decide))
            have g5 := hI3.lst.cell 0
            have g6 := hN3.cell 0
            have g7 := hN3.frz 0
            simp at g5 g6
            have hii : (i' : Int) < (j : Int) := by omega
            have hi0 : (0 : Int) ≤ (i' : Int) := by omega
            have HI3b := Lib.hid (And.intro hI3 (And.intro hR3 (And.intro hO3 (And.intro hat3 (And.intro hN3 hM3)))))
            clear hI3 hR3 hO3 hat3 hN3 hM3 hN1 hM1
            gi_wp2_with fail
            obtain ⟨hI3, hR3, hO3, hat3, hN3, hM3⟩ := HI3b.out
            obtain ⟨hI2, hR2, hO2, hat2⟩ := HI2b.out
            refine ⟨((HI1b.out.keepsR hO2).trans (hI2.keepsR hO3)).trans ((KeepsOthers.setCell _ _ _).from _), ((kpR_step HI1b.out.ring (by omega) hbW hO2 hR2 (by omega) hat2).trans (kpR_step hR2 (by omega) hbW hO3 hR3 (by omega) hat3)).trans (kpR_far (p := ⟨nb, 0, none⟩) (by show b ≠ nb; omega) (by show nb < _; omega) _),
              v3, ob3, k3, xs3, tinv_far hI3 (p := ⟨nb, 0, none⟩) hN3 hwz _, .inl hk3, hm3 (hm2 hl1), ?_, hM3.far (p := ⟨nb, 0, none⟩) (by show nb + 1 ≠ nb; omega) _⟩
            have := hN3.set 0 (.int .i64 ((pre.length : Int) + 1))
            simpa using this
          case hdone =>
            rintro D ys W hD hys ⟨v1, ob1, k1, xs1, hI, hk1, hl1, hN, hM⟩ hK
            have hyl : ys.length = j := by rw [hys, firsts_length, HQ.out.2.2.1]
            rw [hyl] at hN
            have g1 := hI.tbox.cell 0
            simp at g1
            have hDl := (Array.getElem?_eq_some_iff.1 hK).1
            have HI1b := Lib.hid hI
            have HN := Lib.hid (And.intro hN (And.intro hM hK))
            clear hI hN hM hK hyl hys hk1 hl1
            go_wp2_with (go_at_call 27; refine (tall_atIX _ _).mono ?_; rintro e w' ⟨rfl, rfl⟩)
            have T0 := Whole.new W 52 #[.pointer (some ⟨tb, 0, none⟩)]
            obtain ⟨Wg, hWg⟩ : ∃ Wg, W.alloc (.cells #[.pointer (some ⟨tb, 0, none⟩)] 52) = Wg := ⟨_, rfl⟩
            have hzg : Wg.heap.size = W.heap.size + 1 := by rw [← hWg]; simp
            have hBg : Below W.heap.size W Wg := by rw [← hWg]; exact (Below.refl _ W).alloc (Nat.le_refl _) _
            rw [hWg] at T0 ⊢
            have hIg := HI1b.out.under hBg
            have hNg := HN.out.1.under hBg
            have hMg := HN.out.2.1.under hBg
            have hKg := (hBg.block D hDl).trans HN.out.2.2
            have hmvg : ∀ mb, mv = some mb → mb < Wg.heap.size := by
              intro mb e
              have := HS.out.2.2.2.2.1 mb e
              omega
            have htbg := hIg.tab.tab.lt
            have hnbl := hMg.lt
            have HG := Lib.hid (And.intro hIg (And.intro hNg (And.intro hMg (And.intro hKg (And.intro T0 hmvg)))))
            clear hWg T0 hIg hNg hMg hKg hBg hmvg
            refine (wpIn_wide (n := 5)).1 ?_
            apply wpIn_rangeFunc_ownG (α := Nat) (encs := fun i => encTIX (tplaceIX (pairsIX L) (i % j))) (Kp := KpS (SafeTIX Wg.heap.size tb ((j : Int) + 1))) rfl (by decide) (gf := 52) (lb := #[.pointer (some ⟨W.heap.size, 0, none⟩)]) rfl trivial (enters_of Try.func52 (by kernel_rfl) rfl)
              (tstopsIX (fun i => encTIX (tplaceIX (pairsIX L) (i % j))) (fun i => i) 4 (by decide) W.heap.size tb ((j : Int) + 1) mv L
                (by intro i hi; rw [HQ.out.2.2.2.1] at hi; rw [Nat.mod_eq_of_lt hi]) (SafeTIX Wg.heap.size tb ((j : Int) + 1)) Wg (by omega) (HG.out.2.2.2.2.1.cell 0) HG.out.1.tab (by rw [HQ.out.2.2.2.1]; omega)
                (by
                  intro W' g hb hg hl
                  refine ⟨hg, hl, mv, L, HG.out.1.tab.below hb, HG.out.2.2.2.2.2, fun x hx e => ?_⟩
                  obtain ⟨i, hi⟩ := List.getElem?_of_mem hx
                  have := (HG.out.1.tab.ents i x hi).lt
                  omega) (fun W' W'' g hs hb => safeT_underIX hs hb))
              (fun h k => h.trans k) (fun W l o o' hB hl hc _ => kpT_putIX htbg W l o o' hB hl hc) (Below.refl _ _) (fun _ => rfl)
              (fun pre W2 => ∃ v ob k xs' L', TInv w W2 a j cap more rB tB b tb v ob k xs' mv L' ∧ pairsIX L' = QQ zs more j pre.length ∧ Whole W2 nb 3 #[.int .i64 j] ∧ Whole W2 (nb + 1) 3 #[.int .i64 pre.length] ∧ W2.heap[D]? = some (.deferred (some [])))
              (fun c pre _ => c = .ret ∧ ¬ IsFirsts (fun i : Nat => i) pre)
              (fun s A B row hs hg hr => by
                obtain ⟨v, ob, k, xs', L', h1, h2, h3, h4, h5⟩ := hs
                refine ⟨v, ob, k, xs', L', h1.grown hg (fun r e => ⟨by have := (hr r e).1; have := HI1b.out.below.size; omega, (hr r e).2, fun e2 => by have := HG.out.2.2.2.2.2 r e2; have := (hr r e).1; omega⟩), h2, h3.grownOther hg (fun r e => (hr r e).2), h4.grownOther hg (fun r e => (hr r e).2), ?_⟩
                exact (hg.block D (Array.getElem?_eq_some_iff.1 h5).1 (fun e => by have := (hr D e.symm).1; omega)).trans h5)
              (fun c s A B row hs hg hr => hs)
              ⟨v1, ob1, k1, xs1, L, HG.out.1, by rw [HQ.out.2.1]; exact (QQ_zero zs more j).symm, HG.out.2.1, HG.out.2.2.1, HG.out.2.2.2.1⟩
            case hassign =>
              intro l x W' K hK
              simp only [encTIX]
              gi_wp2
              exact hK
            case hbody =>
              rintro l pre i W2 ⟨v2, ob2, k2, xs2, L2, hI, hL2, hN, hM, hK2⟩ hlen
              rw [HQ.out.2.2.2.1] at hlen
              obtain ⟨i', hi', hil⟩ : ∃ i', i % j = i' ∧ i' < j := ⟨_, rfl, Nat.mod_lt _ (by omega)⟩
              obtain ⟨x, hx⟩ : ∃ x, zs.getD i' 0 = x := ⟨_, rfl⟩
              have hpl : tplaceIX (pairsIX L) i' = ((i' : Int), x) := by
                rw [HQ.out.2.1, ← hx]
                simp [tplaceIX, List.getD, firsts_get _ hil]
              obtain ⟨ad, rfl, hxc⟩ := HZ.out i' (by omega)
              rw [hx] at hxc
              have hadl : ad.block < w.heap.size := by have := cell_lt hxc; rwa [block_add] at this
              obtain ⟨p, hp⟩ : ∃ p, pre.length = p := ⟨_, rfl⟩
              have hl2 : L2.length = j := by rw [← pairs_lengthIX, hL2, QQ_length zs more (by omega)]
              obtain ⟨mb, hmb⟩ : ∃ mb, mv = some mb := by
                rcases hI.tab.map with ⟨_, e⟩ | ⟨mb, M, e, _⟩
                · rw [e] at hl2; simp at hl2; omega
                · exact ⟨mb, e⟩
              rw [hp] at hlen hL2 hM
              have g1 := hI.tbox.cell 0
              simp at g1
              have HI2b := Lib.hid hI
              have HP1 := Lib.hid (tdrop_anyIX hI.tab (k := (i' : Int)) (kok_small _ (by omega) (by omega)))
              have HR := Lib.hid (And.intro hN (And.intro hM (And.intro hK2 (And.intro hxc (And.intro hadl (And.intro hL2 (And.intro hl2 hmb)))))))
              have hij : (i' : Int) ≤ 200 := by omega
              have hij0 : (0 : Int) ≤ (i' : Int) := by omega
              have hjj : (j : Int) ≤ 200 := by omega
              clear hI hN hM hK2 hxc hadl hL2 hl2 hmb
              simp only [hi', hpl]
              gi_wp2_with (refine ⟨trivial, ?_⟩; gi_at_call 28; go_must (refine (CallsIn.inRound l (callsIn_wide.2 HP1.out)).mono ?_))
              rintro e W3 ⟨r3, L3, rfl, hT3, hO3, hin3, hl3, hd3⟩
              have hI3 := tinv_tab HI2b.out hT3 hO3 (fun q hq => .inl (hin3 q hq))
              have g2 := hI3.tbox.cell 0
              have g3 := hI3.lst.cell 0
              have g4 := hI3.more.cell 0
              simp at g2 g3 g4
              have HI3b := Lib.hid (And.intro hI3 (And.intro hT3 (And.intro hO3 (And.intro hin3 (And.intro hl3 hd3)))))
              have HP2 := Lib.hid (tput_anyIX hT3 (k := (j : Int) + (i' : Int)) (kok_small _ (by omega) (by omega)) more (by have := HR.out.2.2.2.2.2.2.1; omega))
              clear hI3 hT3 hO3 hin3 hl3 hd3
              gi_wp2_with (refine ⟨trivial, ?_⟩; gi_at_call 26; go_must (refine (CallsIn.inRound l (callsIn_wide.2 HP2.out)).mono ?_))
              rintro e W4 ⟨r4, mv4, L4, rfl, hT4, hO4, hin4, hmv4, hl4, hp4⟩
              have e4 : mv4 = mv := by rw [HR.out.2.2.2.2.2.2.2]; exact hmv4 _ HR.out.2.2.2.2.2.2.2
              subst e4
              have hI4 := tinv_tab HI3b.out.1 hT4 hO4 hin4
              have hN3 := HR.out.1.only HI3b.out.2.2.1 (HI2b.out.tab.offT HR.out.1 (by decide) (by decide))
              have hM3 := HR.out.2.1.only HI3b.out.2.2.1 (HI2b.out.tab.offT HR.out.2.1 (by decide) (by decide))
              have hD3 := HI3b.out.2.2.1.same HR.out.2.2.1 (offD HI2b.out.tab HR.out.2.2.1)
              have hN4 := hN3.only hO4 (HI3b.out.1.tab.offT hN3 (by decide) (by decide))
              have hM4 := hM3.only hO4 (HI3b.out.1.tab.offT hM3 (by decide) (by decide))
              have hD4 := hO4.same hD3 (offD HI3b.out.1.tab hD3)
              have hxc4 := (hI4.below.cell (p := ad.add i') (by rw [block_add]; exact HR.out.2.2.2.2.1)).trans HR.out.2.2.2.1
              have g5 := hI4.lst.cell 0
              have g6 := hM4.cell 0
              have g7 := hM4.frz 0
              have g8 := hI4.res.cell 0
              have g9 := hI4.res.frz 0
              simp at g5 g6 g8
              have hii : (i' : Int) < (j : Int) := by omega
              have HI4b := Lib.hid (And.intro hI4 (And.intro hT4 (And.intro hO4 (And.intro hin4 (And.intro hp4 (And.intro hN4 (And.intro hM4 hD4)))))))
              clear hI4 hT4 hO4 hin4 hmv4 hl4 hp4 hN3 hM3 hD3 hN4 hM4 hD4
              by_cases hip : i' = p
              · subst hip
                gi_wp2_with fail
                obtain ⟨hI4, hT4, hO4, hin4, hp4, hN4, hM4, hD4⟩ := HI4b.out
                obtain ⟨hI3, hT3, hO3, hin3, hl3, hd3⟩ := HI3b.out
                have hmvg := HG.out.2.2.2.2.2
                have hpl2 : (pre ++ [i]).length = i' + 1 := by rw [List.length_append, List.length_singleton, hp]
                refine ⟨((HI2b.out.keepsT hmvg hO3).trans (hI3.keepsT hmvg hO4)).trans ((KeepsOthers.setCell _ _ _).from _),
                  ((kpT_stepIX HI2b.out.tab hmvg htbg hO3 hT3 hmvg (fun q hq => .inl (hin3 q hq))).trans (kpT_stepIX hT3 hmvg htbg hO4 hT4 hmvg hin4)).trans (kpT_farIX hT4 hmvg (p := ⟨nb + 1, 0, none⟩) hM4 (by decide) (by decide) hnbl _),
                  _, _, _, _, L4, tinv_far hI4 (p := ⟨nb + 1, 0, none⟩) hM4 (by show _ ≤ nb + 1; omega) _, ?_, hN4.far (p := ⟨nb + 1, 0, none⟩) (by show nb ≠ nb + 1; omega) _, ?_, ?_⟩
                · rw [hpl2]
                  exact turned_pairs hlen HR.out.2.2.2.2.2.1 hd3 hl3 hp4
                · rw [hpl2]
                  have := hM4.set 0 (.int .i64 ((i' : Int) + 1))
                  simpa using this
                · exact (Below.heap_setCell W4 ⟨nb + 1, 0, none⟩ _ D (by show D ≠ nb + 1; omega)).trans hD4
              · have hib : ((i' : Int) != (p : Int)) = true := by simp; omega
                have HV := Lib.hid hip
                clear hip
                gi_wp2_with fail
                have hmvg := HG.out.2.2.2.2.2
                refine ⟨((HI2b.out.keepsT hmvg HI3b.out.2.2.1).trans (HI3b.out.1.keepsT hmvg HI4b.out.2.2.1)).trans ((KeepsOthers.setCell _ _ _).from _), rfl, not_firsts (fun e => HV.out ?_)⟩
                rw [hp] at e
                have e2 : i = p := e
                rw [← hi', e2, Nat.mod_eq_of_lt hlen]
            case hstop =>
              rintro D2 c pre W2 hD2 ⟨j', hj', hpre⟩ ⟨rfl, hbad⟩ hK2
              exact absurd (isFirsts_of hpre) hbad
            case hdone =>
              rintro D2 ys2 W2 hD2 hys2 ⟨v2, ob2, k2, xs2, L2, hI, hL2, hN, hM, hKD⟩ hK2
              have hyl : ys2.length = j := by rw [hys2, firsts_length, HQ.out.2.2.2.1]
              rw [hyl] at hM
              have g2 := hI.lst.cell 0
              have g3 := hN.cell 0
              have g4 := hM.cell 0
              have g5 := hI.res.cell 0
              have g6 := hI.res.frz 0
              simp at g2 g3 g4 g5
              have HB := Lib.hid (And.intro hI (And.intro hKD hK2))
              clear hI hL2 hN hM hKD hK2 hys2 hyl
              go_wp2
              have z1 := HI1b.out.below.size
              exact marks_end_cell2 5 Try.f6 4 rfl (D1 := D) (D2 := D2) (by omega) HB.out.1.below g5 HB.out.2.1 HB.out.2.2 (by omega) (by omega) (by omega) _ rfl
          case hstop =>
            rintro D c pre W hD _ hIx hK
            exact hIx.elim

end Go.Proofs.Ytgcnocaibhiggaa
