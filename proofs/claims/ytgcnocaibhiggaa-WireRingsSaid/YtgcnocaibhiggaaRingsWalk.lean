/- The law WireRings, walked. -/
import Derived.Test.YtgcnocaibhiggaaRingsLoop
import Derived.Deep.LoopGhost
namespace Go.Proofs.Ytgcnocaibhiggaa
open Go.RowKit Go.Shelf
set_option linter.unusedVariables false
attribute [local go_sem] Oper.semAt_some

/-- A row of int32 that came in. -/
def IsI32s (w : World) (a : Option Addr) (len : Nat) (zs : List Int) : Prop := ∀ i, i < len → ∃ x, a = some x ∧ w.cell? (x.add i) = some (.int .i32 (zs.getD i 0))

set_option maxHeartbeats 6400000 in
set_option maxRecDepth 100000 in
theorem rings_walk (most : Int) (a : Option Addr) (len cap : Nat) (zs : List Int) (stop : Int) (w : World) (hz : IsI32s w a len zs) (hl63 : len ≤ 9223372036854775807) :
    Calls Try.prog 4 #[.int .i64 most, .slice a len cap, .int .i64 stop] w fun e w' => e = .returned (.bool true) ∧ Below w.heap.size w w' := by
  obtain ⟨m, hm, hm1⟩ : ∃ m : Int, m = (if 1000 < most then most % 1000 else most) ∧ m ≤ 1000 := ⟨_, rfl, by split <;> omega⟩
  obtain ⟨M, hM, hM1⟩ : ∃ M : Int, M = max m 1 ∧ M ≤ 1000 := ⟨_, rfl, by omega⟩
  obtain ⟨i0, hi, hz0, hz1, hz2⟩ := info_parts Try.infoInt32
  have Hm := Lib.hid hm
  have HM := Lib.hid hM
  have HZ := Lib.hid hz
  clear hm hM hz
  refine calls_marks 5 Try.func4 rfl ?_
  simp only [Try.ntmps4, List.size_toArray, List.length_cons, List.length_nil, Nat.reduceAdd, Nat.reduceSub, Array.replicate_succ, Array.replicate_zero, List.push_toArray, List.append_toArray, List.nil_append, List.cons_append]
  go_upto_if 18 with (go_at_call 8; refine (awake_yes _).mono ?_; rintro e w1 ⟨rfl, hB1⟩)
  go_cut [0] from 15 (fun s0 wc => s0 = .int .i64 m ∧ w1 = wc)
  case first =>
    go_wp2
    all_goals go_meet
    all_goals
      have hq := Hm.out
      refine ⟨?_, rfl⟩
      rw [hq]
      first
        | rw [if_pos (by assumption)]
        | rw [if_neg (by omega)]
  case rest =>
    obtain ⟨rfl, rfl⟩ := hcut
    go_upto_region 6 with (go_at_call 15; refine (newRing_any _ _).mono ?_; rintro e w2 ⟨rfl, hR0, hB2, hz2⟩; clear hz2)
    go_cut [0] from 15 (fun s0 wc => s0 = .int .i64 M ∧ w2 = wc)
    case first =>
      go_wp2
      all_goals go_meet
      all_goals
        have hq := HM.out
        refine ⟨?_, rfl⟩
        rw [hq]
        congr 1
        omega
    case rest =>
      obtain ⟨rfl, rfl⟩ := hcut
      go_wp2_with fail
      have hI0 := rinv_start hB1 hR0 hB2
      have HI := Lib.hid hI0
      obtain ⟨b, hb⟩ : ∃ b, w1.heap.size = b := ⟨_, rfl⟩
      obtain ⟨wb, hwb⟩ : ∃ wb, w2.heap.size = wb := ⟨_, rfl⟩
      rw [hb, hwb] at HI
      rw [hb, hwb]
      clear hI0 hB1 hR0 hB2 hb hwb
      go_loopg [27] len (fun gk s27 wr => ∃ j : Nat, j ≤ len ∧ gk = len - j ∧ s27 = .int .i64 j ∧ ∃ v ob k xs wv wob L, RInv w b wb m stop wr v ob k xs wv wob L ∧ RNum m v k xs L)
      case atStart => exact ⟨0, Nat.zero_le _, rfl, rfl, _, _, _, _, _, _, _, HI.out, .inr ⟨rfl, rfl, rfl⟩, by simp; omega, fun _ => rfl, rfl⟩
      case round =>
        obtain ⟨j, hj, rfl, rfl, v, ob, k, xs, wv, wob, L, hI, hN⟩ := hrel
        by_cases hlt : j < len
        · obtain ⟨ad, rfl, hx⟩ := HZ.out j hlt
          obtain ⟨x, hxe⟩ : ∃ x, zs.getD j 0 = x := ⟨_, rfl⟩
          rw [hxe] at hx
          have hadl : ad.block < w.heap.size := by have := cell_lt hx; rwa [block_add] at this
          have hxj : wr.cell? (ad.add j) = some (.int .i32 x) := (hI.below.cell (p := ad.add j) (by rw [block_add]; exact hadl)).trans hx
          have hjl : (j : Int) < (len : Int) := by omega
          have hj0 : (0 : Int) ≤ (j : Int) := by omega
          have hwb := hI.box.cell 0
          simp at hwb
          have hLl : L.length ≤ 1000 := by
            obtain ⟨_, n2, _, n4⟩ := hN
            have := HM.out
            have e : L.length = (xs.drop k).length + (xs.take k).length := by rw [n4, List.length_append]
            simp at e
            omega
          have hb1 : L.length + 1 ≤ maxLen := by unfold maxLen; omega
          have hb2 : (L.length + 1) * 4 ≤ 140737488355328 := by omega
          have hwbA : ∀ o : Obj, (wr.alloc o).cell? ⟨wb, 0, none⟩ = some wv := fun o => by have := (hI.box.alloc o).cell 0; simpa using this
          have hxA : ∀ o : Obj, (wr.alloc o).cell? (ad.add j) = some (.int .i32 x) := fun o => Go.Lib.cell?_alloc_some o hxj
          have HI := Lib.hid hI
          have HN := Lib.hid hN
          have HX := Lib.hid (And.intro hx hadl)
          clear hI hN hx hxe hadl
          go_upto_region 11 with fail
          go_cut [27] from 27 to 78 (fun s27 wc => s27 = .int .i64 j ∧ ∃ wv' wob', RInv w b wb m stop wc v ob k xs wv' wob' (L ++ [x]))
          case first =>
            go_region_law (refine step_append_sl (v := wv) (xs := i32s L) (ob := wob) rfl _ _ _ rfl i0 (.int .i32 0) 4 Try.underlying29 hi hz0 hz1 hz2 rfl rfl L.length (i32s_length L) (HI.out.list.alloc _) ⟨wr.heap.size, 0, none⟩ 1 rfl (.int .i32 x) (Whole.cell (Whole.new wr _ _) 0) rfl hb1 hb2 ?_; intro g off cap2 w1 hS hgr hat; have hW1 := Whole.grown (w := (wr.alloc _).drew) (HI.out.box.alloc _) hgr (fun e => HI.out.list.ne_whole HI.out.box (by decide) e.symm); have e1 := hW1.cell 0; have f1 := hW1.frz 0; simp at e1; clear hW1; have HS := Lib.hid (And.intro hS (And.intro hgr hat)); clear hS hgr hat)
            all_goals (go_wp2_with fail; go_meet)
            all_goals
              obtain ⟨hS, hgr, hat⟩ := HS.out
              have hq := rinv_append HI.out hS ⟨hgr.os, hgr.tape, hgr.output, hgr.size, hgr.block⟩ (by simpa using hat)
              first
                | exact ⟨rfl, _, _, hq⟩
                | exact ⟨rfl, _, _, hq.drew⟩
          case rest =>
            obtain ⟨rfl, wv2, wob2, hI2⟩ := hcut
            have hxj2 := (hI2.below.cell (p := ad.add j) (by rw [block_add]; exact HX.out.2)).trans HX.out.1
            have hMx := HM.out
            clear hwb hxj hwbA hxA
            by_cases hroom : (xs.length : Int) < max m 1
            · obtain ⟨_, hLx, hk0⟩ := rnum_room (v' := v) HN.out x hroom
              have hN3 : ∀ v', RNum m v' k (xs ++ [x]) (L ++ [x]) := fun v' => (rnum_room (v' := v') HN.out x hroom).1
              have hlq : (xs ++ [x]).length = L.length + 1 := by rw [hLx]; simp
              have HLQ := Lib.hid hlq
              have hlen : (L.length : Int) + 1 ≤ M := by omega
              obtain ⟨Aw, capw, rfl, hw1, hw2⟩ := hI2.list.form
              have el : (i32s (L ++ [x])).length = L.length + 1 := by simp
              have HI2 := Lib.hid hI2
              have HQ := Lib.hid (And.intro hN3 (And.intro hLx (And.intro hMx hroom)))
              rw [el] at HI2
              clear hI2 hN3 hLx hMx hroom el hw1 hk0 hlq
              go_wp2_with fail
              refine (put_room b m v k xs ob x _ HI2.out.ring HQ.out.2.2.2 (by have := HQ.out.2.1; omega)).mono ?_
              rintro e w3 ⟨rfl, v3, ob3, hR3, hO3, hat3⟩
              have hI3 := rinv_put HI2.out hR3 hO3 hat3
              have hwb3 := hI3.box.cell 0
              simp at hwb3
              have HI3 := Lib.hid hI3
              clear hI3 hR3 hO3 hat3
              go_wp2_with fail
              go_quiet ((go_at_call 17; exact Calls.quiet_of_same (len_q (L.length + 1) b m v3 k (xs ++ [x]) ob3 _ HI3.out.ring HLQ.out)))
              go_wp2_with fail
              go_roundg (len - (j + 1))
              case measure => omega
              case rel =>
                exact ⟨j + 1, by omega, rfl, by simp, v3, ob3, k, xs ++ [x], _, _, L ++ [x], HI3.out.drewN _, HQ.out.1 v3⟩
            · obtain ⟨hN3, hLx, hkx, hxM, y, hy, hy0⟩ := rnum_full HN.out x hroom
              have hlq : (xs.set k x).length = L.length := by rw [List.length_set, hLx]
              have hlen : M = (L.length : Int) := by omega
              have hwl : 0 < (i32s (L ++ [x])).length := by simp
              obtain ⟨gw, offw, capw, hwv, hwo, hgl, hwc, hwf⟩ := hI2.list.at_ hwl
              obtain ⟨_, capw', hwv', hw1, hw2⟩ := hI2.list.form
              have hcc : capw = capw' := by rw [hwv] at hwv'; injection hwv'
              subst hcc
              clear hwv'
              have hLp : 0 < L.length := by omega
              have hc1 : ¬ capw = 1 := by simp at hw1; omega
              have el : (i32s (L ++ [x])).length = L.length + 1 := by simp
              have ew0 : (i32s (L ++ [x]))[0]? = some (.int .i32 y) := by simp only [i32s, List.getElem?_map, hy0]; rfl
              have hwc2 := hwc.trans ew0
              simp only [Nat.add_zero] at hwc2
              rw [el] at hwv
              subst hwv
              have HI2 := Lib.hid hI2
              have HQ := Lib.hid (And.intro hN3 (And.intro hLx (And.intro hxM (And.intro hkx (And.intro hy (And.intro hLx (And.intro hlq (And.intro hlen (And.intro hMx (And.intro hwo (And.intro ew0 hwl)))))))))))
              have hlen' : M < (L.length : Int) + 1 := by omega
              have hlen2 : (L.length : Int) ≤ 1000 := by omega
              clear hI2 hN3 hLx hMx hroom el hw1 hxM hkx hy hy0 hlq hlen hwl hwc hwf hwo ew0 hgl
              go_wp2_with fail
              refine (put_full b m v k xs ob x _ HI2.out.ring (by have := HQ.out.2.2.1; omega) y HQ.out.2.2.2.2.1 (by have := HQ.out.2.1; omega)).mono ?_
              rintro e w3 ⟨rfl, hR3, hO3⟩
              have hI3 := rinv_put HI2.out hR3 hO3 (.inl rfl)
              have hwb3 := hI3.box.cell 0
              have fwb3 := hI3.box.frz 0
              simp at hwb3
              have hy3 : w3.cell? ⟨gw, offw, none⟩ = some (.int .i32 y) := by
                obtain ⟨g', o', c', hv', _, _, hc', _⟩ := hI3.list.at_ HQ.out.2.2.2.2.2.2.2.2.2.2.2
                injection hv' with e1 _ _
                cases e1
                exact hc'.trans HQ.out.2.2.2.2.2.2.2.2.2.2.1
              have HI3 := Lib.hid hI3
              clear hI3 hR3 hO3
              go_wp2_with fail
              have hI4 := rinv_tail HI3.out (wv' := .slice (some ⟨gw, offw + 1, none⟩) L.length (capw - 1)) (L' := (L ++ [x]).drop 1) (list_tail HI3.out.list hc1) (fun g e => e)
              have hwb4 := hI4.box.cell 0
              simp at hwb4
              have HI4 := Lib.hid hI4
              clear hI4
              go_quiet ((go_at_call 17; exact Calls.quiet_of_same (len_q L.length b m v ((k + 1) % xs.length) (xs.set k x) ob _ HI4.out.ring HQ.out.2.2.2.2.2.2.1)))
              go_wp2_with fail
              go_roundg (len - (j + 1))
              case measure => omega
              case rel =>
                exact ⟨j + 1, by omega, rfl, by simp, v, ob, (k + 1) % xs.length, xs.set k x, _, _, (L ++ [x]).drop 1, HI4.out.drewN _, HQ.out.1⟩
        · obtain rfl : j = len := by omega
          have hLx := rnum_len hN
          obtain ⟨hn1, hn2, hn3, hn4⟩ := hN
          have hxs : xs.length ≤ 1000 := by have := HM.out; omega
          have HI := Lib.hid hI
          have HN := Lib.hid (And.intro hn1 (And.intro hn4 (And.intro hLx hxs)))
          clear hI hn1 hn2 hn3 hn4 hLx hxs
          go_wp2_with (go_at_call 18; refine (ringAll_any _ _).mono ?_; rintro e w' ⟨rfl, rfl⟩)
          have hN0 := Whole.new wr 3 #[.int .i64 0]
          have hB0 := Whole.new (wr.alloc (.cells #[.int .i64 0] 3)) 30 #[.pointer (some ⟨b, 0, none⟩)]
          rw [World.size_alloc] at hB0
          obtain ⟨Wf, hWf⟩ : ∃ Wf, (wr.alloc (.cells #[.int .i64 0] 3)).alloc (.cells #[.pointer (some ⟨b, 0, none⟩)] 30) = Wf := ⟨_, rfl⟩
          have hzf : Wf.heap.size = wr.heap.size + 2 := by rw [← hWf]; simp
          have hIf : RInv w b wb m stop Wf v ob k xs wv wob L := HI.out.under (by rw [← hWf]; exact ((Below.refl _ wr).alloc (Nat.le_refl _) _).alloc (by simp) _)
          have hNf := hN0.alloc (.cells #[.pointer (some ⟨b, 0, none⟩)] 30)
          rw [hWf] at hNf hB0 ⊢
          obtain ⟨nb, hnb⟩ : ∃ nb, wr.heap.size = nb := ⟨_, rfl⟩
          have hwz := HI.out.below.size
          rw [hnb] at hNf hB0 hzf hwz ⊢
          have hbl := HI.out.ring.1.lt
          have hwbl := HI.out.box.lt
          have hrl := HI.out.res.lt
          have hobl : ob ≠ some nb := fun e => by have := HI.out.ring.2.lt e; omega
          have hwobl : wob ≠ some nb := fun e => by have := HI.out.list.lt e; omega
          rw [hnb] at hbl hwbl hrl
          have HS := Lib.hid (And.intro hIf (And.intro hNf (And.intro hB0 (And.intro hzf (And.intro hobl hwobl)))))
          clear hN0 hB0 hIf hNf hWf hnb hobl hwobl
          refine (wpIn_wide (n := 5)).1 ?_
          apply wpIn_rangeFunc_ownG (α := Nat × Int) (encs := encP) (Kp := KpS (SafeFrom Wf.heap.size)) rfl (by decide) (gf := 43) (lb := #[.pointer (some ⟨nb + 1, 0, none⟩)]) rfl trivial (enters_of Try.func43 (by kernel_rfl) rfl)
            (ring_stops 4 (by decide) (nb + 1) b m v k xs ob (SafeFrom Wf.heap.size) Wf (by rw [HS.out.2.2.2.1]; omega) (HS.out.2.2.1.cell 0) HS.out.1.ring HN.out.1 (by have := HN.out.2.2.2; omega) (fun _ _ _ h => h))
            (fun h k => h.trans k) (fun W l o o' _ hl hc _ => kpS_put (fun _ _ _ _ h => h) W l o o' hl hc) (Below.refl _ _) (fun _ => rfl)
            (fun pre W => RInv w b wb m stop W v ob k xs wv wob L ∧ Whole W nb 3 #[.int .i64 pre.length] ∧ IsFirsts (place L) pre)
            (fun c pre W => (c = .ret ∧ ¬ IsFirsts (place L) pre) ∨ (c = .exit 2 ∧ RInv w b wb m stop W v ob k xs wv wob L ∧ Whole W nb 3 #[.int .i64 pre.length] ∧ stop = pre.length))
            (fun s A B row hs hg hr => ⟨hs.1.grown hg (fun r e => ⟨by have := (hr r e).1; omega, (hr r e).2⟩), hs.2.1.grownOther hg (fun r e => (hr r e).2), hs.2.2⟩)
            (fun c s A B row hs hg hr => hs.imp id fun hs => ⟨hs.1, hs.2.1.grown hg (fun r e => ⟨by have := (hr r e).1; omega, (hr r e).2⟩), hs.2.2.1.grownOther hg (fun r e => (hr r e).2), hs.2.2.2⟩)
            ⟨HS.out.1, HS.out.2.1, rfl⟩
          case hassign =>
            intro l x W K hK
            simp only [encP]
            gi_wp2
            exact hK
          case hbody =>
            rintro l pre ⟨xi, xv⟩ W ⟨hI, hN, hP⟩ hlen
            have hnl : pre.length < L.length := by have := HN.out.2.2.1; omega
            have hn1000 : pre.length ≤ 1000 := by have := HN.out.2.2; omega
            obtain ⟨gw, offw, capw, hwv, _, _, hwc, _⟩ := hI.list.at_ (i := pre.length) (by simpa using hnl)
            obtain ⟨y, hy⟩ : ∃ y, L.getD pre.length 0 = y := ⟨_, rfl⟩
            have hyc : W.cell? ⟨gw, offw + pre.length, none⟩ = some (.int .i32 y) := by
              rw [hwc, ← hy]
              simp [i32s, List.getD, List.getElem?_eq_getElem hnl]
            have hwb := hI.box.cell 0
            rw [hwv, i32s_length] at hwb
            simp at hwb
            have hnc := hN.cell 0
            simp at hnc
            have hnf := hN.frz 0
            have hrc := hI.res.cell 0
            simp at hrc
            have hrf := hI.res.frz 0
            have hsc := hI.stop.cell 0
            simp at hsc
            have hpl : place L pre.length = (pre.length, y) := by unfold place; rw [hy]
            obtain ⟨n, hn⟩ : ∃ n, pre.length = n := ⟨_, rfl⟩
            rw [hn] at hnl hn1000 hyc hnc hpl
            have HB := Lib.hid (And.intro hI (And.intro hN (And.intro hP (And.intro hpl hn))))
            have hstep : (pre ++ [(n, y)]).length = n + 1 := by simp [hn]
            have hI2 := hI.far (p := ⟨nb, 0, none⟩) hwz (by show nb ≠ b; omega) (by show nb ≠ wb; omega) (by show nb ≠ w.heap.size; omega) (by show nb ≠ w.heap.size + 1; omega) HS.out.2.2.2.2.1 HS.out.2.2.2.2.2 (.int .i64 ((n : Int) + 1))
            have hN2 : Whole (W.setCell ⟨nb, 0, none⟩ (.int .i64 ((n : Int) + 1))) nb 3 #[.int .i64 ((pre ++ [(n, y)]).length : Int)] := by
              rw [hstep]
              exact hN.set 0 _
            have hP2 : IsFirsts (place L) (pre ++ [(n, y)]) := by
              have := hP.next
              rwa [hn, hpl] at this
            have HB2 := Lib.hid (And.intro hI2 (And.intro hN2 (And.intro hP2 hstep)))
            clear hI2 hN2 hP2 hstep
            have hni : (n : Int) < (L.length : Int) := by omega
            have hn0 : (0 : Int) ≤ (n : Int) := by omega
            clear hI hN hP hwv hwc hy hpl hn
            by_cases hi : xi = n
            · subst hi
              by_cases hv : xv = y
              · subst hv
                by_cases hst : ((xi : Int) + 1 == stop) = true
                · have hst2 : stop = (xi : Int) + 1 := by simpa using (beq_iff_eq.1 hst).symm
                  have HT := Lib.hid hst2
                  clear hst2
                  gi_wp2
                  exact ⟨(KeepsOthers.setCell _ _ _).from _, .inr ⟨rfl, HB2.out.1, HB2.out.2.1, by rw [HT.out, HB2.out.2.2.2]; simp⟩⟩
                · have hst' : ((xi : Int) + 1 == stop) = false := by simpa using hst
                  clear hst
                  gi_wp2
                  exact ⟨(KeepsOthers.setCell _ _ _).from _, kpFrom_set _ W (p := ⟨nb, 0, none⟩) (by show nb < Wf.heap.size; omega) _, HB2.out.1, HB2.out.2.1, HB2.out.2.2.1⟩
              · have hvb : (xv != y) = true := by simpa using hv
                have HV := Lib.hid hv
                clear hv
                gi_wp2
                exact ⟨(KeepsOthers.setCell _ _ _).from _, .inl ⟨rfl, not_firsts (by rw [HB.out.2.2.2.2, HB.out.2.2.2.1]; intro e; exact HV.out (by cases e; rfl))⟩⟩
            · have hib : ((xi : Int) != (n : Int)) = true := by simp; omega
              have HV := Lib.hid hi
              clear hi
              gi_wp2
              exact ⟨(KeepsOthers.setCell _ _ _).from _, .inl ⟨rfl, not_firsts (by rw [HB.out.2.2.2.2, HB.out.2.2.2.1]; intro e; exact HV.out (by cases e; rfl))⟩⟩
          case hdone =>
            rintro D ys W hD hys ⟨hI, hN, hP⟩ hK
            have hyl : ys.length = L.length := by rw [hys, firsts_length, HN.out.2.2.1]
            have hwl := hI.list.form
            obtain ⟨Aw, capw, hwv, _, _⟩ := hwl
            have hwb := hI.box.cell 0
            rw [hwv, i32s_length] at hwb
            simp at hwb
            have hnc := hN.cell 0
            rw [hyl] at hnc
            simp at hnc
            have hrc := hI.res.cell 0
            simp at hrc
            have hrf := hI.res.frz 0
            have hsc := hI.stop.cell 0
            simp at hsc
            have HB := Lib.hid (And.intro hI (And.intro hN (And.intro hD hK)))
            clear hI hN hD hK hP hyl hwv hys
            go_wp2
            exact marks_end 5 Try.f4 6 rfl HB.out.1.below hrc HB.out.2.2.2 (Nat.le_trans (by omega) HB.out.2.2.1) (by omega) _ rfl
          case hstop =>
            rintro D c pre W hD ⟨j', hj', hpre⟩ hIx hK
            rcases hIx with ⟨rfl, hbad⟩ | ⟨rfl, hI, hN, hst⟩
            · rw [← HN.out.2.1] at hpre
              exact absurd (isFirsts_of hpre) hbad
            obtain ⟨Aw, capw, hwv, _, _⟩ := hI.list.form
            have hwb := hI.box.cell 0
            rw [hwv, i32s_length] at hwb
            simp at hwb
            have hnc := hN.cell 0
            rw [← hst] at hnc
            simp at hnc
            have hrc := hI.res.cell 0
            simp at hrc
            have hrf := hI.res.frz 0
            have hsc := hI.stop.cell 0
            simp at hsc
            have HB := Lib.hid (And.intro hI (And.intro hN (And.intro hD hK)))
            clear hI hN hD hK hwv hst hpre
            by_cases hq : (stop == (L.length : Int)) = true
            · gi_wp2
              go_wp2
              exact marks_end 5 Try.f4 6 rfl HB.out.1.below hrc HB.out.2.2.2 (Nat.le_trans (by omega) HB.out.2.2.1) (by omega) _ rfl
            · have hq' : (stop == (L.length : Int)) = false := by simpa using hq
              clear hq
              gi_wp2
              go_wp2
              exact marks_end 5 Try.f4 6 rfl HB.out.1.below hrc HB.out.2.2.2 (Nat.le_trans (by omega) HB.out.2.2.1) (by omega) _ rfl

end Go.Proofs.Ytgcnocaibhiggaa
