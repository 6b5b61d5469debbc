import Derived.Test.YtibpnjakimobmaaGreatPkJudgeTurnedA04
namespace Go.Proofs.YtibpnjakimobmaaGreat
open Go.RowKit
set_option linter.unusedVariables false
set_option linter.unusedSimpArgs false
theorem any_prefix {α : Type} [Inhabited α] {L : List α} {q : α → Bool} {k : Nat} (hk : k ≤ L.length) (h : ∀ j, j < k → q (L.getD j default) = false) : (L.take k).any q = false := by
 rw [List.any_eq_false]
 intro a ha
 obtain ⟨j, hj, rfl⟩ := List.getElem_of_mem ha
 rw [List.length_take] at hj
 have := h j (by omega)
 rw [List.getElem_take]
 have hjl : j < L.length := by omega
 simpa [List.getD, hjl] using this
theorem any_prefix_yes {α : Type} [Inhabited α] {L : List α} {q : α → Bool} {k j : Nat} (hk : k ≤ L.length) (hj : j < k) (h : q (L.getD j default) = true) : (L.take k).any q = true := by
 rw [List.any_eq_true]
 have hjl : j < L.length := by omega
 refine ⟨L[j], ?_, by simpa [List.getD, hjl] using h⟩
 rw [List.mem_iff_getElem]
 exact ⟨j, by rw [List.length_take]; omega, by rw [List.getElem_take]⟩
set_option maxHeartbeats 12800000 in
set_option maxRecDepth 100000 in
theorem rgood_any (M : Array Value) (m : MediaS) (vC vE vR vS vY : Value) (w : World) (h : MediaV w w.heap.size M m vC vE vR vS vY) (hz : SizM m) :
 Calls Tryz.prog 16 #[.agg M] w fun e w' => e = .returned (.bool (goodM m)) ∧ Below w.heap.size w w' := by
 obtain ⟨AC, kC, AE, kE, AR, kR, AS, kS, AY, kY, rfl, rfl, rfl, rfl, rfl⟩ := h.forms
 obtain ⟨hform, hvC, hvE, hvR, hvS, hvY⟩ := h
 subst hform
 obtain ⟨nC, hnC⟩ : ∃ n, m.codecs.length = n := ⟨_, rfl⟩
 obtain ⟨nE, hnE⟩ : ∃ n, m.exts.length = n := ⟨_, rfl⟩
 obtain ⟨nR, hnR⟩ : ∃ n, m.rids.length = n := ⟨_, rfl⟩
 obtain ⟨nS, hnS⟩ : ∃ n, m.sources.length = n := ⟨_, rfl⟩
 obtain ⟨nY, hnY⟩ : ∃ n, m.crypto.length = n := ⟨_, rfl⟩
 obtain ⟨hc1, hc2, hc3, hc4, hc5⟩ := hz.counts
 rw [hnC] at hvC hc1
 rw [hnE] at hvE hc2
 rw [hnR] at hvR hc3
 rw [hnS] at hvS hc4
 rw [hnY] at hvY hc5
 rw [hnC, hnE, hnR, hnS, hnY]
 have hb0 : Below w.heap.size w (w.alloc (.cells #[.int .i64 m.kind, .int .i64 m.port, .string m.mid, .int .i64 m.dir, .slice AC nC kC, .slice AE nE kE, .slice AR nR kR, .bool m.sending, .slice AS nS kS, .slice AY nY kY, .int .i64 m.sctp] 44)) := (Below.refl _ w).alloc (Nat.le_refl _) _
 have hw := Whole.new w 44 #[.int .i64 m.kind, .int .i64 m.port, .string m.mid, .int .i64 m.dir, .slice AC nC kC, .slice AE nE kE, .slice AR nR kR, .bool m.sending, .slice AS nS kS, .slice AY nY kY, .int .i64 m.sctp]
 have hv0 : CodecsV (w.alloc (.cells #[.int .i64 m.kind, .int .i64 m.port, .string m.mid, .int .i64 m.dir, .slice AC nC kC, .slice AE nE kE, .slice AR nR kR, .bool m.sending, .slice AS nS kS, .slice AY nY kY, .int .i64 m.sctp] 44)) w.heap.size (.slice AC nC kC) m.codecs ∧ ExtsV (w.alloc (.cells #[.int .i64 m.kind, .int .i64 m.port, .string m.mid, .int .i64 m.dir, .slice AC nC kC, .slice AE nE kE, .slice AR nR kR, .bool m.sending, .slice AS nS kS, .slice AY nY kY, .int .i64 m.sctp] 44)) w.heap.size (.slice AE nE kE) m.exts ∧ TextsV (w.alloc (.cells #[.int .i64 m.kind, .int .i64 m.port, .string m.mid, .int .i64 m.dir, .slice AC nC kC, .slice AE nE kE, .slice AR nR kR, .bool m.sending, .slice AS nS kS, .slice AY nY kY, .int .i64 m.sctp] 44)) w.heap.size (.slice AR nR kR) m.rids ∧ NumsV (w.alloc (.cells #[.int .i64 m.kind, .int .i64 m.port, .string m.mid, .int .i64 m.dir, .slice AC nC kC, .slice AE nE kE, .slice AR nR kR, .bool m.sending, .slice AS nS kS, .slice AY nY kY, .int .i64 m.sctp] 44)) w.heap.size (.slice AS nS kS) m.sources ∧ CrysV (w.alloc (.cells #[.int .i64 m.kind, .int .i64 m.port, .string m.mid, .int .i64 m.dir, .slice AC nC kC, .slice AE nE kE, .slice AR nR kR, .bool m.sending, .slice AS nS kS, .slice AY nY kY, .int .i64 m.sctp] 44)) w.heap.size (.slice AY nY kY) m.crypto :=
  ⟨hvC.below hb0, hvE.below hb0, hvR.below hb0, hvS.below hb0, hvY.below hb0⟩
 have HV := Lib.hid hv0
 have HNN := Lib.hid (And.intro hnC (And.intro hnE (And.intro hnR (And.intro hnS hnY))))
 have HWO : Hid (Calls Tryz.prog 15 #[.string m.mid, .int .i64 1, .int .i64 16] (w.alloc (.cells #[.int .i64 m.kind, .int .i64 m.port, .string m.mid, .int .i64 m.dir, .slice AC nC kC, .slice AE nE kE, .slice AR nR kR, .bool m.sending, .slice AS nS kS, .slice AY nY kY, .int .i64 m.sctp] 44)) fun e w' => e = .returned (.bool (wordP 1 16 (tx m.mid))) ∧ (w.alloc (.cells #[.int .i64 m.kind, .int .i64 m.port, .string m.mid, .int .i64 m.dir, .slice AC nC kC, .slice AE nE kE, .slice AR nR kR, .bool m.sending, .slice AS nS kS, .slice AY nY kY, .int .i64 m.sctp] 44)) = w') := Lib.hid (word_most m.mid 1 16 _ (by have := hz.mid; unfold maxLen; omega))
 have HZ := Lib.hid hz
 have HB := Lib.hid hb0
 have HBX := Lib.hid hw
 obtain ⟨B1, hB1⟩ : ∃ b, goodHead m = b := ⟨_, rfl⟩
 obtain ⟨B2, hB2⟩ : ∃ b, goodStreams m = b := ⟨_, rfl⟩
 obtain ⟨B3, hB3⟩ : ∃ b, goodChannel m = b := ⟨_, rfl⟩
 have hx : goodM m = (B1 && ((decide (m.kind = 1) || decide (m.kind = 2)) && B2 || decide (m.kind = 3) && B3)) := by
  unfold goodM
  rw [hB1, hB2, hB3]
 have hx1 : B1 = ((decide (m.port = 0) || decide (m.port = 9)) && (wordP 1 16 (tx m.mid) && (decide (0 ≤ m.dir) && decide (m.dir ≤ 3)))) := by
  rw [← hB1]
  unfold goodHead
  simp only [Bool.and_assoc]
 have hx2 : B2 = (decide (1 ≤ nC) && (decide (nC ≤ 16) && (decide (nE ≤ 14) && (decide (nR ≤ 3) && ((decide (1 ≤ nR) || !m.sending) && (decide (nS ≤ 16) && (decide (nY ≤ 1) && decide (m.sctp = 0))))))) && (m.codecs.all goodC && unlike CodecS.type m.codecs && (m.exts.all goodE && unlike ExtS.id m.exts) && (m.rids.all goodR && unlike tx m.rids) && unlike id m.sources && m.crypto.all goodY)) := by
  rw [← hB2]
  unfold goodStreams
  rw [hnC, hnE, hnR, hnS, hnY, Bool.eq_iff_iff]
  simp only [Bool.and_eq_true]
  constructor
  · rintro ⟨⟨⟨⟨⟨⟨⟨h1, ⟨h2, h3⟩, h4⟩, ⟨h5, h6⟩, h7⟩, ⟨h8, h9⟩, h10⟩, h11⟩, h12, h13⟩, h14, h15⟩, h16⟩
    exact ⟨⟨h1, h2, h5, h8, h11, h12, h14, h16⟩, ⟨⟨⟨⟨h3, h4⟩, h6, h7⟩, h9, h10⟩, h13⟩, h15⟩
  · rintro ⟨⟨h1, h2, h5, h8, h11, h12, h14, h16⟩, ⟨⟨⟨⟨h3, h4⟩, h6, h7⟩, h9, h10⟩, h13⟩, h15⟩
    exact ⟨⟨⟨⟨⟨⟨⟨h1, ⟨h2, h3⟩, h4⟩, ⟨h5, h6⟩, h7⟩, ⟨h8, h9⟩, h10⟩, h11⟩, h12, h13⟩, h14, h15⟩, h16⟩
 have hx3 : B3 = (decide (nC + nE + nR + nS + nY = 0) && (!m.sending && (decide (1 ≤ m.sctp) && decide (m.sctp ≤ 65535)))) := by
  rw [← hB3]
  unfold goodChannel
  rw [hnC, hnE, hnR, hnS, hnY]
  simp [Bool.and_assoc]
 have HX := Lib.hid hx
 have HX1 := Lib.hid hx1
 have HX2 := Lib.hid hx2
 have HX3 := Lib.hid hx3
 have w1 : IntKind.i64.wrap ((nC : Int) + (nE : Int)) = (nC : Int) + (nE : Int) := IntWalk.i64_in _ (by omega)
 have w2 : IntKind.i64.wrap ((nC : Int) + (nE : Int) + (nR : Int)) = (nC : Int) + (nE : Int) + (nR : Int) := IntWalk.i64_in _ (by omega)
 have w3 : IntKind.i64.wrap ((nC : Int) + (nE : Int) + (nR : Int) + (nS : Int)) = (nC : Int) + (nE : Int) + (nR : Int) + (nS : Int) := IntWalk.i64_in _ (by omega)
 have w4 : IntKind.i64.wrap ((nC : Int) + (nE : Int) + (nR : Int) + (nS : Int) + (nY : Int)) = (nC : Int) + (nE : Int) + (nR : Int) + (nS : Int) + (nY : Int) := IntWalk.i64_in _ (by omega)
 have c0 := hw.cell 0
 have c1 := hw.cell 1
 have c2 := hw.cell 2
 have c3 := hw.cell 3
 have c4 := hw.cell 4
 have c5 := hw.cell 5
 have c6 := hw.cell 6
 have c7 := hw.cell 7
 have c8 := hw.cell 8
 have c9 := hw.cell 9
 have c10 := hw.cell 10
 simp only [List.getElem?_toArray, List.getElem?_cons_zero, List.getElem?_cons_succ] at c0 c1 c2 c3 c4 c5 c6 c7 c8 c9 c10
 have HZC : Hid (∀ x ∈ m.codecs, ∀ (Af : Option Addr) (lf kf : Nat) (W : World), TextsV W W.heap.size (.slice Af lf kf) x.feedback → Calls Tryz.prog 34 #[.agg #[.int .i64 x.type, .string x.name, .int .i64 x.clock, .int .i64 x.chans, .string x.format, .slice Af lf kf]] W fun e w' => e = .returned (.bool (goodC x)) ∧ Below W.heap.size W w') := Lib.hid fun x hx Af lf kf W hv => rgoodCodec_any x Af lf kf W hv (hz.names x hx) (hz.feeds x hx)
 have HZE : Hid (∀ x ∈ m.exts, ∀ (W : World), Calls Tryz.prog 35 #[.string x.uri] W fun e w' => e = .returned (.bool (uriP (tx x.uri))) ∧ W = w') := Lib.hid fun x hx W => ruri_any x.uri W (by have := hz.uris x hx; unfold maxLen; omega)
 have HZR : Hid (∀ x ∈ m.rids, ∀ (W : World), Calls Tryz.prog 15 #[.string x, .int .i64 1, .int .i64 8] W fun e w' => e = .returned (.bool (goodR x)) ∧ W = w') := Lib.hid fun x hx W => word_most x 1 8 W (by have := hz.rids x hx; unfold maxLen; omega)
 generalize goodM m = r at *
 generalize wordP 1 16 (tx m.mid) = tw at *
 generalize hLC : m.codecs = LC at *
 generalize hLE : m.exts = LE at *
 generalize hLR : m.rids = LR at *
 generalize hLS : m.sources = LS at *
 generalize hLY : m.crypto = LY at *
 generalize m.port = p at *
 generalize m.kind = kd at *
 generalize m.dir = d at *
 generalize m.mid = md at *
 generalize m.sctp = sc at *
 generalize m.sending = sd at *
 clear hz hx hx1 hx2 hx3 hB1 hB2 hB3 hb0 hw hv0 hvC hvE hvR hvS hvY hnC hnE hnR hnS hnY HZ hLC hLE hLR hLS hLY
 obtain ⟨N, hN⟩ : ∃ N, w.heap.size = N := ⟨_, rfl⟩
 rw [hN] at c0 c1 c2 c3 c4 c5 c6 c7 c8 c9 c10 HB HBX HV ⊢
 go_enter Tryz.func16, Tryz.ntmps16
 go_upto_region 1 with fail
 generalize w.alloc (.cells #[.int .i64 kd, .int .i64 p, .string md, .int .i64 d, .slice AC nC kC, .slice AE nE kE, .slice AR nR kR, .bool sd, .slice AS nS kS, .slice AY nY kY, .int .i64 sc] 44) = W0 at *
 have HN : Hid (N ≤ W0.heap.size) := Lib.hid (Nat.le_of_lt HBX.out.lt)
 clear hN
 obtain ⟨bh, hbh⟩ : ∃ b, (!(decide (1 ≤ kd) && decide (kd ≤ 3) && B1)) = b := ⟨_, rfl⟩
 have HBH := Lib.hid hbh
 clear hbh
 go_cut [44] from 11 to 44 (fun s44 wc => s44 = .bool bh ∧ W0 = wc)
 case first =>
  as_aux_lemma =>
   by_cases k1 : 1 ≤ kd
   · skip
     by_cases k3 : kd ≤ 3
     · skip
       by_cases p0 : p = 0
       · subst p0
         cases tw with
         | false =>
           have HQ : Hid (bh = true) := Lib.hid (by rw [← HBH.out, HX1.out]; simp [k1, k3])
           go_wp2_with (go_at_call 15; (with_reducible refine HWO.out.mono ?_); rintro e w' ⟨rfl, rfl⟩)
           go_meet
           exact ⟨by rw [HQ.out]; first | done | (congr 1; simp; omega), rfl⟩
         | true =>
           by_cases d0 : 0 ≤ d
           · skip
             by_cases d3 : d ≤ 3
             · skip
               have HQ : Hid (bh = false) := Lib.hid (by rw [← HBH.out, HX1.out]; simp [k1, k3, d0, d3])
               go_wp2_with (go_at_call 15; (with_reducible refine HWO.out.mono ?_); rintro e w' ⟨rfl, rfl⟩)
               go_meet
               exact ⟨by rw [HQ.out]; first | done | (congr 1; simp; omega), rfl⟩
             · have d3' : 3 < d := by omega
               have HQ : Hid (bh = true) := Lib.hid (by rw [← HBH.out, HX1.out]; simp [k1, k3, d0, d3])
               go_wp2_with (go_at_call 15; (with_reducible refine HWO.out.mono ?_); rintro e w' ⟨rfl, rfl⟩)
               go_meet
               exact ⟨by rw [HQ.out]; first | done | (congr 1; simp; omega), rfl⟩
           · have d0' : d < 0 := by omega
             have HQ : Hid (bh = true) := Lib.hid (by rw [← HBH.out, HX1.out]; simp [k1, k3, d0])
             go_wp2_with (go_at_call 15; (with_reducible refine HWO.out.mono ?_); rintro e w' ⟨rfl, rfl⟩)
             go_meet
             exact ⟨by rw [HQ.out]; first | done | (congr 1; simp; omega), rfl⟩
       · have q0 : (p == 0) = false := by simpa using p0
         by_cases p9 : p = 9
         · subst p9
           cases tw with
           | false =>
             have HQ : Hid (bh = true) := Lib.hid (by rw [← HBH.out, HX1.out]; simp [k1, k3])
             go_wp2_with (go_at_call 15; (with_reducible refine HWO.out.mono ?_); rintro e w' ⟨rfl, rfl⟩)
             go_meet
             exact ⟨by rw [HQ.out]; first | done | (congr 1; simp; omega), rfl⟩
           | true =>
             by_cases d0 : 0 ≤ d
             · skip
               by_cases d3 : d ≤ 3
               · skip
                 have HQ : Hid (bh = false) := Lib.hid (by rw [← HBH.out, HX1.out]; simp [k1, k3, d0, d3])
                 go_wp2_with (go_at_call 15; (with_reducible refine HWO.out.mono ?_); rintro e w' ⟨rfl, rfl⟩)
                 go_meet
                 exact ⟨by rw [HQ.out]; first | done | (congr 1; simp; omega), rfl⟩
               · have d3' : 3 < d := by omega
                 have HQ : Hid (bh = true) := Lib.hid (by rw [← HBH.out, HX1.out]; simp [k1, k3, d0, d3])
                 go_wp2_with (go_at_call 15; (with_reducible refine HWO.out.mono ?_); rintro e w' ⟨rfl, rfl⟩)
                 go_meet
                 exact ⟨by rw [HQ.out]; first | done | (congr 1; simp; omega), rfl⟩
             · have d0' : d < 0 := by omega
               have HQ : Hid (bh = true) := Lib.hid (by rw [← HBH.out, HX1.out]; simp [k1, k3, d0])
               go_wp2_with (go_at_call 15; (with_reducible refine HWO.out.mono ?_); rintro e w' ⟨rfl, rfl⟩)
               go_meet
               exact ⟨by rw [HQ.out]; first | done | (congr 1; simp; omega), rfl⟩
         · have q9 : (p == 9) = false := by simpa using p9
           have HQ : Hid (bh = true) := Lib.hid (by rw [← HBH.out, HX1.out]; simp [k1, k3, p0, p9])
           go_wp2
           go_meet
           exact ⟨by rw [HQ.out]; first | done | (congr 1; simp; omega), rfl⟩
     · have k3' : 3 < kd := by omega
       have HQ : Hid (bh = true) := Lib.hid (by rw [← HBH.out, HX1.out]; simp [k1, k3])
       go_wp2
       go_meet
       exact ⟨by rw [HQ.out]; first | done | (congr 1; simp; omega), rfl⟩
   · have k1' : kd < 1 := by omega
     have HQ : Hid (bh = true) := Lib.hid (by rw [← HBH.out, HX1.out]; simp [k1])
     go_wp2
     go_meet
     exact ⟨by rw [HQ.out]; first | done | (congr 1; simp; omega), rfl⟩
 case rest =>
  obtain ⟨rfl, rfl⟩ := hcut
  clear c1 c2 c3 HWO
  cases bh with
  | true =>
    have HQ : Hid (r = false) := Lib.hid (by
     have := HBH.out
     rw [HX.out]
     cases B1 with
     | false => rfl
     | true =>
       simp only [Bool.and_true, Bool.not_eq_true', Bool.and_eq_false_iff, decide_eq_false_iff_not] at this
       have h1 : ¬ kd = 1 := by omega
       have h2 : ¬ kd = 2 := by omega
       have h3 : ¬ kd = 3 := by omega
       simp [h1, h2, h3])
    go_wp2
    go_ret
    exact ⟨ret_bool HQ.out.symm, HB.out⟩
  | false =>
    have HK : Hid (1 ≤ kd ∧ kd ≤ 3 ∧ B1 = true) := Lib.hid (by
     have := HBH.out
     simp only [Bool.not_eq_false', Bool.and_eq_true, decide_eq_true_eq] at this
     exact ⟨this.1.1, this.1.2, this.2⟩)
    by_cases k3 : kd = 3
    · subst k3
      have HR : Hid (r = B3) := Lib.hid (by rw [HX.out, HK.out.2.2]; simp)
      by_cases hs : nC + nE + nR + nS + nY = 0
      · have hz : ((nC : Int) + (nE : Int) + (nR : Int) + (nS : Int) + (nY : Int) == 0) = true := by rw [beq_iff_eq]; omega
        cases sd with
        | false =>
          by_cases s1 : 1 ≤ sc
          · have HQ : Hid (decide (sc ≤ 65535) = r) := Lib.hid (by rw [HR.out, HX3.out, decide_eq_true hs]; simp [s1])
            clear hs
            go_wp2
            go_ret
            exact ⟨ret_bool HQ.out, HB.out⟩
          · have s1' : sc < 1 := by omega
            have HQ : Hid (r = false) := Lib.hid (by rw [HR.out, HX3.out]; simp [s1])
            clear hs
            go_wp2
            go_ret
            exact ⟨ret_bool HQ.out.symm, HB.out⟩
        | true =>
          have HQ : Hid (r = false) := Lib.hid (by rw [HR.out, HX3.out]; simp)
          clear hs
          go_wp2
          go_ret
          exact ⟨ret_bool HQ.out.symm, HB.out⟩
      · have hz : ((nC : Int) + (nE : Int) + (nR : Int) + (nS : Int) + (nY : Int) == 0) = false := by rw [beq_eq_false_iff_ne]; omega
        have HQ : Hid (r = false) := Lib.hid (by rw [HR.out, HX3.out, decide_eq_false hs]; rfl)
        clear hs
        go_wp2
        go_ret
        exact ⟨ret_bool HQ.out.symm, HB.out⟩
    · have k3' : (kd == 3) = false := by simpa using k3
      have HR : Hid (r = B2) := Lib.hid (by
       have hk := HK.out
       rw [HX.out, hk.2.2]
       have : kd = 1 ∨ kd = 2 := by omega
       rcases this with rfl | rfl <;> simp)
      clear w1 w2 w3 w4 HX HX1 HX3 HBH
      go_upto_region 5 with fail
      obtain ⟨bc, hbc⟩ : ∃ b, (!(decide (1 ≤ nC) && (decide (nC ≤ 16) && (decide (nE ≤ 14) && (decide (nR ≤ 3) && ((decide (1 ≤ nR) || !sd) && (decide (nS ≤ 16) && (decide (nY ≤ 1) && decide (sc = 0))))))))) = b := ⟨_, rfl⟩
      have HBC := Lib.hid hbc
      clear hbc
      go_cut [131] from 83 to 131 (fun s131 wc => s131 = .bool bc ∧ W0 = wc)
      case first =>
       as_aux_lemma =>
        by_cases n1 : 1 ≤ nC
        · have n1' : (1 : Int) ≤ (nC : Int) := by omega
          by_cases n2 : nC ≤ 16
          · have n2' : (nC : Int) ≤ 16 := by omega
            by_cases n3 : nE ≤ 14
            · have n3' : (nE : Int) ≤ 14 := by omega
              by_cases n4 : nR ≤ 3
              · have n4' : (nR : Int) ≤ 3 := by omega
                cases sd with
                | false =>
                  by_cases n6 : nS ≤ 16
                  · have n6' : (nS : Int) ≤ 16 := by omega
                    by_cases n7 : nY ≤ 1
                    · have n7' : (nY : Int) ≤ 1 := by omega
                      by_cases s0 : sc = 0
                      · subst s0
                        have HQ : Hid (bc = false) := Lib.hid (by rw [← HBC.out]; simp [n1, n2, n3, n4, n6, n7])
                        go_wp2
                        go_meet
                        exact ⟨by rw [HQ.out]; first | done | (congr 1; simp; omega), rfl⟩
                      · have s0' : (sc == 0) = false := by simpa using s0
                        have HQ : Hid (bc = true) := Lib.hid (by rw [← HBC.out]; simp [n1, n2, n3, n4, n6, n7, s0])
                        go_wp2
                        go_meet
                        exact ⟨by rw [HQ.out]; first | done | (congr 1; simp; omega), rfl⟩
                    · have n7' : 1 < (nY : Int) := by omega
                      have HQ : Hid (bc = true) := Lib.hid (by rw [← HBC.out]; simp [n1, n2, n3, n4, n6, n7])
                      go_wp2
                      go_meet
                      exact ⟨by rw [HQ.out]; first | done | (congr 1; simp; omega), rfl⟩
                  · have n6' : 16 < (nS : Int) := by omega
                    have HQ : Hid (bc = true) := Lib.hid (by rw [← HBC.out]; simp [n1, n2, n3, n4, n6])
                    go_wp2
                    go_meet
                    exact ⟨by rw [HQ.out]; first | done | (congr 1; simp; omega), rfl⟩
                | true =>
                  by_cases r0 : nR = 0
                  · have r0' : ((nR : Int) == 0) = true := by rw [beq_iff_eq]; omega
                    have HQ : Hid (bc = true) := Lib.hid (by rw [← HBC.out]; simp [n1, n2, n3, n4, r0])
                    clear r0
                    go_wp2
                    go_meet
                    exact ⟨by rw [HQ.out]; first | done | (congr 1; simp; omega), rfl⟩
                  · have r0' : ((nR : Int) == 0) = false := by rw [beq_eq_false_iff_ne]; omega
                    have r1 : 1 ≤ nR := by omega
                    by_cases n6 : nS ≤ 16
                    · have n6' : (nS : Int) ≤ 16 := by omega
                      by_cases n7 : nY ≤ 1
                      · have n7' : (nY : Int) ≤ 1 := by omega
                        by_cases s0 : sc = 0
                        · subst s0
                          have HQ : Hid (bc = false) := Lib.hid (by rw [← HBC.out]; simp [n1, n2, n3, n4, r1, n6, n7])
                          go_wp2
                          go_meet
                          exact ⟨by rw [HQ.out]; first | done | (congr 1; simp; omega), rfl⟩
                        · have s0' : (sc == 0) = false := by simpa using s0
                          have HQ : Hid (bc = true) := Lib.hid (by rw [← HBC.out]; simp [n1, n2, n3, n4, r1, n6, n7, s0])
                          go_wp2
                          go_meet
                          exact ⟨by rw [HQ.out]; first | done | (congr 1; simp; omega), rfl⟩
                      · have n7' : 1 < (nY : Int) := by omega
                        have HQ : Hid (bc = true) := Lib.hid (by rw [← HBC.out]; simp [n1, n2, n3, n4, r1, n6, n7])
                        go_wp2
                        go_meet
                        exact ⟨by rw [HQ.out]; first | done | (congr 1; simp; omega), rfl⟩
                    · have n6' : 16 < (nS : Int) := by omega
                      have HQ : Hid (bc = true) := Lib.hid (by rw [← HBC.out]; simp [n1, n2, n3, n4, r1, n6])
                      go_wp2
                      go_meet
                      exact ⟨by rw [HQ.out]; first | done | (congr 1; simp; omega), rfl⟩
              · have n4' : 3 < (nR : Int) := by omega
                have HQ : Hid (bc = true) := Lib.hid (by rw [← HBC.out]; simp [n1, n2, n3, n4])
                go_wp2
                go_meet
                exact ⟨by rw [HQ.out]; first | done | (congr 1; simp; omega), rfl⟩
            · have n3' : 14 < (nE : Int) := by omega
              have HQ : Hid (bc = true) := Lib.hid (by rw [← HBC.out]; simp [n1, n2, n3])
              go_wp2
              go_meet
              exact ⟨by rw [HQ.out]; first | done | (congr 1; simp; omega), rfl⟩
          · have n2' : 16 < (nC : Int) := by omega
            have HQ : Hid (bc = true) := Lib.hid (by rw [← HBC.out]; simp [n1, n2])
            go_wp2
            go_meet
            exact ⟨by rw [HQ.out]; first | done | (congr 1; simp; omega), rfl⟩
        · have n1' : (nC : Int) < 1 := by omega
          have HQ : Hid (bc = true) := Lib.hid (by rw [← HBC.out]; simp [n1])
          go_wp2
          go_meet
          exact ⟨by rw [HQ.out]; first | done | (congr 1; simp; omega), rfl⟩
      case rest =>
       obtain ⟨rfl, rfl⟩ := hcut
       clear c0 c7 c10
       cases bc with
       | true =>
         have HQ : Hid (r = false) := Lib.hid (by
          have := HBC.out
          rw [Bool.not_eq_true'] at this
          rw [HR.out, HX2.out, this]
          rfl)
         go_wp2
         go_ret
         exact ⟨ret_bool HQ.out.symm, HB.out⟩
       | false =>
         have HR2 : Hid (r = (LC.all goodC && unlike CodecS.type LC && (LE.all goodE && unlike ExtS.id LE) && (LR.all goodR && unlike tx LR) && unlike id LS && LY.all goodY)) := Lib.hid (by
          have := HBC.out
          rw [Bool.not_eq_false'] at this
          rw [HR.out, HX2.out, this]
          rfl)
         have HYL : Hid (nY ≤ 1) := Lib.hid (by
          have := HBC.out
          rw [Bool.not_eq_false'] at this
          simp only [Bool.and_eq_true, decide_eq_true_eq] at this
          exact this.2.2.2.2.2.2.1)
         clear HX2 HBC HR HK k3 k3'
         go_wp2
         go_loopw [135] (fun so wr => ∃ k : Nat, k ≤ nC ∧ so = .int .i64 k ∧ (Below W0.heap.size W0 wr ∧ (∀ j, j < k → goodC (LC.getD j default) = true) ∧ unlike CodecS.type (LC.take k) = true)) (fun so _ => nC - (intOf so).toNat)
         case atStart => exact ⟨0, by omega, rfl, Below.refl _ _, (fun j hj => by omega), rfl⟩
         case round =>
          obtain ⟨k, hk, rfl, hst⟩ := hrel
          have HSC := Lib.hid hst
          clear hst
          have cs : wr.cell? ⟨N, 4, none⟩ = some (.slice AC nC kC) := (HBX.out.under HSC.out.1).cell 4
          by_cases hlt : k < nC
          · skip
            have hlt' : k < LC.length := by rw [HNN.out.1]; exact hlt
            obtain ⟨ad, c', vf, e1, had, d0, d1, d2, d3, d4, d5, cf⟩ := (HV.out.1.below (HSC.out.1.mono HN.out)).at_ hlt'
            injection e1 with e1 e1n e1c
            clear e1n e1c
            subst e1
            obtain ⟨Af, kf, hvf, -⟩ := Rows.form cf
            obtain ⟨lf, hlf⟩ : ∃ lf, (LC.getD k default).feedback.length = lf := ⟨_, rfl⟩
            rw [hlf] at hvf
            subst hvf
            clear hlf
            obtain ⟨x, hx⟩ : ∃ x, LC.getD k default = x := ⟨_, rfl⟩
            have HM : Hid (x ∈ LC ∧ LC[k]? = some x ∧ LC.getD k default = x) := Lib.hid ⟨by rw [← hx]; exact getD_mem hlt', by rw [← hx]; exact getD_of hlt', hx⟩
            rw [hx] at d0 d1 d2 d3 d4 cf
            have hk0 : (0 : Int) ≤ (k : Int) := by omega
            have hk1 : (k : Int) < (nC : Int) := by omega
            have HAD : Hid (ad.block < N ∧ W0.cell? (ad.add (k * 6)) = wr.cell? (ad.add (k * 6))) := Lib.hid ⟨had, ((HSC.out.1.mono HN.out).cell (p := ad.add _) (by rw [add_block]; exact had)).symm⟩
            rw [d0] at HAD
            have HST := Lib.hid (unlike_step (f := CodecS.type) (q := (fun y => y.type == x.type)) HM.out.2.1 HSC.out.2.2 (fun y => by rw [beq_iff_eq]))
            clear hx hlt' had
            obtain ⟨b, hb⟩ : ∃ b, goodC x = b := ⟨_, rfl⟩
            have HC := Lib.hid (HZC.out x HM.out.1 Af lf kf wr (cf.more (Nat.le_trans HN.out HSC.out.1.size)))
            rw [hb] at HC
            have HBG := Lib.hid hb
            clear hb cf
            cases b with
            | false =>
              have HQ : Hid (r = false) := Lib.hid (by rw [HR2.out, all_no HM.out.1 HBG.out]; simp)
              go_wp2_with (go_at_call 34; (with_reducible refine HC.out.mono ?_); rintro e w3 ⟨rfl, hb3⟩)
              go_ret
              exact ⟨ret_bool HQ.out.symm, HB.out.trans ((HSC.out.1.trans (hb3.mono HSC.out.1.size)).mono HN.out)⟩
            | true =>
              go_wp2_with (go_at_call 34; (with_reducible refine HC.out.mono ?_); rintro e w3 ⟨rfl, hb3⟩)
              have HB3 : Hid (Below W0.heap.size W0 w3) := Lib.hid (HSC.out.1.trans (hb3.mono HSC.out.1.size))
              clear hb3
              go_loopw [146] (fun sj wq => ∃ j : Nat, j ≤ k ∧ sj = .int .i64 j ∧ (Below W0.heap.size W0 wq ∧ ∀ i, i < j → (fun y => y.type == x.type) (LC.getD i default) = false)) (fun sj _ => k - (intOf sj).toNat)
              case atStart => exact ⟨0, by omega, rfl, HB3.out, fun i hi => by omega⟩
              case round =>
               obtain ⟨j, hj, rfl, hst⟩ := hrel
               have HI := Lib.hid hst
               clear hst
               have cs2 : wr.cell? ⟨N, 4, none⟩ = some (.slice (some ad) nC kC) := (HBX.out.under HI.out.1).cell 4
               by_cases hjk : j < k
               · skip
                 have hjl : j < LC.length := by rw [HNN.out.1]; omega
                 obtain ⟨ad2, c'', vf2, e1, had2, g0, -⟩ := (HV.out.1.below (HI.out.1.mono HN.out)).at_ hjl
                 injection e1 with e1 e1n e1c
                 clear e1n e1c
                 injection e1 with e1
                 subst e1
                 obtain ⟨y, hy⟩ : ∃ y, LC.getD j default = y := ⟨_, rfl⟩
                 rw [hy] at g0
                 have gx : wr.cell? (ad.add (k * 6)) = some (.int .i64 x.type) := ((HI.out.1.mono HN.out).cell (p := ad.add (k * 6)) (by rw [add_block]; exact HAD.out.1)).trans HAD.out.2
                 have hj0 : (0 : Int) ≤ (j : Int) := by omega
                 have hj1 : (j : Int) < (nC : Int) := by omega
                 have hj2 : (j : Int) < (k : Int) := by omega
                 have HY := Lib.hid hy
                 clear hy hjl had2
                 obtain ⟨b, hb⟩ : ∃ b, (y.type == x.type) = b := ⟨_, rfl⟩
                 have HBE := Lib.hid hb
                 cases b with
                 | true =>
                   have HQ : Hid (r = false) := Lib.hid (by rw [HR2.out, HST.out.1 (any_prefix_yes (by rw [HNN.out.1]; omega) hjk (by rw [HY.out]; exact HBE.out))]; simp)
                   go_upto_region 15 with fail
                   go_quiet (fail)
                   go_wp2
                   go_ret
                   exact ⟨ret_bool HQ.out.symm, HB.out.trans ((below_drewN' HI.out.1 _).mono HN.out)⟩
                 | false =>
                   go_upto_region 15 with fail
                   go_quiet (fail)
                   go_wp2
                   go_roundw
                   case rel =>
                    refine ⟨j + 1, by omega, by go_num, below_drewN' HI.out.1 _, fun i hi => ?_⟩
                    by_cases e : i = j
                    · subst e
                      show _ = false
                      rw [HY.out]
                      exact HBE.out
                    · exact HI.out.2 i (by omega)
                   case measure => simp [intOf]; omega
               · have e : j = k := by omega
                 subst e
                 have HNX : Hid (unlike CodecS.type (LC.take (j + 1)) = true) := Lib.hid (HST.out.2 (any_prefix (by rw [HNN.out.1]; omega) HI.out.2))
                 go_wp2
                 go_roundw
                 case rel =>
                  refine ⟨j + 1, by omega, by go_num, HI.out.1, fun i hi => ?_, HNX.out⟩
                  by_cases e : i = j
                  · subst e
                    rw [HM.out.2.2]
                    exact HBG.out
                  · exact HSC.out.2.1 i (by omega)
                 case measure => simp [intOf]; omega
          · have e : k = nC := by omega
            subst e
            have HAC : Hid ((LC.all goodC && unlike CodecS.type LC) = true) := Lib.hid (by
             have := HSC.out.2.2
             rw [List.take_of_length_le (by rw [HNN.out.1]; exact Nat.le_refl _)] at this
             rw [this, all_yesL HNN.out.1 HSC.out.2.1]
             rfl)
            clear cs
            have cs2 : wr.cell? ⟨N, 5, none⟩ = some (.slice AE nE kE) := (HBX.out.under HSC.out.1).cell 5
            go_wp2
            go_loopw [167] (fun so wr => ∃ k : Nat, k ≤ nE ∧ so = .int .i64 k ∧ (Below W0.heap.size W0 wr ∧ (∀ j, j < k → goodE (LE.getD j default) = true) ∧ unlike ExtS.id (LE.take k) = true)) (fun so _ => nE - (intOf so).toNat)
            case atStart => exact ⟨0, by omega, rfl, HSC.out.1, (fun j hj => by omega), rfl⟩
            case round =>
             obtain ⟨k, hk, rfl, hst⟩ := hrel
             have HSE := Lib.hid hst
             clear hst
             have cs : wr.cell? ⟨N, 5, none⟩ = some (.slice AE nE kE) := (HBX.out.under HSE.out.1).cell 5
             by_cases hlt : k < nE
             · skip
               have hlt' : k < LE.length := by rw [HNN.out.2.1]; exact hlt
               obtain ⟨ad, c', e1, had, d0, d1⟩ := (HV.out.2.1.below (HSE.out.1.mono HN.out)).at_ hlt'
               injection e1 with e1 e1n e1c
               clear e1n e1c
               subst e1
               obtain ⟨x, hx⟩ : ∃ x, LE.getD k default = x := ⟨_, rfl⟩
               have HM : Hid (x ∈ LE ∧ LE[k]? = some x ∧ LE.getD k default = x) := Lib.hid ⟨by rw [← hx]; exact getD_mem hlt', by rw [← hx]; exact getD_of hlt', hx⟩
               rw [hx] at d0 d1
               have hk0 : (0 : Int) ≤ (k : Int) := by omega
               have hk1 : (k : Int) < (nE : Int) := by omega
               have HAD : Hid (ad.block < N ∧ W0.cell? (ad.add (k * 2)) = wr.cell? (ad.add (k * 2))) := Lib.hid ⟨had, ((HSE.out.1.mono HN.out).cell (p := ad.add _) (by rw [add_block]; exact had)).symm⟩
               rw [d0] at HAD
               have HST := Lib.hid (unlike_step (f := ExtS.id) (q := (fun y => y.id == x.id)) HM.out.2.1 HSE.out.2.2 (fun y => by rw [beq_iff_eq]))
               clear hx hlt' had
               have HC := Lib.hid (HZE.out x HM.out.1 wr)
               have HGE : Hid (goodE x = (decide (1 ≤ x.id) && (decide (x.id ≤ 14) && uriP (tx x.uri)))) := Lib.hid (by unfold goodE; rw [Bool.and_assoc])
               generalize uriP (tx x.uri) = tu at *
               by_cases i1 : 1 ≤ x.id
               · skip
                 by_cases i14 : x.id ≤ 14
                 · skip
                   cases tu with
                   | false =>
                     have HBG : Hid (goodE x = false) := Lib.hid (by rw [HGE.out]; simp [i1, i14])
                     have HQ : Hid (r = false) := Lib.hid (by rw [HR2.out, all_no HM.out.1 HBG.out]; simp)
                     go_wp2_with (go_at_call 35; (with_reducible refine HC.out.mono ?_); rintro e w3 ⟨rfl, rfl⟩)
                     go_ret
                     exact ⟨ret_bool HQ.out.symm, HB.out.trans (HSE.out.1.mono HN.out)⟩
                   | true =>
                     have HBG : Hid (goodE x = true) := Lib.hid (by rw [HGE.out]; simp [i1, i14])
                     go_wp2_with (go_at_call 35; (with_reducible refine HC.out.mono ?_); rintro e w3 ⟨rfl, rfl⟩)
                     go_loopw [197] (fun sj wq => ∃ j : Nat, j ≤ k ∧ sj = .int .i64 j ∧ (Below W0.heap.size W0 wq ∧ ∀ i, i < j → (fun y => y.id == x.id) (LE.getD i default) = false)) (fun sj _ => k - (intOf sj).toNat)
                     case atStart => exact ⟨0, by omega, rfl, HSE.out.1, fun i hi => by omega⟩
                     case round =>
                      obtain ⟨j, hj, rfl, hst⟩ := hrel
                      have HI := Lib.hid hst
                      clear hst
                      have cs2 : wr.cell? ⟨N, 5, none⟩ = some (.slice (some ad) nE kE) := (HBX.out.under HI.out.1).cell 5
                      by_cases hjk : j < k
                      · skip
                        have hjl : j < LE.length := by rw [HNN.out.2.1]; omega
                        obtain ⟨ad2, c', e1, had2, g0, d1⟩ := (HV.out.2.1.below (HI.out.1.mono HN.out)).at_ hjl
                        injection e1 with e1 e1n e1c
                        clear e1n e1c
                        injection e1 with e1
                        subst e1
                        obtain ⟨y, hy⟩ : ∃ y, LE.getD j default = y := ⟨_, rfl⟩
                        rw [hy] at g0
                        have gx : wr.cell? (ad.add (k * 2)) = some (.int .i64 x.id) := ((HI.out.1.mono HN.out).cell (p := ad.add (k * 2)) (by rw [add_block]; exact HAD.out.1)).trans HAD.out.2
                        have hj0 : (0 : Int) ≤ (j : Int) := by omega
                        have hj1 : (j : Int) < (nE : Int) := by omega
                        have hj2 : (j : Int) < (k : Int) := by omega
                        have HY := Lib.hid hy
                        clear hy hjl had2
                        obtain ⟨b, hb⟩ : ∃ b, (y.id == x.id) = b := ⟨_, rfl⟩
                        have HBE := Lib.hid hb
                        cases b with
                        | true =>
                          have HQ : Hid (r = false) := Lib.hid (by rw [HR2.out, HST.out.1 (any_prefix_yes (by rw [HNN.out.2.1]; omega) hjk (by rw [HY.out]; exact HBE.out))]; simp)
                          go_upto_region 27 with fail
                          go_quiet (fail)
                          go_wp2
                          go_ret
                          exact ⟨ret_bool HQ.out.symm, HB.out.trans ((below_drewN' HI.out.1 _).mono HN.out)⟩
                        | false =>
                          go_upto_region 27 with fail
                          go_quiet (fail)
                          go_wp2
                          go_roundw
                          case rel =>
                           refine ⟨j + 1, by omega, by go_num, below_drewN' HI.out.1 _, fun i hi => ?_⟩
                           by_cases e : i = j
                           · subst e
                             show _ = false
                             rw [HY.out]
                             exact HBE.out
                           · exact HI.out.2 i (by omega)
                          case measure => simp [intOf]; omega
                      · have e : j = k := by omega
                        subst e
                        have HNX : Hid (unlike ExtS.id (LE.take (j + 1)) = true) := Lib.hid (HST.out.2 (any_prefix (by rw [HNN.out.2.1]; omega) HI.out.2))
                        go_wp2
                        go_roundw
                        case rel =>
                         refine ⟨j + 1, by omega, by go_num, HI.out.1, fun i hi => ?_, HNX.out⟩
                         by_cases e : i = j
                         · subst e
                           rw [HM.out.2.2]
                           exact HBG.out
                         · exact HSE.out.2.1 i (by omega)
                        case measure => simp [intOf]; omega
                 · have i14' : 14 < x.id := by omega
                   have HBG : Hid (goodE x = false) := Lib.hid (by rw [HGE.out]; simp [i14])
                   have HQ : Hid (r = false) := Lib.hid (by rw [HR2.out, all_no HM.out.1 HBG.out]; simp)
                   go_wp2
                   go_ret
                   exact ⟨ret_bool HQ.out.symm, HB.out.trans (HSE.out.1.mono HN.out)⟩
               · have i1' : x.id < 1 := by omega
                 have HBG : Hid (goodE x = false) := Lib.hid (by rw [HGE.out]; simp [i1])
                 have HQ : Hid (r = false) := Lib.hid (by rw [HR2.out, all_no HM.out.1 HBG.out]; simp)
                 go_wp2
                 go_ret
                 exact ⟨ret_bool HQ.out.symm, HB.out.trans (HSE.out.1.mono HN.out)⟩
             · have e : k = nE := by omega
               subst e
               have HAE : Hid ((LE.all goodE && unlike ExtS.id LE) = true) := Lib.hid (by
                have := HSE.out.2.2
                rw [List.take_of_length_le (by rw [HNN.out.2.1]; exact Nat.le_refl _)] at this
                rw [this, all_yesL HNN.out.2.1 HSE.out.2.1]
                rfl)
               clear cs
               have cs2 : wr.cell? ⟨N, 6, none⟩ = some (.slice AR nR kR) := (HBX.out.under HSE.out.1).cell 6
               go_wp2
               go_loopw [218] (fun so wr => ∃ k : Nat, k ≤ nR ∧ so = .int .i64 k ∧ (Below W0.heap.size W0 wr ∧ (∀ j, j < k → goodR (LR.getD j default) = true) ∧ unlike tx (LR.take k) = true)) (fun so _ => nR - (intOf so).toNat)
               case atStart => exact ⟨0, by omega, rfl, HSE.out.1, (fun j hj => by omega), rfl⟩
               case round =>
                obtain ⟨k, hk, rfl, hst⟩ := hrel
                have HSR := Lib.hid hst
                clear hst
                have cs : wr.cell? ⟨N, 6, none⟩ = some (.slice AR nR kR) := (HBX.out.under HSR.out.1).cell 6
                by_cases hlt : k < nR
                · skip
                  have hlt' : k < LR.length := by rw [HNN.out.2.2.1]; exact hlt
                  obtain ⟨ad, c', e1, had, d0⟩ := (HV.out.2.2.1.below (HSR.out.1.mono HN.out)).at_ hlt'
                  injection e1 with e1 e1n e1c
                  clear e1n e1c
                  subst e1
                  obtain ⟨x, hx⟩ : ∃ x, LR.getD k default = x := ⟨_, rfl⟩
                  have HM : Hid (x ∈ LR ∧ LR[k]? = some x ∧ LR.getD k default = x) := Lib.hid ⟨by rw [← hx]; exact getD_mem hlt', by rw [← hx]; exact getD_of hlt', hx⟩
                  rw [hx] at d0
                  have hk0 : (0 : Int) ≤ (k : Int) := by omega
                  have hk1 : (k : Int) < (nR : Int) := by omega
                  have HAD : Hid (ad.block < N ∧ W0.cell? (ad.add k) = wr.cell? (ad.add k)) := Lib.hid ⟨had, ((HSR.out.1.mono HN.out).cell (p := ad.add _) (by rw [add_block]; exact had)).symm⟩
                  rw [d0] at HAD
                  have HST := Lib.hid (unlike_step (f := tx) (q := (fun y => y.toList == x.toList)) HM.out.2.1 HSR.out.2.2 (fun y => by rw [beq_iff_eq, toList_tx, toList_tx]))
                  clear hx hlt' had
                  obtain ⟨b, hb⟩ : ∃ b, goodR x = b := ⟨_, rfl⟩
                  have HC := Lib.hid (HZR.out x HM.out.1 wr)
                  rw [hb] at HC
                  have HBG := Lib.hid hb
                  clear hb
                  cases b with
                  | false =>
                    have HQ : Hid (r = false) := Lib.hid (by rw [HR2.out, all_no HM.out.1 HBG.out]; simp)
                    go_wp2_with (go_at_call 15; (with_reducible refine HC.out.mono ?_); rintro e w3 ⟨rfl, rfl⟩)
                    go_ret
                    exact ⟨ret_bool HQ.out.symm, HB.out.trans (HSR.out.1.mono HN.out)⟩
                  | true =>
                    go_wp2_with (go_at_call 15; (with_reducible refine HC.out.mono ?_); rintro e w3 ⟨rfl, rfl⟩)
                    go_loopw [229] (fun sj wq => ∃ j : Nat, j ≤ k ∧ sj = .int .i64 j ∧ (Below W0.heap.size W0 wq ∧ ∀ i, i < j → (fun y => y.toList == x.toList) (LR.getD i default) = false)) (fun sj _ => k - (intOf sj).toNat)
                    case atStart => exact ⟨0, by omega, rfl, HSR.out.1, fun i hi => by omega⟩
                    case round =>
                     obtain ⟨j, hj, rfl, hst⟩ := hrel
                     have HI := Lib.hid hst
                     clear hst
                     have cs2 : wr.cell? ⟨N, 6, none⟩ = some (.slice (some ad) nR kR) := (HBX.out.under HI.out.1).cell 6
                     by_cases hjk : j < k
                     · skip
                       have hjl : j < LR.length := by rw [HNN.out.2.2.1]; omega
                       obtain ⟨ad2, c', e1, had2, g0⟩ := (HV.out.2.2.1.below (HI.out.1.mono HN.out)).at_ hjl
                       injection e1 with e1 e1n e1c
                       clear e1n e1c
                       injection e1 with e1
                       subst e1
                       obtain ⟨y, hy⟩ : ∃ y, LR.getD j default = y := ⟨_, rfl⟩
                       rw [hy] at g0
                       have gx : wr.cell? (ad.add k) = some (.string x) := ((HI.out.1.mono HN.out).cell (p := ad.add k) (by rw [add_block]; exact HAD.out.1)).trans HAD.out.2
                       have hj0 : (0 : Int) ≤ (j : Int) := by omega
                       have hj1 : (j : Int) < (nR : Int) := by omega
                       have hj2 : (j : Int) < (k : Int) := by omega
                       have HY := Lib.hid hy
                       clear hy hjl had2
                       obtain ⟨b, hb⟩ : ∃ b, (y.toList == x.toList) = b := ⟨_, rfl⟩
                       have HBE := Lib.hid hb
                       cases b with
                       | true =>
                         have HQ : Hid (r = false) := Lib.hid (by rw [HR2.out, HST.out.1 (any_prefix_yes (by rw [HNN.out.2.2.1]; omega) hjk (by rw [HY.out]; exact HBE.out))]; simp)
                         go_upto_region 39 with fail
                         go_quiet (fail)
                         go_wp2
                         go_ret
                         exact ⟨ret_bool HQ.out.symm, HB.out.trans ((below_drewN' HI.out.1 _).mono HN.out)⟩
                       | false =>
                         go_upto_region 39 with fail
                         go_quiet (fail)
                         go_wp2
                         go_roundw
                         case rel =>
                          refine ⟨j + 1, by omega, by go_num, below_drewN' HI.out.1 _, fun i hi => ?_⟩
                          by_cases e : i = j
                          · subst e
                            show _ = false
                            rw [HY.out]
                            exact HBE.out
                          · exact HI.out.2 i (by omega)
                         case measure => simp [intOf]; omega
                     · have e : j = k := by omega
                       subst e
                       have HNX : Hid (unlike tx (LR.take (j + 1)) = true) := Lib.hid (HST.out.2 (any_prefix (by rw [HNN.out.2.2.1]; omega) HI.out.2))
                       go_wp2
                       go_roundw
                       case rel =>
                        refine ⟨j + 1, by omega, by go_num, HI.out.1, fun i hi => ?_, HNX.out⟩
                        by_cases e : i = j
                        · subst e
                          rw [HM.out.2.2]
                          exact HBG.out
                        · exact HSR.out.2.1 i (by omega)
                       case measure => simp [intOf]; omega
                · have e : k = nR := by omega
                  subst e
                  have HAR : Hid ((LR.all goodR && unlike tx LR) = true) := Lib.hid (by
                   have := HSR.out.2.2
                   rw [List.take_of_length_le (by rw [HNN.out.2.2.1]; exact Nat.le_refl _)] at this
                   rw [this, all_yesL HNN.out.2.2.1 HSR.out.2.1]
                   rfl)
                  clear cs
                  have cs2 : wr.cell? ⟨N, 8, none⟩ = some (.slice AS nS kS) := (HBX.out.under HSR.out.1).cell 8
                  go_wp2
                  go_loopw [248] (fun so wr => ∃ k : Nat, k ≤ nS ∧ so = .int .i64 k ∧ (Below W0.heap.size W0 wr ∧ unlike id (LS.take k) = true)) (fun so _ => nS - (intOf so).toNat)
                  case atStart => exact ⟨0, by omega, rfl, HSR.out.1, rfl⟩
                  case round =>
                   obtain ⟨k, hk, rfl, hst⟩ := hrel
                   have HSS := Lib.hid hst
                   clear hst
                   have cs : wr.cell? ⟨N, 8, none⟩ = some (.slice AS nS kS) := (HBX.out.under HSS.out.1).cell 8
                   by_cases hlt : k < nS
                   · skip
                     have hlt' : k < LS.length := by rw [HNN.out.2.2.2.1]; exact hlt
                     obtain ⟨ad, c', e1, had, d0⟩ := (HV.out.2.2.2.1.below (HSS.out.1.mono HN.out)).at_ hlt'
                     injection e1 with e1 e1n e1c
                     clear e1n e1c
                     subst e1
                     obtain ⟨x, hx⟩ : ∃ x, LS.getD k default = x := ⟨_, rfl⟩
                     have HM : Hid (x ∈ LS ∧ LS[k]? = some x ∧ LS.getD k default = x) := Lib.hid ⟨by rw [← hx]; exact getD_mem hlt', by rw [← hx]; exact getD_of hlt', hx⟩
                     rw [hx] at d0
                     have hk0 : (0 : Int) ≤ (k : Int) := by omega
                     have hk1 : (k : Int) < (nS : Int) := by omega
                     have HAD : Hid (ad.block < N ∧ W0.cell? (ad.add k) = wr.cell? (ad.add k)) := Lib.hid ⟨had, ((HSS.out.1.mono HN.out).cell (p := ad.add _) (by rw [add_block]; exact had)).symm⟩
                     rw [d0] at HAD
                     have HST := Lib.hid (unlike_step (f := id) (q := (fun y => ((y : Nat) : Int) == ((x : Nat) : Int))) HM.out.2.1 HSS.out.2 (fun y => by rw [beq_iff_eq]; simp only [id]; omega))
                     clear hx hlt' had
                     go_wp2
                     go_loopw [252] (fun sj wq => ∃ j : Nat, j ≤ k ∧ sj = .int .i64 j ∧ (Below W0.heap.size W0 wq ∧ ∀ i, i < j → (fun y => ((y : Nat) : Int) == ((x : Nat) : Int)) (LS.getD i default) = false)) (fun sj _ => k - (intOf sj).toNat)
                     case atStart => exact ⟨0, by omega, rfl, HSS.out.1, fun i hi => by omega⟩
                     case round =>
                      obtain ⟨j, hj, rfl, hst⟩ := hrel
                      have HI := Lib.hid hst
                      clear hst
                      have cs2 : wr.cell? ⟨N, 8, none⟩ = some (.slice (some ad) nS kS) := (HBX.out.under HI.out.1).cell 8
                      by_cases hjk : j < k
                      · skip
                        have hjl : j < LS.length := by rw [HNN.out.2.2.2.1]; omega
                        obtain ⟨ad2, c', e1, had2, g0⟩ := (HV.out.2.2.2.1.below (HI.out.1.mono HN.out)).at_ hjl
                        injection e1 with e1 e1n e1c
                        clear e1n e1c
                        injection e1 with e1
                        subst e1
                        obtain ⟨y, hy⟩ : ∃ y, LS.getD j default = y := ⟨_, rfl⟩
                        rw [hy] at g0
                        have gx : wr.cell? (ad.add k) = some (.int .u32 (x : Nat)) := ((HI.out.1.mono HN.out).cell (p := ad.add k) (by rw [add_block]; exact HAD.out.1)).trans HAD.out.2
                        have hj0 : (0 : Int) ≤ (j : Int) := by omega
                        have hj1 : (j : Int) < (nS : Int) := by omega
                        have hj2 : (j : Int) < (k : Int) := by omega
                        have HY := Lib.hid hy
                        clear hy hjl had2
                        obtain ⟨b, hb⟩ : ∃ b, (((y : Nat) : Int) == ((x : Nat) : Int)) = b := ⟨_, rfl⟩
                        have HBE := Lib.hid hb
                        cases b with
                        | true =>
                          have HQ : Hid (r = false) := Lib.hid (by rw [HR2.out, HST.out.1 (any_prefix_yes (by rw [HNN.out.2.2.2.1]; omega) hjk (by rw [HY.out]; exact HBE.out))]; simp)
                          go_upto_region 49 with fail
                          go_quiet (fail)
                          go_wp2
                          go_ret
                          exact ⟨ret_bool HQ.out.symm, HB.out.trans ((below_drewN' HI.out.1 _).mono HN.out)⟩
                        | false =>
                          go_upto_region 49 with fail
                          go_quiet (fail)
                          go_wp2
                          go_roundw
                          case rel =>
                           refine ⟨j + 1, by omega, by go_num, below_drewN' HI.out.1 _, fun i hi => ?_⟩
                           by_cases e : i = j
                           · subst e
                             show _ = false
                             rw [HY.out]
                             exact HBE.out
                           · exact HI.out.2 i (by omega)
                          case measure => simp [intOf]; omega
                      · have e : j = k := by omega
                        subst e
                        have HNX : Hid (unlike id (LS.take (j + 1)) = true) := Lib.hid (HST.out.2 (any_prefix (by rw [HNN.out.2.2.2.1]; omega) HI.out.2))
                        go_wp2
                        go_roundw
                        case rel =>
                         refine ⟨j + 1, by omega, by go_num, HI.out.1, HNX.out⟩
                        case measure => simp [intOf]; omega
                   · have e : k = nS := by omega
                     subst e
                     have HAS : Hid (unlike id LS = true) := Lib.hid (by
                      have := HSS.out.2
                      rw [List.take_of_length_le (by rw [HNN.out.2.2.2.1]; exact Nat.le_refl _)] at this
                      exact this)
                     clear cs
                     have c9' : wr.cell? ⟨N, 9, none⟩ = some (.slice AY nY kY) := (HBX.out.under HSS.out.1).cell 9
                     have HR3 : Hid (r = LY.all goodY) := Lib.hid (by rw [HR2.out, HAC.out, HAE.out, HAR.out, HAS.out]; rfl)
                     by_cases y0 : nY = 0
                     · have y0' : ((nY : Int) == 0) = true := by rw [beq_iff_eq]; omega
                       have HQ : Hid (r = true) := Lib.hid (by rw [HR3.out, List.eq_nil_of_length_eq_zero (HNN.out.2.2.2.2.trans y0)]; rfl)
                       go_wp2
                       go_ret
                       exact ⟨ret_bool HQ.out.symm, HB.out.trans (HSS.out.1.mono HN.out)⟩
                     · have y0' : ((nY : Int) == 0) = false := by rw [beq_eq_false_iff_ne]; omega
                       have hy1 : nY = 1 := by have := HYL.out; omega
                       subst hy1
                       obtain ⟨ad, c', e1, had, d30, dj⟩ := (HV.out.2.2.2.2.below (HSS.out.1.mono HN.out)).at_ (i := 0) (by rw [HNN.out.2.2.2.2]; decide)
                       injection e1 with e1 e1n e1c
                       clear e1n e1c
                       subst e1
                       have HL1 : Hid (LY = [LY.getD 0 default]) := Lib.hid (by
                        have hl := HNN.out.2.2.2.2
                        match LY, hl with
                        | [y], _ => rfl)
                       have d0 := dj 0 (.int .i64 (LY.getD 0 default).tag) rfl
                       obtain ⟨tg, htg⟩ : ∃ n, (LY.getD 0 default).tag = n := ⟨_, rfl⟩
                       rw [htg] at d0
                       have ez : ad.add 0 = ad := by unfold Addr.add; simp
                       rw [Nat.zero_mul, ez, ez] at d0
                       have HR4 : Hid (r = (decide (1 ≤ tg) && decide (tg ≤ 9))) := Lib.hid (by
                        rw [HR3.out, HL1.out]
                        show ((decide (1 ≤ (LY.getD 0 default).tag) && decide ((LY.getD 0 default).tag ≤ 9)) && true) = _
                        rw [htg, Bool.and_true])
                       clear dj had d30 htg
                       by_cases t1 : 1 ≤ tg
                       · have HQ : Hid (decide (tg ≤ 9) = r) := Lib.hid (by rw [HR4.out]; simp [t1])
                         go_wp2
                         go_ret
                         exact ⟨ret_bool HQ.out, HB.out.trans (HSS.out.1.mono HN.out)⟩
                       · have t1' : tg < 1 := by omega
                         have HQ : Hid (r = false) := Lib.hid (by rw [HR4.out]; simp [t1])
                         go_wp2
                         go_ret
                         exact ⟨ret_bool HQ.out.symm, HB.out.trans (HSS.out.1.mono HN.out)⟩
end Go.Proofs.YtibpnjakimobmaaGreat
