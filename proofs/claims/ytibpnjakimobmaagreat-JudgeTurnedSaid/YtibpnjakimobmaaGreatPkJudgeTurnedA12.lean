import Derived.Test.YtibpnjakimobmaaGreatPkJudgeTurnedA03
namespace Go.Proofs.YtibpnjakimobmaaGreat
open Go.RowKit
set_option linter.unusedVariables false
set_option linter.unusedSimpArgs false
theorem codecs4_step {X Y : List CodecS} {c u : CodecS} {X' Y' : List CodecS} (hy : Y = c :: Y') (hx : X.dropWhile (fun x => !decide (x.type = c.type)) = u :: X') : codecs4 X Y = (sameC4 u c && codecs4 X' Y') := by
 subst hy
 conv => lhs; unfold codecs4
 rw [hx]
theorem codecs4_out {X Y : List CodecS} {c : CodecS} {Y' : List CodecS} (hy : Y = c :: Y') (hx : X.dropWhile (fun x => !decide (x.type = c.type)) = []) : codecs4 X Y = false := by
 subst hy
 conv => lhs; unfold codecs4
 rw [hx]
theorem codecs4_nil (X : List CodecS) : codecs4 X [] = true := by unfold codecs4; rfl
theorem drop_at {α : Type} [Inhabited α] {L : List α} {k : Nat} (hk : k < L.length) : L.drop k = L.getD k default :: L.drop (k + 1) := by
 rw [List.drop_eq_getElem_cons hk]
 simp [List.getD, hk]
set_option maxHeartbeats 6400000 in
set_option maxRecDepth 100000 in
theorem r10codecs_any (X Y : Array Value) (x y : MediaS) (vC vE vR vS vY uC uE uR uS uY : Value) (w : World) (h1 : MediaV w w.heap.size X x vC vE vR vS vY) (h2 : MediaV w w.heap.size Y y uC uE uR uS uY) (hzx : SizM x) :
 Calls Tryz.prog 30 #[.agg X, .agg Y] w fun e w' => e = .returned (.bool (codecs4 x.codecs y.codecs)) ∧ Below w.heap.size w w' := by
 obtain ⟨hb0, hbx, hby⟩ := two_boxes w 44 X Y
 obtain ⟨AX, cX, rfl, hcX, hmX, -⟩ := Rows.form h1.codecs
 obtain ⟨AY, cY, rfl, hcY, hmY, -⟩ := Rows.form h2.codecs
 obtain ⟨nx, hnx⟩ : ∃ n, x.codecs.length = n := ⟨_, rfl⟩
 obtain ⟨ny, hny⟩ : ∃ n, y.codecs.length = n := ⟨_, rfl⟩
 rw [hnx] at h1 hcX
 rw [hny] at h2 hcY
 unfold maxLen at hmX hmY
 have HNX := Lib.hid hnx
 have HNY := Lib.hid hny
 have HFE : Hid (∀ c ∈ x.codecs, c.feedback.length ≤ 140737488355328) := Lib.hid hzx.feeds
 clear hnx hny hzx
 have hx4 : X[4]? = some (.slice AX nx cX) := by rw [h1.form]; rfl
 have hy4 : Y[4]? = some (.slice AY ny cY) := by rw [h2.form]; rfl
 have HX4 := Lib.hid hx4
 have HY4 := Lib.hid hy4
 obtain ⟨N, hN⟩ : ∃ N, w.heap.size = N := ⟨_, rfl⟩
 have H0 := Lib.hid (And.intro hb0 (And.intro hbx hby))
 have HV := Lib.hid (And.intro h1 h2)
 have HSZ : Hid ((X.size = 11 ∧ X.toList.all (·.oneCell') = true) ∧ Y.size = 11 ∧ Y.toList.all (·.oneCell') = true) := Lib.hid ⟨⟨h1.size, h1.one⟩, h2.size, h2.one⟩
 rw [hN] at H0 HV
 have HN := Lib.hid hN
 clear h1 h2 hb0 hbx hby hN hx4 hy4
 obtain ⟨r, hr⟩ : ∃ r, codecs4 x.codecs y.codecs = r := ⟨_, rfl⟩
 rw [hr]
 have HR := Lib.hid hr
 clear hr
 go_enter Tryz.func30, Tryz.ntmps30
 go_upto_region 1 with fail
 simp only [HN.out, Nat.add_assoc, Nat.reduceAdd]
 generalize ((w.alloc (.cells X 44)).alloc (.cells Y 44)) = W0 at *
 have cx4 : W0.cell? ⟨N, 4, none⟩ = some (.slice AX nx cX) := (H0.out.2.1.cell 4).trans HX4.out
 have cy4 : W0.cell? ⟨N + 1, 4, none⟩ = some (.slice AY ny cY) := (H0.out.2.2.cell 4).trans HY4.out
 have HF : Hid (∀ W, Below W0.heap.size W0 W → Below N w W ∧ W.cell? ⟨N, 4, none⟩ = some (.slice AX nx cX) ∧ W.cell? ⟨N + 1, 4, none⟩ = some (.slice AY ny cY)) := Lib.hid fun W hW =>
  ⟨H0.out.1.trans (hW.mono (Nat.le_of_lt H0.out.2.1.lt)), ((H0.out.2.1.under hW).cell 4).trans HX4.out, ((H0.out.2.2.under hW).cell 4).trans HY4.out⟩
 have HN0 : Hid (N ≤ W0.heap.size) := Lib.hid (Nat.le_of_lt H0.out.2.1.lt)
 go_wp2
 clear cx4 cy4
 go_loopw [13, 5] (fun s13 s5 wr => ∃ i a : Nat, i ≤ ny ∧ a ≤ nx ∧ s13 = .int .i64 i ∧ s5 = .int .i64 a ∧ (codecs4 x.codecs y.codecs = codecs4 (x.codecs.drop a) (y.codecs.drop i) ∧ Below W0.heap.size W0 wr)) (fun s13 _ _ => ny - (intOf s13).toNat)
 case atStart => exact ⟨0, 0, Nat.zero_le _, Nat.zero_le _, rfl, rfl, rfl, Below.refl _ _⟩
 case round =>
  obtain ⟨i, a0, hi, ha0, rfl, rfl, hst⟩ := hrel
  have HS := Lib.hid hst
  clear hst
  obtain ⟨hbw, d4, e4⟩ := HF.out wr HS.out.2
  have HBW := Lib.hid hbw
  clear hbw
  by_cases hlt : i < ny
  · have hlt' : i < y.codecs.length := by rw [HNY.out]; exact hlt
    obtain ⟨ad, c', C, vf, e1, had, hC, hcs⟩ := (HV.out.2.codecs.below HBW.out).cells hlt'
    injection e1 with e1 e1n e1c
    clear e1n e1c
    subst e1
    obtain ⟨c, hc⟩ : ∃ s, y.codecs.getD i default = s := ⟨_, rfl⟩
    rw [hc] at hC
    have HDY : Hid (y.codecs.drop i = c :: y.codecs.drop (i + 1)) := Lib.hid (by rw [drop_at hlt', hc])
    have HLD : Hid (∀ (ops : Array Oper) (rest : List Oper) (op : Oper) (act : Act) (Q : Exit → Act → World → Prop), op.guard = none → op.op = .load 47 (.tmp 19) → act.eval (.tmp 19) = .pointer (some (ad.add (i * 6))) → wpList Tryz.prog ops Q rest (act.put op.dst (.agg C)) wr → wpList Tryz.prog ops Q (op :: rest) act wr) :=
     Lib.hid fun ops rest op act Q h1 h2 h3 h4 => wpList_load_at h1 47 (.tmp 19) h2 _ h3 C.toList _ hcs Tryz.underlying47 rfl (by rw [Array.length_toList, hC.size]; exact Tryz.sizeCodec) (by rw [Array.toArray_toList]; exact h4)
    have HSV : Hid (C.size = 6 ∧ C.toList.all (·.oneCell') = true) := Lib.hid ⟨hC.size, hC.one⟩
    obtain ⟨Af, kf, hvf, hkf, hmf, -⟩ := Rows.form hC.feeds
    obtain ⟨m, hm⟩ : ∃ n, c.feedback.length = n := ⟨_, rfl⟩
    rw [hm] at hvf hkf
    subst hvf
    unfold maxLen at hmf
    have HM := Lib.hid hm
    have HCC : Hid (C[0]? = some (.int .i64 c.type) ∧ C[1]? = some (.string c.name) ∧ C[2]? = some (.int .i64 c.clock) ∧ C[3]? = some (.int .i64 c.chans) ∧ C[4]? = some (.string c.format) ∧ C[5]? = some (.slice Af m kf)) := Lib.hid (by rw [hC.form]; exact ⟨rfl, rfl, rfl, rfl, rfl, rfl⟩)
    have HCF : Hid (TextsV w N (.slice Af m kf) c.feedback) := Lib.hid (by
     obtain ⟨ad', c2, C2, vf2, e2, -, hC2, hcs2⟩ := HV.out.2.codecs.cells hlt'
     rw [hc] at hC2
     injection e2 with e2 _ _
     obtain rfl := Option.some.inj e2
     have q1 := hcs 5 (.slice Af m kf) (by rw [Array.getElem?_toList]; exact HCC.out.2.2.2.2.2)
     have q2 := hcs2 5 vf2 (by rw [hC2.form]; rfl)
     have hblk : ((ad.add (i * 6)).add 5).block < N := by rw [add_block, add_block]; exact had
     rw [HBW.out.cell hblk, q2] at q1
     obtain rfl := Option.some.inj q1
     exact hC2.feeds)
    have hi0 : (0 : Int) ≤ (i : Int) := by omega
    have hi1 : (i : Int) < (ny : Int) := by omega
    have HW1 : Hid (Below W0.heap.size W0 ((wr.alloc (.cells #[.int .i64 0, .string ⟨#[]⟩, .int .i64 0, .int .i64 0, .string ⟨#[]⟩, .slice none 0 0] 47)).setRow wr.heap.size C) ∧ Whole ((wr.alloc (.cells #[.int .i64 0, .string ⟨#[]⟩, .int .i64 0, .int .i64 0, .string ⟨#[]⟩, .slice none 0 0] 47)).setRow wr.heap.size C) wr.heap.size 47 C) := Lib.hid (by
     have hs := HS.out.2.size
     exact ⟨below_row (HS.out.2.alloc hs _) hs _, (Whole.new _ _ _).row _⟩)
    clear hc hlt' had hcs hC hm
    go_upto_region 5 with fail
    go_cut [7] (fun s7 wc => ∃ g, s7 = .pointer (some ⟨g, 0, none⟩) ∧ Below W0.heap.size W0 wc ∧ Whole wc g 47 C)
    case first =>
     go_wp2_with (first | ((with_reducible refine HLD.out _ _ _ _ _ ?_ ?_ ?_ ?_); (with_reducible rfl); (with_reducible rfl); rfl) | ((with_reducible refine wpList_storeS C ?_ 47 (.tmp 7) (.tmp 20) ?_ ?_ ?_ (Whole.new _ _ _) Tryz.sizeCodec HSV.out.1 ?_ HSV.out.2 ?_); (with_reducible rfl); (with_reducible rfl); rfl; rfl; rfl))
     go_meet
     exact ⟨_, rfl, HW1.out.1, HW1.out.2⟩
    case rest =>
    obtain ⟨gC, rfl, hbc, hgC⟩ := hcut
    generalize wc = w1 at *
    have H1 := Lib.hid (And.intro hbc hgC)
    have HF1 : Hid (∀ W, Below w1.heap.size w1 W → Below W0.heap.size W0 W ∧ Whole W gC 47 C) := Lib.hid fun W hW => ⟨H1.out.1.trans (hW.mono H1.out.1.size), H1.out.2.under hW⟩
    clear hbc hgC HLD HSV HW1 d4 e4
    obtain ⟨p, hp⟩ : ∃ p : CodecS → Bool, (fun x : CodecS => !decide (x.type = c.type)) = p := ⟨_, rfl⟩
    have HP : Hid (∀ u : CodecS, p u = (u.type != c.type)) := Lib.hid fun u => by rw [← hp, Bool.eq_iff_iff]; simp
    have HPP := Lib.hid hp
    clear hp
    go_wp2
    go_loopw [5] (fun s5 wq => ∃ a : Nat, a ≤ nx ∧ s5 = .int .i64 a ∧ ((x.codecs.drop a0).dropWhile p = (x.codecs.drop a).dropWhile p ∧ Below w1.heap.size w1 wq)) (fun s5 _ => nx - (intOf s5).toNat)
    case atStart => exact ⟨a0, ha0, rfl, rfl, Below.refl _ _⟩
    case round =>
     obtain ⟨a, ha, rfl, hst⟩ := hrel
     have HA := Lib.hid hst
     clear hst
     have HA1 := Lib.hid (HF1.out wr HA.out.2)
     obtain ⟨hbw2, d4, e4⟩ := HF.out wr HA1.out.1
     have HBW2 := Lib.hid hbw2
     clear hbw2
     have c0 : wr.cell? ⟨gC, 0, none⟩ = some (.int .i64 c.type) := (HA1.out.2.cell 0).trans HCC.out.1
     have ha00 : (0 : Int) ≤ (a : Int) := by omega
     by_cases hal : a < nx
     · have hal' : a < x.codecs.length := by rw [HNX.out]; exact hal
       obtain ⟨ad2, c2', U, vg, e2, had2, hU, hus⟩ := (HV.out.1.codecs.below HBW2.out).cells hal'
       injection e2 with e2 e2n e2c
       clear e2n e2c
       subst e2
       obtain ⟨u, hu⟩ : ∃ s, x.codecs.getD a default = s := ⟨_, rfl⟩
       rw [hu] at hU
       have HUM : Hid (u ∈ x.codecs) := Lib.hid (by rw [← hu]; exact getD_mem hal')
       have HDX : Hid (x.codecs.drop a = u :: x.codecs.drop (a + 1)) := Lib.hid (by rw [drop_at hal', hu])
       have u0 : wr.cell? (ad2.add (a * 6)) = some (.int .i64 u.type) := by
        have := hus 0 (.int .i64 u.type) (by rw [hU.form]; rfl)
        exact this
       have ha1 : (a : Int) < (nx : Int) := by omega
       have hane : ((a : Int) == (nx : Int)) = false := by rw [beq_eq_false_iff_ne]; omega
       obtain ⟨b, hb⟩ : ∃ b, (u.type != c.type) = b := ⟨_, rfl⟩
       have HPB : Hid (p u = b) := Lib.hid (by rw [HP.out, hb])
       clear hu hal'
       cases b with
       | true =>
         clear hU hus had2
         go_upto_region 6 with fail
         go_quiet (fail)
         go_wp2
         go_roundw
         case rel => exact ⟨a + 1, by omega, by go_num, by rw [HA.out.1, HDX.out, List.dropWhile_cons, if_pos HPB.out], below_drewN' HA.out.2 _⟩
         case measure => simp [intOf]; omega
       | false =>
         have HDW : Hid ((x.codecs.drop a0).dropWhile p = u :: x.codecs.drop (a + 1)) := Lib.hid (by rw [HA.out.1, HDX.out, List.dropWhile_cons, HPB.out]; rfl)
         have HSTEP : Hid (r = (sameC4 u c && codecs4 (x.codecs.drop (a + 1)) (y.codecs.drop (i + 1)))) := Lib.hid (by
          rw [← HR.out, HS.out.1]
          refine codecs4_step HDY.out ?_
          rw [HPP.out]
          exact HDW.out)
         have HUV := Lib.hid (And.intro hU hus)
         have HAD2 := Lib.hid had2
         clear hU hus had2
         go_upto_region 6 with fail
         go_quiet (fail)
         clear u0 c0 d4 e4
         have hq := below_drewN' HA.out.2 nq
         have HUS : Hid (∀ j u, U.toList[j]? = some u → (wr.drewN nq).cell? ((ad2.add (a * 6)).add j) = some u) := Lib.hid HUV.out.2
         generalize wr.drewN nq = w2 at *
         have HA2 := Lib.hid (HF1.out w2 hq)
         clear hq
         obtain ⟨hbw2, d4, e4⟩ := HF.out w2 HA2.out.1
         have HB2 := Lib.hid hbw2
         clear hbw2
         obtain ⟨Ag, kg, hvg, hkg, hmg, -⟩ := Rows.form HUV.out.1.feeds
         obtain ⟨mg, hmgl⟩ : ∃ n, u.feedback.length = n := ⟨_, rfl⟩
         rw [hmgl] at hvg hkg
         have hfl := HFE.out u HUM.out
         rw [hmgl] at hfl
         subst hvg
         have HMG := Lib.hid hmgl
         clear hmgl
         have HUC : Hid (U[1]? = some (.string u.name) ∧ U[2]? = some (.int .i64 u.clock) ∧ U[3]? = some (.int .i64 u.chans) ∧ U[4]? = some (.string u.format) ∧ U[5]? = some (.slice Ag mg kg)) := Lib.hid (by rw [HUV.out.1.form]; exact ⟨rfl, rfl, rfl, rfl, rfl⟩)
         have HUF : Hid (TextsV w N (.slice Ag mg kg) u.feedback) := Lib.hid (by
          obtain ⟨ad', c2, C2, vf2, e2, -, hC2, hcs2⟩ := HV.out.1.codecs.cells (i := a) (by rw [HNX.out]; exact hal)
          have hgd : x.codecs.getD a default = u := by
           have := HDX.out
           rw [drop_at (by rw [HNX.out]; exact hal)] at this
           exact (List.cons.inj this).1
          rw [hgd] at hC2
          injection e2 with e2 _ _
          obtain rfl := Option.some.inj e2
          have q1 := HUS.out 5 (.slice Ag mg kg) (by rw [Array.getElem?_toList]; exact HUC.out.2.2.2.2)
          have q2 := hcs2 5 vf2 (by rw [hC2.form]; rfl)
          have hblk : ((ad2.add (a * 6)).add 5).block < N := by rw [add_block, add_block]; exact HAD2.out
          rw [HB2.out.cell hblk, q2] at q1
          obtain rfl := Option.some.inj q1
          exact hC2.feeds)
         have HLD : Hid (∀ (ops : Array Oper) (rest : List Oper) (op : Oper) (act : Act) (Q : Exit → Act → World → Prop), op.guard = none → op.op = .load 47 (.tmp 47) → act.eval (.tmp 47) = .pointer (some (ad2.add (a * 6))) → wpList Tryz.prog ops Q rest (act.put op.dst (.agg U)) w2 → wpList Tryz.prog ops Q (op :: rest) act w2) :=
          Lib.hid fun ops rest op act Q h1 h2 h3 h4 => wpList_load_at h1 47 (.tmp 47) h2 _ h3 U.toList _ HUS.out Tryz.underlying47 rfl (by rw [Array.length_toList, HUV.out.1.size]; exact Tryz.sizeCodec) (by rw [Array.toArray_toList]; exact h4)
         have HSV : Hid (U.size = 6 ∧ U.toList.all (·.oneCell') = true) := Lib.hid ⟨HUV.out.1.size, HUV.out.1.one⟩
         have HW3 : Hid (Below W0.heap.size W0 ((w2.alloc (.cells #[.int .i64 0, .string ⟨#[]⟩, .int .i64 0, .int .i64 0, .string ⟨#[]⟩, .slice none 0 0] 47)).setRow w2.heap.size U) ∧ Whole ((w2.alloc (.cells #[.int .i64 0, .string ⟨#[]⟩, .int .i64 0, .int .i64 0, .string ⟨#[]⟩, .slice none 0 0] 47)).setRow w2.heap.size U) w2.heap.size 47 U ∧ Whole ((w2.alloc (.cells #[.int .i64 0, .string ⟨#[]⟩, .int .i64 0, .int .i64 0, .string ⟨#[]⟩, .slice none 0 0] 47)).setRow w2.heap.size U) gC 47 C) := Lib.hid (by
          have hs := HA2.out.1.size
          exact ⟨below_row (HA2.out.1.alloc hs _) hs _, (Whole.new _ _ _).row _, (HA2.out.2.alloc _).farRow (Nat.ne_of_lt HA2.out.2.lt) _⟩)
         go_upto_region 10 with fail
         go_cut [8] (fun s8 wc => ∃ g, s8 = .pointer (some ⟨g, 0, none⟩) ∧ Below W0.heap.size W0 wc ∧ Whole wc g 47 U ∧ Whole wc gC 47 C)
         case first =>
          go_wp2_with (first | ((with_reducible refine HLD.out _ _ _ _ _ ?_ ?_ ?_ ?_); (with_reducible rfl); (with_reducible rfl); rfl) | ((with_reducible refine wpList_storeS U ?_ 47 (.tmp 8) (.tmp 48) ?_ ?_ ?_ (Whole.new _ _ _) Tryz.sizeCodec HSV.out.1 ?_ HSV.out.2 ?_); (with_reducible rfl); (with_reducible rfl); rfl; rfl; rfl))
          go_meet
          exact ⟨_, rfl, HW3.out.1, HW3.out.2.1, HW3.out.2.2⟩
         case rest =>
         obtain ⟨gU, rfl, hbc, hgU, hgC⟩ := hcut
         generalize wc = w3 at *
         have H3 := Lib.hid (And.intro hbc (And.intro hgU hgC))
         clear hbc hgU hgC HLD HSV HW3 d4 e4 HUV HUS HA1 HA2 HBW2
         have k1 : w3.cell? ⟨gU, 1, none⟩ = some (.string u.name) := (H3.out.2.1.cell 1).trans HUC.out.1
         have k2 : w3.cell? ⟨gU, 2, none⟩ = some (.int .i64 u.clock) := (H3.out.2.1.cell 2).trans HUC.out.2.1
         have k3 : w3.cell? ⟨gU, 3, none⟩ = some (.int .i64 u.chans) := (H3.out.2.1.cell 3).trans HUC.out.2.2.1
         have k4 : w3.cell? ⟨gU, 4, none⟩ = some (.string u.format) := (H3.out.2.1.cell 4).trans HUC.out.2.2.2.1
         have l1 : w3.cell? ⟨gC, 1, none⟩ = some (.string c.name) := (H3.out.2.2.cell 1).trans HCC.out.2.1
         have l2 : w3.cell? ⟨gC, 2, none⟩ = some (.int .i64 c.clock) := (H3.out.2.2.cell 2).trans HCC.out.2.2.1
         have l3 : w3.cell? ⟨gC, 3, none⟩ = some (.int .i64 c.chans) := (H3.out.2.2.cell 3).trans HCC.out.2.2.2.1
         have l4 : w3.cell? ⟨gC, 4, none⟩ = some (.string c.format) := (H3.out.2.2.cell 4).trans HCC.out.2.2.2.2.1
         have l5 : w3.cell? ⟨gC, 5, none⟩ = some (.slice Af m kf) := (H3.out.2.2.cell 5).trans HCC.out.2.2.2.2.2
         obtain ⟨b1, hb1⟩ : ∃ b, (u.name.toList == c.name.toList) = b := ⟨_, rfl⟩
         obtain ⟨b2, hb2⟩ : ∃ b, (u.clock == c.clock) = b := ⟨_, rfl⟩
         obtain ⟨b3, hb3⟩ : ∃ b, (u.chans == c.chans) = b := ⟨_, rfl⟩
         obtain ⟨b4, hb4⟩ : ∃ b, (u.format.toList == c.format.toList) = b := ⟨_, rfl⟩
         have HSC : Hid (sameC4 u c = (b1 && b2 && b3 && b4 && c.feedback.all (inT u.feedback))) := Lib.hid (by
          rw [← hb1, ← hb2, ← hb3, ← hb4]
          unfold sameC4
          rw [toList_tx, toList_tx, toList_tx, toList_tx, Bool.eq_iff_iff]
          simp)
         have hb1' : (u.name.toList != c.name.toList) = !b1 := by rw [← hb1]; rfl
         have hb2' : (u.clock != c.clock) = !b2 := by rw [← hb2]; rfl
         have hb3' : (u.chans != c.chans) = !b3 := by rw [← hb3]; rfl
         have hb4' : (u.format.toList != c.format.toList) = !b4 := by rw [← hb4]; rfl
         have HB3 : Hid (Below N w w3) := Lib.hid (HF.out w3 H3.out.1).1
         cases b1 with
         | false =>
           have HQ : Hid (r = false) := Lib.hid (by rw [HSTEP.out, HSC.out]; rfl)
           go_wp2
           go_ret
           exact ⟨ret_bool HQ.out.symm, by rw [HN.out]; exact HB3.out⟩
         | true =>
           cases b2 with
           | false =>
             have HQ : Hid (r = false) := Lib.hid (by rw [HSTEP.out, HSC.out]; rfl)
             go_wp2
             go_ret
             exact ⟨ret_bool HQ.out.symm, by rw [HN.out]; exact HB3.out⟩
           | true =>
             cases b3 with
             | false =>
               have HQ : Hid (r = false) := Lib.hid (by rw [HSTEP.out, HSC.out]; rfl)
               go_wp2
               go_ret
               exact ⟨ret_bool HQ.out.symm, by rw [HN.out]; exact HB3.out⟩
             | true =>
               cases b4 with
               | false =>
                 have HQ : Hid (r = false) := Lib.hid (by rw [HSTEP.out, HSC.out]; rfl)
                 go_wp2
                 go_ret
                 exact ⟨ret_bool HQ.out.symm, by rw [HN.out]; exact HB3.out⟩
               | true =>
                 have HQ : Hid (r = (c.feedback.all (inT u.feedback) && codecs4 (x.codecs.drop (a + 1)) (y.codecs.drop (i + 1)))) := Lib.hid (by rw [HSTEP.out, HSC.out]; rfl)
                 go_wp2
                 clear k1 k2 k3 k4 l1 l2 l3 l4 l5 hb1 hb2 hb3 hb4 hb1' hb2' hb3' hb4'
                 go_loopw [78] (fun s78 wq => ∃ t : Nat, t ≤ m ∧ s78 = .int .i64 t ∧ (∀ j, j < t → inT u.feedback (c.feedback.getD j default) = true) ∧ Below w3.heap.size w3 wq) (fun s78 _ => m - (intOf s78).toNat)
                 case atStart => exact ⟨0, Nat.zero_le _, rfl, (fun j hj => by omega), Below.refl _ _⟩
                 case round =>
                  obtain ⟨t, ht, rfl, hall, hbq⟩ := hrel
                  have HT := Lib.hid (And.intro hall hbq)
                  clear hall
                  have HT1 : Hid (Below W0.heap.size W0 wr) := Lib.hid (H3.out.1.trans (hbq.mono H3.out.1.size))
                  have HT2 := Lib.hid (HF.out wr HT1.out).1
                  have k5 : wr.cell? ⟨gU, 5, none⟩ = some (.slice Ag mg kg) := ((H3.out.2.1.under hbq).cell 5).trans HUC.out.2.2.2.2
                  have l5 : wr.cell? ⟨gC, 5, none⟩ = some (.slice Af m kf) := ((H3.out.2.2.under hbq).cell 5).trans HCC.out.2.2.2.2.2
                  clear hbq
                  by_cases htl : t < m
                  · have htl' : t < c.feedback.length := by rw [HM.out]; exact htl
                    obtain ⟨ad3, c3, e3, -, f0⟩ := (HCF.out.below HT2.out).at_ htl'
                    injection e3 with e3 e3n e3c
                    clear e3n e3c
                    subst e3
                    obtain ⟨s, hs⟩ : ∃ s, c.feedback.getD t default = s := ⟨_, rfl⟩
                    rw [hs] at f0
                    have HSK := Lib.hid (And.intro hs htl')
                    have HIN : Hid (∀ m, Calls Tryz.prog 13 #[.slice Ag mg kg, .string s] (wr.drewN m) fun e w' => e = .returned (.int .i64 (placeT u.feedback s)) ∧ w' = wr.drewN m) := Lib.hid fun m => rIn_q Ag mg kg s u.feedback (wr.drewN m) ((HUF.out.below (below_drewN' HT2.out m)).more (by have := HT1.out.size; have := HN0.out; show N ≤ wr.heap.size; omega)) HMG.out (by omega)
                    have ht0 : (0 : Int) ≤ (t : Int) := by omega
                    have ht1 : (t : Int) < (m : Int) := by omega
                    clear hs htl'
                    cases hin : inT u.feedback s with
                    | true =>
                      have hpl := place_in hin
                      have HI := Lib.hid hin
                      clear hin
                      generalize placeT u.feedback s = pl at *
                      go_upto_region 16 with fail
                      go_quiet ((go_at_call 13; exact Calls.quiet_of_same (HIN.out _)))
                      go_wp2
                      go_roundw
                      case rel =>
                       refine ⟨t + 1, by omega, by go_num, fun j hj => ?_, below_drewN' HT.out.2 _⟩
                       by_cases e : j = t
                       · subst e
                         rw [HSK.out.1]
                         exact HI.out
                       · exact HT.out.1 j (by omega)
                      case measure => simp [intOf]; omega
                    | false =>
                      have hpl := place_out hin
                      have HQ2 : Hid (r = false) := Lib.hid (by
                       rw [HQ.out]
                       have : c.feedback.all (inT u.feedback) = false := by
                        rw [Bool.eq_false_iff]
                        intro h
                        have := List.all_eq_true.1 h s (by rw [← HSK.out.1]; exact getD_mem HSK.out.2)
                        rw [hin] at this
                        cases this
                       rw [this]
                       rfl)
                      clear hin
                      generalize placeT u.feedback s = pl at *
                      go_upto_region 16 with fail
                      go_quiet ((go_at_call 13; exact Calls.quiet_of_same (HIN.out _)))
                      go_wp2
                      go_ret
                      exact ⟨ret_bool HQ2.out.symm, by rw [HN.out]; exact below_drewN' HT2.out _⟩
                  · obtain rfl : t = m := by omega
                    have HQ2 : Hid (codecs4 x.codecs y.codecs = codecs4 (x.codecs.drop (a + 1)) (y.codecs.drop (i + 1))) := Lib.hid (by rw [HR.out, HQ.out, all_yesL HM.out HT.out.1]; rfl)
                    go_wp2
                    go_roundw
                    case rel => exact ⟨i + 1, a + 1, by omega, by omega, by go_num, by go_num, HQ2.out, HT1.out⟩
                    case measure => simp [intOf]; omega
     · obtain rfl : a = nx := by omega
       have hane : ((a : Int) == (a : Int)) = true := by simp
       have HQ : Hid (r = false) := Lib.hid (by
        rw [← HR.out, HS.out.1]
        refine codecs4_out HDY.out ?_
        rw [HPP.out, HA.out.1, List.drop_of_length_le (by rw [HNX.out]; exact Nat.le_refl _)]
        rfl)
       go_upto_region 6 with fail
       go_quiet (fail)
       have hq := below_drewN' HA.out.2 nq
       generalize wr.drewN nq = w2 at *
       have HA2 := Lib.hid (HF1.out w2 hq)
       obtain ⟨hbw2, d4, e4⟩ := HF.out w2 HA2.out.1
       have HB2 := Lib.hid hbw2
       clear hbw2 hq
       go_wp2
       go_ret
       exact ⟨ret_bool HQ.out.symm, by rw [HN.out]; exact HB2.out⟩
  · obtain rfl : i = ny := by omega
    have HQ : Hid (r = true) := Lib.hid (by rw [← HR.out, HS.out.1, show y.codecs.drop i = [] from List.drop_of_length_le (by rw [HNY.out]; exact Nat.le_refl _)]; exact codecs4_nil _)
    go_wp2
    go_ret
    exact ⟨ret_bool HQ.out.symm, by rw [HN.out]; exact HBW.out⟩
end Go.Proofs.YtibpnjakimobmaaGreat
