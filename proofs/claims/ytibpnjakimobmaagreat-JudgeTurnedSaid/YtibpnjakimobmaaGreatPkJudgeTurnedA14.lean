import Derived.Test.YtibpnjakimobmaaGreatPkJudgeTurnedA13
import Derived.Test.YtibpnjakimobmaaGreatPkJudgeTurnedA02
import Derived.Test.YtibpnjakimobmaaGreatPkJudgeTurnedA03
import Derived.Test.YtibpnjakimobmaaGreatPkJudgeTurnedA07
import Derived.Test.YtibpnjakimobmaaGreatPkJudgeTurnedA12
namespace Go.Proofs.YtibpnjakimobmaaGreat
open Go.RowKit
set_option linter.unusedVariables false
set_option linter.unusedSimpArgs false
set_option maxHeartbeats 1600000 in
theorem juTrans1_any (X Y : Array Value) (a b : Int) (w : World) (hx : X[0]? = some (.int .i64 a)) (hy : Y[0]? = some (.int .i64 b)) : Calls Tryz.prog 49 #[.agg X, .agg Y] w fun e w' => e = .returned (.bool (a == b)) ∧ Below w.heap.size w w' := by
 obtain ⟨hb0, hbx, hby⟩ := two_boxes w 51 X Y
 obtain ⟨N, hN⟩ : ∃ N, w.heap.size = N := ⟨_, rfl⟩
 have c0 := (hbx.cell 0).trans hx
 have d0 := (hby.cell 0).trans hy
 have HB := Lib.hid hb0
 have HN := Lib.hid hN
 simp only [hN] at c0 d0
 obtain ⟨q, hq⟩ : ∃ q, (a == b) = q := ⟨_, rfl⟩
 rw [hq]
 clear hb0 hbx hby hx hy hN
 go_enter Tryz.func49, Tryz.ntmps49
 go_upto_region 1 with fail
 simp only [HN.out, Nat.add_assoc, Nat.reduceAdd]
 generalize ((w.alloc (.cells X 51)).alloc (.cells Y 51)) = W0 at *
 go_wp2
 go_ret
 exact ⟨rfl, HB.out⟩
set_option maxHeartbeats 3200000 in
set_option maxRecDepth 100000 in
theorem eqFY_any (v1 v2 : Value) (L M : List CryptoS) (w : World) (h1 : CrysV w w.heap.size v1 L) (h2 : CrysV w w.heap.size v2 M) : Calls Tryz.prog 48 #[v1, v2, .func (.func 49) #[] #[]] w fun e w' => e = .returned (.bool (pairsA tagQ L M)) ∧ Below w.heap.size w w' := by
 obtain ⟨A1, c1, rfl, hc1, hm1, _⟩ := Rows.form h1
 obtain ⟨A2, c2, rfl, hc2, hm2, _⟩ := Rows.form h2
 obtain ⟨Z, hz⟩ := zcry_letter
 have HZA := Lib.hid hz
 have H1 := Lib.hid h1
 have H2 := Lib.hid h2
 clear h1 h2 hz
 obtain ⟨n, hn⟩ : ∃ n, L.length = n := ⟨_, rfl⟩
 obtain ⟨m, hm⟩ : ∃ m, M.length = m := ⟨_, rfl⟩
 have HN := Lib.hid hn
 have HM := Lib.hid hm
 rw [hn] at hc1
 rw [hm] at hc2
 rw [hn, hm]
 unfold maxLen at hm1 hm2
 clear hn hm
 by_cases hnm : n = m
 · subst hnm
   have hz : ((n : Int) == (n : Int)) = true := by simp
   go_enter Tryz.func48, Tryz.ntmps48
   go_wp2
   go_loopw [17] (fun s17 wr => ∃ k : Nat, k ≤ n ∧ s17 = .int .i64 k ∧ (∀ j, j < k → tagQ (L.getD j default) (M.getD j default) = true) ∧ Below w.heap.size w wr) (fun s17 _ => n - (intOf s17).toNat)
   case atStart => exact ⟨0, Nat.zero_le _, rfl, (fun j hj => by omega), Below.refl _ w⟩
   case round =>
    obtain ⟨k, hk, rfl, hsame, hb⟩ := hrel
    have HS := Lib.hid (And.intro hsame hb)
    clear hsame
    by_cases hlt : k < n
    · obtain ⟨ad1, c1', e1, b1, l1, x0⟩ := (H1.out.below hb).at_ (i := k) (by rw [HN.out]; exact hlt)
      obtain ⟨ad2, c2', e2, b2, l2, y0⟩ := (H2.out.below hb).at_ (i := k) (by rw [HM.out]; exact hlt)
      injection e1 with e1 e1n e1c; clear e1n e1c
      injection e2 with e2 e2n e2c; clear e2n e2c
      subst e1 e2
      obtain ⟨a, ha⟩ : ∃ a, L.getD k default = a := ⟨_, rfl⟩
      obtain ⟨b, hbb⟩ : ∃ b, M.getD k default = b := ⟨_, rfl⟩
      rw [ha] at x0 l1
      rw [hbb] at y0 l2
      have HAB := Lib.hid (And.intro ha hbb)
      have hk0 : (0 : Int) ≤ (k : Int) := by omega
      have hk1 : (k : Int) < (n : Int) := by omega
      have hwr := hb.size
      have HLL := Lib.hid (And.intro (cryC_len l1) (cryC_len l2))
      obtain ⟨X, hX⟩ : ∃ l, (cryC a).toArray = l := ⟨_, rfl⟩
      obtain ⟨Y, hY⟩ : ∃ l, (cryC b).toArray = l := ⟨_, rfl⟩
      have HXS : Hid ((X.size = 31 ∧ X.toList.all (·.oneCell') = true) ∧ Y.size = 31 ∧ Y.toList.all (·.oneCell') = true) := Lib.hid ⟨⟨by rw [← hX]; simpa using HLL.out.1, by rw [← hX]; exact cryC_one a⟩, by rw [← hY]; simpa using HLL.out.2, by rw [← hY]; exact cryC_one b⟩
      have HX0 : Hid (X[0]? = some (.int .i64 a.tag) ∧ Y[0]? = some (.int .i64 b.tag)) := Lib.hid ⟨by rw [← hX]; rfl, by rw [← hY]; rfl⟩
      have xs : ∀ j u, X.toList[j]? = some u → wr.cell? ((ad1.add (k * 31)).add j) = some u := fun j u hu => x0 j u (by rw [← hX] at hu; simpa using hu)
      have ys : ∀ j u, Y.toList[j]? = some u → wr.cell? ((ad2.add (k * 31)).add j) = some u := fun j u hu => y0 j u (by rw [← hY] at hu; simpa using hu)
      have HLD1 : Hid (∀ (ops : Array Oper) (rest : List Oper) (op : Oper) (act : Act) (Q : Exit → Act → World → Prop), op.guard = none → op.op = .load 51 (.tmp 20) → act.eval (.tmp 20) = .pointer (some (ad1.add (k * 31))) → wpList Tryz.prog ops Q rest (act.put op.dst (.agg X)) wr → wpList Tryz.prog ops Q (op :: rest) act wr) :=
       Lib.hid fun ops rest op act Q h1 h2 h3 h4 => wpList_load_at h1 51 (.tmp 20) h2 _ h3 X.toList _ xs Tryz.underlying51 rfl (by rw [Array.length_toList, HXS.out.1.1]; exact Tryz.sizeCrypto) (by rw [Array.toArray_toList]; exact h4)
      have HLD2 : Hid (∀ (W : World) (ops : Array Oper) (rest : List Oper) (op : Oper) (act : Act) (Q : Exit → Act → World → Prop), Below w.heap.size wr W → op.guard = none → op.op = .load 51 (.tmp 24) → act.eval (.tmp 24) = .pointer (some (ad2.add (k * 31))) → wpList Tryz.prog ops Q rest (act.put op.dst (.agg Y)) W → wpList Tryz.prog ops Q (op :: rest) act W) :=
       Lib.hid fun W ops rest op act Q hW h1 h2 h3 h4 => wpList_load_at h1 51 (.tmp 24) h2 _ h3 Y.toList _ (fun j u hu => (hW.cell (p := (ad2.add (k * 31)).add j) (by rw [add_block, add_block]; exact b2)).trans (ys j u hu)) Tryz.underlying51 rfl (by rw [Array.length_toList, HXS.out.2.1]; exact Tryz.sizeCrypto) (by rw [Array.toArray_toList]; exact h4)
      have HNEW : Hid (∀ W : World, Whole (W.alloc (.cells Z 51)) W.heap.size 51 Z) := Lib.hid fun W => Whole.new _ _ _
      have HW1 : Hid (Below w.heap.size wr ((wr.alloc (.cells Z 51)).setRow wr.heap.size X) ∧ Whole ((wr.alloc (.cells Z 51)).setRow wr.heap.size X) wr.heap.size 51 X) := Lib.hid ⟨below_row ((Below.refl _ wr).alloc hwr _) hwr _, (HNEW.out wr).row _⟩
      clear ha hbb xs ys x0 y0 l1 l2 b1 b2 hb hX hY
      go_upto_region 6 with (first | ((with_reducible refine HLD1.out _ _ _ _ _ ?_ ?_ ?_ ?_); (with_reducible rfl); (with_reducible rfl); rfl) | ((with_reducible refine wpList_allocR ?_ (t := 51) ?_ (HZA.out.1 _) ?_); (with_reducible rfl); (with_reducible rfl)) | ((with_reducible refine wpList_storeS X ?_ 51 (.tmp 8) (.tmp 21) ?_ ?_ ?_ (HNEW.out _) Tryz.sizeCrypto HXS.out.1.1 HZA.out.2 HXS.out.1.2 ?_); (with_reducible rfl); (with_reducible rfl); rfl; rfl))
      clear HLD1
      generalize ((wr.alloc (.cells Z 51)).setRow wr.heap.size X) = W1 at *
      clear hwr
      generalize wr.heap.size = g1 at *
      have hW1 : w.heap.size ≤ W1.heap.size := Nat.le_trans HS.out.2.size HW1.out.1.size
      have HW2 : Hid (Below w.heap.size wr ((W1.alloc (.cells Z 51)).setRow W1.heap.size Y) ∧ Whole ((W1.alloc (.cells Z 51)).setRow W1.heap.size Y) W1.heap.size 51 Y ∧ Whole ((W1.alloc (.cells Z 51)).setRow W1.heap.size Y) g1 51 X) := Lib.hid ⟨below_row (HW1.out.1.alloc hW1 _) hW1 _, (HNEW.out W1).row _, (HW1.out.2.alloc _).farRow (Nat.ne_of_lt HW1.out.2.lt) _⟩
      go_upto_region 7 with (first | ((with_reducible refine HLD2.out _ _ _ _ _ _ HW1.out.1 ?_ ?_ ?_ ?_); (with_reducible rfl); (with_reducible rfl); rfl) | ((with_reducible refine wpList_allocR ?_ (t := 51) ?_ (HZA.out.1 _) ?_); (with_reducible rfl); (with_reducible rfl)) | ((with_reducible refine wpList_storeS Y ?_ 51 (.tmp 9) (.tmp 25) ?_ ?_ ?_ (HNEW.out _) Tryz.sizeCrypto HXS.out.2.1 HZA.out.2 HXS.out.2.2 ?_); (with_reducible rfl); (with_reducible rfl); rfl; rfl))
      clear HLD2 HNEW
      generalize ((W1.alloc (.cells Z 51)).setRow W1.heap.size Y) = W2 at *
      generalize W1.heap.size = g2 at *
      have hW2 : w.heap.size ≤ W2.heap.size := Nat.le_trans HS.out.2.size HW2.out.1.size
      obtain ⟨qb, hq⟩ : ∃ r, (a.tag == b.tag) = r := ⟨_, rfl⟩
      have HCL : Hid (Calls Tryz.prog 49 #[.agg X, .agg Y] W2 fun e w' => e = .returned (.bool qb) ∧ Below W2.heap.size W2 w') := Lib.hid (by
       have := juTrans1_any X Y a.tag b.tag W2 HX0.out.1 HX0.out.2
       rw [hq] at this
       exact this)
      have HQ : Hid (tagQ (L.getD k default) (M.getD k default) = qb) := Lib.hid (by rw [HAB.out.1, HAB.out.2, ← hq]; rfl)
      have HFIN : Hid (∀ W, Below W2.heap.size W2 W → Below w.heap.size w W) := Lib.hid fun W hW => (HS.out.2.trans HW2.out.1).trans (hW.mono hW2)
      clear hq hW1 hW2
      cases qb with
      | true =>
        go_wp2_with (first | ((with_reducible refine wpList_load_all ?_ 51 (.tmp 8) ?_ HW2.out.2.2 ?_ Tryz.sizeCrypto HXS.out.1.1 Tryz.underlying51 rfl ?_); (with_reducible rfl); (with_reducible rfl); rfl) | ((with_reducible refine wpList_load_all ?_ 51 (.tmp 9) ?_ HW2.out.2.1 ?_ Tryz.sizeCrypto HXS.out.2.1 Tryz.underlying51 rfl ?_); (with_reducible rfl); (with_reducible rfl); rfl) | (go_at_call 49; (with_reducible refine HCL.out.mono ?_); rintro e w5 ⟨rfl, hb5⟩))
        go_roundw
        case rel =>
         refine ⟨k + 1, by omega, by go_num, fun j hj => ?_, HFIN.out _ hb5⟩
         by_cases e : j = k
         · subst e
           exact HQ.out
         · exact HS.out.1 j (by omega)
        case measure => simp [intOf]; omega
      | false =>
        have HNO : Hid (pairsA tagQ L M = false) := Lib.hid (pairs_no HN.out HM.out hlt HQ.out)
        go_wp2_with (first | ((with_reducible refine wpList_load_all ?_ 51 (.tmp 8) ?_ HW2.out.2.2 ?_ Tryz.sizeCrypto HXS.out.1.1 Tryz.underlying51 rfl ?_); (with_reducible rfl); (with_reducible rfl); rfl) | ((with_reducible refine wpList_load_all ?_ 51 (.tmp 9) ?_ HW2.out.2.1 ?_ Tryz.sizeCrypto HXS.out.2.1 Tryz.underlying51 rfl ?_); (with_reducible rfl); (with_reducible rfl); rfl) | (go_at_call 49; (with_reducible refine HCL.out.mono ?_); rintro e w5 ⟨rfl, hb5⟩))
        go_ret
        exact ⟨ret_bool HNO.out.symm, HFIN.out _ hb5⟩
    · obtain rfl : k = n := by omega
      have HEQ : Hid (pairsA tagQ L M = true) := Lib.hid (pairs_yes HN.out HM.out HS.out.1)
      clear hb
      go_wp2
      go_ret
      exact ⟨ret_bool HEQ.out.symm, HS.out.2⟩
 · have hz : ((n : Int) == (m : Int)) = false := by rw [beq_eq_false_iff_ne]; omega
   have HNE : Hid (pairsA tagQ L M = false) := Lib.hid (pairs_len (by rw [HN.out, HM.out]; exact hnm))
   clear hnm
   go_enter Tryz.func48, Tryz.ntmps48
   go_wp2
   go_ret
   exact ⟨ret_bool HNE.out.symm, Below.refl _ w⟩
set_option maxHeartbeats 1600000 in
set_option maxRecDepth 100000 in
theorem juTrans_any (X Y : Array Value) (x y : MediaS) (vC vE vR vS vY uC uE uR uS uY : Value) (w : World) (h1 : MediaV w w.heap.size X x vC vE vR vS vY) (h2 : MediaV w w.heap.size Y y uC uE uR uS uY) :
 Calls Tryz.prog 27 #[.agg X, .agg Y] w fun e w' => e = .returned (.bool (transJ x y)) ∧ Below w.heap.size w w' := by
 obtain ⟨hb0, hbx, hby⟩ := two_boxes w 44 X Y
 obtain ⟨AX, cX, rfl, -⟩ := Rows.form h1.crypto
 obtain ⟨AY, cY, rfl, -⟩ := Rows.form h2.crypto
 obtain ⟨nx, hnx⟩ : ∃ n, x.crypto.length = n := ⟨_, rfl⟩
 obtain ⟨ny, hny⟩ : ∃ n, y.crypto.length = n := ⟨_, rfl⟩
 rw [hnx] at h1
 rw [hny] at h2
 clear hnx hny
 have hx9 : X[9]? = some (.slice AX nx cX) := by rw [h1.form]; rfl
 have hy0 : Y[0]? = some (.int .i64 y.kind) := by rw [h2.form]; rfl
 have hy9 : Y[9]? = some (.slice AY ny cY) := by rw [h2.form]; rfl
 have hy10 : Y[10]? = some (.int .i64 y.sctp) := by rw [h2.form]; rfl
 have HX9 := Lib.hid hx9
 have HY0 := Lib.hid hy0
 have HY9 := Lib.hid hy9
 have HY10 := Lib.hid hy10
 obtain ⟨N, hN⟩ : ∃ N, w.heap.size = N := ⟨_, rfl⟩
 have H0 := Lib.hid (And.intro hb0 (And.intro hbx hby))
 have HV := Lib.hid (And.intro h1 h2)
 have HSZ : Hid ((X.size = 11 ∧ X.toList.all (·.oneCell') = true) ∧ Y.size = 11 ∧ Y.toList.all (·.oneCell') = true) := Lib.hid ⟨⟨h1.size, h1.one⟩, h2.size, h2.one⟩
 rw [hN] at H0 HV
 have HN := Lib.hid hN
 clear h1 h2 hb0 hbx hby hN hx9 hy0 hy9 hy10
 have HR : Hid (transJ x y = if y.kind = 3 then !decide (y.sctp = 0) else pairsA tagQ x.crypto y.crypto) := Lib.hid rfl
 generalize transJ x y = r at *
 go_enter Tryz.func27, Tryz.ntmps27
 go_upto_region 1 with fail
 simp only [HN.out, Nat.add_assoc, Nat.reduceAdd]
 generalize ((w.alloc (.cells X 44)).alloc (.cells Y 44)) = W0 at *
 have cx9 : W0.cell? ⟨N, 9, none⟩ = some (.slice AX nx cX) := (H0.out.2.1.cell 9).trans HX9.out
 have cy0 : W0.cell? ⟨N + 1, 0, none⟩ = some (.int .i64 y.kind) := (H0.out.2.2.cell 0).trans HY0.out
 have cy9 : W0.cell? ⟨N + 1, 9, none⟩ = some (.slice AY ny cY) := (H0.out.2.2.cell 9).trans HY9.out
 have cy10 : W0.cell? ⟨N + 1, 10, none⟩ = some (.int .i64 y.sctp) := (H0.out.2.2.cell 10).trans HY10.out
 by_cases h3 : y.kind = 3
 · have h3' : (y.kind == 3) = true := by simpa using h3
   have HQ : Hid (r = !(y.sctp == 0)) := Lib.hid (by rw [HR.out, if_pos h3]; rfl)
   clear h3
   generalize y.kind = yk at *
   obtain ⟨b, hb⟩ : ∃ b, (y.sctp == 0) = b := ⟨_, rfl⟩
   have hb' : (y.sctp != 0) = !b := by rw [← hb]; rfl
   rw [hb] at HQ
   generalize y.sctp = ys at *
   go_wp2
   go_ret
   exact ⟨ret_bool HQ.out.symm, by rw [HN.out]; exact H0.out.1⟩
 · have h3' : (y.kind == 3) = false := by simpa using h3
   have HQ : Hid (r = pairsA tagQ x.crypto y.crypto) := Lib.hid (by rw [HR.out, if_neg h3])
   clear h3
   generalize y.kind = yk at *
   have HC : Hid (Calls Tryz.prog 48 #[.slice AX nx cX, .slice AY ny cY, .func (.func 49) #[] #[]] W0 fun e w' => e = .returned (.bool r) ∧ Below W0.heap.size W0 w') := Lib.hid (by
    rw [HQ.out]
    exact eqFY_any _ _ x.crypto y.crypto W0 ((HV.out.1.crypto.below H0.out.1).more (Nat.le_of_lt H0.out.2.1.lt)) ((HV.out.2.crypto.below H0.out.1).more (Nat.le_of_lt H0.out.2.1.lt)))
   go_wp2_with (go_at_call 48; (with_reducible refine HC.out.mono ?_); rintro e w1 ⟨rfl, hb1⟩)
   go_ret
   exact ⟨rfl, by rw [HN.out]; exact H0.out.1.trans (hb1.mono (Nat.le_of_lt H0.out.2.1.lt))⟩
set_option maxHeartbeats 3200000 in
set_option maxRecDepth 100000 in
theorem juOfTaken11_any (X Y : Array Value) (x y : MediaS) (vC vE vR vS vY uC uE uR uS uY : Value) (w : World) (h1 : MediaV w w.heap.size X x vC vE vR vS vY) (h2 : MediaV w w.heap.size Y y uC uE uR uS uY) (gb f : Nat) (cap : Array Value) (q : MediaS → MediaS → Bool) (hcb : w.cell? ⟨gb, 0, none⟩ = some (.func (.func f) #[] cap)) (eg : ∀ args w, (callFunc f args).run Tryz.prog w = .ok (.enter f args) w)
 (hp : ∀ W, Below w.heap.size w W → Calls Tryz.prog f (#[.agg X, .agg Y] ++ cap) W fun e w' => e = .returned (.bool (q x y)) ∧ Below W.heap.size W w') :
 Calls Tryz.prog 40 #[.agg X, .agg Y, .pointer (some ⟨gb, 0, none⟩)] w fun e w' => e = .returned (.bool (takenJ q x y)) ∧ Below w.heap.size w w' := by
 obtain ⟨hb0, hbx, hby⟩ := two_boxes w 44 X Y
 have hy1 : Y[1]? = some (.int .i64 y.port) := by rw [h2.form]; rfl
 have HY1 := Lib.hid hy1
 obtain ⟨N, hN⟩ : ∃ N, w.heap.size = N := ⟨_, rfl⟩
 have H0 := Lib.hid (And.intro hb0 (And.intro hbx hby))
 have HV := Lib.hid (And.intro h1 h2)
 have HSZ : Hid ((X.size = 11 ∧ X.toList.all (·.oneCell') = true) ∧ Y.size = 11 ∧ Y.toList.all (·.oneCell') = true) := Lib.hid ⟨⟨h1.size, h1.one⟩, h2.size, h2.one⟩
 rw [hN] at H0 HV
 have HN := Lib.hid hN
 clear h1 h2 hb0 hbx hby hN  hy1
 have HR : Hid (takenJ q x y = ((y.port == 0) || q x y)) := Lib.hid rfl
 generalize takenJ q x y = r at *
 have HCB := Lib.hid hcb
 have HEG := Lib.hid eg
 have HP : Hid (∀ W, Below N w W → Calls Tryz.prog f (#[.agg X, .agg Y] ++ cap) W fun e w' => e = .returned (.bool (q x y)) ∧ Below W.heap.size W w') := Lib.hid fun W hW => hp W (by rw [HN.out]; exact hW)
 clear hcb eg hp
 go_enter Tryz.func40, Tryz.ntmps40
 go_upto_region 1 with fail
 simp only [HN.out, Nat.add_assoc, Nat.reduceAdd]
 generalize ((w.alloc (.cells X 44)).alloc (.cells Y 44)) = W0 at *
 have cy1 : W0.cell? ⟨N + 1, 1, none⟩ = some (.int .i64 y.port) := (H0.out.2.2.cell 1).trans HY1.out
 have HTK : Hid (Calls Tryz.prog 41 #[.agg Y] W0 fun e w' => e = .returned (.bool (!(y.port == 0))) ∧ Below W0.heap.size W0 w') := Lib.hid (juTaken_any Y y.port W0 HY1.out)
 obtain ⟨b, hb⟩ : ∃ b, (y.port == 0) = b := ⟨_, rfl⟩
 have HQ : Hid (r = (b || q x y)) := Lib.hid (by rw [HR.out, ← hb])
 rw [hb] at HTK
 clear hb cy1
 have HC1 : Hid (∀ W, Below W0.heap.size W0 W → W.cell? ⟨gb, 0, none⟩ = some (.func (.func f) #[] cap) ∧ Below N w W ∧ Whole W N 44 X ∧ Whole W (N + 1) 44 Y) := Lib.hid fun W hW => by
  have h := H0.out.1.trans (hW.mono (Nat.le_of_lt H0.out.2.1.lt))
  exact ⟨(h.cell (p := ⟨gb, 0, none⟩) (by rw [← HN.out]; exact block_lt_of_cell HCB.out)).trans HCB.out, h, H0.out.2.1.under hW, H0.out.2.2.under hW⟩
 cases b with
 | true =>
   go_wp2_with (first | ((with_reducible refine wpList_load_allG ?_ 44 (.tmp 4) ?_ H0.out.2.2 ?_ Tryz.sizeMedia HSZ.out.2.1 Tryz.underlying44 rfl ?_); rfl; (with_reducible rfl); rfl) | (go_at_call 41; (with_reducible refine HTK.out.mono ?_); rintro e w1 ⟨rfl, hb1⟩))
   go_ret
   exact ⟨ret_bool (by rw [HQ.out]; rfl), by rw [HN.out]; exact H0.out.1.trans (hb1.mono (Nat.le_of_lt H0.out.2.1.lt))⟩
 | false =>
   go_wp2_with (first | ((with_reducible refine wpList_load_allG ?_ 44 (.tmp 3) ?_ H1.out.2.1 ?_ Tryz.sizeMedia HSZ.out.1.1 Tryz.underlying44 rfl ?_); rfl; (with_reducible rfl); rfl) | ((with_reducible refine wpList_load_allG ?_ 44 (.tmp 4) ?_ H1.out.2.2 ?_ Tryz.sizeMedia HSZ.out.2.1 Tryz.underlying44 rfl ?_); rfl; (with_reducible rfl); rfl) | ((with_reducible refine wpList_load_allG ?_ 44 (.tmp 4) ?_ H0.out.2.2 ?_ Tryz.sizeMedia HSZ.out.2.1 Tryz.underlying44 rfl ?_); rfl; (with_reducible rfl); rfl) | (go_at_call 41; (with_reducible refine HTK.out.mono ?_); rintro e w1 ⟨rfl, hb1⟩; have hcb := (HC1.out w1 hb1).1; have H1 := Lib.hid (HC1.out w1 hb1).2; have HCL := Lib.hid (HP.out w1 H1.out.1); clear hb1) | ((with_reducible refine wpList_callV2G ?_ (.tmp 10) (.tmp 11) (.tmp 12) ?_ ?_ ?_ ?_ HEG.out HCL.out ?_); rfl; (exact ⟨_, rfl⟩); rfl; rfl; rfl; rintro e w5 ⟨rfl, hb5⟩; refine ⟨_, rfl, ?_⟩))
   go_ret
   exact ⟨ret_bool (by rw [HQ.out]; rfl), by rw [HN.out]; exact H1.out.1.trans (hb5.mono (Nat.le_of_lt H1.out.2.1.lt))⟩
set_option maxHeartbeats 1600000 in
theorem juOfTaken_any (fv : Nat) (w : World) : Calls Tryz.prog 21 #[.func (.func fv) #[] #[]] w fun e w' => ∃ g, e = .returned (.func (.func 39) #[] #[.pointer (some ⟨g, 0, none⟩)]) ∧ w.heap.size ≤ g ∧ Whole w' g 67 #[.func (.func fv) #[] #[]] ∧ Below w.heap.size w w' := by
 have HB : Hid (Whole (w.alloc (.cells #[.func (.func fv) #[] #[]] 67)) w.heap.size 67 #[.func (.func fv) #[] #[]] ∧ Below w.heap.size w (w.alloc (.cells #[.func (.func fv) #[] #[]] 67))) := Lib.hid ⟨Whole.new _ _ _, (Below.refl _ w).alloc (Nat.le_refl _) _⟩
 go_enter Tryz.func21, Tryz.ntmps21
 go_wp2
 go_ret
 exact ⟨_, rfl, Nat.le_refl _, HB.out.1, HB.out.2⟩
set_option maxHeartbeats 1600000 in
set_option maxRecDepth 100000 in
theorem juInPlace_any (X Y : Array Value) (o a : DescS) (vB vM uB uM : Value) (w : World) (h1 : DescV w w.heap.size X o vB vM) (h2 : DescV w w.heap.size Y a uB uM) :
 Calls Tryz.prog 20 #[.agg X, .agg Y] w fun e w' => e = .returned (.bool (pairsA placeQ o.media a.media)) ∧ Below w.heap.size w w' := by
 obtain ⟨hb0, hbx, hby⟩ := two_boxes w 26 X Y
 obtain ⟨AB, cB, rfl, -⟩ := Rows.form h1.bundle
 obtain ⟨AM, cM, rfl, hcM, hmM, -⟩ := Rows.form h1.media
 obtain ⟨AB2, cB2, rfl, -⟩ := Rows.form h2.bundle
 obtain ⟨AM2, cM2, rfl, hcM2, hmM2, -⟩ := Rows.form h2.media
 obtain ⟨nB, hnB⟩ : ∃ n, o.bundle.length = n := ⟨_, rfl⟩
 obtain ⟨nM, hnM⟩ : ∃ n, o.media.length = n := ⟨_, rfl⟩
 obtain ⟨nB2, hnB2⟩ : ∃ n, a.bundle.length = n := ⟨_, rfl⟩
 obtain ⟨nM2, hnM2⟩ : ∃ n, a.media.length = n := ⟨_, rfl⟩
 rw [hnB, hnM] at h1
 rw [hnB2, hnM2] at h2
 have HX1 : Hid (X[1]? = some (.int .u64 (o.ver : Int))) := Lib.hid (by rw [h1.form]; rfl)
 have HX2 : Hid (X[2]? = some (.slice AB nB cB)) := Lib.hid (by rw [h1.form]; rfl)
 have HX5 : Hid (X[5]? = some (.slice AM nM cM)) := Lib.hid (by rw [h1.form]; rfl)
 have HY1 : Hid (Y[1]? = some (.int .u64 (a.ver : Int))) := Lib.hid (by rw [h2.form]; rfl)
 have HY2 : Hid (Y[2]? = some (.slice AB2 nB2 cB2)) := Lib.hid (by rw [h2.form]; rfl)
 have HY5 : Hid (Y[5]? = some (.slice AM2 nM2 cM2)) := Lib.hid (by rw [h2.form]; rfl)
 have HSZ : Hid (X.size = 6 ∧ Y.size = 6) := Lib.hid ⟨by rw [h1.form]; rfl, by rw [h2.form]; rfl⟩
 have HL := Lib.hid (And.intro hnB (And.intro hnM (And.intro hnB2 hnM2)))
 obtain ⟨N, hN⟩ : ∃ N, w.heap.size = N := ⟨_, rfl⟩
 have H0 := Lib.hid (And.intro hb0 (And.intro hbx hby))
 have HV := Lib.hid (And.intro h1 h2)
 rw [hN] at H0 HV
 have HN := Lib.hid hN
 clear h1 h2 hb0 hbx hby hN hnB hnM hnB2 hnM2
 have HR : Hid (pairsA placeQ o.media a.media = pairsA placeQ o.media a.media) := Lib.hid rfl
 obtain ⟨r, hr⟩ : ∃ r, pairsA placeQ o.media a.media = r := ⟨_, rfl⟩
 replace HR : Hid (r = pairsA placeQ o.media a.media) := Lib.hid hr.symm
 rw [hr]
 clear hr
 go_enter Tryz.func20, Tryz.ntmps20
 go_upto_region 1 with fail
 simp only [HN.out, Nat.add_assoc, Nat.reduceAdd]
 generalize ((w.alloc (.cells X 26)).alloc (.cells Y 26)) = W0 at *
 have HN0 : Hid (N ≤ W0.heap.size) := Lib.hid (Nat.le_of_lt H0.out.2.1.lt)
 have cx5 : W0.cell? ⟨N, 5, none⟩ = some (.slice AM nM cM) := (H0.out.2.1.cell 5).trans HX5.out
 have cy5 : W0.cell? ⟨N + 1, 5, none⟩ = some (.slice AM2 nM2 cM2) := (H0.out.2.2.cell 5).trans HY5.out
 have HC : Hid (Calls Tryz.prog 37 #[.slice AM nM cM, .slice AM2 nM2 cM2, .func (.func 38) #[] #[]] W0 fun e w' => e = .returned (.bool r) ∧ Below W0.heap.size W0 w') := Lib.hid (by
  rw [HR.out]
  exact eqFMF_any _ _ o.media a.media 38 #[] placeQ W0 ((HV.out.1.media.below H0.out.1).more HN0.out) ((HV.out.2.media.below H0.out.1).more HN0.out) (enters_to Tryz.func38 (by kernel_rfl) rfl) (fun W X Y x y _ _ _ _ _ _ _ _ _ _ _ _ _ hx hy => juPlace_any X Y x y _ _ _ _ _ _ _ _ _ _ W hx hy))
 go_wp2_with (go_at_call 37; (with_reducible refine HC.out.mono ?_); rintro e w1 ⟨rfl, hb1⟩)
 go_ret
 exact ⟨rfl, by rw [HN.out]; exact H0.out.1.trans (hb1.mono HN0.out)⟩
set_option maxHeartbeats 1600000 in
set_option maxRecDepth 100000 in
theorem juVersion_any (X Y : Array Value) (o a : DescS) (vB vM uB uM : Value) (w : World) (h1 : DescV w w.heap.size X o vB vM) (h2 : DescV w w.heap.size Y a uB uM) :
 Calls Tryz.prog 29 #[.agg X, .agg Y] w fun e w' => e = .returned (.bool (decide (o.ver = a.ver))) ∧ Below w.heap.size w w' := by
 obtain ⟨hb0, hbx, hby⟩ := two_boxes w 26 X Y
 obtain ⟨AB, cB, rfl, -⟩ := Rows.form h1.bundle
 obtain ⟨AM, cM, rfl, hcM, hmM, -⟩ := Rows.form h1.media
 obtain ⟨AB2, cB2, rfl, -⟩ := Rows.form h2.bundle
 obtain ⟨AM2, cM2, rfl, hcM2, hmM2, -⟩ := Rows.form h2.media
 obtain ⟨nB, hnB⟩ : ∃ n, o.bundle.length = n := ⟨_, rfl⟩
 obtain ⟨nM, hnM⟩ : ∃ n, o.media.length = n := ⟨_, rfl⟩
 obtain ⟨nB2, hnB2⟩ : ∃ n, a.bundle.length = n := ⟨_, rfl⟩
 obtain ⟨nM2, hnM2⟩ : ∃ n, a.media.length = n := ⟨_, rfl⟩
 rw [hnB, hnM] at h1
 rw [hnB2, hnM2] at h2
 have HX1 : Hid (X[1]? = some (.int .u64 (o.ver : Int))) := Lib.hid (by rw [h1.form]; rfl)
 have HX2 : Hid (X[2]? = some (.slice AB nB cB)) := Lib.hid (by rw [h1.form]; rfl)
 have HX5 : Hid (X[5]? = some (.slice AM nM cM)) := Lib.hid (by rw [h1.form]; rfl)
 have HY1 : Hid (Y[1]? = some (.int .u64 (a.ver : Int))) := Lib.hid (by rw [h2.form]; rfl)
 have HY2 : Hid (Y[2]? = some (.slice AB2 nB2 cB2)) := Lib.hid (by rw [h2.form]; rfl)
 have HY5 : Hid (Y[5]? = some (.slice AM2 nM2 cM2)) := Lib.hid (by rw [h2.form]; rfl)
 have HSZ : Hid (X.size = 6 ∧ Y.size = 6) := Lib.hid ⟨by rw [h1.form]; rfl, by rw [h2.form]; rfl⟩
 have HL := Lib.hid (And.intro hnB (And.intro hnM (And.intro hnB2 hnM2)))
 obtain ⟨N, hN⟩ : ∃ N, w.heap.size = N := ⟨_, rfl⟩
 have H0 := Lib.hid (And.intro hb0 (And.intro hbx hby))
 have HV := Lib.hid (And.intro h1 h2)
 rw [hN] at H0 HV
 have HN := Lib.hid hN
 clear h1 h2 hb0 hbx hby hN hnB hnM hnB2 hnM2
 obtain ⟨b, hb⟩ : ∃ b, ((o.ver : Int) == (a.ver : Int)) = b := ⟨_, rfl⟩
 have HB : Hid (decide (o.ver = a.ver) = b) := Lib.hid (by
  rw [← hb]
  by_cases h : o.ver = a.ver
  · simp [h]
  · have : ¬ ((o.ver : Int) = (a.ver : Int)) := by omega
    simp [h, this])
 generalize decide (o.ver = a.ver) = r at *
 go_enter Tryz.func29, Tryz.ntmps29
 go_upto_region 1 with fail
 simp only [HN.out, Nat.add_assoc, Nat.reduceAdd]
 generalize ((w.alloc (.cells X 26)).alloc (.cells Y 26)) = W0 at *
 have HN0 : Hid (N ≤ W0.heap.size) := Lib.hid (Nat.le_of_lt H0.out.2.1.lt)
 have cx1 : W0.cell? ⟨N, 1, none⟩ = some (.int .u64 (o.ver : Int)) := (H0.out.2.1.cell 1).trans HX1.out
 have cy1 : W0.cell? ⟨N + 1, 1, none⟩ = some (.int .u64 (a.ver : Int)) := (H0.out.2.2.cell 1).trans HY1.out
 go_wp2
 go_ret
 exact ⟨ret_bool HB.out.symm, by rw [HN.out]; exact H0.out.1⟩
set_option maxHeartbeats 1600000 in
set_option maxRecDepth 100000 in
theorem juOfTaken1_any (X Y : Array Value) (o a : DescS) (vB vM uB uM : Value) (w : World) (h1 : DescV w w.heap.size X o vB vM) (h2 : DescV w w.heap.size Y a uB uM) (gb f : Nat) (cap : Array Value) (q : MediaS → MediaS → Bool) (hcb : w.cell? ⟨gb, 0, none⟩ = some (.func (.func f) #[] cap)) (eg : ∀ args w, (callFunc f args).run Tryz.prog w = .ok (.enter f args) w)
 (hp : ∀ (W : World) (X Y : Array Value) (x y : MediaS) (vC vE vR vS vY uC uE uR uS uY : Value), Below w.heap.size w W → x ∈ o.media → y ∈ a.media → MediaV W W.heap.size X x vC vE vR vS vY → MediaV W W.heap.size Y y uC uE uR uS uY → Calls Tryz.prog f (#[.agg X, .agg Y] ++ cap) W fun e w' => e = .returned (.bool (q x y)) ∧ Below W.heap.size W w') :
 Calls Tryz.prog 39 #[.agg X, .agg Y, .pointer (some ⟨gb, 0, none⟩)] w fun e w' => e = .returned (.bool (pairsA (takenJ q) o.media a.media)) ∧ Below w.heap.size w w' := by
 obtain ⟨hb0, hbx, hby⟩ := two_boxes w 26 X Y
 obtain ⟨AB, cB, rfl, -⟩ := Rows.form h1.bundle
 obtain ⟨AM, cM, rfl, hcM, hmM, -⟩ := Rows.form h1.media
 obtain ⟨AB2, cB2, rfl, -⟩ := Rows.form h2.bundle
 obtain ⟨AM2, cM2, rfl, hcM2, hmM2, -⟩ := Rows.form h2.media
 obtain ⟨nB, hnB⟩ : ∃ n, o.bundle.length = n := ⟨_, rfl⟩
 obtain ⟨nM, hnM⟩ : ∃ n, o.media.length = n := ⟨_, rfl⟩
 obtain ⟨nB2, hnB2⟩ : ∃ n, a.bundle.length = n := ⟨_, rfl⟩
 obtain ⟨nM2, hnM2⟩ : ∃ n, a.media.length = n := ⟨_, rfl⟩
 rw [hnB, hnM] at h1
 rw [hnB2, hnM2] at h2
 have HX1 : Hid (X[1]? = some (.int .u64 (o.ver : Int))) := Lib.hid (by rw [h1.form]; rfl)
 have HX2 : Hid (X[2]? = some (.slice AB nB cB)) := Lib.hid (by rw [h1.form]; rfl)
 have HX5 : Hid (X[5]? = some (.slice AM nM cM)) := Lib.hid (by rw [h1.form]; rfl)
 have HY1 : Hid (Y[1]? = some (.int .u64 (a.ver : Int))) := Lib.hid (by rw [h2.form]; rfl)
 have HY2 : Hid (Y[2]? = some (.slice AB2 nB2 cB2)) := Lib.hid (by rw [h2.form]; rfl)
 have HY5 : Hid (Y[5]? = some (.slice AM2 nM2 cM2)) := Lib.hid (by rw [h2.form]; rfl)
 have HSZ : Hid (X.size = 6 ∧ Y.size = 6) := Lib.hid ⟨by rw [h1.form]; rfl, by rw [h2.form]; rfl⟩
 have HL := Lib.hid (And.intro hnB (And.intro hnM (And.intro hnB2 hnM2)))
 obtain ⟨N, hN⟩ : ∃ N, w.heap.size = N := ⟨_, rfl⟩
 have H0 := Lib.hid (And.intro hb0 (And.intro hbx hby))
 have HV := Lib.hid (And.intro h1 h2)
 rw [hN] at H0 HV
 have HN := Lib.hid hN
 clear h1 h2 hb0 hbx hby hN hnB hnM hnB2 hnM2
 obtain ⟨r, hr⟩ : ∃ r, pairsA (takenJ q) o.media a.media = r := ⟨_, rfl⟩
 have HR : Hid (r = pairsA (takenJ q) o.media a.media) := Lib.hid hr.symm
 rw [hr]
 have HCB := Lib.hid hcb
 have HEG := Lib.hid eg
 have HP : Hid (∀ (W : World) (X Y : Array Value) (x y : MediaS) (vC vE vR vS vY uC uE uR uS uY : Value), Below N w W → x ∈ o.media → y ∈ a.media → MediaV W W.heap.size X x vC vE vR vS vY → MediaV W W.heap.size Y y uC uE uR uS uY → Calls Tryz.prog f (#[.agg X, .agg Y] ++ cap) W fun e w' => e = .returned (.bool (q x y)) ∧ Below W.heap.size W w') := Lib.hid fun W X Y x y vC vE vR vS vY uC uE uR uS uY hW => hp W X Y x y vC vE vR vS vY uC uE uR uS uY (by rw [HN.out]; exact hW)
 clear hr hcb eg hp
 go_enter Tryz.func39, Tryz.ntmps39
 go_upto_region 1 with fail
 simp only [HN.out, Nat.add_assoc, Nat.reduceAdd]
 generalize ((w.alloc (.cells X 26)).alloc (.cells Y 26)) = W0 at *
 have HN0 : Hid (N ≤ W0.heap.size) := Lib.hid (Nat.le_of_lt H0.out.2.1.lt)
 have cx5 : W0.cell? ⟨N, 5, none⟩ = some (.slice AM nM cM) := (H0.out.2.1.cell 5).trans HX5.out
 have cy5 : W0.cell? ⟨N + 1, 5, none⟩ = some (.slice AM2 nM2 cM2) := (H0.out.2.2.cell 5).trans HY5.out
 have hcw : ∀ W, Below W0.heap.size W0 W → W.cell? ⟨gb, 0, none⟩ = some (.func (.func f) #[] cap) := fun W hW => by
  have h := H0.out.1.trans (hW.mono HN0.out)
  exact (h.cell (p := ⟨gb, 0, none⟩) (by rw [← HN.out]; exact block_lt_of_cell HCB.out)).trans HCB.out
 have HC : Hid (Calls Tryz.prog 37 #[.slice AM nM cM, .slice AM2 nM2 cM2, .func (.func 40) #[] #[.pointer (some ⟨gb, 0, none⟩)]] W0 fun e w' => e = .returned (.bool r) ∧ Below W0.heap.size W0 w') := Lib.hid (by
  rw [HR.out]
  exact eqFMF_any _ _ o.media a.media 40 #[.pointer (some ⟨gb, 0, none⟩)] (takenJ q) W0 ((HV.out.1.media.below H0.out.1).more HN0.out) ((HV.out.2.media.below H0.out.1).more HN0.out) (enters_to Tryz.func40 (by kernel_rfl) rfl) (fun W X Y x y vC vE vR vS vY uC uE uR uS uY hW hxm hym hx hy => juOfTaken11_any X Y x y vC vE vR vS vY uC uE uR uS uY W hx hy gb f cap q (hcw W hW) HEG.out (fun W' hW' => HP.out W' X Y x y vC vE vR vS vY uC uE uR uS uY (by
   have h1 := H0.out.1.trans (hW.mono HN0.out)
   exact h1.trans (hW'.mono (Nat.le_trans HN0.out hW.size))) hxm hym (hx.under hW') (hy.under hW'))))
 clear hcw
 go_wp2_with (go_at_call 37; (with_reducible refine HC.out.mono ?_); rintro e w1 ⟨rfl, hb1⟩)
 go_ret
 exact ⟨rfl, by rw [HN.out]; exact H0.out.1.trans (hb1.mono HN0.out)⟩
set_option maxHeartbeats 3200000 in
set_option maxRecDepth 100000 in
theorem juGood_any (X Y : Array Value) (o a : DescS) (vB vM uB uM : Value) (w : World) (h1 : DescV w w.heap.size X o vB vM) (h2 : DescV w w.heap.size Y a uB uM) (hz1 : SizD o) (hz2 : SizD a) :
 Calls Tryz.prog 19 #[.agg X, .agg Y] w fun e w' => e = .returned (.bool (ruleJ o a 0)) ∧ Below w.heap.size w w' := by
 obtain ⟨hb0, hbx, hby⟩ := two_boxes w 26 X Y
 have HG1 : Hid (∀ W, Below w.heap.size w W → Calls Tryz.prog 36 #[.agg X] W fun e w' => e = .returned (.bool (goodD o)) ∧ Below W.heap.size W w') := Lib.hid fun W hW => deGood_any X o _ _ W (h1.under hW) hz1
 have HG2 : Hid (∀ W, Below w.heap.size w W → Calls Tryz.prog 36 #[.agg Y] W fun e w' => e = .returned (.bool (goodD a)) ∧ Below W.heap.size W w') := Lib.hid fun W hW => deGood_any Y a _ _ W (h2.under hW) hz2
 clear hz1 hz2
 obtain ⟨AB, cB, rfl, -⟩ := Rows.form h1.bundle
 obtain ⟨AM, cM, rfl, hcM, hmM, -⟩ := Rows.form h1.media
 obtain ⟨AB2, cB2, rfl, -⟩ := Rows.form h2.bundle
 obtain ⟨AM2, cM2, rfl, hcM2, hmM2, -⟩ := Rows.form h2.media
 obtain ⟨nB, hnB⟩ : ∃ n, o.bundle.length = n := ⟨_, rfl⟩
 obtain ⟨nM, hnM⟩ : ∃ n, o.media.length = n := ⟨_, rfl⟩
 obtain ⟨nB2, hnB2⟩ : ∃ n, a.bundle.length = n := ⟨_, rfl⟩
 obtain ⟨nM2, hnM2⟩ : ∃ n, a.media.length = n := ⟨_, rfl⟩
 rw [hnB, hnM] at h1
 rw [hnB2, hnM2] at h2
 have HX1 : Hid (X[1]? = some (.int .u64 (o.ver : Int))) := Lib.hid (by rw [h1.form]; rfl)
 have HX2 : Hid (X[2]? = some (.slice AB nB cB)) := Lib.hid (by rw [h1.form]; rfl)
 have HX5 : Hid (X[5]? = some (.slice AM nM cM)) := Lib.hid (by rw [h1.form]; rfl)
 have HY1 : Hid (Y[1]? = some (.int .u64 (a.ver : Int))) := Lib.hid (by rw [h2.form]; rfl)
 have HY2 : Hid (Y[2]? = some (.slice AB2 nB2 cB2)) := Lib.hid (by rw [h2.form]; rfl)
 have HY5 : Hid (Y[5]? = some (.slice AM2 nM2 cM2)) := Lib.hid (by rw [h2.form]; rfl)
 have HSZ : Hid (X.size = 6 ∧ Y.size = 6) := Lib.hid ⟨by rw [h1.form]; rfl, by rw [h2.form]; rfl⟩
 have HL := Lib.hid (And.intro hnB (And.intro hnM (And.intro hnB2 hnM2)))
 obtain ⟨N, hN⟩ : ∃ N, w.heap.size = N := ⟨_, rfl⟩
 have H0 := Lib.hid (And.intro hb0 (And.intro hbx hby))
 have HV := Lib.hid (And.intro h1 h2)
 rw [hN] at H0 HV
 have HN := Lib.hid hN
 clear h1 h2 hb0 hbx hby hN hnB hnM hnB2 hnM2
 rw [HN.out] at HG1 HG2
 obtain ⟨lb, hlb⟩ : ∃ b, ((nM : Int) == (nM2 : Int)) = b := ⟨_, rfl⟩
 have HR : Hid (ruleJ o a 0 = (goodD o && goodD a && lb)) := Lib.hid (by
  show (goodD o && goodD a && decide (o.media.length = a.media.length)) = _
  rw [HL.out.2.1, HL.out.2.2.2, ← hlb]
  congr 1
  by_cases h : nM = nM2
  · simp [h]
  · have : ¬ ((nM : Int) = (nM2 : Int)) := by omega
    simp [h, this])
 obtain ⟨g1, hg1⟩ : ∃ b, goodD o = b := ⟨_, rfl⟩
 obtain ⟨g2, hg2⟩ : ∃ b, goodD a = b := ⟨_, rfl⟩
 rw [hg1] at HG1 HR
 rw [hg2] at HG2 HR
 generalize ruleJ o a 0 = r at *
 clear hg1 hg2
 go_enter Tryz.func19, Tryz.ntmps19
 go_upto_region 1 with fail
 simp only [HN.out, Nat.add_assoc, Nat.reduceAdd]
 generalize ((w.alloc (.cells X 26)).alloc (.cells Y 26)) = W0 at *
 have HN0 : Hid (N ≤ W0.heap.size) := Lib.hid (Nat.le_of_lt H0.out.2.1.lt)
 cases g1 with
 | false =>
   go_wp2_with (first | ((with_reducible refine wpList_load_allG ?_ 26 (.tmp 2) ?_ H0.out.2.1 ?_ Tryz.sizeDesc HSZ.out.1 Tryz.underlying26 rfl ?_); rfl; (with_reducible rfl); rfl) | ((with_reducible refine wpList_load_allG ?_ 26 (.tmp 3) ?_ H1.out.2.2 ?_ Tryz.sizeDesc HSZ.out.2 Tryz.underlying26 rfl ?_); rfl; (with_reducible rfl); rfl) | (go_at_call 36; (with_reducible refine (HG1.out _ H0.out.1).mono ?_); rintro e w1 ⟨rfl, hb1⟩; have H1 : Hid (Below N w w1 ∧ Whole w1 N 26 X ∧ Whole w1 (N + 1) 26 Y) := Lib.hid ⟨H0.out.1.trans (hb1.mono HN0.out), H0.out.2.1.under hb1, H0.out.2.2.under hb1⟩; clear hb1) | (go_at_call 36; (with_reducible refine (HG2.out _ H1.out.1).mono ?_); rintro e w2 ⟨rfl, hb2⟩; have H2 : Hid (Below N w w2 ∧ Whole w2 N 26 X ∧ Whole w2 (N + 1) 26 Y) := Lib.hid ⟨H1.out.1.trans (hb2.mono (Nat.le_of_lt H1.out.2.1.lt)), H1.out.2.1.under hb2, H1.out.2.2.under hb2⟩; clear hb2; have rx5 : w2.cell? ⟨N, 5, none⟩ = some (.slice AM nM cM) := (H2.out.2.1.cell 5).trans HX5.out; have ry5 : w2.cell? ⟨N + 1, 5, none⟩ = some (.slice AM2 nM2 cM2) := (H2.out.2.2.cell 5).trans HY5.out))
   go_ret
   exact ⟨ret_bool (by rw [HR.out]; rfl), by rw [HN.out]; exact H1.out.1⟩
 | true =>
   cases g2 with
   | false =>
     go_wp2_with (first | ((with_reducible refine wpList_load_allG ?_ 26 (.tmp 2) ?_ H0.out.2.1 ?_ Tryz.sizeDesc HSZ.out.1 Tryz.underlying26 rfl ?_); rfl; (with_reducible rfl); rfl) | ((with_reducible refine wpList_load_allG ?_ 26 (.tmp 3) ?_ H1.out.2.2 ?_ Tryz.sizeDesc HSZ.out.2 Tryz.underlying26 rfl ?_); rfl; (with_reducible rfl); rfl) | (go_at_call 36; (with_reducible refine (HG1.out _ H0.out.1).mono ?_); rintro e w1 ⟨rfl, hb1⟩; have H1 : Hid (Below N w w1 ∧ Whole w1 N 26 X ∧ Whole w1 (N + 1) 26 Y) := Lib.hid ⟨H0.out.1.trans (hb1.mono HN0.out), H0.out.2.1.under hb1, H0.out.2.2.under hb1⟩; clear hb1) | (go_at_call 36; (with_reducible refine (HG2.out _ H1.out.1).mono ?_); rintro e w2 ⟨rfl, hb2⟩; have H2 : Hid (Below N w w2 ∧ Whole w2 N 26 X ∧ Whole w2 (N + 1) 26 Y) := Lib.hid ⟨H1.out.1.trans (hb2.mono (Nat.le_of_lt H1.out.2.1.lt)), H1.out.2.1.under hb2, H1.out.2.2.under hb2⟩; clear hb2; have rx5 : w2.cell? ⟨N, 5, none⟩ = some (.slice AM nM cM) := (H2.out.2.1.cell 5).trans HX5.out; have ry5 : w2.cell? ⟨N + 1, 5, none⟩ = some (.slice AM2 nM2 cM2) := (H2.out.2.2.cell 5).trans HY5.out))
     go_ret
     exact ⟨ret_bool (by rw [HR.out]; rfl), by rw [HN.out]; exact H2.out.1⟩
   | true =>
     go_wp2_with (first | ((with_reducible refine wpList_load_allG ?_ 26 (.tmp 2) ?_ H0.out.2.1 ?_ Tryz.sizeDesc HSZ.out.1 Tryz.underlying26 rfl ?_); rfl; (with_reducible rfl); rfl) | ((with_reducible refine wpList_load_allG ?_ 26 (.tmp 3) ?_ H1.out.2.2 ?_ Tryz.sizeDesc HSZ.out.2 Tryz.underlying26 rfl ?_); rfl; (with_reducible rfl); rfl) | (go_at_call 36; (with_reducible refine (HG1.out _ H0.out.1).mono ?_); rintro e w1 ⟨rfl, hb1⟩; have H1 : Hid (Below N w w1 ∧ Whole w1 N 26 X ∧ Whole w1 (N + 1) 26 Y) := Lib.hid ⟨H0.out.1.trans (hb1.mono HN0.out), H0.out.2.1.under hb1, H0.out.2.2.under hb1⟩; clear hb1) | (go_at_call 36; (with_reducible refine (HG2.out _ H1.out.1).mono ?_); rintro e w2 ⟨rfl, hb2⟩; have H2 : Hid (Below N w w2 ∧ Whole w2 N 26 X ∧ Whole w2 (N + 1) 26 Y) := Lib.hid ⟨H1.out.1.trans (hb2.mono (Nat.le_of_lt H1.out.2.1.lt)), H1.out.2.1.under hb2, H1.out.2.2.under hb2⟩; clear hb2; have rx5 : w2.cell? ⟨N, 5, none⟩ = some (.slice AM nM cM) := (H2.out.2.1.cell 5).trans HX5.out; have ry5 : w2.cell? ⟨N + 1, 5, none⟩ = some (.slice AM2 nM2 cM2) := (H2.out.2.2.cell 5).trans HY5.out))
     go_ret
     exact ⟨ret_bool (by rw [HR.out]; rfl), by rw [HN.out]; exact H2.out.1⟩
set_option maxHeartbeats 1600000 in
set_option maxRecDepth 100000 in
theorem r10holds2 (X Y : Array Value) (x y : MediaS) (vC vE vR vS vY uC uE uR uS uY : Value) (w : World) (h1 : MediaV w w.heap.size X x vC vE vR vS vY) (h2 : MediaV w w.heap.size Y y uC uE uR uS uY) :
 Calls Tryz.prog 12 #[.int .i64 2, .agg X, .agg Y] w fun e w' => e = .returned (.bool (holdsR 2 x y)) ∧ Below w.heap.size w w' := by
 obtain ⟨hb0, hbx, hby⟩ := two_boxes w 44 X Y
 have hx0 : X[0]? = some (.int .i64 x.kind) := by rw [h1.form]; rfl
 have hx2 : X[2]? = some (.string x.mid) := by rw [h1.form]; rfl
 have hy0 : Y[0]? = some (.int .i64 y.kind) := by rw [h2.form]; rfl
 have hy2 : Y[2]? = some (.string y.mid) := by rw [h2.form]; rfl
 have HX0 := Lib.hid hx0
 have HX2 := Lib.hid hx2
 have HY0 := Lib.hid hy0
 have HY2 := Lib.hid hy2
 obtain ⟨N, hN⟩ : ∃ N, w.heap.size = N := ⟨_, rfl⟩
 have H0 := Lib.hid (And.intro hb0 (And.intro hbx hby))
 have HV := Lib.hid (And.intro h1 h2)
 have HSZ : Hid ((X.size = 11 ∧ X.toList.all (·.oneCell') = true) ∧ Y.size = 11 ∧ Y.toList.all (·.oneCell') = true) := Lib.hid ⟨⟨h1.size, h1.one⟩, h2.size, h2.one⟩
 rw [hN] at H0 HV
 have HN := Lib.hid hN
 clear h1 h2 hb0 hbx hby hN hx0 hx2 hy0 hy2
 have HQ : Hid (holdsR 2 x y = ((x.kind == y.kind) && (x.mid.toList == y.mid.toList))) := Lib.hid (by unfold holdsR; rw [if_pos rfl, toList_tx, toList_tx, Bool.eq_iff_iff]; simp)
 generalize holdsR 2 x y = r at *
 go_enter Tryz.func12, Tryz.ntmps12
 go_upto_region 1 with fail
 simp only [HN.out, Nat.add_assoc, Nat.reduceAdd]
 generalize ((w.alloc (.cells X 44)).alloc (.cells Y 44)) = W0 at *
 have cx0 : W0.cell? ⟨N, 0, none⟩ = some (.int .i64 x.kind) := (H0.out.2.1.cell 0).trans HX0.out
 have cx2 : W0.cell? ⟨N, 2, none⟩ = some (.string x.mid) := (H0.out.2.1.cell 2).trans HX2.out
 have cy0 : W0.cell? ⟨N + 1, 0, none⟩ = some (.int .i64 y.kind) := (H0.out.2.2.cell 0).trans HY0.out
 have cy2 : W0.cell? ⟨N + 1, 2, none⟩ = some (.string y.mid) := (H0.out.2.2.cell 2).trans HY2.out
 obtain ⟨b, hb⟩ : ∃ b, (x.kind == y.kind) = b := ⟨_, rfl⟩
 obtain ⟨b2, hb2⟩ : ∃ b, (x.mid.toList == y.mid.toList) = b := ⟨_, rfl⟩
 have HQ2 : Hid (r = (b && b2)) := Lib.hid (by rw [HQ.out, hb, hb2])
 clear HQ
 cases b with
 | false =>
   go_wp2
   go_ret
   exact ⟨ret_bool (by rw [HQ2.out]; rfl), by rw [HN.out]; exact H0.out.1⟩
 | true =>
   go_wp2
   go_ret
   exact ⟨ret_bool (by rw [HQ2.out]; rfl), by rw [HN.out]; exact H0.out.1⟩
set_option maxHeartbeats 3200000 in
set_option maxRecDepth 100000 in
theorem r10holds3 (X Y : Array Value) (x y : MediaS) (vC vE vR vS vY uC uE uR uS uY : Value) (w : World) (h1 : MediaV w w.heap.size X x vC vE vR vS vY) (h2 : MediaV w w.heap.size Y y uC uE uR uS uY) :
 Calls Tryz.prog 12 #[.int .i64 3, .agg X, .agg Y] w fun e w' => e = .returned (.bool (holdsR 3 x y)) ∧ Below w.heap.size w w' := by
 obtain ⟨hb0, hbx, hby⟩ := two_boxes w 44 X Y
 have hx1 : X[1]? = some (.int .i64 x.port) := by rw [h1.form]; rfl
 have hy1 : Y[1]? = some (.int .i64 y.port) := by rw [h2.form]; rfl
 have HX1 := Lib.hid hx1
 have HY1 := Lib.hid hy1
 obtain ⟨N, hN⟩ : ∃ N, w.heap.size = N := ⟨_, rfl⟩
 have H0 := Lib.hid (And.intro hb0 (And.intro hbx hby))
 have HV := Lib.hid (And.intro h1 h2)
 have HSZ : Hid ((X.size = 11 ∧ X.toList.all (·.oneCell') = true) ∧ Y.size = 11 ∧ Y.toList.all (·.oneCell') = true) := Lib.hid ⟨⟨h1.size, h1.one⟩, h2.size, h2.one⟩
 rw [hN] at H0 HV
 have HN := Lib.hid hN
 clear h1 h2 hb0 hbx hby hN hx1 hy1
 have HQ : Hid (holdsR 3 x y = if y.port = 0 then true else !decide (x.port = 0)) := Lib.hid (by unfold holdsR; rfl)
 generalize holdsR 3 x y = r at *
 go_enter Tryz.func12, Tryz.ntmps12
 go_upto_region 1 with fail
 simp only [HN.out, Nat.add_assoc, Nat.reduceAdd]
 generalize ((w.alloc (.cells X 44)).alloc (.cells Y 44)) = W0 at *
 have cx1 : W0.cell? ⟨N, 1, none⟩ = some (.int .i64 x.port) := (H0.out.2.1.cell 1).trans HX1.out
 have cy1 : W0.cell? ⟨N + 1, 1, none⟩ = some (.int .i64 y.port) := (H0.out.2.2.cell 1).trans HY1.out
 obtain ⟨b, hb⟩ : ∃ b, (y.port == 0) = b := ⟨_, rfl⟩
 have HQ2 : Hid (r = (b || !decide (x.port = 0))) := Lib.hid (by
  rw [HQ.out, ← hb]
  by_cases hp : y.port = 0
  · simp [hp]
  · rw [if_neg hp]
    simp [hp])
 clear HQ
 generalize y.port = py at *
 cases b with
 | true =>
   go_wp2
   go_ret
   exact ⟨ret_bool (by rw [HQ2.out]; rfl), by rw [HN.out]; exact H0.out.1⟩
 | false =>
   obtain ⟨b2, hb2⟩ : ∃ b, (x.port == 0) = b := ⟨_, rfl⟩
   have hb2' : (x.port != 0) = !b2 := by rw [← hb2]; rfl
   have HQ3 : Hid (r = !b2) := Lib.hid (by rw [HQ2.out, ← hb2, Bool.eq_iff_iff]; simp)
   clear HQ2
   generalize x.port = px at *
   go_wp2
   go_ret
   exact ⟨ret_bool HQ3.out.symm, by rw [HN.out]; exact H0.out.1⟩
set_option maxHeartbeats 3200000 in
set_option maxRecDepth 100000 in
theorem r10holds4 (X Y : Array Value) (x y : MediaS) (vC vE vR vS vY uC uE uR uS uY : Value) (w : World) (h1 : MediaV w w.heap.size X x vC vE vR vS vY) (h2 : MediaV w w.heap.size Y y uC uE uR uS uY) (hzx : SizM x) :
 Calls Tryz.prog 12 #[.int .i64 4, .agg X, .agg Y] w fun e w' => e = .returned (.bool (holdsR 4 x y)) ∧ Below w.heap.size w w' := by
 obtain ⟨hb0, hbx, hby⟩ := two_boxes w 44 X Y
 have hy1 : Y[1]? = some (.int .i64 y.port) := by rw [h2.form]; rfl
 have HY1 := Lib.hid hy1
 obtain ⟨N, hN⟩ : ∃ N, w.heap.size = N := ⟨_, rfl⟩
 have H0 := Lib.hid (And.intro hb0 (And.intro hbx hby))
 have HV := Lib.hid (And.intro h1 h2)
 have HSZ : Hid ((X.size = 11 ∧ X.toList.all (·.oneCell') = true) ∧ Y.size = 11 ∧ Y.toList.all (·.oneCell') = true) := Lib.hid ⟨⟨h1.size, h1.one⟩, h2.size, h2.one⟩
 rw [hN] at H0 HV
 have HN := Lib.hid hN
 clear h1 h2 hb0 hbx hby hN  hy1
 have HQ : Hid (holdsR 4 x y = if y.port = 0 then true else codecs4 x.codecs y.codecs) := Lib.hid (by unfold holdsR; rfl)
 generalize holdsR 4 x y = r at *
 go_enter Tryz.func12, Tryz.ntmps12
 go_upto_region 1 with fail
 simp only [HN.out, Nat.add_assoc, Nat.reduceAdd]
 generalize ((w.alloc (.cells X 44)).alloc (.cells Y 44)) = W0 at *
 have cy1 : W0.cell? ⟨N + 1, 1, none⟩ = some (.int .i64 y.port) := (H0.out.2.2.cell 1).trans HY1.out
 obtain ⟨b, hb⟩ : ∃ b, (y.port == 0) = b := ⟨_, rfl⟩
 have HQ2 : Hid (r = (b || codecs4 x.codecs y.codecs)) := Lib.hid (by
  rw [HQ.out, ← hb]
  by_cases hp : y.port = 0
  · simp [hp]
  · rw [if_neg hp]
    simp [hp])
 clear HQ
 generalize y.port = py at *
 cases b with
 | true =>
   go_wp2
   go_ret
   exact ⟨ret_bool (by rw [HQ2.out]; rfl), by rw [HN.out]; exact H0.out.1⟩
 | false =>
   have HC : Hid (Calls Tryz.prog 30 #[.agg X, .agg Y] W0 fun e w' => e = .returned (.bool (codecs4 x.codecs y.codecs)) ∧ Below W0.heap.size W0 w') := Lib.hid (r10codecs_any X Y x y _ _ _ _ _ _ _ _ _ _ W0 ((HV.out.1.below H0.out.1).more (Nat.le_of_lt H0.out.2.1.lt)) ((HV.out.2.below H0.out.1).more (Nat.le_of_lt H0.out.2.1.lt)) hzx)
   generalize codecs4 x.codecs y.codecs = qv at *
   go_wp2_with (first | ((with_reducible refine wpList_load_allG ?_ 44 (.tmp 4) ?_ H0.out.2.1 ?_ Tryz.sizeMedia HSZ.out.1.1 Tryz.underlying44 rfl ?_); rfl; (with_reducible rfl); rfl) | ((with_reducible refine wpList_load_allG ?_ 44 (.tmp 5) ?_ H0.out.2.2 ?_ Tryz.sizeMedia HSZ.out.2.1 Tryz.underlying44 rfl ?_); rfl; (with_reducible rfl); rfl) | (go_at_call 30; (with_reducible refine HC.out.mono ?_); rintro e w1 ⟨rfl, hb1⟩))
   go_ret
   exact ⟨ret_bool (by rw [HQ2.out]; rfl), by rw [HN.out]; exact H0.out.1.trans (hb1.mono (Nat.le_of_lt H0.out.2.1.lt))⟩
set_option maxHeartbeats 3200000 in
set_option maxRecDepth 100000 in
theorem r10holds5 (X Y : Array Value) (x y : MediaS) (vC vE vR vS vY uC uE uR uS uY : Value) (w : World) (h1 : MediaV w w.heap.size X x vC vE vR vS vY) (h2 : MediaV w w.heap.size Y y uC uE uR uS uY) :
 Calls Tryz.prog 12 #[.int .i64 5, .agg X, .agg Y] w fun e w' => e = .returned (.bool (holdsR 5 x y)) ∧ Below w.heap.size w w' := by
 obtain ⟨hb0, hbx, hby⟩ := two_boxes w 44 X Y
 have hy1 : Y[1]? = some (.int .i64 y.port) := by rw [h2.form]; rfl
 have HY1 := Lib.hid hy1
 obtain ⟨N, hN⟩ : ∃ N, w.heap.size = N := ⟨_, rfl⟩
 have H0 := Lib.hid (And.intro hb0 (And.intro hbx hby))
 have HV := Lib.hid (And.intro h1 h2)
 have HSZ : Hid ((X.size = 11 ∧ X.toList.all (·.oneCell') = true) ∧ Y.size = 11 ∧ Y.toList.all (·.oneCell') = true) := Lib.hid ⟨⟨h1.size, h1.one⟩, h2.size, h2.one⟩
 rw [hN] at H0 HV
 have HN := Lib.hid hN
 clear h1 h2 hb0 hbx hby hN  hy1
 have HQ : Hid (holdsR 5 x y = if y.port = 0 then true else exts5 x y) := Lib.hid (by unfold holdsR; rfl)
 generalize holdsR 5 x y = r at *
 go_enter Tryz.func12, Tryz.ntmps12
 go_upto_region 1 with fail
 simp only [HN.out, Nat.add_assoc, Nat.reduceAdd]
 generalize ((w.alloc (.cells X 44)).alloc (.cells Y 44)) = W0 at *
 have cy1 : W0.cell? ⟨N + 1, 1, none⟩ = some (.int .i64 y.port) := (H0.out.2.2.cell 1).trans HY1.out
 obtain ⟨b, hb⟩ : ∃ b, (y.port == 0) = b := ⟨_, rfl⟩
 have HQ2 : Hid (r = (b || exts5 x y)) := Lib.hid (by
  rw [HQ.out, ← hb]
  by_cases hp : y.port = 0
  · simp [hp]
  · rw [if_neg hp]
    simp [hp])
 clear HQ
 generalize y.port = py at *
 cases b with
 | true =>
   go_wp2
   go_ret
   exact ⟨ret_bool (by rw [HQ2.out]; rfl), by rw [HN.out]; exact H0.out.1⟩
 | false =>
   have HC : Hid (Calls Tryz.prog 31 #[.agg X, .agg Y] W0 fun e w' => e = .returned (.bool (exts5 x y)) ∧ Below W0.heap.size W0 w') := Lib.hid (r10exts_any X Y x y _ _ _ _ _ _ _ _ _ _ W0 ((HV.out.1.below H0.out.1).more (Nat.le_of_lt H0.out.2.1.lt)) ((HV.out.2.below H0.out.1).more (Nat.le_of_lt H0.out.2.1.lt)))
   generalize exts5 x y = qv at *
   go_wp2_with (first | ((with_reducible refine wpList_load_allG ?_ 44 (.tmp 4) ?_ H0.out.2.1 ?_ Tryz.sizeMedia HSZ.out.1.1 Tryz.underlying44 rfl ?_); rfl; (with_reducible rfl); rfl) | ((with_reducible refine wpList_load_allG ?_ 44 (.tmp 5) ?_ H0.out.2.2 ?_ Tryz.sizeMedia HSZ.out.2.1 Tryz.underlying44 rfl ?_); rfl; (with_reducible rfl); rfl) | (go_at_call 31; (with_reducible refine HC.out.mono ?_); rintro e w1 ⟨rfl, hb1⟩))
   go_ret
   exact ⟨ret_bool (by rw [HQ2.out]; rfl), by rw [HN.out]; exact H0.out.1.trans (hb1.mono (Nat.le_of_lt H0.out.2.1.lt))⟩
set_option maxHeartbeats 3200000 in
set_option maxRecDepth 100000 in
theorem r10holds6 (X Y : Array Value) (x y : MediaS) (vC vE vR vS vY uC uE uR uS uY : Value) (w : World) (h1 : MediaV w w.heap.size X x vC vE vR vS vY) (h2 : MediaV w w.heap.size Y y uC uE uR uS uY) (hdx : 0 ≤ x.dir ∧ x.dir ≤ 3) (hdy : 0 ≤ y.dir ∧ y.dir ≤ 3) :
 Calls Tryz.prog 12 #[.int .i64 6, .agg X, .agg Y] w fun e w' => e = .returned (.bool (holdsR 6 x y)) ∧ Below w.heap.size w w' := by
 obtain ⟨hb0, hbx, hby⟩ := two_boxes w 44 X Y
 have hx3 : X[3]? = some (.int .i64 x.dir) := by rw [h1.form]; rfl
 have hy1 : Y[1]? = some (.int .i64 y.port) := by rw [h2.form]; rfl
 have hy3 : Y[3]? = some (.int .i64 y.dir) := by rw [h2.form]; rfl
 have HX3 := Lib.hid hx3
 have HY1 := Lib.hid hy1
 have HY3 := Lib.hid hy3
 obtain ⟨N, hN⟩ : ∃ N, w.heap.size = N := ⟨_, rfl⟩
 have H0 := Lib.hid (And.intro hb0 (And.intro hbx hby))
 have HV := Lib.hid (And.intro h1 h2)
 have HSZ : Hid ((X.size = 11 ∧ X.toList.all (·.oneCell') = true) ∧ Y.size = 11 ∧ Y.toList.all (·.oneCell') = true) := Lib.hid ⟨⟨h1.size, h1.one⟩, h2.size, h2.one⟩
 rw [hN] at H0 HV
 have HN := Lib.hid hN
 clear h1 h2 hb0 hbx hby hN hx3 hy1 hy3
 have HQ : Hid (holdsR 6 x y = if (y.port == 0) = true then true else (decide (y.dir % 2 ≤ x.dir / 2) && decide (y.dir / 2 ≤ x.dir % 2))) := Lib.hid (by
  unfold holdsR dir6
  by_cases hp : y.port = 0 <;> simp [hp])
 generalize holdsR 6 x y = r at *
 go_enter Tryz.func12, Tryz.ntmps12
 go_upto_region 1 with fail
 simp only [HN.out, Nat.add_assoc, Nat.reduceAdd]
 generalize ((w.alloc (.cells X 44)).alloc (.cells Y 44)) = W0 at *
 have cx3 : W0.cell? ⟨N, 3, none⟩ = some (.int .i64 x.dir) := (H0.out.2.1.cell 3).trans HX3.out
 have cy1 : W0.cell? ⟨N + 1, 1, none⟩ = some (.int .i64 y.port) := (H0.out.2.2.cell 1).trans HY1.out
 have cy3 : W0.cell? ⟨N + 1, 3, none⟩ = some (.int .i64 y.dir) := (H0.out.2.2.cell 3).trans HY3.out
 obtain ⟨b, hb⟩ : ∃ b, (y.port == 0) = b := ⟨_, rfl⟩
 generalize y.port = py at *
 rw [hb] at HQ
 have hx : x.dir = 0 ∨ x.dir = 1 ∨ x.dir = 2 ∨ x.dir = 3 := by omega
 have hy : y.dir = 0 ∨ y.dir = 1 ∨ y.dir = 2 ∨ y.dir = 3 := by omega
 generalize x.dir = dx at *
 generalize y.dir = dy at *
 clear hdx hdy
 cases b with
 | true =>
   go_wp2
   go_ret
   exact ⟨ret_bool (by rw [HQ.out]; rfl), by rw [HN.out]; exact H0.out.1⟩
 | false =>
   rcases hx with rfl | rfl | rfl | rfl <;> rcases hy with rfl | rfl | rfl | rfl
   all_goals
    go_wp2
    go_ret
    exact ⟨ret_bool (by rw [HQ.out]; rfl), by rw [HN.out]; exact H0.out.1⟩
set_option maxHeartbeats 3200000 in
set_option maxRecDepth 100000 in
theorem r10holds7 (X Y : Array Value) (x y : MediaS) (vC vE vR vS vY uC uE uR uS uY : Value) (w : World) (h1 : MediaV w w.heap.size X x vC vE vR vS vY) (h2 : MediaV w w.heap.size Y y uC uE uR uS uY) (hzx : SizM x) :
 Calls Tryz.prog 12 #[.int .i64 7, .agg X, .agg Y] w fun e w' => e = .returned (.bool (holdsR 7 x y)) ∧ Below w.heap.size w w' := by
 obtain ⟨hb0, hbx, hby⟩ := two_boxes w 44 X Y
 have hy1 : Y[1]? = some (.int .i64 y.port) := by rw [h2.form]; rfl
 have HY1 := Lib.hid hy1
 obtain ⟨N, hN⟩ : ∃ N, w.heap.size = N := ⟨_, rfl⟩
 have H0 := Lib.hid (And.intro hb0 (And.intro hbx hby))
 have HV := Lib.hid (And.intro h1 h2)
 have HSZ : Hid ((X.size = 11 ∧ X.toList.all (·.oneCell') = true) ∧ Y.size = 11 ∧ Y.toList.all (·.oneCell') = true) := Lib.hid ⟨⟨h1.size, h1.one⟩, h2.size, h2.one⟩
 rw [hN] at H0 HV
 have HN := Lib.hid hN
 clear h1 h2 hb0 hbx hby hN  hy1
 have HQ : Hid (holdsR 7 x y = if y.port = 0 then true else rids7 x y) := Lib.hid (by unfold holdsR; rfl)
 generalize holdsR 7 x y = r at *
 go_enter Tryz.func12, Tryz.ntmps12
 go_upto_region 1 with fail
 simp only [HN.out, Nat.add_assoc, Nat.reduceAdd]
 generalize ((w.alloc (.cells X 44)).alloc (.cells Y 44)) = W0 at *
 have cy1 : W0.cell? ⟨N + 1, 1, none⟩ = some (.int .i64 y.port) := (H0.out.2.2.cell 1).trans HY1.out
 obtain ⟨b, hb⟩ : ∃ b, (y.port == 0) = b := ⟨_, rfl⟩
 have HQ2 : Hid (r = (b || rids7 x y)) := Lib.hid (by
  rw [HQ.out, ← hb]
  by_cases hp : y.port = 0
  · simp [hp]
  · rw [if_neg hp]
    simp [hp])
 clear HQ
 generalize y.port = py at *
 cases b with
 | true =>
   go_wp2
   go_ret
   exact ⟨ret_bool (by rw [HQ2.out]; rfl), by rw [HN.out]; exact H0.out.1⟩
 | false =>
   have HC : Hid (Calls Tryz.prog 32 #[.agg X, .agg Y] W0 fun e w' => e = .returned (.bool (rids7 x y)) ∧ Below W0.heap.size W0 w') := Lib.hid (r10rids_any X Y x y _ _ _ _ _ _ _ _ _ _ W0 ((HV.out.1.below H0.out.1).more (Nat.le_of_lt H0.out.2.1.lt)) ((HV.out.2.below H0.out.1).more (Nat.le_of_lt H0.out.2.1.lt)) hzx)
   generalize rids7 x y = qv at *
   go_wp2_with (first | ((with_reducible refine wpList_load_allG ?_ 44 (.tmp 4) ?_ H0.out.2.1 ?_ Tryz.sizeMedia HSZ.out.1.1 Tryz.underlying44 rfl ?_); rfl; (with_reducible rfl); rfl) | ((with_reducible refine wpList_load_allG ?_ 44 (.tmp 5) ?_ H0.out.2.2 ?_ Tryz.sizeMedia HSZ.out.2.1 Tryz.underlying44 rfl ?_); rfl; (with_reducible rfl); rfl) | (go_at_call 32; (with_reducible refine HC.out.mono ?_); rintro e w1 ⟨rfl, hb1⟩))
   go_ret
   exact ⟨ret_bool (by rw [HQ2.out]; rfl), by rw [HN.out]; exact H0.out.1.trans (hb1.mono (Nat.le_of_lt H0.out.2.1.lt))⟩
set_option maxHeartbeats 3200000 in
set_option maxRecDepth 100000 in
theorem r10holds8 (X Y : Array Value) (x y : MediaS) (vC vE vR vS vY uC uE uR uS uY : Value) (w : World) (h1 : MediaV w w.heap.size X x vC vE vR vS vY) (h2 : MediaV w w.heap.size Y y uC uE uR uS uY) :
 Calls Tryz.prog 12 #[.int .i64 8, .agg X, .agg Y] w fun e w' => e = .returned (.bool (holdsR 8 x y)) ∧ Below w.heap.size w w' := by
 obtain ⟨hb0, hbx, hby⟩ := two_boxes w 44 X Y
 have hy1 : Y[1]? = some (.int .i64 y.port) := by rw [h2.form]; rfl
 have HY1 := Lib.hid hy1
 obtain ⟨N, hN⟩ : ∃ N, w.heap.size = N := ⟨_, rfl⟩
 have H0 := Lib.hid (And.intro hb0 (And.intro hbx hby))
 have HV := Lib.hid (And.intro h1 h2)
 have HSZ : Hid ((X.size = 11 ∧ X.toList.all (·.oneCell') = true) ∧ Y.size = 11 ∧ Y.toList.all (·.oneCell') = true) := Lib.hid ⟨⟨h1.size, h1.one⟩, h2.size, h2.one⟩
 rw [hN] at H0 HV
 have HN := Lib.hid hN
 clear h1 h2 hb0 hbx hby hN  hy1
 have HQ : Hid (holdsR 8 x y = if y.port = 0 then true else crypto8 x y) := Lib.hid (by unfold holdsR; rfl)
 generalize holdsR 8 x y = r at *
 go_enter Tryz.func12, Tryz.ntmps12
 go_upto_region 1 with fail
 simp only [HN.out, Nat.add_assoc, Nat.reduceAdd]
 generalize ((w.alloc (.cells X 44)).alloc (.cells Y 44)) = W0 at *
 have cy1 : W0.cell? ⟨N + 1, 1, none⟩ = some (.int .i64 y.port) := (H0.out.2.2.cell 1).trans HY1.out
 obtain ⟨b, hb⟩ : ∃ b, (y.port == 0) = b := ⟨_, rfl⟩
 have HQ2 : Hid (r = (b || crypto8 x y)) := Lib.hid (by
  rw [HQ.out, ← hb]
  by_cases hp : y.port = 0
  · simp [hp]
  · rw [if_neg hp]
    simp [hp])
 clear HQ
 generalize y.port = py at *
 cases b with
 | true =>
   go_wp2
   go_ret
   exact ⟨ret_bool (by rw [HQ2.out]; rfl), by rw [HN.out]; exact H0.out.1⟩
 | false =>
   have HC : Hid (Calls Tryz.prog 33 #[.agg X, .agg Y] W0 fun e w' => e = .returned (.bool (crypto8 x y)) ∧ Below W0.heap.size W0 w') := Lib.hid (r10crypto_any X Y x y _ _ _ _ _ _ _ _ _ _ W0 ((HV.out.1.below H0.out.1).more (Nat.le_of_lt H0.out.2.1.lt)) ((HV.out.2.below H0.out.1).more (Nat.le_of_lt H0.out.2.1.lt)))
   generalize crypto8 x y = qv at *
   go_wp2_with (first | ((with_reducible refine wpList_load_allG ?_ 44 (.tmp 4) ?_ H0.out.2.1 ?_ Tryz.sizeMedia HSZ.out.1.1 Tryz.underlying44 rfl ?_); rfl; (with_reducible rfl); rfl) | ((with_reducible refine wpList_load_allG ?_ 44 (.tmp 5) ?_ H0.out.2.2 ?_ Tryz.sizeMedia HSZ.out.2.1 Tryz.underlying44 rfl ?_); rfl; (with_reducible rfl); rfl) | (go_at_call 33; (with_reducible refine HC.out.mono ?_); rintro e w1 ⟨rfl, hb1⟩))
   go_ret
   exact ⟨ret_bool (by rw [HQ2.out]; rfl), by rw [HN.out]; exact H0.out.1.trans (hb1.mono (Nat.le_of_lt H0.out.2.1.lt))⟩
theorem r10holds_any (k : Nat) (X Y : Array Value) (x y : MediaS) (vC vE vR vS vY uC uE uR uS uY : Value) (w : World) (h1 : MediaV w w.heap.size X x vC vE vR vS vY) (h2 : MediaV w w.heap.size Y y uC uE uR uS uY) (hk2 : 2 ≤ k) (hk8 : k ≤ 8) (hzx : SizM x) (hdx : 0 ≤ x.dir ∧ x.dir ≤ 3) (hdy : 0 ≤ y.dir ∧ y.dir ≤ 3) :
 Calls Tryz.prog 12 #[.int .i64 (k : Int), .agg X, .agg Y] w fun e w' => e = .returned (.bool (holdsR k x y)) ∧ Below w.heap.size w w' := by
 have : k = 2 ∨ k = 3 ∨ k = 4 ∨ k = 5 ∨ k = 6 ∨ k = 7 ∨ k = 8 := by omega
 rcases this with rfl | rfl | rfl | rfl | rfl | rfl | rfl
 · exact r10holds2 X Y x y _ _ _ _ _ _ _ _ _ _ w h1 h2
 · exact r10holds3 X Y x y _ _ _ _ _ _ _ _ _ _ w h1 h2
 · exact r10holds4 X Y x y _ _ _ _ _ _ _ _ _ _ w h1 h2 hzx
 · exact r10holds5 X Y x y _ _ _ _ _ _ _ _ _ _ w h1 h2
 · exact r10holds6 X Y x y _ _ _ _ _ _ _ _ _ _ w h1 h2 hdx hdy
 · exact r10holds7 X Y x y _ _ _ _ _ _ _ _ _ _ w h1 h2 hzx
 · exact r10holds8 X Y x y _ _ _ _ _ _ _ _ _ _ w h1 h2
end Go.Proofs.YtibpnjakimobmaaGreat
