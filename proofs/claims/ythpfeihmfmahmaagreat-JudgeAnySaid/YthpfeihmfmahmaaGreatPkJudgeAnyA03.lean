import Derived.Test.YthpfeihmfmahmaaGreatPkJudgeAnyA02
import Derived.Test.YthpfeihmfmahmaaGreatPkJudgeAnyA01
namespace Go.Proofs.YthpfeihmfmahmaaGreat
open Go.RowKit
set_option linter.unusedVariables false
set_option linter.unusedSimpArgs false
set_option maxHeartbeats 1600000 in
set_option maxRecDepth 100000 in
theorem juOpen_any (X Y : Array Value) (x y : MediaS) (vC vE vR vS vY uC uE uR uS uY : Value) (w : World) (h1 : MediaV w w.heap.size X x vC vE vR vS vY) (h2 : MediaV w w.heap.size Y y uC uE uR uS uY) :
 Calls Tryz.prog 41 #[.agg X, .agg Y] w fun e w' => e = .returned (.bool (openQ x y)) ∧ Below w.heap.size w w' := by
 obtain ⟨hb0, hbx, hby⟩ := two_boxes w 44 X Y
 have hx1 : X[1]? = some (.int .i64 x.port) := by rw [h1.form]; rfl
 have HX1 := Lib.hid hx1
 obtain ⟨N, hN⟩ : ∃ N, w.heap.size = N := ⟨_, rfl⟩
 have H0 := Lib.hid (And.intro hb0 (And.intro hbx hby))
 have HV := Lib.hid (And.intro h1 h2)
 have HSZ : Hid ((X.size = 11 ∧ X.toList.all (·.oneCell') = true) ∧ Y.size = 11 ∧ Y.toList.all (·.oneCell') = true) := Lib.hid ⟨⟨h1.size, h1.one⟩, h2.size, h2.one⟩
 rw [hN] at H0 HV
 have HN := Lib.hid hN
 clear h1 h2 hb0 hbx hby hN hx1
 have HQ : Hid (openQ x y = !(x.port == 0)) := Lib.hid (by unfold openQ; rw [Bool.eq_iff_iff]; simp)
 generalize openQ x y = r at *
 go_enter Tryz.func41, Tryz.ntmps41
 go_upto_region 1 with fail
 simp only [HN.out, Nat.add_assoc, Nat.reduceAdd]
 generalize ((w.alloc (.cells X 44)).alloc (.cells Y 44)) = W0 at *
 have cx1 : W0.cell? ⟨N, 1, none⟩ = some (.int .i64 x.port) := (H0.out.2.1.cell 1).trans HX1.out
 obtain ⟨b, hb⟩ : ∃ b, (x.port == 0) = b := ⟨_, rfl⟩
 have hb' : (x.port != 0) = !b := by rw [← hb]; rfl
 have HQ2 : Hid (r = !b) := Lib.hid (by rw [HQ.out, hb])
 clear HQ
 go_wp2
 go_ret
 exact ⟨ret_bool HQ2.out.symm, by rw [HN.out]; exact H0.out.1⟩
set_option maxHeartbeats 800000 in
theorem juTaken_any (X : Array Value) (p : Int) (w : World) (hx : X[1]? = some (.int .i64 p)) : Calls Tryz.prog 78 #[.agg X] w fun e w' => e = .returned (.bool (!(p == 0))) ∧ Below w.heap.size w w' := by
 have hb := (Below.refl w.heap.size w).alloc (Nat.le_refl _) (.cells X 44)
 have hc : (w.alloc (.cells X 44)).cell? ⟨w.heap.size, 1, none⟩ = some (.int .i64 p) := ((Whole.new w 44 X).cell 1).trans hx
 have HB := Lib.hid hb
 clear hb hx
 obtain ⟨b, hq⟩ : ∃ b, (p == 0) = b := ⟨_, rfl⟩
 have hq' : (p != 0) = !b := by rw [← hq]; rfl
 rw [hq]
 go_enter Tryz.func78, Tryz.ntmps78
 go_upto_region 1 with fail
 generalize (w.alloc (.cells X 44)) = W at *
 go_wp2
 go_ret
 exact ⟨rfl, HB.out⟩
set_option maxHeartbeats 800000 in
theorem juHas_any (X : Array Value) (d k : Int) (w : World) (hx : X[3]? = some (.int .i64 d)) (h0 : 0 ≤ d) (h3 : d ≤ 3) (hk : k = 1 ∨ k = 2) : Calls Tryz.prog 84 #[.agg X, .int .i64 k] w fun e w' => e = .returned (.bool (hasW d k)) ∧ Below w.heap.size w w' := by
 have hb := (Below.refl w.heap.size w).alloc (Nat.le_refl _) (.cells X 44)
 have hc : (w.alloc (.cells X 44)).cell? ⟨w.heap.size, 3, none⟩ = some (.int .i64 d) := ((Whole.new w 44 X).cell 3).trans hx
 have HB := Lib.hid hb
 clear hb hx
 have hd : d = 0 ∨ d = 1 ∨ d = 2 ∨ d = 3 := by omega
 clear h0 h3
 go_enter Tryz.func84, Tryz.ntmps84
 go_upto_region 1 with fail
 generalize (w.alloc (.cells X 44)) = W at *
 rcases hk with rfl | rfl <;> rcases hd with rfl | rfl | rfl | rfl
 all_goals
  go_wp2
  go_ret
  exact ⟨rfl, HB.out⟩
set_option maxHeartbeats 1600000 in
set_option maxRecDepth 100000 in
theorem juPlace_any (X Y : Array Value) (x y : MediaS) (vC vE vR vS vY uC uE uR uS uY : Value) (w : World) (h1 : MediaV w w.heap.size X x vC vE vR vS vY) (h2 : MediaV w w.heap.size Y y uC uE uR uS uY) :
 Calls Tryz.prog 75 #[.agg X, .agg Y] w fun e w' => e = .returned (.bool (placeQ x y)) ∧ Below w.heap.size w w' := by
 obtain ⟨hb0, hbx, hby⟩ := two_boxes w 44 X Y
 have hx0 : X[0]? = some (.int .i64 x.kind) := by rw [h1.form]; rfl
 have hx2 : X[2]? = some (.string x.mid) := by rw [h1.form]; rfl
 have hy0 : Y[0]? = some (.int .i64 y.kind) := by rw [h2.form]; rfl
 have hy2 : Y[2]? = some (.string y.mid) := by rw [h2.form]; rfl
 have HX0 := Lib.hid hx0
 have HX2 := Lib.hid hx2
 have HY0 := Lib.hid hy0
 have HY2 := Lib.hid hy2
 obtain ⟨N, hN⟩ : ∃ N, w.heap.size = N := ⟨_, rfl⟩
 have H0 := Lib.hid (And.intro hb0 (And.intro hbx hby))
 have HV := Lib.hid (And.intro h1 h2)
 have HSZ : Hid ((X.size = 11 ∧ X.toList.all (·.oneCell') = true) ∧ Y.size = 11 ∧ Y.toList.all (·.oneCell') = true) := Lib.hid ⟨⟨h1.size, h1.one⟩, h2.size, h2.one⟩
 rw [hN] at H0 HV
 have HN := Lib.hid hN
 clear h1 h2 hb0 hbx hby hN hx0 hx2 hy0 hy2
 have HQ : Hid (placeQ x y = ((x.kind == y.kind) && (x.mid.toList == y.mid.toList))) := Lib.hid (by unfold placeQ; rw [toList_tx, toList_tx, Bool.eq_iff_iff]; simp)
 generalize placeQ x y = r at *
 go_enter Tryz.func75, Tryz.ntmps75
 go_upto_region 1 with fail
 simp only [HN.out, Nat.add_assoc, Nat.reduceAdd]
 generalize ((w.alloc (.cells X 44)).alloc (.cells Y 44)) = W0 at *
 have cx0 : W0.cell? ⟨N, 0, none⟩ = some (.int .i64 x.kind) := (H0.out.2.1.cell 0).trans HX0.out
 have cx2 : W0.cell? ⟨N, 2, none⟩ = some (.string x.mid) := (H0.out.2.1.cell 2).trans HX2.out
 have cy0 : W0.cell? ⟨N + 1, 0, none⟩ = some (.int .i64 y.kind) := (H0.out.2.2.cell 0).trans HY0.out
 have cy2 : W0.cell? ⟨N + 1, 2, none⟩ = some (.string y.mid) := (H0.out.2.2.cell 2).trans HY2.out
 obtain ⟨b, hb⟩ : ∃ b, (x.kind == y.kind) = b := ⟨_, rfl⟩
 obtain ⟨b2, hb2⟩ : ∃ b, (x.mid.toList == y.mid.toList) = b := ⟨_, rfl⟩
 have HQ2 : Hid (r = (b && b2)) := Lib.hid (by rw [HQ.out, hb, hb2])
 clear HQ
 cases b with
 | false =>
   go_wp2
   go_ret
   exact ⟨ret_bool (by rw [HQ2.out]; rfl), by rw [HN.out]; exact H0.out.1⟩
 | true =>
   go_wp2
   go_ret
   exact ⟨ret_bool (by rw [HQ2.out]; rfl), by rw [HN.out]; exact H0.out.1⟩
def placeT (L : List ByteArray) (s : ByteArray) : Int := if inT L s = true then (L.findIdx (fun b => tx b == tx s) : Int) else -1
theorem inT_any (L : List ByteArray) (s : ByteArray) : (L.any fun b => tx b == tx s) = inT L s := by
 unfold inT
 rw [Bool.eq_iff_iff]
 simp only [List.any_eq_true, List.contains_iff_mem, List.mem_map, beq_iff_eq]
theorem place_some {L : List ByteArray} {s : ByteArray} {k : Nat} (hk : k < L.length) (h : ∀ j, j < k → (tx (L.getD j default) == tx s) = false) (hq : (tx (L.getD k default) == tx s) = true) : placeT L s = k := by
 have h1 : inT L s = true := by rw [← inT_any]; exact any_yes (q := fun b => tx b == tx s) hk hq
 unfold placeT
 rw [if_pos h1]
 have : L.findIdx (fun b => tx b == tx s) = k := (List.findIdx_eq hk).2 ⟨by simpa [List.getD, hk] using hq, fun j hj => by have := h j hj; simpa [List.getD, show j < L.length by omega] using this⟩
 rw [this]
theorem place_none {L : List ByteArray} {s : ByteArray} {n : Nat} (hn : L.length = n) (h : ∀ j, j < n → (tx (L.getD j default) == tx s) = false) : placeT L s = -1 := by
 have h1 : inT L s = false := by rw [← inT_any]; exact any_no (q := fun b => tx b == tx s) hn h
 unfold placeT
 rw [h1]
 rfl
theorem place_in {L : List ByteArray} {s : ByteArray} (h : inT L s = true) : ¬ placeT L s < 0 := by
 unfold placeT
 rw [if_pos h]
 omega
theorem place_out {L : List ByteArray} {s : ByteArray} (h : inT L s = false) : placeT L s < 0 := by
 unfold placeT
 simp [h]
set_option maxHeartbeats 1600000 in
set_option maxRecDepth 100000 in
theorem rIn_q (A : Option Addr) (n c : Nat) (s : ByteArray) (L : List ByteArray) (w : World) (h : TextsV w w.heap.size (.slice A n c) L) (hn : L.length = n) (hl : n ≤ 4611686018427387904) :
 Calls Tryz.prog 24 #[.slice A n c, .string s] w fun e w' => e = .returned (.int .i64 (placeT L s)) ∧ w' = w := by
 have HPS : Hid (∀ k, k < L.length → (∀ j, j < k → (tx (L.getD j default) == tx s) = false) → (tx (L.getD k default) == tx s) = true → placeT L s = k) := Lib.hid fun k h1 h2 h3 => place_some h1 h2 h3
 have HPN : Hid ((∀ j, j < n → (tx (L.getD j default) == tx s) = false) → placeT L s = -1) := Lib.hid fun h => place_none hn h
 generalize placeT L s = pl at *
 have HA := Lib.hid h
 have HE := Lib.hid hn
 obtain ⟨q, hq⟩ : ∃ q : ByteArray → Bool, (fun b => tx b == tx s) = q := ⟨_, rfl⟩
 have HQE : Hid (∀ b, (tx b == tx s) = q b) := Lib.hid fun b => by rw [← hq]
 have HQ : Hid (∀ x : ByteArray, (x.toList == s.toList) = q x) := Lib.hid fun x => by
  rw [← hq, toList_tx, toList_tx]
 simp only [HQE.out] at HPS HPN
 clear h hn hq
 go_enter Tryz.func24, Tryz.ntmps24
 go_wp2
 go_loopw [8] (fun s8 wr => ∃ k : Nat, k ≤ n ∧ s8 = .int .i64 k ∧ (∀ j, j < k → q (L.getD j default) = false) ∧ w = wr) (fun s8 _ => n - (intOf s8).toNat)
 case atStart => exact ⟨0, by omega, rfl, (fun j hj => by omega), by first | rfl | trivial⟩
 case round =>
  obtain ⟨k, hk, rfl, hno, rfl⟩ := hrel
  have HNO := Lib.hid hno
  clear hno
  by_cases hlt : k < n
  · have hlt' : k < L.length := by rw [HE.out]; exact hlt
    obtain ⟨ad, c', e1, had, c0⟩ := HA.out.at_ hlt'
    injection e1 with e1 e1n e1c
    clear e1n e1c
    subst e1
    obtain ⟨x, hx⟩ : ∃ x, L.getD k default = x := ⟨_, rfl⟩
    rw [hx] at c0
    have HX := Lib.hid (And.intro hx hlt')
    obtain ⟨b, hbb⟩ : ∃ b, (x.toList == s.toList) = b := ⟨_, rfl⟩
    have HBT : Hid (q x = b) := Lib.hid (by rw [← HQ.out, hbb])
    clear hx hlt' had
    have hk0 : (0 : Int) ≤ (k : Int) := by omega
    have hk1 : (k : Int) < (n : Int) := by omega
    go_upto_if 16 with fail
    clear hbb
    cases b with
    | true =>
      go_wp2
      go_ret
      exact ⟨by rw [HPS.out k HX.out.2 HNO.out (by rw [HX.out.1]; exact HBT.out)]; rfl, rfl⟩
    | false =>
      go_wp2
      go_roundw
      case rel =>
       refine ⟨k + 1, by omega, by go_num, fun j hj => ?_, by first | rfl | trivial⟩
       by_cases e : j = k
       · subst e
         rw [HX.out.1]
         exact HBT.out
       · exact HNO.out j (by omega)
      case measure => simp [intOf]; omega
  · have e : k = n := by omega
    subst e
    have HN : Hid (pl = -1) := Lib.hid (HPN.out HNO.out)
    go_wp2
    go_ret
    exact ⟨by rw [HN.out]; rfl, rfl⟩
set_option maxHeartbeats 1600000 in
set_option maxRecDepth 100000 in
theorem r10rids_any (X Y : Array Value) (x y : MediaS) (vC vE vR vS vY uC uE uR uS uY : Value) (w : World) (h1 : MediaV w w.heap.size X x vC vE vR vS vY) (h2 : MediaV w w.heap.size Y y uC uE uR uS uY) (hzx : SizM x) :
 Calls Tryz.prog 51 #[.agg X, .agg Y] w fun e w' => e = .returned (.bool (rids7 x y)) ∧ Below w.heap.size w w' := by
 obtain ⟨hb0, hbx, hby⟩ := two_boxes w 44 X Y
 obtain ⟨AX, cX, rfl, hcX, hmX, -⟩ := Rows.form h1.rids
 obtain ⟨AY, cY, rfl, hcY, hmY, -⟩ := Rows.form h2.rids
 obtain ⟨nx, hnx⟩ : ∃ n, x.rids.length = n := ⟨_, rfl⟩
 obtain ⟨ny, hny⟩ : ∃ n, y.rids.length = n := ⟨_, rfl⟩
 rw [hnx] at h1 hcX
 rw [hny] at h2 hcY
 unfold maxLen at hmX hmY
 have HNX := Lib.hid hnx
 have HNY := Lib.hid hny
 clear hnx hny
 have hcnt : nx ≤ 8796093021952 := by rw [← HNX.out]; exact hzx.counts.2.2.1
 have hx6 : X[6]? = some (.slice AX nx cX) := by rw [h1.form]; rfl
 have hx7 : X[7]? = some (.bool x.sending) := by rw [h1.form]; rfl
 have hy6 : Y[6]? = some (.slice AY ny cY) := by rw [h2.form]; rfl
 have hy7 : Y[7]? = some (.bool y.sending) := by rw [h2.form]; rfl
 have HX6 := Lib.hid hx6
 have HX7 := Lib.hid hx7
 have HY6 := Lib.hid hy6
 have HY7 := Lib.hid hy7
 obtain ⟨N, hN⟩ : ∃ N, w.heap.size = N := ⟨_, rfl⟩
 have H0 := Lib.hid (And.intro hb0 (And.intro hbx hby))
 have HV := Lib.hid (And.intro h1 h2)
 have HSZ : Hid ((X.size = 11 ∧ X.toList.all (·.oneCell') = true) ∧ Y.size = 11 ∧ Y.toList.all (·.oneCell') = true) := Lib.hid ⟨⟨h1.size, h1.one⟩, h2.size, h2.one⟩
 rw [hN] at H0 HV
 have HN := Lib.hid hN
 clear h1 h2 hb0 hbx hby hN hx6 hx7 hy6 hy7
 have HR : Hid (rids7 x y = (y.rids.all (inT x.rids) && (y.rids.isEmpty || (y.sending != x.sending)))) := Lib.hid rfl
 generalize rids7 x y = r at *
 go_enter Tryz.func51, Tryz.ntmps51
 go_upto_region 1 with fail
 simp only [HN.out, Nat.add_assoc, Nat.reduceAdd]
 generalize ((w.alloc (.cells X 44)).alloc (.cells Y 44)) = W0 at *
 have cx6 : W0.cell? ⟨N, 6, none⟩ = some (.slice AX nx cX) := (H0.out.2.1.cell 6).trans HX6.out
 have cx7 : W0.cell? ⟨N, 7, none⟩ = some (.bool x.sending) := (H0.out.2.1.cell 7).trans HX7.out
 have cy6 : W0.cell? ⟨N + 1, 6, none⟩ = some (.slice AY ny cY) := (H0.out.2.2.cell 6).trans HY6.out
 have cy7 : W0.cell? ⟨N + 1, 7, none⟩ = some (.bool y.sending) := (H0.out.2.2.cell 7).trans HY7.out
 have HF : Hid (∀ W, Below W0.heap.size W0 W → Below N w W ∧ W.cell? ⟨N, 6, none⟩ = some (.slice AX nx cX) ∧ W.cell? ⟨N, 7, none⟩ = some (.bool x.sending) ∧ W.cell? ⟨N + 1, 6, none⟩ = some (.slice AY ny cY) ∧ W.cell? ⟨N + 1, 7, none⟩ = some (.bool y.sending)) := Lib.hid fun W hW =>
  ⟨H0.out.1.trans (hW.mono (Nat.le_trans (Nat.le_of_lt H0.out.2.1.lt) (Nat.le_refl _))), ((H0.out.2.1.under hW).cell 6).trans HX6.out, ((H0.out.2.1.under hW).cell 7).trans HX7.out, ((H0.out.2.2.under hW).cell 6).trans HY6.out, ((H0.out.2.2.under hW).cell 7).trans HY7.out⟩
 have HN0 : Hid (N ≤ W0.heap.size) := Lib.hid (Nat.le_of_lt H0.out.2.1.lt)
 go_wp2
 clear cx6 cx7 cy6 cy7
 go_loopw [9] (fun s9 wr => ∃ k : Nat, k ≤ ny ∧ s9 = .int .i64 k ∧ (∀ j, j < k → inT x.rids (y.rids.getD j default) = true) ∧ Below W0.heap.size W0 wr) (fun s9 _ => ny - (intOf s9).toNat)
 case atStart => exact ⟨0, Nat.zero_le _, rfl, (fun j hj => by omega), Below.refl _ _⟩
 case round =>
  obtain ⟨k, hk, rfl, hall, hb⟩ := hrel
  have HS := Lib.hid (And.intro hall hb)
  obtain ⟨hbw, d6, d7, e6, e7⟩ := HF.out wr hb
  have HBW := Lib.hid hbw
  clear hall hb hbw
  by_cases hlt : k < ny
  · have hlt' : k < y.rids.length := by rw [HNY.out]; exact hlt
    obtain ⟨ad, c', e1, had, c0⟩ := (HV.out.2.rids.below HBW.out).at_ hlt'
    injection e1 with e1 e1n e1c
    clear e1n e1c
    subst e1
    obtain ⟨s, hs⟩ : ∃ s, y.rids.getD k default = s := ⟨_, rfl⟩
    rw [hs] at c0
    have HSK := Lib.hid (And.intro hs hlt')
    have HIN : Hid (∀ m, Calls Tryz.prog 24 #[.slice AX nx cX, .string s] (wr.drewN m) fun e w' => e = .returned (.int .i64 (placeT x.rids s)) ∧ w' = wr.drewN m) := Lib.hid fun m => rIn_q AX nx cX s x.rids (wr.drewN m) ((HV.out.1.rids.below (below_drewN' HBW.out m)).more (by have := HBW.out.size; have := HS.out.2.size; have := HN0.out; show N ≤ wr.heap.size; omega)) HNX.out (by omega)
    have hk0 : (0 : Int) ≤ (k : Int) := by omega
    have hk1 : (k : Int) < (ny : Int) := by omega
    clear hs hlt' had
    cases hi : inT x.rids s with
    | true =>
      have hp := place_in hi
      have HI := Lib.hid hi
      clear hi
      generalize placeT x.rids s = pl at *
      go_upto_region 4 with fail
      go_quiet ((go_at_call 24; exact Calls.quiet_of_same (HIN.out _)))
      go_wp2
      go_roundw
      case rel =>
       refine ⟨k + 1, by omega, by go_num, fun j hj => ?_, below_drewN' HS.out.2 _⟩
       by_cases e : j = k
       · subst e
         rw [HSK.out.1]
         exact HI.out
       · exact HS.out.1 j (by omega)
      case measure => simp [intOf]; omega
    | false =>
      have hp := place_out hi
      have HQ : Hid (r = false) := Lib.hid (by
       rw [HR.out]
       have : y.rids.all (inT x.rids) = false := by
        rw [Bool.eq_false_iff]
        intro h
        have := List.all_eq_true.1 h s (by rw [← HSK.out.1]; exact getD_mem HSK.out.2)
        rw [hi] at this
        cases this
       rw [this]
       rfl)
      clear hi
      generalize placeT x.rids s = pl at *
      go_upto_region 4 with fail
      go_quiet ((go_at_call 24; exact Calls.quiet_of_same (HIN.out _)))
      go_wp2
      go_ret
      exact ⟨ret_bool HQ.out.symm, by rw [HN.out]; exact below_drewN' HBW.out _⟩
  · obtain rfl : k = ny := by omega
    have HQ : Hid (r = (y.rids.isEmpty || (y.sending != x.sending))) := Lib.hid (by rw [HR.out, all_yesL HNY.out HS.out.1]; rfl)
    clear HR
    cases hl : y.rids with
    | nil =>
      have hk0 : k = 0 := by rw [← HNY.out, hl]; rfl
      rw [hl] at HQ
      subst hk0
      go_wp2
      go_ret
      exact ⟨ret_bool HQ.out.symm, by rw [HN.out]; exact HBW.out⟩
    | cons a l =>
      have hk0 : ((k : Int) == 0) = false := by rw [beq_eq_false_iff_ne, ← HNY.out, hl]; simp; omega
      have hk1 : ¬ (k : Int) = 0 := by simpa using hk0
      have HQ2 : Hid (r = (y.sending != x.sending)) := Lib.hid (by rw [HQ.out, hl]; rfl)
      clear HQ
      clear hl
      generalize y.sending = sy at *
      generalize x.sending = sx at *
      go_wp2
      go_ret
      exact ⟨ret_bool HQ2.out.symm, by rw [HN.out]; exact HBW.out⟩
theorem any_take {α : Type} [Inhabited α] {L : List α} {p : α → Bool} {k : Nat} (hk : k < L.length) : (L.take (k + 1)).any p = ((L.take k).any p || p (L.getD k default)) := by
 rw [List.take_add_one, List.getElem?_eq_getElem hk, List.any_append]
 simp [List.getD, hk]
def extIn (L : List ExtS) (e : ExtS) : Bool := L.any fun z => z.id == e.id && z.uri.toList == e.uri.toList
theorem exts5_in (x y : MediaS) : exts5 x y = y.exts.all (extIn x.exts) := by
 unfold exts5 extIn
 rw [Bool.eq_iff_iff]
 simp only [List.all_eq_true, List.any_eq_true, Bool.and_eq_true, decide_eq_true_eq, beq_iff_eq, toList_tx]
set_option maxHeartbeats 3200000 in
set_option maxRecDepth 100000 in
theorem r10exts_any (X Y : Array Value) (x y : MediaS) (vC vE vR vS vY uC uE uR uS uY : Value) (w : World) (h1 : MediaV w w.heap.size X x vC vE vR vS vY) (h2 : MediaV w w.heap.size Y y uC uE uR uS uY) :
 Calls Tryz.prog 50 #[.agg X, .agg Y] w fun e w' => e = .returned (.bool (exts5 x y)) ∧ Below w.heap.size w w' := by
 obtain ⟨hb0, hbx, hby⟩ := two_boxes w 44 X Y
 obtain ⟨AX, cX, rfl, hcX, hmX, -⟩ := Rows.form h1.exts
 obtain ⟨AY, cY, rfl, hcY, hmY, -⟩ := Rows.form h2.exts
 obtain ⟨nx, hnx⟩ : ∃ n, x.exts.length = n := ⟨_, rfl⟩
 obtain ⟨ny, hny⟩ : ∃ n, y.exts.length = n := ⟨_, rfl⟩
 rw [hnx] at h1 hcX
 rw [hny] at h2 hcY
 unfold maxLen at hmX hmY
 have HNX := Lib.hid hnx
 have HNY := Lib.hid hny
 clear hnx hny
 have hx5 : X[5]? = some (.slice AX nx cX) := by rw [h1.form]; rfl
 have hy5 : Y[5]? = some (.slice AY ny cY) := by rw [h2.form]; rfl
 have HX5 := Lib.hid hx5
 have HY5 := Lib.hid hy5
 obtain ⟨N, hN⟩ : ∃ N, w.heap.size = N := ⟨_, rfl⟩
 have H0 := Lib.hid (And.intro hb0 (And.intro hbx hby))
 have HV := Lib.hid (And.intro h1 h2)
 have HSZ : Hid ((X.size = 11 ∧ X.toList.all (·.oneCell') = true) ∧ Y.size = 11 ∧ Y.toList.all (·.oneCell') = true) := Lib.hid ⟨⟨h1.size, h1.one⟩, h2.size, h2.one⟩
 rw [hN] at H0 HV
 have HN := Lib.hid hN
 clear h1 h2 hb0 hbx hby hN hx5 hy5
 have HR : Hid (exts5 x y = y.exts.all (extIn x.exts)) := Lib.hid (exts5_in x y)
 generalize exts5 x y = r at *
 go_enter Tryz.func50, Tryz.ntmps50
 go_upto_region 1 with fail
 simp only [HN.out, Nat.add_assoc, Nat.reduceAdd]
 generalize ((w.alloc (.cells X 44)).alloc (.cells Y 44)) = W0 at *
 have cx5 : W0.cell? ⟨N, 5, none⟩ = some (.slice AX nx cX) := (H0.out.2.1.cell 5).trans HX5.out
 have cy5 : W0.cell? ⟨N + 1, 5, none⟩ = some (.slice AY ny cY) := (H0.out.2.2.cell 5).trans HY5.out
 have HF : Hid (∀ W, Below W0.heap.size W0 W → Below N w W ∧ W.cell? ⟨N, 5, none⟩ = some (.slice AX nx cX) ∧ W.cell? ⟨N + 1, 5, none⟩ = some (.slice AY ny cY)) := Lib.hid fun W hW =>
  ⟨H0.out.1.trans (hW.mono (Nat.le_of_lt H0.out.2.1.lt)), ((H0.out.2.1.under hW).cell 5).trans HX5.out, ((H0.out.2.2.under hW).cell 5).trans HY5.out⟩
 have hgd := ext_guard
 go_wp2
 clear cx5 cy5
 go_loopw [11] (fun s11 wr => ∃ k : Nat, k ≤ ny ∧ s11 = .int .i64 k ∧ (∀ j, j < k → extIn x.exts (y.exts.getD j default) = true) ∧ Below W0.heap.size W0 wr) (fun s11 _ => ny - (intOf s11).toNat)
 case atStart => exact ⟨0, Nat.zero_le _, rfl, (fun j hj => by omega), Below.refl _ _⟩
 case round =>
  obtain ⟨k, hk, rfl, hall, hb⟩ := hrel
  have HS := Lib.hid (And.intro hall hb)
  obtain ⟨hbw, d5, e5⟩ := HF.out wr hb
  have HBW := Lib.hid hbw
  clear hall hb hbw
  by_cases hlt : k < ny
  · have hlt' : k < y.exts.length := by rw [HNY.out]; exact hlt
    obtain ⟨ad, c', e1, had, -, -⟩ := (HV.out.2.exts.below HBW.out).at_ hlt'
    injection e1 with e1 e1n e1c
    clear e1n e1c
    subst e1
    obtain ⟨z, hz⟩ : ∃ s, y.exts.getD k default = s := ⟨_, rfl⟩
    have HAY : Hid (∀ W, Below W0.heap.size W0 W → W.cell? (ad.add (k * 2)) = some (.int .i64 z.id) ∧ W.cell? ⟨(ad.add (k * 2)).block, (ad.add (k * 2)).off + 1, none⟩ = some (.string z.uri)) := Lib.hid fun W hW => by
     obtain ⟨ad', c2, e2, -, q0, q1⟩ := (HV.out.2.exts.below (HF.out W hW).1).at_ hlt'
     injection e2 with e2 _ _
     obtain rfl := Option.some.inj e2
     rw [hz] at q0 q1
     exact ⟨q0, q1⟩
    have HSK := Lib.hid (And.intro hz hlt')
    have hk0 : (0 : Int) ≤ (k : Int) := by omega
    have hk1 : (k : Int) < (ny : Int) := by omega
    clear hz hlt' had
    obtain ⟨p, hp⟩ : ∃ p : ExtS → Bool, (fun u : ExtS => u.id == z.id && u.uri.toList == z.uri.toList) = p := ⟨_, rfl⟩
    have HEI : Hid (extIn x.exts z = x.exts.any p) := Lib.hid (by unfold extIn; rw [hp])
    have HEQ : Hid (∀ (u : ExtS) W, (Op.equalIn 10000 56 (.agg #[.int .i64 u.id, .string u.uri]) (.agg #[.int .i64 z.id, .string z.uri])).run Tryz.prog W = .ok (p u) W) := Lib.hid fun u W => by rw [ext_eq, ← hp]
    clear hp
    go_wp2
    go_loopw [17, 6] (fun s17 s6 wq => ∃ j : Nat, j ≤ nx ∧ s17 = .int .i64 j ∧ s6 = .bool ((x.exts.take j).any p) ∧ Below W0.heap.size W0 wq) (fun s17 _ _ => nx - (intOf s17).toNat)
    case atStart => exact ⟨0, Nat.zero_le _, rfl, rfl, HS.out.2⟩
    case round =>
     obtain ⟨j, hj, rfl, rfl, hbq⟩ := hrel
     obtain ⟨hbw2, d5', e5'⟩ := HF.out wr hbq
     obtain ⟨g0, g1⟩ := HAY.out wr hbq
     have HQ2 := Lib.hid (And.intro hbq hbw2)
     clear hbq hbw2
     by_cases hjl : j < nx
     · have hjl' : j < x.exts.length := by rw [HNX.out]; exact hjl
       obtain ⟨ad2, c2, e2, -, f0, f1⟩ := (HV.out.1.exts.below HQ2.out.2).at_ hjl'
       injection e2 with e2 e2n e2c
       clear e2n e2c
       subst e2
       obtain ⟨u, hu⟩ : ∃ s, x.exts.getD j default = s := ⟨_, rfl⟩
       rw [hu] at f0 f1
       have HT : Hid ((x.exts.take (j + 1)).any p = ((x.exts.take j).any p || p u)) := Lib.hid (by rw [any_take hjl', hu])
       obtain ⟨b, hb⟩ : ∃ b, (x.exts.take j).any p = b := ⟨_, rfl⟩
       rw [hb] at HT ⊢
       have hj0 : (0 : Int) ≤ (j : Int) := by omega
       have hj1 : (j : Int) < (nx : Int) := by omega
       clear hb hu hjl'
       cases b with
       | true =>
         go_upto_region 8 with fail
         go_quiet (fail)
         go_wp2
         go_roundw
         case rel => exact ⟨j + 1, by omega, by go_num, by rw [HT.out]; rfl, below_drewN' HQ2.out.1 _⟩
         case measure => simp [intOf]; omega
       | false =>
         have hq := HEQ.out u
         generalize p u = pu at *
         go_upto_region 8 with fail
         go_quiet (fail)
         go_wp2
         go_roundw
         case rel => exact ⟨j + 1, by omega, by go_num, by rw [HT.out]; rfl, below_drewN' HQ2.out.1 _⟩
         case measure => simp [intOf]; omega
     · obtain rfl : j = nx := by omega
       have HT : Hid ((x.exts.take j).any p = extIn x.exts z) := Lib.hid (by rw [HEI.out, List.take_of_length_le (by rw [HNX.out]; exact Nat.le_refl _)])
       rw [HT.out]
       cases hi : extIn x.exts z with
       | true =>
         have HI := Lib.hid hi
         clear hi
         go_wp2
         go_roundw
         case rel =>
          refine ⟨k + 1, by omega, by go_num, fun j hj => ?_, HQ2.out.1⟩
          by_cases e : j = k
          · subst e
            rw [HSK.out.1]
            exact HI.out
          · exact HS.out.1 j (by omega)
         case measure => simp [intOf]; omega
       | false =>
         have HQ : Hid (r = false) := Lib.hid (by
          rw [HR.out, Bool.eq_false_iff]
          intro h
          have := List.all_eq_true.1 h z (by rw [← HSK.out.1]; exact getD_mem HSK.out.2)
          rw [hi] at this
          cases this)
         clear hi
         go_wp2
         go_ret
         exact ⟨ret_bool HQ.out.symm, by rw [HN.out]; exact HQ2.out.2⟩
  · obtain rfl : k = ny := by omega
    have HQ : Hid (r = true) := Lib.hid (by rw [HR.out]; exact all_yesL HNY.out HS.out.1)
    go_wp2
    go_ret
    exact ⟨ret_bool HQ.out.symm, by rw [HN.out]; exact HBW.out⟩
set_option maxHeartbeats 3200000 in
set_option maxRecDepth 100000 in
theorem r10crypto_any (X Y : Array Value) (x y : MediaS) (vC vE vR vS vY uC uE uR uS uY : Value) (w : World) (h1 : MediaV w w.heap.size X x vC vE vR vS vY) (h2 : MediaV w w.heap.size Y y uC uE uR uS uY) :
 Calls Tryz.prog 52 #[.agg X, .agg Y] w fun e w' => e = .returned (.bool (crypto8 x y)) ∧ Below w.heap.size w w' := by
 obtain ⟨hb0, hbx, hby⟩ := two_boxes w 44 X Y
 obtain ⟨AX, cX, rfl, hcX, hmX, -⟩ := Rows.form h1.crypto
 obtain ⟨AY, cY, rfl, hcY, hmY, -⟩ := Rows.form h2.crypto
 obtain ⟨nx, hnx⟩ : ∃ n, x.crypto.length = n := ⟨_, rfl⟩
 obtain ⟨ny, hny⟩ : ∃ n, y.crypto.length = n := ⟨_, rfl⟩
 rw [hnx] at h1 hcX
 rw [hny] at h2 hcY
 unfold maxLen at hmX hmY
 have HNX := Lib.hid hnx
 have HNY := Lib.hid hny
 clear hnx hny
 have hx9 : X[9]? = some (.slice AX nx cX) := by rw [h1.form]; rfl
 have hy0 : Y[0]? = some (.int .i64 y.kind) := by rw [h2.form]; rfl
 have hy9 : Y[9]? = some (.slice AY ny cY) := by rw [h2.form]; rfl
 have hy10 : Y[10]? = some (.int .i64 y.sctp) := by rw [h2.form]; rfl
 have HX9 := Lib.hid hx9
 have HY0 := Lib.hid hy0
 have HY9 := Lib.hid hy9
 have HY10 := Lib.hid hy10
 obtain ⟨N, hN⟩ : ∃ N, w.heap.size = N := ⟨_, rfl⟩
 have H0 := Lib.hid (And.intro hb0 (And.intro hbx hby))
 have HV := Lib.hid (And.intro h1 h2)
 have HSZ : Hid ((X.size = 11 ∧ X.toList.all (·.oneCell') = true) ∧ Y.size = 11 ∧ Y.toList.all (·.oneCell') = true) := Lib.hid ⟨⟨h1.size, h1.one⟩, h2.size, h2.one⟩
 rw [hN] at H0 HV
 have HN := Lib.hid hN
 clear h1 h2 hb0 hbx hby hN hx9 hy0 hy9 hy10
 have HR : Hid (crypto8 x y = if y.kind = 3 then !decide (y.sctp = 0) else decide (y.crypto.length = x.crypto.length) && (match y.crypto, x.crypto with
 | a :: _, b :: _ => decide (a.tag = b.tag)
 | _, _ => true)) := Lib.hid rfl
 generalize crypto8 x y = r at *
 go_enter Tryz.func52, Tryz.ntmps52
 go_upto_region 1 with fail
 simp only [HN.out, Nat.add_assoc, Nat.reduceAdd]
 generalize ((w.alloc (.cells X 44)).alloc (.cells Y 44)) = W0 at *
 have cx9 : W0.cell? ⟨N, 9, none⟩ = some (.slice AX nx cX) := (H0.out.2.1.cell 9).trans HX9.out
 have cy0 : W0.cell? ⟨N + 1, 0, none⟩ = some (.int .i64 y.kind) := (H0.out.2.2.cell 0).trans HY0.out
 have cy9 : W0.cell? ⟨N + 1, 9, none⟩ = some (.slice AY ny cY) := (H0.out.2.2.cell 9).trans HY9.out
 have cy10 : W0.cell? ⟨N + 1, 10, none⟩ = some (.int .i64 y.sctp) := (H0.out.2.2.cell 10).trans HY10.out
 by_cases h3 : y.kind = 3
 · have h3' : (y.kind == 3) = true := by simpa using h3
   have HQ : Hid (r = !(y.sctp == 0)) := Lib.hid (by rw [HR.out, if_pos h3]; rfl)
   clear h3
   generalize y.kind = yk at *
   obtain ⟨b, hb⟩ : ∃ b, (y.sctp == 0) = b := ⟨_, rfl⟩
   have hb' : (y.sctp != 0) = !b := by rw [← hb]; rfl
   rw [hb] at HQ
   generalize y.sctp = ys at *
   go_wp2
   go_ret
   exact ⟨ret_bool HQ.out.symm, by rw [HN.out]; exact H0.out.1⟩
 · have h3' : (y.kind == 3) = false := by simpa using h3
   have HQ : Hid (r = (decide (y.crypto.length = x.crypto.length) && (match y.crypto, x.crypto with
    | a :: _, b :: _ => decide (a.tag = b.tag)
    | _, _ => true))) := Lib.hid (by rw [HR.out, if_neg h3])
   clear HR h3
   generalize y.kind = yk at *
   by_cases hl : ny = nx
   · subst hl
     have hl' : ((ny : Int) != (ny : Int)) = false := by simp
     cases hx : x.crypto with
     | nil =>
       have h0 : ny = 0 := by rw [← HNX.out, hx]; rfl
       subst h0
       have HQ2 : Hid (r = true) := Lib.hid (by rw [HQ.out, HNX.out, HNY.out, hx]; cases y.crypto <;> rfl)
       clear HQ hx
       go_upto_region 5 with fail
       go_quiet (fail)
       go_wp2
       go_ret
       exact ⟨ret_bool HQ2.out.symm, by rw [HN.out]; exact below_drewN' H0.out.1 _⟩
     | cons a l =>
       cases hy : y.crypto with
       | nil => exact absurd HNY.out (by rw [hy, ← HNX.out, hx]; simp)
       | cons b l2 =>
         have hne : ((ny : Int) == 0) = false := by rw [beq_eq_false_iff_ne, ← HNX.out, hx]; simp; omega
         have hpos : (0 : Int) < (ny : Int) := by rw [← HNX.out, hx]; simp
         have HQ2 : Hid (r = (b.tag == a.tag)) := Lib.hid (by rw [HQ.out, HNX.out, HNY.out, hx, hy]; rw [Bool.eq_iff_iff]; simp)
         obtain ⟨ad1, k1, e1, -, -, q1⟩ := (HV.out.1.crypto.below H0.out.1).at_ (i := 0) (by rw [hx]; simp)
         obtain ⟨ad2, k2, e2, -, -, q2⟩ := (HV.out.2.crypto.below H0.out.1).at_ (i := 0) (by rw [hy]; simp)
         injection e1 with e1 e1n e1c; clear e1n e1c
         injection e2 with e2 e2n e2c; clear e2n e2c
         subst e1 e2
         have t1 : W0.cell? (ad1.add (0 * 31)) = some (.int .i64 a.tag) := by
          have := q1 0 (.int .i64 a.tag) (by rw [hx]; rfl)
          exact this
         have t2 : W0.cell? (ad2.add (0 * 31)) = some (.int .i64 b.tag) := by
          have := q2 0 (.int .i64 b.tag) (by rw [hy]; rfl)
          exact this
         rw [Nat.zero_mul] at t1 t2
         have z1 : ad1.add 0 = ad1 := rfl
         have z2 : ad2.add 0 = ad2 := rfl
         rw [z1] at t1
         rw [z2] at t2
         obtain ⟨q, hq⟩ : ∃ q, (b.tag == a.tag) = q := ⟨_, rfl⟩
         rw [hq] at HQ2
         clear q1 q2 HQ hx hy
         generalize a.tag = ta at *
         generalize b.tag = tb at *
         go_upto_region 5 with fail
         go_quiet (fail)
         go_wp2
         go_ret
         exact ⟨ret_bool HQ2.out.symm, by rw [HN.out]; exact below_drewN' H0.out.1 _⟩
   · have hl' : ((ny : Int) != (nx : Int)) = true := by simp; omega
     have HQ2 : Hid (r = false) := Lib.hid (by rw [HQ.out, HNX.out, HNY.out, decide_eq_false hl]; rfl)
     go_wp2
     go_ret
     exact ⟨ret_bool HQ2.out.symm, by rw [HN.out]; exact H0.out.1⟩
theorem enters_to {f : Nat} {fn : Func} {c : Code} (hf : Tryz.prog.funcs[f]? = some fn) (hn : (fn.name == "runtime.NumGoroutine") = false) (hb : fn.body = some c) : ∀ args w, (callFunc f args).run Tryz.prog w = .ok (.enter f args) w := enters_of hf hn hb
set_option maxHeartbeats 800000 in
theorem juWithinT1_any (gb : Nat) (A : Option Addr) (n c : Nat) (s : ByteArray) (L : List ByteArray) (w : World) (h : TextsV w w.heap.size (.slice A n c) L) (hn : L.length = n) (hl : n ≤ 4611686018427387904) (hc : w.cell? ⟨gb, 0, none⟩ = some (.slice A n c)) :
 Calls Tryz.prog 102 #[.string s, .pointer (some ⟨gb, 0, none⟩)] w fun e w' => e = .returned (.bool (!inT L s)) ∧ Below w.heap.size w w' := by
 have HC := Lib.hid (hasT_any A n c s L w h hn hl)
 rw [inT_any] at HC
 have HB : Hid (Below w.heap.size w w) := Lib.hid (Below.refl _ _)
 clear h
 generalize inT L s = r at *
 go_enter Tryz.func102, Tryz.ntmps102
 go_wp2_with (go_at_call 36; (with_reducible refine HC.out.mono ?_); rintro e w2 ⟨rfl, rfl⟩)
 go_ret
 exact ⟨rfl, HB.out⟩
theorem all_not_any {α : Type} (q : α → Bool) : ∀ L : List α, (!L.any fun x => !q x) = L.all q
 | [] => rfl
 | a :: L => by rw [List.any_cons, List.all_cons, ← all_not_any q L]; cases q a <;> simp
set_option maxHeartbeats 1600000 in
theorem juWithinT_any (A : Option Addr) (n c : Nat) (B : Option Addr) (m k : Nat) (L M : List ByteArray) (w : World) (h : TextsV w w.heap.size (.slice A n c) L) (hn : L.length = n) (hl : n ≤ 4611686018427387904) (h2 : TextsV w w.heap.size (.slice B m k) M) (hm : M.length = m) (hl2 : m ≤ 4611686018427387904) :
 Calls Tryz.prog 82 #[.slice A n c, .slice B m k] w fun e w' => e = .returned (.bool (L.all (inT M))) ∧ Below w.heap.size w w' := by
 have hb0 : Below w.heap.size w (w.alloc (.cells #[.slice B m k] 23)) := (Below.refl _ w).alloc (Nat.le_refl _) _
 have hw := Whole.new w 23 #[.slice B m k]
 have HC := Lib.hid (containsSF_any A n c L (fun s => !inT M s) 102 #[.pointer (some ⟨w.heap.size, 0, none⟩)] (w.alloc (.cells #[.slice B m k] 23)) ((h.below hb0).more hb0.size) hn hl (enters_to Tryz.func102 (by kernel_rfl) rfl) (fun W x hW _ => by
  have hb := hb0.trans (hW.mono hb0.size)
  exact juWithinT1_any w.heap.size B m k x M W ((h2.below hb).more hb.size) hm hl2 ((hw.under hW).cell 0)))
 have HB := Lib.hid hb0
 have HR : Hid ((!L.any fun s => !inT M s) = L.all (inT M)) := Lib.hid (all_not_any _ _)
 clear h h2 hb0 hw
 generalize (L.any fun s => !inT M s) = r at *
 generalize L.all (inT M) = r2 at *
 go_enter Tryz.func82, Tryz.ntmps82
 go_upto_region 1 with fail
 generalize (w.alloc (.cells #[.slice B m k] 23)) = W at *
 go_wp2_with (go_at_call 101; (with_reducible refine HC.out.mono ?_); rintro e w2 ⟨rfl, hb2⟩)
 go_ret
 exact ⟨ret_bool HR.out, HB.out.trans (hb2.mono HB.out.size)⟩
set_option maxHeartbeats 1600000 in
set_option maxRecDepth 100000 in
theorem atE_any (A : Option Addr) (n c : Nat) (s : ExtS) (L : List ExtS) (w : World) (h : ExtsV w w.heap.size (.slice A n c) L) (hn : L.length = n) (hl : n ≤ 4611686018427387904) :
 Calls Tryz.prog 117 #[.slice A n c, .agg #[.int .i64 s.id, .string s.uri]] w fun e w' => ∃ r : Int, e = .returned (.int .i64 r) ∧ decide (0 ≤ r) = extIn L s ∧ Below w.heap.size w w' := by
 have hb0 : Below w.heap.size w (w.alloc (.cells #[.int .i64 s.id, .string s.uri] 56)) := (Below.refl _ w).alloc (Nat.le_refl _) _
 have hw := Whole.new w 56 #[.int .i64 s.id, .string s.uri]
 have HE := Lib.hid hn
 obtain ⟨q, hq⟩ : ∃ q : ExtS → Bool, (fun z : ExtS => s.id == z.id && s.uri.toList == z.uri.toList) = q := ⟨_, rfl⟩
 have HR : Hid (extIn L s = L.any q) := Lib.hid (by
  unfold extIn
  rw [← hq]
  congr 1
  funext z
  rw [Bool.beq_comm (a := z.id), Bool.beq_comm (a := z.uri.toList)])
 have HEQ : Hid (∀ (u : ExtS) W, (Op.equalIn 10000 56 (.agg #[.int .i64 s.id, .string s.uri]) (.agg #[.int .i64 u.id, .string u.uri])).run Tryz.prog W = .ok (q u) W) := Lib.hid fun u W => by rw [ext_eq, ← hq]
 rw [HR.out]
 have hgd := ext_guard
 have HA : Hid (∀ W, Below w.heap.size w W → ExtsV W w.heap.size (.slice A n c) L) := Lib.hid fun W hW => h.below hW
 have H0 := Lib.hid (And.intro hb0 hw)
 obtain ⟨N, hN⟩ : ∃ N, w.heap.size = N := ⟨_, rfl⟩
 rw [hN] at H0 HA
 have HN := Lib.hid hN
 clear h hn hq hb0 hw hN HR
 go_enter Tryz.func117, Tryz.ntmps117
 go_upto_region 1 with fail
 simp only [HN.out]
 generalize (w.alloc (.cells #[.int .i64 s.id, .string s.uri] 56)) = W0 at *
 go_wp2
 go_loopw [8] (fun s8 wr => ∃ k : Nat, k ≤ n ∧ s8 = .int .i64 k ∧ (∀ j, j < k → q (L.getD j default) = false) ∧ Below W0.heap.size W0 wr) (fun s8 _ => n - (intOf s8).toNat)
 case atStart => exact ⟨0, by omega, rfl, (fun j hj => by omega), Below.refl _ _⟩
 case round =>
  obtain ⟨k, hk, rfl, hno, hb⟩ := hrel
  have HNO := Lib.hid (And.intro hno hb)
  have HBN : Hid (Below N w wr) := Lib.hid (H0.out.1.trans (hb.mono (Nat.le_of_lt H0.out.2.lt)))
  have b0 : wr.cell? ⟨N, 0, none⟩ = some (.int .i64 s.id) := (H0.out.2.under hb).cell 0
  have b1 : wr.cell? ⟨N, 1, none⟩ = some (.string s.uri) := (H0.out.2.under hb).cell 1
  clear hno hb
  by_cases hlt : k < n
  · have hlt' : k < L.length := by rw [HE.out]; exact hlt
    obtain ⟨ad, c', e1, had, c0, c1⟩ := (HA.out wr HBN.out).at_ hlt'
    injection e1 with e1 e1n e1c
    clear e1n e1c
    subst e1
    obtain ⟨x, hx⟩ : ∃ x, L.getD k default = x := ⟨_, rfl⟩
    rw [hx] at c0 c1
    have HX := Lib.hid (And.intro hx hlt')
    have hq := HEQ.out x
    obtain ⟨b, hbb⟩ : ∃ b, q x = b := ⟨_, rfl⟩
    rw [hbb] at hq
    have HBT := Lib.hid hbb
    clear hx hlt' had hbb
    have hk0 : (0 : Int) ≤ (k : Int) := by omega
    have hk1 : (k : Int) < (n : Int) := by omega
    cases b with
    | true =>
      go_upto_region 4 with fail
      go_quiet (fail)
      go_wp2
      go_ret
      exact ⟨_, rfl, by rw [any_yes HX.out.2 (by rw [HX.out.1]; exact HBT.out)]; exact decide_eq_true hk0, by rw [HN.out]; exact below_drewN' HBN.out _⟩
    | false =>
      go_upto_region 4 with fail
      go_quiet (fail)
      go_wp2
      go_roundw
      case rel =>
       refine ⟨k + 1, by omega, by go_num, fun j hj => ?_, below_drewN' HNO.out.2 _⟩
       by_cases e : j = k
       · subst e
         rw [HX.out.1]
         exact HBT.out
       · exact HNO.out.1 j (by omega)
      case measure => simp [intOf]; omega
  · have e : k = n := by omega
    subst e
    have HN2 : Hid (L.any q = false) := Lib.hid (any_no HE.out HNO.out.1)
    go_wp2
    go_ret
    exact ⟨_, rfl, by rw [HN2.out]; rfl, by rw [HN.out]; exact HBN.out⟩
set_option maxHeartbeats 800000 in
theorem hasE_any (A : Option Addr) (n c : Nat) (s : ExtS) (L : List ExtS) (w : World) (h : ExtsV w w.heap.size (.slice A n c) L) (hn : L.length = n) (hl : n ≤ 4611686018427387904) :
 Calls Tryz.prog 105 #[.slice A n c, .agg #[.int .i64 s.id, .string s.uri]] w fun e w' => e = .returned (.bool (extIn L s)) ∧ Below w.heap.size w w' := by
 have hb0 : Below w.heap.size w (w.alloc (.cells #[.int .i64 s.id, .string s.uri] 56)) := (Below.refl _ w).alloc (Nat.le_refl _) _
 have hw := Whole.new w 56 #[.int .i64 s.id, .string s.uri]
 have c0 : (w.alloc (.cells #[.int .i64 s.id, .string s.uri] 56)).cell? ⟨w.heap.size, 0, none⟩ = some (.int .i64 s.id) := hw.cell 0
 have c1 : (w.alloc (.cells #[.int .i64 s.id, .string s.uri] 56)).cell? ⟨w.heap.size, 1, none⟩ = some (.string s.uri) := hw.cell 1
 have HC := Lib.hid (atE_any A n c s L (w.alloc (.cells #[.int .i64 s.id, .string s.uri] 56)) ((h.below hb0).more hb0.size) hn hl)
 have HB := Lib.hid hb0
 clear h hb0 hw
 generalize extIn L s = r at *
 go_enter Tryz.func105, Tryz.ntmps105
 go_upto_region 1 with fail
 generalize (w.alloc (.cells #[.int .i64 s.id, .string s.uri] 56)) = W at *
 go_wp2_with (go_at_call 117; (with_reducible refine HC.out.mono ?_); rintro e w2 ⟨i, rfl, hi, hb2⟩)
 go_ret
 first | exact ⟨rfl, HB.out.trans (hb2.mono HB.out.size)⟩ | exact ⟨ret_bool hi, HB.out.trans (hb2.mono HB.out.size)⟩
set_option maxHeartbeats 800000 in
theorem juWithinE1_any (gb : Nat) (A : Option Addr) (n c : Nat) (s : ExtS) (L : List ExtS) (w : World) (h : ExtsV w w.heap.size (.slice A n c) L) (hn : L.length = n) (hl : n ≤ 4611686018427387904) (hc : w.cell? ⟨gb, 0, none⟩ = some (.slice A n c)) :
 Calls Tryz.prog 104 #[.agg #[.int .i64 s.id, .string s.uri], .pointer (some ⟨gb, 0, none⟩)] w fun e w' => e = .returned (.bool (!extIn L s)) ∧ Below w.heap.size w w' := by
 have hb0 : Below w.heap.size w (w.alloc (.cells #[.int .i64 s.id, .string s.uri] 56)) := (Below.refl _ w).alloc (Nat.le_refl _) _
 have hw := Whole.new w 56 #[.int .i64 s.id, .string s.uri]
 have c0 : (w.alloc (.cells #[.int .i64 s.id, .string s.uri] 56)).cell? ⟨w.heap.size, 0, none⟩ = some (.int .i64 s.id) := hw.cell 0
 have c1 : (w.alloc (.cells #[.int .i64 s.id, .string s.uri] 56)).cell? ⟨w.heap.size, 1, none⟩ = some (.string s.uri) := hw.cell 1
 have c2 : (w.alloc (.cells #[.int .i64 s.id, .string s.uri] 56)).cell? ⟨gb, 0, none⟩ = some (.slice A n c) := (hb0.cell (p := ⟨gb, 0, none⟩) (block_lt_of_cell hc)).trans hc
 have HC := Lib.hid (hasE_any A n c s L (w.alloc (.cells #[.int .i64 s.id, .string s.uri] 56)) ((h.below hb0).more hb0.size) hn hl)
 have HB := Lib.hid hb0
 clear h hb0 hw hc
 generalize extIn L s = r at *
 go_enter Tryz.func104, Tryz.ntmps104
 go_upto_region 1 with fail
 generalize (w.alloc (.cells #[.int .i64 s.id, .string s.uri] 56)) = W at *
 go_wp2_with (go_at_call 105; (with_reducible refine HC.out.mono ?_); rintro e w2 ⟨rfl, hb2⟩)
 go_ret
 exact ⟨rfl, HB.out.trans (hb2.mono HB.out.size)⟩
set_option maxHeartbeats 1600000 in
theorem juWithinE_any (A : Option Addr) (n c : Nat) (B : Option Addr) (m k : Nat) (L M : List ExtS) (w : World) (h : ExtsV w w.heap.size (.slice A n c) L) (hn : L.length = n) (hl : n ≤ 4611686018427387904) (h2 : ExtsV w w.heap.size (.slice B m k) M) (hm : M.length = m) (hl2 : m ≤ 4611686018427387904) :
 Calls Tryz.prog 83 #[.slice A n c, .slice B m k] w fun e w' => e = .returned (.bool (L.all (extIn M))) ∧ Below w.heap.size w w' := by
 have hb0 : Below w.heap.size w (w.alloc (.cells #[.slice B m k] 40)) := (Below.refl _ w).alloc (Nat.le_refl _) _
 have hw := Whole.new w 40 #[.slice B m k]
 have HC := Lib.hid (containsEF_any A n c L (fun s => !extIn M s) 104 #[.pointer (some ⟨w.heap.size, 0, none⟩)] (w.alloc (.cells #[.slice B m k] 40)) ((h.below hb0).more hb0.size) hn hl (enters_to Tryz.func104 (by kernel_rfl) rfl) (fun W x hW _ => by
  have hb := hb0.trans (hW.mono hb0.size)
  exact juWithinE1_any w.heap.size B m k x M W ((h2.below hb).more hb.size) hm hl2 ((hw.under hW).cell 0)))
 have HB := Lib.hid hb0
 have HR : Hid ((!L.any fun s => !extIn M s) = L.all (extIn M)) := Lib.hid (all_not_any _ _)
 clear h h2 hb0 hw
 generalize (L.any fun s => !extIn M s) = r at *
 generalize L.all (extIn M) = r2 at *
 go_enter Tryz.func83, Tryz.ntmps83
 go_upto_region 1 with fail
 generalize (w.alloc (.cells #[.slice B m k] 40)) = W at *
 go_wp2_with (go_at_call 103; (with_reducible refine HC.out.mono ?_); rintro e w2 ⟨rfl, hb2⟩)
 go_ret
 exact ⟨ret_bool HR.out, HB.out.trans (hb2.mono HB.out.size)⟩
set_option maxHeartbeats 1600000 in
set_option maxRecDepth 100000 in
theorem juExts_any (X Y : Array Value) (x y : MediaS) (vC vE vR vS vY uC uE uR uS uY : Value) (w : World) (h1 : MediaV w w.heap.size X x vC vE vR vS vY) (h2 : MediaV w w.heap.size Y y uC uE uR uS uY) (hzx : SizM x) (hzy : SizM y) :
 Calls Tryz.prog 43 #[.agg X, .agg Y] w fun e w' => e = .returned (.bool (exts5 x y)) ∧ Below w.heap.size w w' := by
 obtain ⟨hb0, hbx, hby⟩ := two_boxes w 44 X Y
 obtain ⟨AX, cX, rfl, hcX, hmX, -⟩ := Rows.form h1.exts
 obtain ⟨AY, cY, rfl, hcY, hmY, -⟩ := Rows.form h2.exts
 obtain ⟨nx, hnx⟩ : ∃ n, x.exts.length = n := ⟨_, rfl⟩
 obtain ⟨ny, hny⟩ : ∃ n, y.exts.length = n := ⟨_, rfl⟩
 rw [hnx] at h1 hcX
 rw [hny] at h2 hcY
 have HNX := Lib.hid hnx
 have HNY := Lib.hid hny
 have hcx : nx ≤ 4611686018427387904 := by have := hzx.counts; omega
 have hcy : ny ≤ 4611686018427387904 := by have := hzy.counts; omega
 clear hnx hny
 have hx5 : X[5]? = some (.slice AX nx cX) := by rw [h1.form]; rfl
 have hy5 : Y[5]? = some (.slice AY ny cY) := by rw [h2.form]; rfl
 have HX5 := Lib.hid hx5
 have HY5 := Lib.hid hy5
 obtain ⟨N, hN⟩ : ∃ N, w.heap.size = N := ⟨_, rfl⟩
 have H0 := Lib.hid (And.intro hb0 (And.intro hbx hby))
 have HV := Lib.hid (And.intro h1 h2)
 have HSZ : Hid ((X.size = 11 ∧ X.toList.all (·.oneCell') = true) ∧ Y.size = 11 ∧ Y.toList.all (·.oneCell') = true) := Lib.hid ⟨⟨h1.size, h1.one⟩, h2.size, h2.one⟩
 rw [hN] at H0 HV
 have HN := Lib.hid hN
 clear h1 h2 hb0 hbx hby hN hx5 hy5
 have HR : Hid (exts5 x y = y.exts.all (extIn x.exts)) := Lib.hid (exts5_in x y)
 generalize exts5 x y = r at *
 go_enter Tryz.func43, Tryz.ntmps43
 go_upto_region 1 with fail
 simp only [HN.out, Nat.add_assoc, Nat.reduceAdd]
 generalize ((w.alloc (.cells X 44)).alloc (.cells Y 44)) = W0 at *
 have cx5 : W0.cell? ⟨N, 5, none⟩ = some (.slice AX nx cX) := (H0.out.2.1.cell 5).trans HX5.out
 have cy5 : W0.cell? ⟨N + 1, 5, none⟩ = some (.slice AY ny cY) := (H0.out.2.2.cell 5).trans HY5.out
 have HC : Hid (Calls Tryz.prog 83 #[.slice AY ny cY, .slice AX nx cX] W0 fun e w' => e = .returned (.bool r) ∧ Below W0.heap.size W0 w') := Lib.hid (by
  rw [HR.out]
  exact juWithinE_any AY ny cY AX nx cX y.exts x.exts W0 ((HV.out.2.exts.below H0.out.1).more (Nat.le_of_lt H0.out.2.1.lt)) HNY.out hcy ((HV.out.1.exts.below H0.out.1).more (Nat.le_of_lt H0.out.2.1.lt)) HNX.out hcx)
 go_wp2_with (go_at_call 83; (with_reducible refine HC.out.mono ?_); rintro e w1 ⟨rfl, hb1⟩)
 go_ret
 exact ⟨rfl, by rw [HN.out]; exact H0.out.1.trans (hb1.mono (Nat.le_of_lt H0.out.2.1.lt))⟩
set_option maxHeartbeats 1600000 in
set_option maxRecDepth 100000 in
theorem juRids_any (X Y : Array Value) (x y : MediaS) (vC vE vR vS vY uC uE uR uS uY : Value) (w : World) (h1 : MediaV w w.heap.size X x vC vE vR vS vY) (h2 : MediaV w w.heap.size Y y uC uE uR uS uY) (hzx : SizM x) (hzy : SizM y) :
 Calls Tryz.prog 45 #[.agg X, .agg Y] w fun e w' => e = .returned (.bool (ridsJ x y)) ∧ Below w.heap.size w w' := by
 obtain ⟨hb0, hbx, hby⟩ := two_boxes w 44 X Y
 obtain ⟨AX, cX, rfl, hcX, hmX, -⟩ := Rows.form h1.rids
 obtain ⟨AY, cY, rfl, hcY, hmY, -⟩ := Rows.form h2.rids
 obtain ⟨nx, hnx⟩ : ∃ n, x.rids.length = n := ⟨_, rfl⟩
 obtain ⟨ny, hny⟩ : ∃ n, y.rids.length = n := ⟨_, rfl⟩
 rw [hnx] at h1 hcX
 rw [hny] at h2 hcY
 have HNX := Lib.hid hnx
 have HNY := Lib.hid hny
 have hcx : nx ≤ 4611686018427387904 := by have := hzx.counts; omega
 have hcy : ny ≤ 4611686018427387904 := by have := hzy.counts; omega
 clear hnx hny
 have hx6 : X[6]? = some (.slice AX nx cX) := by rw [h1.form]; rfl
 have hx7 : X[7]? = some (.bool x.sending) := by rw [h1.form]; rfl
 have hy6 : Y[6]? = some (.slice AY ny cY) := by rw [h2.form]; rfl
 have hy7 : Y[7]? = some (.bool y.sending) := by rw [h2.form]; rfl
 have HX6 := Lib.hid hx6
 have HX7 := Lib.hid hx7
 have HY6 := Lib.hid hy6
 have HY7 := Lib.hid hy7
 obtain ⟨N, hN⟩ : ∃ N, w.heap.size = N := ⟨_, rfl⟩
 have H0 := Lib.hid (And.intro hb0 (And.intro hbx hby))
 have HV := Lib.hid (And.intro h1 h2)
 have HSZ : Hid ((X.size = 11 ∧ X.toList.all (·.oneCell') = true) ∧ Y.size = 11 ∧ Y.toList.all (·.oneCell') = true) := Lib.hid ⟨⟨h1.size, h1.one⟩, h2.size, h2.one⟩
 rw [hN] at H0 HV
 have HN := Lib.hid hN
 clear h1 h2 hb0 hbx hby hN hx6 hx7 hy6 hy7
 have HR : Hid (ridsJ x y = (y.rids.isEmpty || (y.rids.all (inT x.rids) && (y.sending != x.sending)))) := Lib.hid rfl
 generalize ridsJ x y = r at *
 go_enter Tryz.func45, Tryz.ntmps45
 go_upto_region 1 with fail
 simp only [HN.out, Nat.add_assoc, Nat.reduceAdd]
 generalize ((w.alloc (.cells X 44)).alloc (.cells Y 44)) = W0 at *
 have cx6 : W0.cell? ⟨N, 6, none⟩ = some (.slice AX nx cX) := (H0.out.2.1.cell 6).trans HX6.out
 have cx7 : W0.cell? ⟨N, 7, none⟩ = some (.bool x.sending) := (H0.out.2.1.cell 7).trans HX7.out
 have cy6 : W0.cell? ⟨N + 1, 6, none⟩ = some (.slice AY ny cY) := (H0.out.2.2.cell 6).trans HY6.out
 have cy7 : W0.cell? ⟨N + 1, 7, none⟩ = some (.bool y.sending) := (H0.out.2.2.cell 7).trans HY7.out
 have HC : Hid (Calls Tryz.prog 82 #[.slice AY ny cY, .slice AX nx cX] W0 fun e w' => e = .returned (.bool (y.rids.all (inT x.rids))) ∧ Below W0.heap.size W0 w') := Lib.hid (juWithinT_any AY ny cY AX nx cX y.rids x.rids W0 ((HV.out.2.rids.below H0.out.1).more (Nat.le_of_lt H0.out.2.1.lt)) HNY.out hcy ((HV.out.1.rids.below H0.out.1).more (Nat.le_of_lt H0.out.2.1.lt)) HNX.out hcx)
 have HS : Hid (∀ W, Below W0.heap.size W0 W → W.cell? ⟨N, 7, none⟩ = some (.bool x.sending) ∧ W.cell? ⟨N + 1, 7, none⟩ = some (.bool y.sending)) := Lib.hid fun W hW => ⟨((H0.out.2.1.under hW).cell 7).trans HX7.out, ((H0.out.2.2.under hW).cell 7).trans HY7.out⟩
 cases hl : y.rids with
 | nil =>
   have h0 : ny = 0 := by rw [← HNY.out, hl]; rfl
   have HQ : Hid (r = true) := Lib.hid (by rw [HR.out, hl]; rfl)
   subst h0
   clear HR hl
   go_wp2
   go_ret
   exact ⟨ret_bool HQ.out.symm, by rw [HN.out]; exact H0.out.1⟩
 | cons a l =>
   have hk0 : ((ny : Int) == 0) = false := by rw [beq_eq_false_iff_ne, ← HNY.out, hl]; simp; omega
   have HQ : Hid (r = (y.rids.all (inT x.rids) && (y.sending != x.sending))) := Lib.hid (by rw [HR.out, hl]; rfl)
   clear HR hl
   generalize y.rids.all (inT x.rids) = b at *
   generalize y.sending = sy at *
   generalize x.sending = sx at *
   cases b with
   | false =>
     go_wp2_with (go_at_call 82; (with_reducible refine HC.out.mono ?_); rintro e w1 ⟨rfl, hb1⟩)
     go_ret
     exact ⟨ret_bool (by rw [HQ.out]; rfl), by rw [HN.out]; exact H0.out.1.trans (hb1.mono (Nat.le_of_lt H0.out.2.1.lt))⟩
   | true =>
     go_wp2_with (go_at_call 82; (with_reducible refine HC.out.mono ?_); rintro e w1 ⟨rfl, hb1⟩; have s1 := (HS.out w1 hb1).1; have s2 := (HS.out w1 hb1).2)
     go_ret
     exact ⟨ret_bool (by rw [HQ.out]; rfl), by rw [HN.out]; exact H0.out.1.trans (hb1.mono (Nat.le_of_lt H0.out.2.1.lt))⟩
set_option maxHeartbeats 3200000 in
set_option maxRecDepth 100000 in
theorem juDir_any (X Y : Array Value) (x y : MediaS) (vC vE vR vS vY uC uE uR uS uY : Value) (w : World) (h1 : MediaV w w.heap.size X x vC vE vR vS vY) (h2 : MediaV w w.heap.size Y y uC uE uR uS uY) (hdx : 0 ≤ x.dir ∧ x.dir ≤ 3) (hdy : 0 ≤ y.dir ∧ y.dir ≤ 3) :
 Calls Tryz.prog 44 #[.agg X, .agg Y] w fun e w' => e = .returned (.bool (dirJ x y)) ∧ Below w.heap.size w w' := by
 obtain ⟨hb0, hbx, hby⟩ := two_boxes w 44 X Y
 have hx3 : X[3]? = some (.int .i64 x.dir) := by rw [h1.form]; rfl
 have hy3 : Y[3]? = some (.int .i64 y.dir) := by rw [h2.form]; rfl
 have HX3 := Lib.hid hx3
 have HY3 := Lib.hid hy3
 obtain ⟨N, hN⟩ : ∃ N, w.heap.size = N := ⟨_, rfl⟩
 have H0 := Lib.hid (And.intro hb0 (And.intro hbx hby))
 have HV := Lib.hid (And.intro h1 h2)
 have HSZ : Hid ((X.size = 11 ∧ X.toList.all (·.oneCell') = true) ∧ Y.size = 11 ∧ Y.toList.all (·.oneCell') = true) := Lib.hid ⟨⟨h1.size, h1.one⟩, h2.size, h2.one⟩
 rw [hN] at H0 HV
 have HN := Lib.hid hN
 clear h1 h2 hb0 hbx hby hN hx3 hy3
 obtain ⟨a1, ha1⟩ : ∃ b, hasW y.dir 1 = b := ⟨_, rfl⟩
 obtain ⟨o2, ho2⟩ : ∃ b, hasW x.dir 2 = b := ⟨_, rfl⟩
 obtain ⟨a2, ha2⟩ : ∃ b, hasW y.dir 2 = b := ⟨_, rfl⟩
 obtain ⟨o1, ho1⟩ : ∃ b, hasW x.dir 1 = b := ⟨_, rfl⟩
 have HE := Lib.hid (And.intro ha1 (And.intro ho2 (And.intro ha2 ho1)))
 have HQ : Hid (dirJ x y = ((!a1 || o2) && (!a2 || o1))) := Lib.hid (by unfold dirJ; rw [ha1, ho2, ha2, ho1])
 generalize dirJ x y = r at *
 clear ha1 ho2 ha2 ho1
 go_enter Tryz.func44, Tryz.ntmps44
 go_upto_region 1 with fail
 simp only [HN.out, Nat.add_assoc, Nat.reduceAdd]
 generalize ((w.alloc (.cells X 44)).alloc (.cells Y 44)) = W0 at *
 have cx3 : W0.cell? ⟨N, 3, none⟩ = some (.int .i64 x.dir) := (H0.out.2.1.cell 3).trans HX3.out
 have cy3 : W0.cell? ⟨N + 1, 3, none⟩ = some (.int .i64 y.dir) := (H0.out.2.2.cell 3).trans HY3.out
 have HA1 : Hid (∀ W, Calls Tryz.prog 84 #[.agg Y, .int .i64 1] W fun e w' => e = .returned (.bool a1) ∧ Below W.heap.size W w') := Lib.hid fun W => by rw [← HE.out.1]; exact juHas_any Y y.dir 1 W HY3.out hdy.1 hdy.2 (.inl rfl)
 have HO2 : Hid (∀ W, Calls Tryz.prog 84 #[.agg X, .int .i64 2] W fun e w' => e = .returned (.bool o2) ∧ Below W.heap.size W w') := Lib.hid fun W => by rw [← HE.out.2.1]; exact juHas_any X x.dir 2 W HX3.out hdx.1 hdx.2 (.inr rfl)
 have HA2 : Hid (∀ W, Calls Tryz.prog 84 #[.agg Y, .int .i64 2] W fun e w' => e = .returned (.bool a2) ∧ Below W.heap.size W w') := Lib.hid fun W => by rw [← HE.out.2.2.1]; exact juHas_any Y y.dir 2 W HY3.out hdy.1 hdy.2 (.inr rfl)
 have HO1 : Hid (∀ W, Calls Tryz.prog 84 #[.agg X, .int .i64 1] W fun e w' => e = .returned (.bool o1) ∧ Below W.heap.size W w') := Lib.hid fun W => by rw [← HE.out.2.2.2]; exact juHas_any X x.dir 1 W HX3.out hdx.1 hdx.2 (.inl rfl)
 clear cx3 cy3
 cases a1 with
 | false =>
   cases a2 with
   | false =>
     go_wp2_with (first | ((with_reducible refine wpList_load_allG ?_ 44 (.tmp 2) ?_ H2.out.2.1 ?_ Tryz.sizeMedia HSZ.out.1.1 Tryz.underlying44 rfl ?_); rfl; (with_reducible rfl); rfl) | ((with_reducible refine wpList_load_allG ?_ 44 (.tmp 3) ?_ H2.out.2.2 ?_ Tryz.sizeMedia HSZ.out.2.1 Tryz.underlying44 rfl ?_); rfl; (with_reducible rfl); rfl) | ((with_reducible refine wpList_load_allG ?_ 44 (.tmp 2) ?_ H1.out.2.1 ?_ Tryz.sizeMedia HSZ.out.1.1 Tryz.underlying44 rfl ?_); rfl; (with_reducible rfl); rfl) | ((with_reducible refine wpList_load_allG ?_ 44 (.tmp 3) ?_ H1.out.2.2 ?_ Tryz.sizeMedia HSZ.out.2.1 Tryz.underlying44 rfl ?_); rfl; (with_reducible rfl); rfl) | ((with_reducible refine wpList_load_allG ?_ 44 (.tmp 2) ?_ H0.out.2.1 ?_ Tryz.sizeMedia HSZ.out.1.1 Tryz.underlying44 rfl ?_); rfl; (with_reducible rfl); rfl) | ((with_reducible refine wpList_load_allG ?_ 44 (.tmp 3) ?_ H0.out.2.2 ?_ Tryz.sizeMedia HSZ.out.2.1 Tryz.underlying44 rfl ?_); rfl; (with_reducible rfl); rfl) | (go_at_call 84; (with_reducible refine (HA2.out _).mono ?_); rintro e w2 ⟨rfl, hb2⟩; have H2 : Hid (Below N w w2 ∧ Whole w2 N 44 X ∧ Whole w2 (N + 1) 44 Y) := Lib.hid ⟨H1.out.1.trans (hb2.mono (Nat.le_of_lt H1.out.2.1.lt)), H1.out.2.1.under hb2, H1.out.2.2.under hb2⟩; clear hb2) | (go_at_call 84; (with_reducible refine (HA1.out _).mono ?_); rintro e w1 ⟨rfl, hb1⟩; have H1 : Hid (Below N w w1 ∧ Whole w1 N 44 X ∧ Whole w1 (N + 1) 44 Y) := Lib.hid ⟨H0.out.1.trans (hb1.mono (Nat.le_of_lt H0.out.2.1.lt)), H0.out.2.1.under hb1, H0.out.2.2.under hb1⟩; clear hb1))
     go_ret
     exact ⟨ret_bool (by rw [HQ.out]; rfl), by rw [HN.out]; exact H2.out.1⟩
   | true =>
     go_wp2_with (first | ((with_reducible refine wpList_load_allG ?_ 44 (.tmp 2) ?_ H3.out.2.1 ?_ Tryz.sizeMedia HSZ.out.1.1 Tryz.underlying44 rfl ?_); rfl; (with_reducible rfl); rfl) | ((with_reducible refine wpList_load_allG ?_ 44 (.tmp 3) ?_ H3.out.2.2 ?_ Tryz.sizeMedia HSZ.out.2.1 Tryz.underlying44 rfl ?_); rfl; (with_reducible rfl); rfl) | ((with_reducible refine wpList_load_allG ?_ 44 (.tmp 2) ?_ H2.out.2.1 ?_ Tryz.sizeMedia HSZ.out.1.1 Tryz.underlying44 rfl ?_); rfl; (with_reducible rfl); rfl) | ((with_reducible refine wpList_load_allG ?_ 44 (.tmp 3) ?_ H2.out.2.2 ?_ Tryz.sizeMedia HSZ.out.2.1 Tryz.underlying44 rfl ?_); rfl; (with_reducible rfl); rfl) | ((with_reducible refine wpList_load_allG ?_ 44 (.tmp 2) ?_ H1.out.2.1 ?_ Tryz.sizeMedia HSZ.out.1.1 Tryz.underlying44 rfl ?_); rfl; (with_reducible rfl); rfl) | ((with_reducible refine wpList_load_allG ?_ 44 (.tmp 3) ?_ H1.out.2.2 ?_ Tryz.sizeMedia HSZ.out.2.1 Tryz.underlying44 rfl ?_); rfl; (with_reducible rfl); rfl) | ((with_reducible refine wpList_load_allG ?_ 44 (.tmp 2) ?_ H0.out.2.1 ?_ Tryz.sizeMedia HSZ.out.1.1 Tryz.underlying44 rfl ?_); rfl; (with_reducible rfl); rfl) | ((with_reducible refine wpList_load_allG ?_ 44 (.tmp 3) ?_ H0.out.2.2 ?_ Tryz.sizeMedia HSZ.out.2.1 Tryz.underlying44 rfl ?_); rfl; (with_reducible rfl); rfl) | (go_at_call 84; (with_reducible refine (HO1.out _).mono ?_); rintro e w3 ⟨rfl, hb3⟩; have H3 : Hid (Below N w w3 ∧ Whole w3 N 44 X ∧ Whole w3 (N + 1) 44 Y) := Lib.hid ⟨H2.out.1.trans (hb3.mono (Nat.le_of_lt H2.out.2.1.lt)), H2.out.2.1.under hb3, H2.out.2.2.under hb3⟩; clear hb3) | (go_at_call 84; (with_reducible refine (HA2.out _).mono ?_); rintro e w2 ⟨rfl, hb2⟩; have H2 : Hid (Below N w w2 ∧ Whole w2 N 44 X ∧ Whole w2 (N + 1) 44 Y) := Lib.hid ⟨H1.out.1.trans (hb2.mono (Nat.le_of_lt H1.out.2.1.lt)), H1.out.2.1.under hb2, H1.out.2.2.under hb2⟩; clear hb2) | (go_at_call 84; (with_reducible refine (HA1.out _).mono ?_); rintro e w1 ⟨rfl, hb1⟩; have H1 : Hid (Below N w w1 ∧ Whole w1 N 44 X ∧ Whole w1 (N + 1) 44 Y) := Lib.hid ⟨H0.out.1.trans (hb1.mono (Nat.le_of_lt H0.out.2.1.lt)), H0.out.2.1.under hb1, H0.out.2.2.under hb1⟩; clear hb1))
     go_ret
     exact ⟨ret_bool (by rw [HQ.out]; rfl), by rw [HN.out]; exact H3.out.1⟩
 | true =>
   cases o2 with
   | false =>
     go_wp2_with (first | ((with_reducible refine wpList_load_allG ?_ 44 (.tmp 2) ?_ H2.out.2.1 ?_ Tryz.sizeMedia HSZ.out.1.1 Tryz.underlying44 rfl ?_); rfl; (with_reducible rfl); rfl) | ((with_reducible refine wpList_load_allG ?_ 44 (.tmp 3) ?_ H2.out.2.2 ?_ Tryz.sizeMedia HSZ.out.2.1 Tryz.underlying44 rfl ?_); rfl; (with_reducible rfl); rfl) | ((with_reducible refine wpList_load_allG ?_ 44 (.tmp 2) ?_ H1.out.2.1 ?_ Tryz.sizeMedia HSZ.out.1.1 Tryz.underlying44 rfl ?_); rfl; (with_reducible rfl); rfl) | ((with_reducible refine wpList_load_allG ?_ 44 (.tmp 3) ?_ H1.out.2.2 ?_ Tryz.sizeMedia HSZ.out.2.1 Tryz.underlying44 rfl ?_); rfl; (with_reducible rfl); rfl) | ((with_reducible refine wpList_load_allG ?_ 44 (.tmp 2) ?_ H0.out.2.1 ?_ Tryz.sizeMedia HSZ.out.1.1 Tryz.underlying44 rfl ?_); rfl; (with_reducible rfl); rfl) | ((with_reducible refine wpList_load_allG ?_ 44 (.tmp 3) ?_ H0.out.2.2 ?_ Tryz.sizeMedia HSZ.out.2.1 Tryz.underlying44 rfl ?_); rfl; (with_reducible rfl); rfl) | (go_at_call 84; (with_reducible refine (HO2.out _).mono ?_); rintro e w2 ⟨rfl, hb2⟩; have H2 : Hid (Below N w w2 ∧ Whole w2 N 44 X ∧ Whole w2 (N + 1) 44 Y) := Lib.hid ⟨H1.out.1.trans (hb2.mono (Nat.le_of_lt H1.out.2.1.lt)), H1.out.2.1.under hb2, H1.out.2.2.under hb2⟩; clear hb2) | (go_at_call 84; (with_reducible refine (HA1.out _).mono ?_); rintro e w1 ⟨rfl, hb1⟩; have H1 : Hid (Below N w w1 ∧ Whole w1 N 44 X ∧ Whole w1 (N + 1) 44 Y) := Lib.hid ⟨H0.out.1.trans (hb1.mono (Nat.le_of_lt H0.out.2.1.lt)), H0.out.2.1.under hb1, H0.out.2.2.under hb1⟩; clear hb1))
     go_ret
     exact ⟨ret_bool (by rw [HQ.out]; rfl), by rw [HN.out]; exact H2.out.1⟩
   | true =>
     cases a2 with
     | false =>
       go_wp2_with (first | ((with_reducible refine wpList_load_allG ?_ 44 (.tmp 2) ?_ H3.out.2.1 ?_ Tryz.sizeMedia HSZ.out.1.1 Tryz.underlying44 rfl ?_); rfl; (with_reducible rfl); rfl) | ((with_reducible refine wpList_load_allG ?_ 44 (.tmp 3) ?_ H3.out.2.2 ?_ Tryz.sizeMedia HSZ.out.2.1 Tryz.underlying44 rfl ?_); rfl; (with_reducible rfl); rfl) | ((with_reducible refine wpList_load_allG ?_ 44 (.tmp 2) ?_ H2.out.2.1 ?_ Tryz.sizeMedia HSZ.out.1.1 Tryz.underlying44 rfl ?_); rfl; (with_reducible rfl); rfl) | ((with_reducible refine wpList_load_allG ?_ 44 (.tmp 3) ?_ H2.out.2.2 ?_ Tryz.sizeMedia HSZ.out.2.1 Tryz.underlying44 rfl ?_); rfl; (with_reducible rfl); rfl) | ((with_reducible refine wpList_load_allG ?_ 44 (.tmp 2) ?_ H1.out.2.1 ?_ Tryz.sizeMedia HSZ.out.1.1 Tryz.underlying44 rfl ?_); rfl; (with_reducible rfl); rfl) | ((with_reducible refine wpList_load_allG ?_ 44 (.tmp 3) ?_ H1.out.2.2 ?_ Tryz.sizeMedia HSZ.out.2.1 Tryz.underlying44 rfl ?_); rfl; (with_reducible rfl); rfl) | ((with_reducible refine wpList_load_allG ?_ 44 (.tmp 2) ?_ H0.out.2.1 ?_ Tryz.sizeMedia HSZ.out.1.1 Tryz.underlying44 rfl ?_); rfl; (with_reducible rfl); rfl) | ((with_reducible refine wpList_load_allG ?_ 44 (.tmp 3) ?_ H0.out.2.2 ?_ Tryz.sizeMedia HSZ.out.2.1 Tryz.underlying44 rfl ?_); rfl; (with_reducible rfl); rfl) | (go_at_call 84; (with_reducible refine (HA2.out _).mono ?_); rintro e w3 ⟨rfl, hb3⟩; have H3 : Hid (Below N w w3 ∧ Whole w3 N 44 X ∧ Whole w3 (N + 1) 44 Y) := Lib.hid ⟨H2.out.1.trans (hb3.mono (Nat.le_of_lt H2.out.2.1.lt)), H2.out.2.1.under hb3, H2.out.2.2.under hb3⟩; clear hb3) | (go_at_call 84; (with_reducible refine (HO2.out _).mono ?_); rintro e w2 ⟨rfl, hb2⟩; have H2 : Hid (Below N w w2 ∧ Whole w2 N 44 X ∧ Whole w2 (N + 1) 44 Y) := Lib.hid ⟨H1.out.1.trans (hb2.mono (Nat.le_of_lt H1.out.2.1.lt)), H1.out.2.1.under hb2, H1.out.2.2.under hb2⟩; clear hb2) | (go_at_call 84; (with_reducible refine (HA1.out _).mono ?_); rintro e w1 ⟨rfl, hb1⟩; have H1 : Hid (Below N w w1 ∧ Whole w1 N 44 X ∧ Whole w1 (N + 1) 44 Y) := Lib.hid ⟨H0.out.1.trans (hb1.mono (Nat.le_of_lt H0.out.2.1.lt)), H0.out.2.1.under hb1, H0.out.2.2.under hb1⟩; clear hb1))
       go_ret
       exact ⟨ret_bool (by rw [HQ.out]; rfl), by rw [HN.out]; exact H3.out.1⟩
     | true =>
       go_wp2_with (first | ((with_reducible refine wpList_load_allG ?_ 44 (.tmp 2) ?_ H4.out.2.1 ?_ Tryz.sizeMedia HSZ.out.1.1 Tryz.underlying44 rfl ?_); rfl; (with_reducible rfl); rfl) | ((with_reducible refine wpList_load_allG ?_ 44 (.tmp 3) ?_ H4.out.2.2 ?_ Tryz.sizeMedia HSZ.out.2.1 Tryz.underlying44 rfl ?_); rfl; (with_reducible rfl); rfl) | ((with_reducible refine wpList_load_allG ?_ 44 (.tmp 2) ?_ H3.out.2.1 ?_ Tryz.sizeMedia HSZ.out.1.1 Tryz.underlying44 rfl ?_); rfl; (with_reducible rfl); rfl) | ((with_reducible refine wpList_load_allG ?_ 44 (.tmp 3) ?_ H3.out.2.2 ?_ Tryz.sizeMedia HSZ.out.2.1 Tryz.underlying44 rfl ?_); rfl; (with_reducible rfl); rfl) | ((with_reducible refine wpList_load_allG ?_ 44 (.tmp 2) ?_ H2.out.2.1 ?_ Tryz.sizeMedia HSZ.out.1.1 Tryz.underlying44 rfl ?_); rfl; (with_reducible rfl); rfl) | ((with_reducible refine wpList_load_allG ?_ 44 (.tmp 3) ?_ H2.out.2.2 ?_ Tryz.sizeMedia HSZ.out.2.1 Tryz.underlying44 rfl ?_); rfl; (with_reducible rfl); rfl) | ((with_reducible refine wpList_load_allG ?_ 44 (.tmp 2) ?_ H1.out.2.1 ?_ Tryz.sizeMedia HSZ.out.1.1 Tryz.underlying44 rfl ?_); rfl; (with_reducible rfl); rfl) | ((with_reducible refine wpList_load_allG ?_ 44 (.tmp 3) ?_ H1.out.2.2 ?_ Tryz.sizeMedia HSZ.out.2.1 Tryz.underlying44 rfl ?_); rfl; (with_reducible rfl); rfl) | ((with_reducible refine wpList_load_allG ?_ 44 (.tmp 2) ?_ H0.out.2.1 ?_ Tryz.sizeMedia HSZ.out.1.1 Tryz.underlying44 rfl ?_); rfl; (with_reducible rfl); rfl) | ((with_reducible refine wpList_load_allG ?_ 44 (.tmp 3) ?_ H0.out.2.2 ?_ Tryz.sizeMedia HSZ.out.2.1 Tryz.underlying44 rfl ?_); rfl; (with_reducible rfl); rfl) | (go_at_call 84; (with_reducible refine (HO1.out _).mono ?_); rintro e w4 ⟨rfl, hb4⟩; have H4 : Hid (Below N w w4 ∧ Whole w4 N 44 X ∧ Whole w4 (N + 1) 44 Y) := Lib.hid ⟨H3.out.1.trans (hb4.mono (Nat.le_of_lt H3.out.2.1.lt)), H3.out.2.1.under hb4, H3.out.2.2.under hb4⟩; clear hb4) | (go_at_call 84; (with_reducible refine (HA2.out _).mono ?_); rintro e w3 ⟨rfl, hb3⟩; have H3 : Hid (Below N w w3 ∧ Whole w3 N 44 X ∧ Whole w3 (N + 1) 44 Y) := Lib.hid ⟨H2.out.1.trans (hb3.mono (Nat.le_of_lt H2.out.2.1.lt)), H2.out.2.1.under hb3, H2.out.2.2.under hb3⟩; clear hb3) | (go_at_call 84; (with_reducible refine (HO2.out _).mono ?_); rintro e w2 ⟨rfl, hb2⟩; have H2 : Hid (Below N w w2 ∧ Whole w2 N 44 X ∧ Whole w2 (N + 1) 44 Y) := Lib.hid ⟨H1.out.1.trans (hb2.mono (Nat.le_of_lt H1.out.2.1.lt)), H1.out.2.1.under hb2, H1.out.2.2.under hb2⟩; clear hb2) | (go_at_call 84; (with_reducible refine (HA1.out _).mono ?_); rintro e w1 ⟨rfl, hb1⟩; have H1 : Hid (Below N w w1 ∧ Whole w1 N 44 X ∧ Whole w1 (N + 1) 44 Y) := Lib.hid ⟨H0.out.1.trans (hb1.mono (Nat.le_of_lt H0.out.2.1.lt)), H0.out.2.1.under hb1, H0.out.2.2.under hb1⟩; clear hb1))
       go_ret
       exact ⟨ret_bool (by rw [HQ.out]; rfl), by rw [HN.out]; exact H4.out.1⟩
end Go.Proofs.YthpfeihmfmahmaaGreat
