import Derived.Test.YtibpnjakimobmaaGreatPkJudgeTurnedA11
import Derived.Test.YtibpnjakimobmaaGreatPkJudgeTurnedA12
namespace Go.Proofs.YtibpnjakimobmaaGreat
open Go.RowKit
set_option linter.unusedVariables false
set_option linter.unusedSimpArgs false
def IdxF (q : CodecS → Bool) (L : List CodecS) (n : Nat) (r : Int) : Prop :=
 (∃ k : Nat, r = k ∧ k < n ∧ q (L.getD k default) = true ∧ ∀ j, j < k → q (L.getD j default) = false) ∨ (r = -1 ∧ ∀ j, j < n → q (L.getD j default) = false)
set_option maxHeartbeats 1600000 in
set_option maxRecDepth 100000 in
theorem indexCQ_any (A : Option Addr) (n c : Nat) (L : List CodecS) (q : CodecS → Bool) (f : Nat) (cap : Array Value) (w : World) (h : CodecsV w w.heap.size (.slice A n c) L) (hn : L.length = n) (hl : n ≤ 4611686018427387904)
 (eg : ∀ args w, (callFunc f args).run Tryz.prog w = .ok (.enter f args) w) (hp : ∀ (W : World) (x : CodecS) (vf : Value), Below w.heap.size w W → x ∈ L → Calls Tryz.prog f (#[.agg #[.int .i64 x.type, .string x.name, .int .i64 x.clock, .int .i64 x.chans, .string x.format, vf]] ++ cap) W fun e w' => e = .returned (.bool (q x)) ∧ Below W.heap.size W w') :
 Calls Tryz.prog 42 #[.slice A n c, .func (.func f) #[] cap] w fun e w' => ∃ r : Int, e = .returned (.int .i64 r) ∧ IdxF q L n r ∧ Below w.heap.size w w' := by
 have HA := Lib.hid h
 have HP := Lib.hid hp
 have HEG := Lib.hid eg
 have HE := Lib.hid hn
 clear h hn hp eg
 go_enter Tryz.func42, Tryz.ntmps42
 go_wp2
 go_loopw [8] (fun s8 wr => ∃ k : Nat, k ≤ n ∧ s8 = .int .i64 k ∧ (∀ j, j < k → q (L.getD j default) = false) ∧ Below w.heap.size w wr) (fun s8 _ => n - (intOf s8).toNat)
 case atStart => exact ⟨0, by omega, rfl, (fun j hj => by omega), Below.refl _ w⟩
 case round =>
  obtain ⟨k, hk, rfl, hno, hb⟩ := hrel
  have HNO := Lib.hid hno
  clear hno
  by_cases hlt : k < n
  · have hlt' : k < L.length := by rw [HE.out]; exact hlt
    obtain ⟨ad, c', vf, e1, had, c0, c1, c2, c3, c4, c5, -⟩ := (HA.out.below hb).at_ hlt'
    injection e1 with e1 e1n e1c
    clear e1n e1c
    subst e1
    obtain ⟨x, hx⟩ : ∃ x, L.getD k default = x := ⟨_, rfl⟩
    have HM : Hid (x ∈ L) := Lib.hid (by rw [← hx]; exact getD_mem hlt')
    rw [hx] at c0 c1 c2 c3 c4
    have HX := Lib.hid hx
    have HB := Lib.hid (And.intro hb hlt')
    obtain ⟨b, hbb⟩ : ∃ b, q x = b := ⟨_, rfl⟩
    have HS := Lib.hid (HP.out wr x vf hb HM.out)
    rw [hbb] at HS
    have HBT := Lib.hid hbb
    clear hbb hx hb hlt' had
    have hk0 : (0 : Int) ≤ (k : Int) := by omega
    have hk1 : (k : Int) < (n : Int) := by omega
    cases b with
    | true =>
      go_wp2_with ((with_reducible refine wpList_callV1 ?_ (.tmp 11) (.tmp 15) ?_ ?_ ?_ HEG.out HS.out ?_); (with_reducible rfl); (exact ⟨_, rfl⟩); rfl; rfl; rintro e w2 ⟨rfl, hb2⟩; refine ⟨_, rfl, ?_⟩)
      go_ret
      exact ⟨_, rfl, .inl ⟨k, rfl, hlt, by rw [HX.out]; exact HBT.out, HNO.out⟩, HB.out.1.trans (hb2.mono HB.out.1.size)⟩
    | false =>
      go_wp2_with ((with_reducible refine wpList_callV1 ?_ (.tmp 11) (.tmp 15) ?_ ?_ ?_ HEG.out HS.out ?_); (with_reducible rfl); (exact ⟨_, rfl⟩); rfl; rfl; rintro e w2 ⟨rfl, hb2⟩; refine ⟨_, rfl, ?_⟩)
      go_roundw
      case rel =>
       refine ⟨k + 1, by omega, by go_num, fun j hj => ?_, HB.out.1.trans (hb2.mono HB.out.1.size)⟩
       by_cases e : j = k
       · subst e
         rw [HX.out]
         exact HBT.out
       · exact HNO.out j (by omega)
      case measure => simp [intOf]; omega
  · have e : k = n := by omega
    subst e
    have HB := Lib.hid hb
    clear hb
    go_wp2
    go_ret
    exact ⟨_, rfl, .inr ⟨rfl, HNO.out⟩, HB.out⟩
set_option maxHeartbeats 3200000 in
set_option maxRecDepth 100000 in
theorem juAlike_any (X Y : Array Value) (x y : CodecS) (w : World) (hX : X[0]? = some (.int .i64 x.type) ∧ X[1]? = some (.string x.name) ∧ X[2]? = some (.int .i64 x.clock) ∧ X[3]? = some (.int .i64 x.chans) ∧ X[4]? = some (.string x.format)) (hY : Y[0]? = some (.int .i64 y.type) ∧ Y[1]? = some (.string y.name) ∧ Y[2]? = some (.int .i64 y.clock) ∧ Y[3]? = some (.int .i64 y.chans) ∧ Y[4]? = some (.string y.format)) :
 Calls Tryz.prog 44 #[.agg X, .agg Y] w fun e w' => e = .returned (.bool (alike5 x y)) ∧ Below w.heap.size w w' := by
 obtain ⟨hb0, hbx, hby⟩ := two_boxes w 47 X Y
 obtain ⟨N, hN⟩ : ∃ N, w.heap.size = N := ⟨_, rfl⟩
 have H0 := Lib.hid (And.intro hb0 (And.intro hbx hby))
 rw [hN] at H0
 have HN := Lib.hid hN
 obtain ⟨x0, x1, x2, x3, x4⟩ := hX
 obtain ⟨y0, y1, y2, y3, y4⟩ := hY
 have c0 := (hbx.cell 0).trans x0
 have c1 := (hbx.cell 1).trans x1
 have c2 := (hbx.cell 2).trans x2
 have c3 := (hbx.cell 3).trans x3
 have c4 := (hbx.cell 4).trans x4
 have d0 := (hby.cell 0).trans y0
 have d1 := (hby.cell 1).trans y1
 have d2 := (hby.cell 2).trans y2
 have d3 := (hby.cell 3).trans y3
 have d4 := (hby.cell 4).trans y4
 simp only [hN] at c0 c1 c2 c3 c4 d0 d1 d2 d3 d4
 obtain ⟨b0, h0⟩ : ∃ b, (x.type == y.type) = b := ⟨_, rfl⟩
 obtain ⟨b1, h1⟩ : ∃ b, (x.name.toList == y.name.toList) = b := ⟨_, rfl⟩
 obtain ⟨b2, h2⟩ : ∃ b, (x.clock == y.clock) = b := ⟨_, rfl⟩
 obtain ⟨b3, h3⟩ : ∃ b, (x.chans == y.chans) = b := ⟨_, rfl⟩
 obtain ⟨b4, h4⟩ : ∃ b, (x.format.toList == y.format.toList) = b := ⟨_, rfl⟩
 have HQ : Hid (alike5 x y = (b0 && b1 && b2 && b3 && b4)) := Lib.hid (by
  unfold alike5
  rw [← h0, ← h1, ← h2, ← h3, ← h4, toList_tx, toList_tx, toList_tx, toList_tx, Bool.eq_iff_iff]
  simp)
 generalize alike5 x y = r at *
 clear hb0 hbx hby hN x0 x1 x2 x3 x4 y0 y1 y2 y3 y4
 go_enter Tryz.func44, Tryz.ntmps44
 go_upto_region 1 with fail
 simp only [HN.out, Nat.add_assoc, Nat.reduceAdd]
 generalize ((w.alloc (.cells X 47)).alloc (.cells Y 47)) = W0 at *
 cases b0 with
 | false =>
   go_wp2
   go_ret
   exact ⟨ret_bool (by rw [HQ.out]; rfl), by rw [HN.out]; exact H0.out.1⟩
 | true =>
   cases b1 with
   | false =>
     go_wp2
     go_ret
     exact ⟨ret_bool (by rw [HQ.out]; rfl), by rw [HN.out]; exact H0.out.1⟩
   | true =>
     cases b2 with
     | false =>
       go_wp2
       go_ret
       exact ⟨ret_bool (by rw [HQ.out]; rfl), by rw [HN.out]; exact H0.out.1⟩
     | true =>
       cases b3 with
       | false =>
         go_wp2
         go_ret
         exact ⟨ret_bool (by rw [HQ.out]; rfl), by rw [HN.out]; exact H0.out.1⟩
       | true =>
         go_wp2
         go_ret
         exact ⟨ret_bool (by rw [HQ.out]; rfl), by rw [HN.out]; exact H0.out.1⟩
set_option maxHeartbeats 1600000 in
set_option maxRecDepth 100000 in
theorem juCodecs1_any (gb : Nat) (X Y : Array Value) (x y : CodecS) (w : World) (hX : X[0]? = some (.int .i64 x.type) ∧ X[1]? = some (.string x.name) ∧ X[2]? = some (.int .i64 x.clock) ∧ X[3]? = some (.int .i64 x.chans) ∧ X[4]? = some (.string x.format)) (hX6 : X.size = 6) (hY : Y[0]? = some (.int .i64 y.type) ∧ Y[1]? = some (.string y.name) ∧ Y[2]? = some (.int .i64 y.clock) ∧ Y[3]? = some (.int .i64 y.chans) ∧ Y[4]? = some (.string y.format)) (hY6 : Y.size = 6) (hg : Whole w gb 47 Y) :
 Calls Tryz.prog 43 #[.agg X, .pointer (some ⟨gb, 0, none⟩)] w fun e w' => e = .returned (.bool (alike5 x y)) ∧ Below w.heap.size w w' := by
 have hb0 : Below w.heap.size w (w.alloc (.cells X 47)) := (Below.refl _ w).alloc (Nat.le_refl _) _
 have H0 := Lib.hid (And.intro hb0 (And.intro (Whole.new w 47 X) (hg.alloc (.cells X 47))))
 have HC := Lib.hid (juAlike_any X Y x y (w.alloc (.cells X 47)) hX hY)
 clear hb0 hg hX hY
 generalize alike5 x y = r at *
 go_enter Tryz.func43, Tryz.ntmps43
 go_upto_region 1 with fail
 generalize hN : w.heap.size = N at *
 generalize (w.alloc (.cells X 47)) = W0 at *
 go_wp2_with (first | ((with_reducible refine wpList_load_all ?_ 47 (.tmp 2) ?_ H0.out.2.1 ?_ Tryz.sizeCodec hX6 Tryz.underlying47 rfl ?_); (with_reducible rfl); (with_reducible rfl); rfl) | ((with_reducible refine wpList_load_all ?_ 47 (.tmp 1) ?_ H0.out.2.2 ?_ Tryz.sizeCodec hY6 Tryz.underlying47 rfl ?_); (with_reducible rfl); (with_reducible rfl); rfl) | (go_at_call 44; (with_reducible refine HC.out.mono ?_); rintro e w2 ⟨rfl, hb2⟩))
 go_ret
 exact ⟨rfl, by rw [hN]; exact H0.out.1.trans (hb2.mono (by rw [← hN]; exact H0.out.1.size))⟩
theorem Rows.drop' {α : Type} {w : World} {B sz : Nat} {R : (Nat → Option Value) → α → Prop} {L : List α} {ad : Addr} {n c : Nat} (h : Rows w B sz R (.slice (some ad) n c) L) {k : Nat} (hk : k ≤ n) (A : Option Addr) (c' : Nat) (hA : k < n → A = some (ad.add (k * sz))) (hc : c' = c - k) (hn : A = none → c' = 0) : Rows w B sz R (.slice A (n - k) c') (L.drop k) := by
 obtain ⟨A0, c0, e1, h2, h3, h4, h5⟩ := h
 injection e1 with e1 e2 e3
 subst e2 e3
 have q1 : L.length - k ≤ c' := by rw [hc]; exact Nat.sub_le_sub_right h2 k
 have q2 : c' ≤ maxLen := by rw [hc]; exact Nat.le_trans (Nat.sub_le _ _) h3
 refine ⟨A, c', by rw [List.length_drop], by rw [List.length_drop]; exact q1, q2, hn, fun hne => ?_⟩
 rw [List.length_drop] at hne
 obtain ⟨ad', e4, hb, hr⟩ := h5 (by omega)
 rw [e4] at e1
 obtain rfl := Option.some.inj e1
 refine ⟨ad.add (k * sz), hA (by omega), by rw [add_block]; exact hb, fun i x hx => ?_⟩
 rw [List.getElem?_drop] at hx
 have := hr (k + i) x hx
 have e5 : (fun j => w.cell? ((ad.add (k * sz)).add (i * sz + j))) = fun j => w.cell? (ad.add ((k + i) * sz + j)) := by
  funext j
  rw [Go.Deep.add_add]
  congr 2
  rw [Nat.add_mul]
  omega
 rw [e5]
 exact this
theorem codecsJ_step {X Y : List CodecS} {c : CodecS} {k n : Nat} {Y' : List CodecS} (hy : Y = c :: Y') (hn : X.length = n) (hk : k < n) (h1 : alike5 (X.getD k default) c = true) (h2 : ∀ j, j < k → alike5 (X.getD j default) c = false) : codecsJ X Y = (c.feedback.all (inT (X.getD k default).feedback) && codecsJ (X.drop (k + 1)) Y') := by
 subst hy
 have hd : X.dropWhile (fun x => !alike5 x c) = X.getD k default :: X.drop (k + 1) := by
  have e : X = X.take k ++ X.getD k default :: X.drop (k + 1) := by rw [← drop_at (by omega), List.take_append_drop]
  have e2 : (X.take k ++ X.getD k default :: X.drop (k + 1)).dropWhile (fun x => !alike5 x c) = X.getD k default :: X.drop (k + 1) := dropWhile_app (by simp only [h1]; rfl) (fun y hy => by
   obtain ⟨j, hj, rfl⟩ := List.getElem_of_mem hy
   have hj2 : j < k := by rw [List.length_take] at hj; omega
   have := h2 j hj2
   rw [List.getElem_take]
   simp only [List.getD, List.getElem?_eq_getElem (show j < X.length by omega), Option.getD_some] at this
   simp [this])
  rw [← e] at e2
  exact e2
 conv => lhs; unfold codecsJ
 rw [hd]
theorem codecsJ_out {X Y : List CodecS} {c : CodecS} {n : Nat} {Y' : List CodecS} (hy : Y = c :: Y') (hn : X.length = n) (h : ∀ j, j < n → alike5 (X.getD j default) c = false) : codecsJ X Y = false := by
 subst hy
 have hd : X.dropWhile (fun x => !alike5 x c) = [] := dropWhile_none fun x hx => by
  obtain ⟨j, hj, rfl⟩ := List.getElem_of_mem hx
  have := h j (by omega)
  simp only [List.getD, List.getElem?_eq_getElem hj, Option.getD_some] at this
  simp [this]
 unfold codecsJ
 rw [hd]
theorem codecsJ_nil (X : List CodecS) : codecsJ X [] = true := by unfold codecsJ; rfl
set_option maxHeartbeats 6400000 in
set_option maxRecDepth 100000 in
theorem juCodecs_any (X Y : Array Value) (x y : MediaS) (vC vE vR vS vY uC uE uR uS uY : Value) (w : World) (h1 : MediaV w w.heap.size X x vC vE vR vS vY) (h2 : MediaV w w.heap.size Y y uC uE uR uS uY) (hzx : SizM x) (hzy : SizM y) :
 Calls Tryz.prog 23 #[.agg X, .agg Y] w fun e w' => e = .returned (.bool (codecsQ x y)) ∧ Below w.heap.size w w' := by
 obtain ⟨hb0, hbx, hby⟩ := two_boxes w 44 X Y
 obtain ⟨AX, cX, rfl, hcX, hmX, -⟩ := Rows.form h1.codecs
 obtain ⟨AY, cY, rfl, hcY, hmY, -⟩ := Rows.form h2.codecs
 obtain ⟨nx, hnx⟩ : ∃ n, x.codecs.length = n := ⟨_, rfl⟩
 obtain ⟨ny, hny⟩ : ∃ n, y.codecs.length = n := ⟨_, rfl⟩
 rw [hnx] at h1 hcX
 rw [hny] at h2 hcY
 unfold maxLen at hmX hmY
 have HNX := Lib.hid hnx
 have HNY := Lib.hid hny
 have HFE : Hid ((∀ c ∈ x.codecs, c.feedback.length ≤ 140737488355328) ∧ (∀ c ∈ y.codecs, c.feedback.length ≤ 140737488355328) ∧ nx ≤ 1759218604390) := Lib.hid ⟨hzx.feeds, hzy.feeds, by rw [← hnx]; exact hzx.counts.1⟩
 clear hnx hny hzx hzy
 have hx4 : X[4]? = some (.slice AX nx cX) := by rw [h1.form]; rfl
 have hy4 : Y[4]? = some (.slice AY ny cY) := by rw [h2.form]; rfl
 have HX4 := Lib.hid hx4
 have HY4 := Lib.hid hy4
 obtain ⟨N, hN⟩ : ∃ N, w.heap.size = N := ⟨_, rfl⟩
 have H0 := Lib.hid (And.intro hb0 (And.intro hbx hby))
 have HV := Lib.hid (And.intro h1 h2)
 have HSZ : Hid ((X.size = 11 ∧ X.toList.all (·.oneCell') = true) ∧ Y.size = 11 ∧ Y.toList.all (·.oneCell') = true) := Lib.hid ⟨⟨h1.size, h1.one⟩, h2.size, h2.one⟩
 rw [hN] at H0 HV
 have HN := Lib.hid hN
 clear h1 h2 hb0 hbx hby hN hx4 hy4
 obtain ⟨r, hr⟩ : ∃ r, codecsQ x y = r := ⟨_, rfl⟩
 rw [hr]
 have HR : Hid (codecsJ x.codecs y.codecs = r) := Lib.hid hr
 clear hr
 go_enter Tryz.func23, Tryz.ntmps23
 go_upto_region 1 with fail
 simp only [HN.out, Nat.add_assoc, Nat.reduceAdd]
 generalize ((w.alloc (.cells X 44)).alloc (.cells Y 44)) = W0 at *
 have cx4 : W0.cell? ⟨N, 4, none⟩ = some (.slice AX nx cX) := (H0.out.2.1.cell 4).trans HX4.out
 have cy4 : W0.cell? ⟨N + 1, 4, none⟩ = some (.slice AY ny cY) := (H0.out.2.2.cell 4).trans HY4.out
 have HF : Hid (∀ W, Below W0.heap.size W0 W → Below N w W ∧ W.cell? ⟨N + 1, 4, none⟩ = some (.slice AY ny cY)) := Lib.hid fun W hW =>
  ⟨H0.out.1.trans (hW.mono (Nat.le_of_lt H0.out.2.1.lt)), ((H0.out.2.2.under hW).cell 4).trans HY4.out⟩
 have HN0 : Hid (N ≤ W0.heap.size) := Lib.hid (Nat.le_of_lt H0.out.2.1.lt)
 go_wp2
 clear cx4 cy4
 go_loopw [14, 5] (fun s14 s5 wr => ∃ (i d : Nat) (A5 : Option Addr) (c5 : Nat), i ≤ ny ∧ d ≤ nx ∧ s14 = .int .i64 i ∧ s5 = .slice A5 (nx - d) c5 ∧ (CodecsV w N (.slice A5 (nx - d) c5) (x.codecs.drop d) ∧ codecsJ x.codecs y.codecs = codecsJ (x.codecs.drop d) (y.codecs.drop i) ∧ Below W0.heap.size W0 wr)) (fun s14 _ _ => ny - (intOf s14).toNat)
 case atStart => exact ⟨0, 0, AX, cX, Nat.zero_le _, Nat.zero_le _, rfl, rfl, HV.out.1.codecs, rfl, Below.refl _ _⟩
 case round =>
  obtain ⟨i, d, A5, c5, hi, hd, rfl, rfl, hst⟩ := hrel
  have HS := Lib.hid hst
  clear hst
  obtain ⟨hbw, e4⟩ := HF.out wr HS.out.2.2
  have HBW := Lib.hid hbw
  clear hbw
  obtain ⟨l5, hl5⟩ : ∃ l, nx - d = l := ⟨_, rfl⟩
  have HL5 : Hid ((x.codecs.drop d).length = l5 ∧ l5 = nx - d) := Lib.hid ⟨by rw [List.length_drop, HNX.out, hl5], hl5.symm⟩
  rw [hl5] at HS ⊢
  clear hl5
  by_cases hlt : i < ny
  · have hlt' : i < y.codecs.length := by rw [HNY.out]; exact hlt
    obtain ⟨ad, c', C, vf, e1, had, hC, hcs⟩ := (HV.out.2.codecs.below HBW.out).cells hlt'
    injection e1 with e1 e1n e1c
    clear e1n e1c
    subst e1
    obtain ⟨c, hc⟩ : ∃ s, y.codecs.getD i default = s := ⟨_, rfl⟩
    rw [hc] at hC
    have HDY : Hid (y.codecs.drop i = c :: y.codecs.drop (i + 1)) := Lib.hid (by rw [drop_at hlt', hc])
    have HLD : Hid (∀ (ops : Array Oper) (rest : List Oper) (op : Oper) (act : Act) (Q : Exit → Act → World → Prop), op.guard = none → op.op = .load 47 (.tmp 16) → act.eval (.tmp 16) = .pointer (some (ad.add (i * 6))) → wpList Tryz.prog ops Q rest (act.put op.dst (.agg C)) wr → wpList Tryz.prog ops Q (op :: rest) act wr) :=
     Lib.hid fun ops rest op act Q h1 h2 h3 h4 => wpList_load_at h1 47 (.tmp 16) h2 _ h3 C.toList _ hcs Tryz.underlying47 rfl (by rw [Array.length_toList, hC.size]; exact Tryz.sizeCodec) (by rw [Array.toArray_toList]; exact h4)
    have HSV : Hid (C.size = 6 ∧ C.toList.all (·.oneCell') = true) := Lib.hid ⟨hC.size, hC.one⟩
    have HC6 : Hid (C.size = 6) := Lib.hid hC.size
    obtain ⟨Af, kf, hvf, hkf, hmf, -⟩ := Rows.form hC.feeds
    obtain ⟨m, hm⟩ : ∃ n, c.feedback.length = n := ⟨_, rfl⟩
    have hm47 : m ≤ 140737488355328 := by rw [← hm]; exact HFE.out.2.1 c (by rw [← hc]; exact getD_mem hlt')
    rw [hm] at hvf hkf
    subst hvf
    have HM := Lib.hid hm
    have HCC : Hid (C[0]? = some (.int .i64 c.type) ∧ C[1]? = some (.string c.name) ∧ C[2]? = some (.int .i64 c.clock) ∧ C[3]? = some (.int .i64 c.chans) ∧ C[4]? = some (.string c.format) ∧ C[5]? = some (.slice Af m kf)) := Lib.hid (by rw [hC.form]; exact ⟨rfl, rfl, rfl, rfl, rfl, rfl⟩)
    have HCF : Hid (TextsV wr N (.slice Af m kf) c.feedback) := Lib.hid hC.feeds
    have hi0 : (0 : Int) ≤ (i : Int) := by omega
    have hi1 : (i : Int) < (ny : Int) := by omega
    have HW1 : Hid (Below wr.heap.size wr ((wr.alloc (.cells #[.int .i64 0, .string ⟨#[]⟩, .int .i64 0, .int .i64 0, .string ⟨#[]⟩, .slice none 0 0] 47)).setRow wr.heap.size C) ∧ Whole ((wr.alloc (.cells #[.int .i64 0, .string ⟨#[]⟩, .int .i64 0, .int .i64 0, .string ⟨#[]⟩, .slice none 0 0] 47)).setRow wr.heap.size C) wr.heap.size 47 C) := Lib.hid
     ⟨below_row ((Below.refl _ _).alloc (Nat.le_refl _) _) (Nat.le_refl _) _, (Whole.new _ _ _).row _⟩
    have HNR : Hid (N ≤ wr.heap.size) := Lib.hid (Nat.le_trans HN0.out HS.out.2.2.size)
    clear hc hlt' had hcs hC hm
    go_upto_region 4 with fail
    go_cut [7] (fun s7 wc => ∃ g, s7 = .pointer (some ⟨g, 0, none⟩) ∧ Below wr.heap.size wr wc ∧ Whole wc g 47 C)
    case first =>
     go_wp2_with (first | ((with_reducible refine HLD.out _ _ _ _ _ ?_ ?_ ?_ ?_); (with_reducible rfl); (with_reducible rfl); rfl) | ((with_reducible refine wpList_storeS C ?_ 47 (.tmp 7) (.tmp 17) ?_ ?_ ?_ (Whole.new _ _ _) Tryz.sizeCodec HSV.out.1 ?_ HSV.out.2 ?_); (with_reducible rfl); (with_reducible rfl); rfl; rfl; rfl))
     go_meet
     exact ⟨_, rfl, HW1.out.1, HW1.out.2⟩
    case rest =>
    obtain ⟨gC, rfl, hbc, hgC⟩ := hcut
    generalize wc = w1 at *
    have H1 : Hid (Below W0.heap.size W0 w1 ∧ Whole w1 gC 47 C ∧ Below N w w1 ∧ TextsV w1 N (.slice Af m kf) c.feedback) := Lib.hid ⟨HS.out.2.2.trans (hbc.mono HS.out.2.2.size), hgC, HBW.out.trans (hbc.mono HNR.out), HCF.out.below (hbc.mono HNR.out)⟩
    have HN1 : Hid (N ≤ w1.heap.size) := Lib.hid (Nat.le_trans HN0.out H1.out.1.size)
    clear hbc hgC HLD HSV HW1 e4 HCF
    have HIX : Hid (Calls Tryz.prog 42 #[.slice A5 l5 c5, .func (.func 43) #[] #[.pointer (some ⟨gC, 0, none⟩)]] w1 fun e w' => ∃ r : Int, e = .returned (.int .i64 r) ∧ IdxF (fun o => alike5 o c) (x.codecs.drop d) l5 r ∧ Below w1.heap.size w1 w') := Lib.hid (indexCQ_any A5 l5 c5 (x.codecs.drop d) (fun o => alike5 o c) 43 #[.pointer (some ⟨gC, 0, none⟩)] w1 ((HS.out.1.below H1.out.2.2.1).more HN1.out) HL5.out.1 (by have := HL5.out.2; have := HFE.out.2.2; omega) (enters_to Tryz.func43 (by kernel_rfl) rfl)
     (fun W u vf hW _ => juCodecs1_any gC _ C u c W ⟨rfl, rfl, rfl, rfl, rfl⟩ rfl ⟨HCC.out.1, HCC.out.2.1, HCC.out.2.2.1, HCC.out.2.2.2.1, HCC.out.2.2.2.2.1⟩ HC6.out (H1.out.2.1.under hW)))
    go_upto_region 6 with (go_at_call 42; (with_reducible refine HIX.out.mono ?_); rintro e w2 ⟨ri, rfl, hri, hb2⟩; have HRI := Lib.hid hri; have H2 : Hid (Below W0.heap.size W0 w2 ∧ Whole w2 gC 47 C ∧ Below N w w2 ∧ TextsV w2 N (.slice Af m kf) c.feedback) := Lib.hid ⟨H1.out.1.trans (hb2.mono H1.out.1.size), H1.out.2.1.under hb2, H1.out.2.2.1.trans (hb2.mono HN1.out), H1.out.2.2.2.below (hb2.mono HN1.out)⟩; clear hri hb2)
    have HN2 : Hid (N ≤ w2.heap.size) := Lib.hid (Nat.le_trans HN0.out H2.out.1.size)
    rcases HRI.out with ⟨k, rfl, hk, hq, hno⟩ | ⟨rfl, hno⟩
    · have HST := Lib.hid (codecsJ_step HDY.out HL5.out.1 hk hq hno)
      obtain ⟨ad5, c5', U, vg, e5, had5, hU, hus⟩ := HS.out.1.cells (i := k) (by rw [HL5.out.1]; exact hk)
      injection e5 with e5 e5n e5c
      clear e5n e5c
      subst e5
      obtain ⟨u, hu⟩ : ∃ s, (x.codecs.drop d).getD k default = s := ⟨_, rfl⟩
      rw [hu] at hU HST
      have hum : u ∈ x.codecs := List.mem_of_mem_drop (by rw [← hu]; exact getD_mem (by rw [HL5.out.1]; exact hk))
      obtain ⟨Ag, kg, hvg, hkg, hmg, -⟩ := Rows.form hU.feeds
      obtain ⟨mg, hmgl⟩ : ∃ n, u.feedback.length = n := ⟨_, rfl⟩
      have hfl := HFE.out.1 u hum
      rw [hmgl] at hvg hkg hfl
      subst hvg
      have HUF := Lib.hid (And.intro hU.feeds hmgl)
      have hk0 : (0 : Int) ≤ (k : Int) := by omega
      have hk1 : (k : Int) < (l5 : Int) := by omega
      have hk2 : ¬ (k : Int) < 0 := by omega
      have hl63 : l5 ≤ 1759218604390 := by have := HL5.out.2; have := HFE.out.2.2; omega
      have HC5 : Hid (∀ W, Below w2.heap.size w2 W → W.cell? ⟨gC, 5, none⟩ = some (.slice Af m kf)) := Lib.hid fun W hW => ((H2.out.2.1.under hW).cell 5).trans HCC.out.2.2.2.2.2
      have HU5 : Hid (∀ W, Below w2.heap.size w2 W → W.cell? ⟨(ad5.add (k * 6)).block, (ad5.add (k * 6)).off + 5, none⟩ = some (.slice Ag mg kg)) := Lib.hid fun W hW => by
       have q1 := hus 5 (.slice Ag mg kg) (by rw [hU.form]; rfl)
       have hb := H2.out.2.2.1.trans (hW.mono HN2.out)
       rw [← add_next _ _ 5 (by decide), ← Go.Deep.add_add]
       exact (hb.cell (p := (ad5.add (k * 6)).add 5) (by rw [add_block, add_block]; exact had5)).trans q1
      obtain ⟨b, hb⟩ : ∃ b, c.feedback.all (inT u.feedback) = b := ⟨_, rfl⟩
      have HWI : Hid (∀ W, Below w2.heap.size w2 W → Calls Tryz.prog 45 #[.slice Af m kf, .slice Ag mg kg] W fun e w' => e = .returned (.bool b) ∧ Below W.heap.size W w') := Lib.hid fun W hW => by
       have h1 := (H2.out.2.2.2.below (hW.mono HN2.out)).more (Nat.le_trans HN2.out hW.size)
       have h2 := (HUF.out.1.below (H2.out.2.2.1.trans (hW.mono HN2.out))).more (Nat.le_trans HN2.out hW.size)
       have := juWithinT_any Af m kf Ag mg kg c.feedback u.feedback W h1 HM.out (by omega) h2 HUF.out.2 (by omega)
       rw [hb] at this
       exact this
      rw [hb] at HST
      have HCV := Lib.hid (HS.out.1)
      have HKB : Hid (∀ W W', Below w2.heap.size w2 W → Below W.heap.size W W' → Below w2.heap.size w2 W') := Lib.hid fun W W' h1 h2 => h1.trans (h2.mono h1.size)
      have HDR : Hid (Below w2.heap.size w2 w2.drew) := Lib.hid (Below.refl _ _).drew
      clear hq hno hU hus had5 hum hu hmgl hb
      refine wp_region_held_drew (S := fun W => Below w2.heap.size w2 W) (by kernel_rfl) HDR.out (fun hHeld => ?_)
      refine wpAnyH_take (i := 0) (v := _) rfl (by as_aux_lemma => kernel_rfl) (by as_aux_lemma => kernel_rfl) (by as_aux_lemma => kernel_rfl) (fun _ _ _ h => h) (Or.inl ⟨by rfl, fun w h => by have e0 := HC5.out w h; have e1 := HU5.out w h; clear h; go_simp; (try with_reducible rfl)⟩) (by assumption) ?_
      simp only [Act.put, List.getElem_toArray, List.getElem_cons_succ, List.getElem_cons_zero, List.setIfInBounds_toArray, List.set_cons_succ, List.set_cons_zero]
      refine wpAnyH_take (i := 1) (v := _) rfl (by as_aux_lemma => kernel_rfl) (by as_aux_lemma => kernel_rfl) (by as_aux_lemma => kernel_rfl) (fun _ _ _ h => h) (Or.inl ⟨by rfl, fun w h => by have e0 := HC5.out w h; have e1 := HU5.out w h; clear h; go_simp; (try with_reducible rfl)⟩) (by assumption) ?_
      simp only [Act.put, List.getElem_toArray, List.getElem_cons_succ, List.getElem_cons_zero, List.setIfInBounds_toArray, List.set_cons_succ, List.set_cons_zero]
      refine wpAnyH_take (i := 2) (v := _) rfl (by as_aux_lemma => kernel_rfl) (by as_aux_lemma => kernel_rfl) (by as_aux_lemma => kernel_rfl) (fun _ _ _ h => h) (Or.inl ⟨by rfl, fun w h => by have e0 := HC5.out w h; have e1 := HU5.out w h; clear h; go_simp; (try with_reducible rfl)⟩) (by assumption) ?_
      simp only [Act.put, List.getElem_toArray, List.getElem_cons_succ, List.getElem_cons_zero, List.setIfInBounds_toArray, List.set_cons_succ, List.set_cons_zero]
      refine wpAnyH_take (i := 3) (v := _) rfl (by as_aux_lemma => kernel_rfl) (by as_aux_lemma => kernel_rfl) (by as_aux_lemma => kernel_rfl) (fun _ _ _ h => h) (Or.inl ⟨by rfl, fun w h => by have e0 := HC5.out w h; have e1 := HU5.out w h; clear h; go_simp; (try with_reducible rfl)⟩) (by assumption) ?_
      simp only [Act.put, List.getElem_toArray, List.getElem_cons_succ, List.getElem_cons_zero, List.setIfInBounds_toArray, List.set_cons_succ, List.set_cons_zero]
      refine wpAnyH_take (i := 4) (v := _) rfl (by as_aux_lemma => kernel_rfl) (by as_aux_lemma => kernel_rfl) (by as_aux_lemma => kernel_rfl) (fun _ _ _ h => h) (Or.inl ⟨by rfl, fun w h => by have e0 := HC5.out w h; have e1 := HU5.out w h; clear h; go_simp; (try with_reducible rfl)⟩) (by assumption) ?_
      simp only [Act.put, List.getElem_toArray, List.getElem_cons_succ, List.getElem_cons_zero, List.setIfInBounds_toArray, List.set_cons_succ, List.set_cons_zero]
      refine wpAnyH_take (i := 5) (v := _) rfl (by as_aux_lemma => kernel_rfl) (by as_aux_lemma => kernel_rfl) (by as_aux_lemma => kernel_rfl) (fun _ _ _ h => h) (Or.inl ⟨by rfl, fun w h => by have e0 := HC5.out w h; have e1 := HU5.out w h; clear h; go_simp; (try with_reducible rfl)⟩) (by assumption) ?_
      simp only [Act.put, List.getElem_toArray, List.getElem_cons_succ, List.getElem_cons_zero, List.setIfInBounds_toArray, List.set_cons_succ, List.set_cons_zero]
      refine wpAnyH_take (i := 6) (v := _) rfl (by as_aux_lemma => kernel_rfl) (by as_aux_lemma => kernel_rfl) (by as_aux_lemma => kernel_rfl) (fun _ _ _ h => h) (Or.inl ⟨by rfl, fun w h => by have e0 := HC5.out w h; have e1 := HU5.out w h; clear h; go_simp; (try with_reducible rfl)⟩) (by assumption) ?_
      simp only [Act.put, List.getElem_toArray, List.getElem_cons_succ, List.getElem_cons_zero, List.setIfInBounds_toArray, List.set_cons_succ, List.set_cons_zero]
      refine wpAnyH_take (i := 7) (v := _) rfl (by as_aux_lemma => kernel_rfl) (by as_aux_lemma => kernel_rfl) (by as_aux_lemma => kernel_rfl) (fun _ _ _ h => h) (Or.inl ⟨by rfl, fun w h => by have e0 := HC5.out w h; have e1 := HU5.out w h; clear h; go_simp; (try with_reducible rfl)⟩) (by assumption) ?_
      simp only [Act.put, List.getElem_toArray, List.getElem_cons_succ, List.getElem_cons_zero, List.setIfInBounds_toArray, List.set_cons_succ, List.set_cons_zero]
      refine wpAnyH_take (i := 8) (v := _) rfl (by as_aux_lemma => kernel_rfl) (by as_aux_lemma => kernel_rfl) (by as_aux_lemma => kernel_rfl) (fun _ _ _ h => h) (Or.inl ⟨by rfl, fun w h => by have e0 := HC5.out w h; have e1 := HU5.out w h; clear h; go_simp; (try with_reducible rfl)⟩) (by assumption) ?_
      simp only [Act.put, List.getElem_toArray, List.getElem_cons_succ, List.getElem_cons_zero, List.setIfInBounds_toArray, List.set_cons_succ, List.set_cons_zero]
      refine wpAnyH_take (i := 9) (v := _) rfl (by as_aux_lemma => kernel_rfl) (by as_aux_lemma => kernel_rfl) (by as_aux_lemma => kernel_rfl) (fun _ _ _ h => h) (Or.inl ⟨by rfl, fun w h => by have e0 := HC5.out w h; have e1 := HU5.out w h; clear h; go_simp; (try with_reducible rfl)⟩) (by assumption) ?_
      simp only [Act.put, List.getElem_toArray, List.getElem_cons_succ, List.getElem_cons_zero, List.setIfInBounds_toArray, List.set_cons_succ, List.set_cons_zero]
      refine wpAnyH_ready (rs := [10]) (by as_aux_lemma => kernel_rfl) (by simp) ?_
      refine AllReadyH.cons (i := 10) rfl (fun K hK => ?_) AllReadyH.nil
      go_simp
      refine (HWI.out _ hHeld).mono ?_
      rintro e w3 ⟨rfl, hb3⟩
      refine hK.out _ _ (HKB.out _ _ hHeld hb3) (fun hHeld4 => ?_)
      clear hK K hHeld
      have hHeld := hHeld4
      clear hHeld4
      try simp only [Act.put]
      refine wpAnyH_take (i := 11) (v := _) rfl (by as_aux_lemma => kernel_rfl) (by as_aux_lemma => kernel_rfl) (by as_aux_lemma => kernel_rfl) (fun _ _ _ h => h) (Or.inl ⟨by rfl, fun w h => by have e0 := HC5.out w h; have e1 := HU5.out w h; clear h; go_simp; (try with_reducible rfl)⟩) (by assumption) ?_
      simp only [Act.put, List.getElem_toArray, List.getElem_cons_succ, List.getElem_cons_zero, List.setIfInBounds_toArray, List.set_cons_succ, List.set_cons_zero]
      refine wpAnyH_take (i := 12) (v := _) rfl (by as_aux_lemma => kernel_rfl) (by as_aux_lemma => kernel_rfl) (by as_aux_lemma => kernel_rfl) (fun _ _ _ h => h) (Or.inl ⟨by rfl, fun w h => by have e0 := HC5.out w h; have e1 := HU5.out w h; clear h; go_simp; (try with_reducible rfl)⟩) (by assumption) ?_
      simp only [Act.put, List.getElem_toArray, List.getElem_cons_succ, List.getElem_cons_zero, List.setIfInBounds_toArray, List.set_cons_succ, List.set_cons_zero]
      refine wpAnyH_done (by as_aux_lemma => kernel_rfl) ?_ _
      have HFIN := Lib.hid (And.intro (H2.out.1.trans (hHeld.mono H2.out.1.size)) (H2.out.2.2.1.trans (hHeld.mono HN2.out)))
      clear hHeld
      cases b with
      | false =>
        have HQ : Hid (r = false) := Lib.hid (by rw [← HR.out, HS.out.2.1, HST.out]; rfl)
        go_wp2
        go_ret
        exact ⟨ret_bool HQ.out.symm, by rw [HN.out]; exact HFIN.out.2⟩
      | true =>
        have HQ : Hid (codecsJ x.codecs y.codecs = codecsJ (x.codecs.drop (d + (k + 1))) (y.codecs.drop (i + 1))) := Lib.hid (by rw [HS.out.2.1, HST.out, List.drop_drop]; rfl)
        have HC5' : Hid (l5 ≤ c5 ∧ c5 ≤ maxLen) := Lib.hid (by
         obtain ⟨A', c'', e', e2', e3', -⟩ := Rows.form HS.out.1
         injection e' with e4' e5' e6'
         rw [e6', e5']
         exact ⟨e2', e3'⟩)
        have hc51 := HC5'.out.1
        have hc52 := HC5'.out.2
        unfold maxLen at hc52
        have hk3 : (k : Int) + 1 ≤ (l5 : Int) := by omega
        have hk4 : (k : Int) + 1 ≤ (c5 : Int) := by omega
        have hk5 : (0 : Int) ≤ (k : Int) + 1 := by omega
        by_cases hcc : c5 = k + 1
        · have HRD : Hid (CodecsV w N (.slice (some ad5) (l5 - (k + 1)) 0) ((x.codecs.drop d).drop (k + 1))) := Lib.hid (Rows.drop' HCV.out (by omega) _ _ (fun h => by omega) (by omega) (fun h => by cases h))
          go_wp2
          go_roundw
          case rel =>
           have hll := HL5.out.2
           have e1 : nx - (d + (k + 1)) = l5 - (k + 1) := by omega
           refine ⟨i + 1, d + (k + 1), some ad5, 0, by omega, by omega, by go_num, by rw [e1], ?_, HQ.out, HFIN.out.1⟩
           rw [e1, ← List.drop_drop]
           exact HRD.out
          case measure => simp [intOf]; omega
        · have HRD : Hid (CodecsV w N (.slice (some (ad5.add ((k + 1) * 6))) (l5 - (k + 1)) (c5 - (k + 1))) ((x.codecs.drop d).drop (k + 1))) := Lib.hid (Rows.drop' HCV.out (by omega) _ _ (fun h => rfl) rfl (fun h => by cases h))
          go_wp2
          go_roundw
          case rel =>
           have hll := HL5.out.2
           have e1 : nx - (d + (k + 1)) = l5 - (k + 1) := by omega
           refine ⟨i + 1, d + (k + 1), some (ad5.add ((k + 1) * 6)), c5 - (k + 1), by omega, by omega, by go_num, by rw [e1], ?_, HQ.out, HFIN.out.1⟩
           rw [e1, ← List.drop_drop]
           exact HRD.out
          case measure => simp [intOf]; omega
    · have hm1 : (-1 : Int) < 0 := by omega
      have HQ : Hid (r = false) := Lib.hid (by rw [← HR.out, HS.out.2.1]; exact codecsJ_out HDY.out HL5.out.1 hno)
      clear hno
      go_quiet (fail)
      go_wp2
      go_ret
      exact ⟨ret_bool HQ.out.symm, by rw [HN.out]; exact below_drewN' H2.out.2.2.1 _⟩
  · obtain rfl : i = ny := by omega
    have HQ : Hid (r = true) := Lib.hid (by rw [← HR.out, HS.out.2.1, show y.codecs.drop i = [] from List.drop_of_length_le (by rw [HNY.out]; exact Nat.le_refl _)]; exact codecsJ_nil _)
    go_wp2
    go_ret
    exact ⟨ret_bool HQ.out.symm, by rw [HN.out]; exact HBW.out⟩
end Go.Proofs.YtibpnjakimobmaaGreat
