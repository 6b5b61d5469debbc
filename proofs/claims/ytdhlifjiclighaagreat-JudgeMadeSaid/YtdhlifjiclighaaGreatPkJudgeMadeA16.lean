import Derived.Test.YtdhlifjiclighaaGreatPkJudgeMadeA14
import Derived.Test.YtdhlifjiclighaaGreatPkJudgeMadeA15
import Derived.Test.YtdhlifjiclighaaGreatPkJudgeMadeA10
import Derived.Test.YtdhlifjiclighaaGreatPkJudgeMadeA11
namespace Go.Proofs.YtdhlifjiclighaaGreat
open Go.RowKit
set_option linter.unusedVariables false
set_option linter.unusedSimpArgs false
theorem txs_eq {L M : List ByteArray} : L.map tx = M.map tx ↔ L = M := by
 constructor
 · intro h
   apply List.ext_getElem?
   intro j
   have := congrArg (fun l => l[j]?) h
   simp only [List.getElem?_map] at this
   match h1 : L[j]?, h2 : M[j]? with
   | none, none => rfl
   | some s, none => rw [h1, h2] at this; cases this
   | none, some s => rw [h1, h2] at this; cases this
   | some s, some t =>
     rw [h1, h2] at this
     rw [tx_inj (Option.some.inj this)]
 · intro h; rw [h]
set_option maxHeartbeats 6400000 in
set_option maxRecDepth 100000 in
theorem juBundle_any (X Y : Array Value) (o a : DescS) (vB vM uB uM : Value) (w : World) (h1 : DescV w w.heap.size X o vB vM) (h2 : DescV w w.heap.size Y a uB uM) (h8 : a.media.length ≤ 8) (hlo : o.bundle.length ≤ 8796093021952) :
 Calls Tryz.prog 28 #[.agg X, .agg Y] w fun e w' => e = .returned (.bool (bundle9 o a)) ∧ Below w.heap.size w w' := by
 obtain ⟨hb0, hbx, hby⟩ := two_boxes w 26 X Y
 obtain ⟨AB, cB, rfl, -⟩ := Rows.form h1.bundle
 obtain ⟨AM, cM, rfl, hcM, hmM, -⟩ := Rows.form h1.media
 obtain ⟨AB2, cB2, rfl, -⟩ := Rows.form h2.bundle
 obtain ⟨AM2, cM2, rfl, hcM2, hmM2, -⟩ := Rows.form h2.media
 obtain ⟨nB, hnB⟩ : ∃ n, o.bundle.length = n := ⟨_, rfl⟩
 obtain ⟨nM, hnM⟩ : ∃ n, o.media.length = n := ⟨_, rfl⟩
 obtain ⟨nB2, hnB2⟩ : ∃ n, a.bundle.length = n := ⟨_, rfl⟩
 obtain ⟨nM2, hnM2⟩ : ∃ n, a.media.length = n := ⟨_, rfl⟩
 rw [hnB, hnM] at h1
 rw [hnB2, hnM2] at h2
 have HX1 : Hid (X[1]? = some (.int .u64 (o.ver : Int))) := Lib.hid (by rw [h1.form]; rfl)
 have HX2 : Hid (X[2]? = some (.slice AB nB cB)) := Lib.hid (by rw [h1.form]; rfl)
 have HX5 : Hid (X[5]? = some (.slice AM nM cM)) := Lib.hid (by rw [h1.form]; rfl)
 have HY1 : Hid (Y[1]? = some (.int .u64 (a.ver : Int))) := Lib.hid (by rw [h2.form]; rfl)
 have HY2 : Hid (Y[2]? = some (.slice AB2 nB2 cB2)) := Lib.hid (by rw [h2.form]; rfl)
 have HY5 : Hid (Y[5]? = some (.slice AM2 nM2 cM2)) := Lib.hid (by rw [h2.form]; rfl)
 have HSZ : Hid (X.size = 6 ∧ Y.size = 6) := Lib.hid ⟨by rw [h1.form]; rfl, by rw [h2.form]; rfl⟩
 have HL := Lib.hid (And.intro hnB (And.intro hnM (And.intro hnB2 hnM2)))
 obtain ⟨N, hN⟩ : ∃ N, w.heap.size = N := ⟨_, rfl⟩
 have H0 := Lib.hid (And.intro hb0 (And.intro hbx hby))
 have HV := Lib.hid (And.intro h1 h2)
 rw [hN] at H0 HV
 have HN := Lib.hid hN
 clear h1 h2 hb0 hbx hby hN hnB hnM hnB2 hnM2
 have HR : Hid (bundle9 o a = bundle9 o a) := Lib.hid rfl
 obtain ⟨r, hr⟩ : ∃ r, bundle9 o a = r := ⟨_, rfl⟩
 replace HR : Hid (r = bundle9 o a) := Lib.hid hr.symm
 rw [hr]
 rw [HL.out.2.2.2] at h8
 rw [HL.out.1] at hlo
 clear hr
 go_enter Tryz.func28, Tryz.ntmps28
 go_upto_region 1 with fail
 simp only [HN.out, Nat.add_assoc, Nat.reduceAdd]
 generalize ((w.alloc (.cells X 26)).alloc (.cells Y 26)) = W0 at *
 have HN0 : Hid (N ≤ W0.heap.size) := Lib.hid (Nat.le_of_lt H0.out.2.1.lt)
 have HF : Hid (∀ W, Below W0.heap.size W0 W → Below N w W ∧ Whole W N 26 X ∧ Whole W (N + 1) 26 Y) := Lib.hid fun W hW => ⟨H0.out.1.trans (hW.mono HN0.out), H0.out.2.1.under hW, H0.out.2.2.under hW⟩
 have cy5 : W0.cell? ⟨N + 1, 5, none⟩ = some (.slice AM2 nM2 cM2) := (H0.out.2.2.cell 5).trans HY5.out
 go_wp2
 clear cy5
 go_loopw [11, 5] (fun s11 s5 wq => ∃ i : Nat, i ≤ nM2 ∧ s11 = .int .i64 (i : Int) ∧ (Own wq W0.heap.size 9 1 s5 ((takenMids (a.media.take i)).map tcell) ∧ Below W0.heap.size W0 wq)) (fun s11 _ _ => nM2 - (intOf s11).toNat)
 case atStart => exact ⟨0, Nat.zero_le _, rfl, Own.nil _ _ _ _, Below.refl _ _⟩
 case round =>
  obtain ⟨i, hi, rfl, hst⟩ := hrel
  have HT := Lib.hid hst
  clear hst
  have HFT := Lib.hid (HF.out wr HT.out.2)
  obtain ⟨At, ct, hvt, -⟩ := Own.form HT.out.1
  obtain ⟨nt, hnt⟩ : ∃ n, ((takenMids (a.media.take i)).map tcell).length = n := ⟨_, rfl⟩
  rw [hnt] at hvt
  subst hvt
  have HNT : Hid (((takenMids (a.media.take i)).map tcell).length = nt ∧ nt ≤ 8) := Lib.hid ⟨hnt, by
   rw [← hnt, List.length_map]
   have := taken_le (a.media.take i)
   rw [List.length_take] at this
   omega⟩
  clear hnt
  by_cases hlt : i < nM2
  · obtain ⟨ad2, k2, M, uC, uE, uR, uS, uY, e2, b2, hy, ys⟩ := MediasV.at_ (HV.out.2.media.below HFT.out.1) (i := i) (by rw [HL.out.2.2.2]; exact hlt)
    injection e2 with e2 e2n e2c; clear e2n e2c
    subst e2
    obtain ⟨y, hy2⟩ : ∃ m, a.media.getD i default = m := ⟨_, rfl⟩
    have hyi : a.media[i]? = some y := by rw [← hy2]; exact getD_of (by rw [HL.out.2.2.2]; exact hlt)
    rw [hy2] at hy
    have HYI := Lib.hid hyi
    have hi0 : (0 : Int) ≤ (i : Int) := by omega
    have hi1 : (i : Int) < (nM2 : Int) := by omega
    have HLD : Hid (∀ (ops : Array Oper) (rest : List Oper) (op : Oper) (act : Act) (Q : Exit → Act → World → Prop), op.guard = none → op.op = .load 44 (.tmp 13) → act.eval (.tmp 13) = .pointer (some (ad2.add (i * 11))) → wpList Tryz.prog ops Q rest (act.put op.dst (.agg M)) wr → wpList Tryz.prog ops Q (op :: rest) act wr) :=
     Lib.hid fun ops rest op act Q h1 h2 h3 h4 => wpList_load_at h1 44 (.tmp 13) h2 _ h3 M.toList _ ys Tryz.underlying44 rfl (by rw [Array.length_toList, hy.size]; exact Tryz.sizeMedia) (by rw [Array.toArray_toList]; exact h4)
    have HSM : Hid (M.size = 11 ∧ M.toList.all (·.oneCell') = true ∧ M[1]? = some (.int .i64 y.port) ∧ M[2]? = some (.string y.mid)) := Lib.hid ⟨hy.size, hy.one, by rw [hy.form]; rfl, by rw [hy.form]; rfl⟩
    have HW1 : Hid (Below wr.heap.size wr ((wr.alloc (.cells #[.int .i64 0, .int .i64 0, .string ⟨#[]⟩, .int .i64 0, .slice none 0 0, .slice none 0 0, .slice none 0 0, .bool false, .slice none 0 0, .slice none 0 0, .int .i64 0] 44)).setRow wr.heap.size M) ∧ Whole ((wr.alloc (.cells #[.int .i64 0, .int .i64 0, .string ⟨#[]⟩, .int .i64 0, .slice none 0 0, .slice none 0 0, .slice none 0 0, .bool false, .slice none 0 0, .slice none 0 0, .int .i64 0] 44)).setRow wr.heap.size M) wr.heap.size 44 M) := Lib.hid ⟨below_row ((Below.refl _ wr).alloc (Nat.le_refl _) _) (Nat.le_refl _) _, (Whole.new _ _ _).row _⟩
    clear hy ys b2 hy2 hyi
    go_upto_region 5 with (first | ((with_reducible refine HLD.out _ _ _ _ _ ?_ ?_ ?_ ?_); (with_reducible rfl); (with_reducible rfl); rfl) | ((with_reducible refine wpList_storeS M ?_ 44 (.tmp 7) (.tmp 14) ?_ ?_ ?_ (Whole.new _ _ _) Tryz.sizeMedia HSM.out.1 ?_ HSM.out.2.1 ?_); (with_reducible rfl); (with_reducible rfl); rfl; rfl; rfl))
    have H1 : Hid (Own ((wr.alloc (.cells #[.int .i64 0, .int .i64 0, .string ⟨#[]⟩, .int .i64 0, .slice none 0 0, .slice none 0 0, .slice none 0 0, .bool false, .slice none 0 0, .slice none 0 0, .int .i64 0] 44)).setRow wr.heap.size M) W0.heap.size 9 1 (.slice At nt ct) ((takenMids (a.media.take i)).map tcell) ∧ Below W0.heap.size W0 ((wr.alloc (.cells #[.int .i64 0, .int .i64 0, .string ⟨#[]⟩, .int .i64 0, .slice none 0 0, .slice none 0 0, .slice none 0 0, .bool false, .slice none 0 0, .slice none 0 0, .int .i64 0] 44)).setRow wr.heap.size M) ∧ Whole ((wr.alloc (.cells #[.int .i64 0, .int .i64 0, .string ⟨#[]⟩, .int .i64 0, .slice none 0 0, .slice none 0 0, .slice none 0 0, .bool false, .slice none 0 0, .slice none 0 0, .int .i64 0] 44)).setRow wr.heap.size M) wr.heap.size 44 M) := Lib.hid ⟨HT.out.1.under HW1.out.1, HT.out.2.trans (HW1.out.1.mono HT.out.2.size), HW1.out.2⟩
    clear HLD HW1
    generalize ((wr.alloc (.cells #[.int .i64 0, .int .i64 0, .string ⟨#[]⟩, .int .i64 0, .slice none 0 0, .slice none 0 0, .slice none 0 0, .bool false, .slice none 0 0, .slice none 0 0, .int .i64 0] 44)).setRow wr.heap.size M) = w1 at *
    generalize wr.heap.size = gM at *
    have HTK : Hid (Calls Tryz.prog 41 #[.agg M] w1 fun e w' => e = .returned (.bool (!(y.port == 0))) ∧ Below w1.heap.size w1 w') := Lib.hid (juTaken_any M y.port w1 HSM.out.2.2.1)
    obtain ⟨tk, htk⟩ : ∃ b, tookT y = b := ⟨_, rfl⟩
    have htk2 : (!(y.port == 0)) = tk := by rw [← htk]; rfl
    rw [htk2] at HTK
    have HTN := Lib.hid (taken_next HYI.out)
    rw [htk] at HTN
    clear htk htk2
    cases tk with
    | false =>
      go_wp2_with (first | ((with_reducible refine wpList_load_all ?_ 44 (.tmp 7) ?_ H1.out.2.2 ?_ Tryz.sizeMedia HSM.out.1 Tryz.underlying44 rfl ?_); (with_reducible rfl); (with_reducible rfl); rfl) | (go_at_call 41; (with_reducible refine HTK.out.mono ?_); rintro e w2 ⟨rfl, hb2⟩))
      go_roundw
      case rel => exact ⟨i + 1, by omega, by go_num, by rw [HTN.out]; exact H1.out.1.under hb2, H1.out.2.1.trans (hb2.mono H1.out.2.1.size)⟩
      case measure => simp [intOf]; omega
    | true =>
      go_upto_if 16 with (first | ((with_reducible refine wpList_load_all ?_ 44 (.tmp 7) ?_ H1.out.2.2 ?_ Tryz.sizeMedia HSM.out.1 Tryz.underlying44 rfl ?_); (with_reducible rfl); (with_reducible rfl); rfl) | (go_at_call 41; (with_reducible refine HTK.out.mono ?_); rintro e w2 ⟨rfl, hb2⟩; have H2 : Hid (Own w2 W0.heap.size 9 1 (.slice At nt ct) ((takenMids (a.media.take i)).map tcell) ∧ Below W0.heap.size W0 w2 ∧ Whole w2 gM 44 M) := Lib.hid ⟨H1.out.1.under hb2, H1.out.2.1.trans (hb2.mono H1.out.2.1.size), H1.out.2.2.under hb2⟩; clear hb2))
      have hnt8 := HNT.out.2
      have q2 : w2.cell? ⟨gM, 2, none⟩ = some (.string y.mid) := (H2.out.2.2.cell 2).trans HSM.out.2.2.2
      have HNA : Hid (Own (w2.alloc (.cells #[.string y.mid] 9)) W0.heap.size 9 1 (.slice At nt ct) ((takenMids (a.media.take i)).map tcell) ∧ Whole (w2.alloc (.cells #[.string y.mid] 9)) w2.heap.size 9 #[.string y.mid] ∧ W0.heap.size ≤ (w2.alloc (.cells #[.string y.mid] 9)).heap.size ∧ Below W0.heap.size W0 (w2.alloc (.cells #[.string y.mid] 9))) := Lib.hid
       ⟨H2.out.1.alloc _, Whole.new _ _ _, Nat.le_trans H2.out.2.1.size (by rw [World.size_alloc]; omega), H2.out.2.1.alloc H2.out.2.1.size _⟩
      go_wp2_with (at_builtin; refine wpList_appendE (r := [.string y.mid]) rfl (.tmp 17) (.tmp 20) rfl Tryz.underlying23 Tryz.infoStr rfl (Nat.zero_lt_succ _) rfl HNA.out.1 rfl HNA.out.2.1 rfl (fun u hu => by simp at hu; subst hu; rfl) (by rw [HNT.out.1]; omega) (by rw [HNT.out.1]; omega) HNA.out.2.2.1 ?_; intro v8 w8 ho8 hg8 hn8; have H8 : Hid (Own w8 W0.heap.size 9 1 v8 ((takenMids (a.media.take i)).map tcell ++ [tcell y.mid]) ∧ Below W0.heap.size W0 w8) := Lib.hid ⟨ho8, HNA.out.2.2.2.grown hg8 HNA.out.2.2.1 (fun j hj => (HNA.out.1.lt hj).1)⟩; clear ho8 hg8 hn8)
      go_roundw
      case rel => exact ⟨i + 1, by omega, by go_num, by rw [HTN.out]; simpa using H8.out.1, H8.out.2⟩
      case measure => simp [intOf]; omega
  · obtain rfl : i = nM2 := by omega
    have htk : a.media.take i = a.media := List.take_of_length_le (by rw [HL.out.2.2.2]; exact Nat.le_refl _)
    rw [htk] at HT HNT
    clear htk
    have HTX : Hid (∀ W, Below wr.heap.size wr W → TextsV W W.heap.size (.slice At nt ct) (takenMids a.media)) := Lib.hid fun W hW => (HT.out.1.under hW).texts (Nat.le_refl _)
    have hnr : N ≤ wr.heap.size := Nat.le_of_lt HFT.out.2.1.lt
    have HTB : Hid (TextsV wr wr.heap.size (.slice AB2 nB2 cB2) a.bundle) := Lib.hid ((HV.out.2.bundle.below HFT.out.1).more hnr)
    have HTO : Hid (∀ W, Below wr.heap.size wr W → TextsV W W.heap.size (.slice AB nB cB) o.bundle) := Lib.hid fun W hW => (HV.out.1.bundle.below (HFT.out.1.trans (hW.mono hnr))).more (Nat.le_trans hnr hW.size)
    obtain ⟨q, hq⟩ := sameBool a.bundle (takenMids a.media)
    have HCS : Hid (Calls Tryz.prog 50 #[.slice AB2 nB2 cB2, .slice At nt ct] wr fun e w' => e = .returned (.bool q) ∧ Below wr.heap.size wr w') := Lib.hid ((equalT_any _ _ a.bundle (takenMids a.media) wr HTB.out (HTX.out wr (Below.refl _ _))).mono fun e w' h => h.fix hq)
    have HCW : Hid (∀ W, Below wr.heap.size wr W → Calls Tryz.prog 45 #[.slice At nt ct, .slice AB nB cB] W fun e w' => e = .returned (.bool ((takenMids a.media).all (inT o.bundle))) ∧ Below W.heap.size W w') := Lib.hid fun W hW => juWithinT_any At nt ct AB nB cB (takenMids a.media) o.bundle W (HTX.out W hW) (by rw [← HNT.out.1, List.length_map]) (by have := HNT.out.2; omega) (HTO.out W hW) HL.out.1 (by omega)
    have HQ : Hid (r = ((takenMids a.media).all (inT o.bundle) && q)) := Lib.hid (by
     rw [HR.out]
     unfold bundle9
     congr 1
     rw [Bool.eq_iff_iff, hq, decide_eq_true_eq, txs_eq]
     exact ⟨fun h => h.symm, fun h => h.symm⟩)
    generalize (takenMids a.media).all (inT o.bundle) = ia at *
    have d2 : wr.cell? ⟨N + 1, 2, none⟩ = some (.slice AB2 nB2 cB2) := (HFT.out.2.2.cell 2).trans HY2.out
    have HV1 : Hid (∀ W, Below wr.heap.size wr W → Below N w W ∧ W.cell? ⟨N, 2, none⟩ = some (.slice AB nB cB)) := Lib.hid fun W hW => ⟨HFT.out.1.trans (hW.mono hnr), ((HFT.out.2.1.under hW).cell 2).trans HX2.out⟩
    clear hq hnr
    cases q with
    | false =>
      go_wp2_with (go_at_call 50; (with_reducible refine HCS.out.mono ?_); rintro e w9 ⟨rfl, hb9⟩; have HE9 := Lib.hid (HV1.out w9 hb9); clear hb9)
      go_ret
      exact ⟨ret_bool (by rw [HQ.out]; simp), by rw [HN.out]; exact HE9.out.1⟩
    | true =>
      go_wp2_with (first | (go_at_call 50; (with_reducible refine HCS.out.mono ?_); rintro e w9 ⟨rfl, hb9⟩; have HE9 := Lib.hid (HV1.out w9 hb9); have g2 := HE9.out.2; have HB9 := Lib.hid hb9; clear hb9) | (go_at_call 45; (with_reducible refine (HCW.out _ HB9.out).mono ?_); rintro e w10 ⟨rfl, hb10⟩; have HE10 := Lib.hid (HV1.out w10 (HB9.out.trans (hb10.mono HB9.out.size))); clear hb10))
      go_ret
      exact ⟨ret_bool (by rw [HQ.out]; simp), by rw [HN.out]; exact HE10.out.1⟩
set_option maxHeartbeats 3200000 in
set_option maxRecDepth 100000 in
theorem juRules_any (w : World) : Calls Tryz.prog 11 #[] w fun e w' => ∃ g g0 g1 g2 g3 g4 g5, e = .returned (.slice (some ⟨g, 0, none⟩) 10 10) ∧ Whole w' g 58 #[(.func (.func 19) #[] #[]), (.func (.func 20) #[] #[]), (.func (.func 39) #[] #[.pointer (some ⟨g0, 0, none⟩)]), (.func (.func 39) #[] #[.pointer (some ⟨g1, 0, none⟩)]), (.func (.func 39) #[] #[.pointer (some ⟨g2, 0, none⟩)]), (.func (.func 39) #[] #[.pointer (some ⟨g3, 0, none⟩)]), (.func (.func 39) #[] #[.pointer (some ⟨g4, 0, none⟩)]), (.func (.func 39) #[] #[.pointer (some ⟨g5, 0, none⟩)]), (.func (.func 28) #[] #[]), (.func (.func 29) #[] #[])] ∧ Below w.heap.size w w' ∧ Whole w' g0 67 #[(.func (.func 22) #[] #[])] ∧ Whole w' g1 67 #[(.func (.func 23) #[] #[])] ∧ Whole w' g2 67 #[(.func (.func 24) #[] #[])] ∧ Whole w' g3 67 #[(.func (.func 25) #[] #[])] ∧ Whole w' g4 67 #[(.func (.func 26) #[] #[])] ∧ Whole w' g5 67 #[(.func (.func 27) #[] #[])] := by
 have HOT : Hid (∀ (W : World) (fv : Nat), Calls Tryz.prog 21 #[.func (.func fv) #[] #[]] W fun e w' => ∃ g, e = .returned (.func (.func 39) #[] #[.pointer (some ⟨g, 0, none⟩)]) ∧ W.heap.size ≤ g ∧ Whole w' g 67 #[.func (.func fv) #[] #[]] ∧ Below W.heap.size W w') := Lib.hid fun W fv => juOfTaken_any fv W
 go_enter Tryz.func11, Tryz.ntmps11
 go_wp2_with (first | (have hg := H5.out.1; clear hg; go_at_call 21; (with_reducible refine (HOT.out _ _).mono ?_); rintro e w6 ⟨g5, rfl, -, h2, hb⟩; have H6 : Hid (Below w.heap.size w w6 ∧ Whole w6 g0 67 #[(.func (.func 22) #[] #[])] ∧ Whole w6 g1 67 #[(.func (.func 23) #[] #[])] ∧ Whole w6 g2 67 #[(.func (.func 24) #[] #[])] ∧ Whole w6 g3 67 #[(.func (.func 25) #[] #[])] ∧ Whole w6 g4 67 #[(.func (.func 26) #[] #[])] ∧ Whole w6 g5 67 #[(.func (.func 27) #[] #[])]) := Lib.hid ⟨H5.out.1.trans (hb.mono H5.out.1.size), H5.out.2.1.under hb, H5.out.2.2.1.under hb, H5.out.2.2.2.1.under hb, H5.out.2.2.2.2.1.under hb, H5.out.2.2.2.2.2.under hb, h2⟩; clear h2 hb) | (have hg := H4.out.1; clear hg; go_at_call 21; (with_reducible refine (HOT.out _ _).mono ?_); rintro e w5 ⟨g4, rfl, -, h2, hb⟩; have H5 : Hid (Below w.heap.size w w5 ∧ Whole w5 g0 67 #[(.func (.func 22) #[] #[])] ∧ Whole w5 g1 67 #[(.func (.func 23) #[] #[])] ∧ Whole w5 g2 67 #[(.func (.func 24) #[] #[])] ∧ Whole w5 g3 67 #[(.func (.func 25) #[] #[])] ∧ Whole w5 g4 67 #[(.func (.func 26) #[] #[])]) := Lib.hid ⟨H4.out.1.trans (hb.mono H4.out.1.size), H4.out.2.1.under hb, H4.out.2.2.1.under hb, H4.out.2.2.2.1.under hb, H4.out.2.2.2.2.under hb, h2⟩; clear h2 hb) | (have hg := H3.out.1; clear hg; go_at_call 21; (with_reducible refine (HOT.out _ _).mono ?_); rintro e w4 ⟨g3, rfl, -, h2, hb⟩; have H4 : Hid (Below w.heap.size w w4 ∧ Whole w4 g0 67 #[(.func (.func 22) #[] #[])] ∧ Whole w4 g1 67 #[(.func (.func 23) #[] #[])] ∧ Whole w4 g2 67 #[(.func (.func 24) #[] #[])] ∧ Whole w4 g3 67 #[(.func (.func 25) #[] #[])]) := Lib.hid ⟨H3.out.1.trans (hb.mono H3.out.1.size), H3.out.2.1.under hb, H3.out.2.2.1.under hb, H3.out.2.2.2.under hb, h2⟩; clear h2 hb) | (have hg := H2.out.1; clear hg; go_at_call 21; (with_reducible refine (HOT.out _ _).mono ?_); rintro e w3 ⟨g2, rfl, -, h2, hb⟩; have H3 : Hid (Below w.heap.size w w3 ∧ Whole w3 g0 67 #[(.func (.func 22) #[] #[])] ∧ Whole w3 g1 67 #[(.func (.func 23) #[] #[])] ∧ Whole w3 g2 67 #[(.func (.func 24) #[] #[])]) := Lib.hid ⟨H2.out.1.trans (hb.mono H2.out.1.size), H2.out.2.1.under hb, H2.out.2.2.under hb, h2⟩; clear h2 hb) | (have hg := H1.out.1; clear hg; go_at_call 21; (with_reducible refine (HOT.out _ _).mono ?_); rintro e w2 ⟨g1, rfl, -, h2, hb⟩; have H2 : Hid (Below w.heap.size w w2 ∧ Whole w2 g0 67 #[(.func (.func 22) #[] #[])] ∧ Whole w2 g1 67 #[(.func (.func 23) #[] #[])]) := Lib.hid ⟨H1.out.1.trans (hb.mono H1.out.1.size), H1.out.2.under hb, h2⟩; clear h2 hb) | (go_at_call 21; (with_reducible refine (HOT.out _ _).mono ?_); rintro e w1 ⟨g0, rfl, -, h2, hb⟩; have H1 : Hid (Below w.heap.size w w1 ∧ Whole w1 g0 67 #[(.func (.func 22) #[] #[])]) := Lib.hid ⟨hb, h2⟩; clear h2 hb))
 go_ret
 exact ⟨_, g0, g1, g2, g3, g4, g5, rfl, Whole.new _ _ _, H6.out.1.alloc H6.out.1.size _, H6.out.2.1.alloc _, H6.out.2.2.1.alloc _, H6.out.2.2.2.1.alloc _, H6.out.2.2.2.2.1.alloc _, H6.out.2.2.2.2.2.1.alloc _, H6.out.2.2.2.2.2.2.alloc _⟩
theorem rules_calls {w w1 : World} {N : Nat} {X Y : Array Value} {o a : DescS} {vB vM uB uM : Value} {FV : Array Value} (g0 g1 g2 g3 g4 g5 : Nat) (hFV : FV = #[(.func (.func 19) #[] #[]), (.func (.func 20) #[] #[]), (.func (.func 39) #[] #[.pointer (some ⟨g0, 0, none⟩)]), (.func (.func 39) #[] #[.pointer (some ⟨g1, 0, none⟩)]), (.func (.func 39) #[] #[.pointer (some ⟨g2, 0, none⟩)]), (.func (.func 39) #[] #[.pointer (some ⟨g3, 0, none⟩)]), (.func (.func 39) #[] #[.pointer (some ⟨g4, 0, none⟩)]), (.func (.func 39) #[] #[.pointer (some ⟨g5, 0, none⟩)]), (.func (.func 28) #[] #[]), (.func (.func 29) #[] #[])]) (HR1 : Hid (Below N w w1 ∧ Whole w1 g0 67 #[(.func (.func 22) #[] #[])] ∧ Whole w1 g1 67 #[(.func (.func 23) #[] #[])] ∧ Whole w1 g2 67 #[(.func (.func 24) #[] #[])] ∧ Whole w1 g3 67 #[(.func (.func 25) #[] #[])] ∧ Whole w1 g4 67 #[(.func (.func 26) #[] #[])] ∧ Whole w1 g5 67 #[(.func (.func 27) #[] #[])])) (hN : N ≤ w1.heap.size) (h1 : DescV w N X o vB vM) (h2 : DescV w N Y a uB uM) (hz1 : SizD o) (hz2 : SizD a) (k : Nat) (hk : k < 10) (hgood : 0 < k → goodD o = true ∧ goodD a = true) (W : World) (hW : Below w1.heap.size w1 W) :
 ∃ f cap, FV[k]? = some (.func (.func f) #[] cap) ∧ (∀ args w, (callFunc f args).run Tryz.prog w = .ok (.enter f args) w) ∧ Calls Tryz.prog f (#[.agg X, .agg Y] ++ cap) W fun e w' => e = .returned (.bool (ruleJ o a k)) ∧ Below W.heap.size W w' := by
 have hNW := HR1.out.1.trans (hW.mono hN)
 have hXV : DescV W W.heap.size X o vB vM := (h1.below hNW).more (Nat.le_trans hN hW.size)
 have hYV : DescV W W.heap.size Y a uB uM := (h2.below hNW).more (Nat.le_trans hN hW.size)
 subst hFV
 have : k = 0 ∨ k = 1 ∨ k = 2 ∨ k = 3 ∨ k = 4 ∨ k = 5 ∨ k = 6 ∨ k = 7 ∨ k = 8 ∨ k = 9 := by omega
 rcases this with rfl | rfl | rfl | rfl | rfl | rfl | rfl | rfl | rfl | rfl
 · refine ⟨19, #[], by rfl, enters_to Tryz.func19 (by kernel_rfl) rfl, ?_⟩
   exact juGood_any X Y o a _ _ _ _ W hXV hYV hz1 hz2
 · refine ⟨20, #[], by rfl, enters_to Tryz.func20 (by kernel_rfl) rfl, ?_⟩
   exact juInPlace_any X Y o a _ _ _ _ W hXV hYV
 · refine ⟨39, #[.pointer (some ⟨g0, 0, none⟩)], by rfl, enters_to Tryz.func39 (by kernel_rfl) rfl, ?_⟩
   exact juOfTaken1_any X Y o a _ _ _ _ W hXV hYV g0 22 #[] openQ ((HR1.out.2.1.under hW).cell 0) (enters_to Tryz.func22 (by kernel_rfl) rfl) (fun W2 X Y x y vC vE vR vS vY uC uE uR uS uY hW2 hx hy h1 h2 => juOpen_any X Y x y _ _ _ _ _ _ _ _ _ _ W2 h1 h2)
 · refine ⟨39, #[.pointer (some ⟨g1, 0, none⟩)], by rfl, enters_to Tryz.func39 (by kernel_rfl) rfl, ?_⟩
   exact juOfTaken1_any X Y o a _ _ _ _ W hXV hYV g1 23 #[] codecsQ ((HR1.out.2.2.1.under hW).cell 0) (enters_to Tryz.func23 (by kernel_rfl) rfl) (fun W2 X Y x y vC vE vR vS vY uC uE uR uS uY hW2 hx hy h1 h2 => juCodecs_any X Y x y _ _ _ _ _ _ _ _ _ _ W2 h1 h2 (hz1.media x hx) (hz2.media y hy))
 · refine ⟨39, #[.pointer (some ⟨g2, 0, none⟩)], by rfl, enters_to Tryz.func39 (by kernel_rfl) rfl, ?_⟩
   exact juOfTaken1_any X Y o a _ _ _ _ W hXV hYV g2 24 #[] exts5 ((HR1.out.2.2.2.1.under hW).cell 0) (enters_to Tryz.func24 (by kernel_rfl) rfl) (fun W2 X Y x y vC vE vR vS vY uC uE uR uS uY hW2 hx hy h1 h2 => juExts_any X Y x y _ _ _ _ _ _ _ _ _ _ W2 h1 h2 (hz1.media x hx) (hz2.media y hy))
 · refine ⟨39, #[.pointer (some ⟨g3, 0, none⟩)], by rfl, enters_to Tryz.func39 (by kernel_rfl) rfl, ?_⟩
   exact juOfTaken1_any X Y o a _ _ _ _ W hXV hYV g3 25 #[] dirJ ((HR1.out.2.2.2.2.1.under hW).cell 0) (enters_to Tryz.func25 (by kernel_rfl) rfl) (fun W2 X Y x y vC vE vR vS vY uC uE uR uS uY hW2 hx hy h1 h2 => juDir_any X Y x y _ _ _ _ _ _ _ _ _ _ W2 h1 h2 (goodM_dir ((goodD_parts (hgood (by omega)).1).2.2.2.1 x hx)) (goodM_dir ((goodD_parts (hgood (by omega)).2).2.2.2.1 y hy)))
 · refine ⟨39, #[.pointer (some ⟨g4, 0, none⟩)], by rfl, enters_to Tryz.func39 (by kernel_rfl) rfl, ?_⟩
   exact juOfTaken1_any X Y o a _ _ _ _ W hXV hYV g4 26 #[] ridsJ ((HR1.out.2.2.2.2.2.1.under hW).cell 0) (enters_to Tryz.func26 (by kernel_rfl) rfl) (fun W2 X Y x y vC vE vR vS vY uC uE uR uS uY hW2 hx hy h1 h2 => juRids_any X Y x y _ _ _ _ _ _ _ _ _ _ W2 h1 h2 (hz1.media x hx) (hz2.media y hy))
 · refine ⟨39, #[.pointer (some ⟨g5, 0, none⟩)], by rfl, enters_to Tryz.func39 (by kernel_rfl) rfl, ?_⟩
   exact juOfTaken1_any X Y o a _ _ _ _ W hXV hYV g5 27 #[] transJ ((HR1.out.2.2.2.2.2.2.under hW).cell 0) (enters_to Tryz.func27 (by kernel_rfl) rfl) (fun W2 X Y x y vC vE vR vS vY uC uE uR uS uY hW2 hx hy h1 h2 => juTrans_any X Y x y _ _ _ _ _ _ _ _ _ _ W2 h1 h2)
 · refine ⟨28, #[], by rfl, enters_to Tryz.func28 (by kernel_rfl) rfl, ?_⟩
   exact juBundle_any X Y o a _ _ _ _ W hXV hYV (goodD_parts (hgood (by omega)).2).2.2.1 hz1.count
 · refine ⟨29, #[], by rfl, enters_to Tryz.func29 (by kernel_rfl) rfl, ?_⟩
   exact juVersion_any X Y o a _ _ _ _ W hXV hYV
set_option maxHeartbeats 6400000 in
set_option maxRecDepth 100000 in
theorem juCheck_any (X Y : Array Value) (o a : DescS) (vB vM uB uM : Value) (w : World) (h1 : DescV w w.heap.size X o vB vM) (h2 : DescV w w.heap.size Y a uB uM) (hz1 : SizD o) (hz2 : SizD a) :
 Calls Tryz.prog 7 #[.agg X, .agg Y] w fun e w' => e = .returned (.int .i64 (checkA o a : Nat)) ∧ Below w.heap.size w w' := by
 obtain ⟨hb0, hbx, hby⟩ := two_boxes w 26 X Y
 obtain ⟨AB, cB, rfl, -⟩ := Rows.form h1.bundle
 obtain ⟨AM, cM, rfl, hcM, hmM, -⟩ := Rows.form h1.media
 obtain ⟨AB2, cB2, rfl, -⟩ := Rows.form h2.bundle
 obtain ⟨AM2, cM2, rfl, hcM2, hmM2, -⟩ := Rows.form h2.media
 obtain ⟨nB, hnB⟩ : ∃ n, o.bundle.length = n := ⟨_, rfl⟩
 obtain ⟨nM, hnM⟩ : ∃ n, o.media.length = n := ⟨_, rfl⟩
 obtain ⟨nB2, hnB2⟩ : ∃ n, a.bundle.length = n := ⟨_, rfl⟩
 obtain ⟨nM2, hnM2⟩ : ∃ n, a.media.length = n := ⟨_, rfl⟩
 rw [hnB, hnM] at h1
 rw [hnB2, hnM2] at h2
 have HX1 : Hid (X[1]? = some (.int .u64 (o.ver : Int))) := Lib.hid (by rw [h1.form]; rfl)
 have HX2 : Hid (X[2]? = some (.slice AB nB cB)) := Lib.hid (by rw [h1.form]; rfl)
 have HX5 : Hid (X[5]? = some (.slice AM nM cM)) := Lib.hid (by rw [h1.form]; rfl)
 have HY1 : Hid (Y[1]? = some (.int .u64 (a.ver : Int))) := Lib.hid (by rw [h2.form]; rfl)
 have HY2 : Hid (Y[2]? = some (.slice AB2 nB2 cB2)) := Lib.hid (by rw [h2.form]; rfl)
 have HY5 : Hid (Y[5]? = some (.slice AM2 nM2 cM2)) := Lib.hid (by rw [h2.form]; rfl)
 have HSZ : Hid (X.size = 6 ∧ Y.size = 6) := Lib.hid ⟨by rw [h1.form]; rfl, by rw [h2.form]; rfl⟩
 have HL := Lib.hid (And.intro hnB (And.intro hnM (And.intro hnB2 hnM2)))
 obtain ⟨N, hN⟩ : ∃ N, w.heap.size = N := ⟨_, rfl⟩
 have H0 := Lib.hid (And.intro hb0 (And.intro hbx hby))
 have HV := Lib.hid (And.intro h1 h2)
 rw [hN] at H0 HV
 have HN := Lib.hid hN
 clear h1 h2 hb0 hbx hby hN hnB hnM hnB2 hnM2
 obtain ⟨res, hres⟩ : ∃ n, checkA o a = n := ⟨_, rfl⟩
 have HR : Hid (res = checkA o a) := Lib.hid hres.symm
 have HZ := Lib.hid (And.intro hz1 hz2)
 rw [hres]
 clear hres hz1 hz2
 go_enter Tryz.func7, Tryz.ntmps7
 go_upto_region 1 with fail
 simp only [HN.out, Nat.add_assoc, Nat.reduceAdd]
 generalize ((w.alloc (.cells X 26)).alloc (.cells Y 26)) = W0 at *
 have HN0 : Hid (N ≤ W0.heap.size) := Lib.hid (Nat.le_of_lt H0.out.2.1.lt)
 have HRU := Lib.hid (juRules_any W0)
 go_upto_region 2 with (go_at_call 11; (with_reducible refine HRU.out.mono ?_); rintro e w1 ⟨g, g0, g1, g2, g3, g4, g5, rfl, hg, hst⟩; have HG := Lib.hid hg; have HST := Lib.hid hst; clear hg hst)
 obtain ⟨FV, hFV⟩ : ∃ F : Array Value, F = #[(.func (.func 19) #[] #[]), (.func (.func 20) #[] #[]), (.func (.func 39) #[] #[.pointer (some ⟨g0, 0, none⟩)]), (.func (.func 39) #[] #[.pointer (some ⟨g1, 0, none⟩)]), (.func (.func 39) #[] #[.pointer (some ⟨g2, 0, none⟩)]), (.func (.func 39) #[] #[.pointer (some ⟨g3, 0, none⟩)]), (.func (.func 39) #[] #[.pointer (some ⟨g4, 0, none⟩)]), (.func (.func 39) #[] #[.pointer (some ⟨g5, 0, none⟩)]), (.func (.func 28) #[] #[]), (.func (.func 29) #[] #[])] := ⟨_, rfl⟩
 rw [← hFV] at HG
 have HR1 : Hid (Below N w w1 ∧ Whole w1 g0 67 #[(.func (.func 22) #[] #[])] ∧ Whole w1 g1 67 #[(.func (.func 23) #[] #[])] ∧ Whole w1 g2 67 #[(.func (.func 24) #[] #[])] ∧ Whole w1 g3 67 #[(.func (.func 25) #[] #[])] ∧ Whole w1 g4 67 #[(.func (.func 26) #[] #[])] ∧ Whole w1 g5 67 #[(.func (.func 27) #[] #[])]) := Lib.hid ⟨H0.out.1.trans (HST.out.1.mono HN0.out), HST.out.2⟩
 have HW1 : Hid (Below N w w1 ∧ Whole w1 N 26 X ∧ Whole w1 (N + 1) 26 Y) := Lib.hid ⟨HR1.out.1, H0.out.2.1.under HST.out.1, H0.out.2.2.under HST.out.1⟩
 have HN1 : Hid (N ≤ w1.heap.size) := Lib.hid (Nat.le_of_lt HW1.out.2.1.lt)
 have HRC : Hid (∀ k, k < 10 → (0 < k → goodD o = true ∧ goodD a = true) → ∀ W, Below w1.heap.size w1 W → ∃ f cap, FV[k]? = some (.func (.func f) #[] cap) ∧ (∀ args w, (callFunc f args).run Tryz.prog w = .ok (.enter f args) w) ∧ Calls Tryz.prog f (#[.agg X, .agg Y] ++ cap) W fun e w' => e = .returned (.bool (ruleJ o a k)) ∧ Below W.heap.size W w') := Lib.hid fun k hk hg W hW => rules_calls g0 g1 g2 g3 g4 g5 hFV HR1 HN1.out HV.out.1 HV.out.2 HZ.out.1 HZ.out.2 k hk hg W hW
 clear hFV HST HR1 HRU
 go_wp2
 go_loopw [9] (fun s9 wr => ∃ k : Nat, k ≤ 10 ∧ s9 = .int .i64 (k : Int) ∧ (∀ j, j < k → ruleJ o a j = true) ∧ Below w1.heap.size w1 wr) (fun s9 _ => 10 - (intOf s9).toNat)
 case atStart => exact ⟨0, Nat.zero_le _, rfl, (fun j hj => by omega), Below.refl _ _⟩
 case round =>
  obtain ⟨k, hk, rfl, hall, hb⟩ := hrel
  have HS := Lib.hid (And.intro hall hb)
  have HXY : Hid (Below N w wr ∧ Whole wr N 26 X ∧ Whole wr (N + 1) 26 Y) := Lib.hid ⟨HW1.out.1.trans (hb.mono HN1.out), HW1.out.2.1.under hb, HW1.out.2.2.under hb⟩
  by_cases hlt : k < 10
  · obtain ⟨f, cap, hfk, eg, hcl⟩ := HRC.out k hlt (fun h0 => by
     have h := hall 0 h0
     unfold ruleJ at h
     simp only [Bool.and_eq_true] at h
     exact ⟨h.1.1, h.1.2⟩) wr hb
    have c0 : wr.cell? ⟨g, k, none⟩ = some (.func (.func f) #[] cap) := ((HG.out.under hb).cell k).trans hfk
    obtain ⟨b, hbb⟩ : ∃ b, ruleJ o a k = b := ⟨_, rfl⟩
    rw [hbb] at hcl
    have HCL := Lib.hid hcl
    have HEG := Lib.hid eg
    have HBE := Lib.hid hbb
    have hk0 : (0 : Int) ≤ (k : Int) := by omega
    have hk1 : (k : Int) < 10 := by omega
    have hak : (⟨g, 0, none⟩ : Addr).add k = ⟨g, k, none⟩ := by simp [Addr.add] <;> omega
    clear hall hb hfk eg hcl hbb
    cases b with
    | true =>
      go_wp2_with (first | ((with_reducible refine wpList_load_allG ?_ 26 (.tmp 2) ?_ HXY.out.2.1 ?_ Tryz.sizeDesc HSZ.out.1 Tryz.underlying26 rfl ?_); rfl; (with_reducible rfl); rfl) | ((with_reducible refine wpList_load_allG ?_ 26 (.tmp 3) ?_ HXY.out.2.2 ?_ Tryz.sizeDesc HSZ.out.2 Tryz.underlying26 rfl ?_); rfl; (with_reducible rfl); rfl) | ((with_reducible refine wpList_callV2 ?_ (.tmp 14) (.tmp 15) (.tmp 16) ?_ ?_ ?_ ?_ HEG.out HCL.out ?_); (with_reducible rfl); (exact ⟨_, rfl⟩); rfl; rfl; rfl; rintro e w5 ⟨rfl, hb5⟩; refine ⟨_, rfl, ?_⟩))
      go_roundw
      case rel =>
       refine ⟨k + 1, by omega, by go_num, fun j hj => ?_, HS.out.2.trans (hb5.mono HS.out.2.size)⟩
       by_cases e : j = k
       · subst e
         exact HBE.out
       · exact HS.out.1 j (by omega)
      case measure => simp [intOf]; omega
    | false =>
      have HQ : Hid (res = k + 1) := Lib.hid (by rw [HR.out]; exact checkA_first hlt HS.out.1 HBE.out)
      have HFN : Hid (∀ W, Below wr.heap.size wr W → Below N w W) := Lib.hid fun W hW => HXY.out.1.trans (hW.mono (Nat.le_of_lt HXY.out.2.1.lt))
      go_wp2_with (first | ((with_reducible refine wpList_load_allG ?_ 26 (.tmp 2) ?_ HXY.out.2.1 ?_ Tryz.sizeDesc HSZ.out.1 Tryz.underlying26 rfl ?_); rfl; (with_reducible rfl); rfl) | ((with_reducible refine wpList_load_allG ?_ 26 (.tmp 3) ?_ HXY.out.2.2 ?_ Tryz.sizeDesc HSZ.out.2 Tryz.underlying26 rfl ?_); rfl; (with_reducible rfl); rfl) | ((with_reducible refine wpList_callV2 ?_ (.tmp 14) (.tmp 15) (.tmp 16) ?_ ?_ ?_ ?_ HEG.out HCL.out ?_); (with_reducible rfl); (exact ⟨_, rfl⟩); rfl; rfl; rfl; rintro e w5 ⟨rfl, hb5⟩; refine ⟨_, rfl, ?_⟩))
      go_ret
      exact ⟨by rw [HQ.out]; rfl, by rw [HN.out]; exact HFN.out _ hb5⟩
  · obtain rfl : k = 10 := by omega
    have HQ : Hid (res = 0) := Lib.hid (by rw [HR.out]; exact checkA_none HS.out.1)
    clear hall hb
    go_wp2
    go_ret
    exact ⟨by rw [HQ.out]; rfl, by rw [HN.out]; exact HXY.out.1⟩
def d10 (v : Nat) : DescS := ⟨0, v, [], bs [97, 98, 99, 100], bs [48, 49, 50, 51, 52, 53, 54, 55, 56, 57, 48, 49, 50, 51, 52, 53, 54, 55, 56, 57, 48, 49], []⟩
def z10 : DescS := ⟨0, 0, [], bs [], bs [], []⟩
theorem check10a : checkA (d10 0) (d10 0) = 0 := by decide +kernel
theorem check10b : checkA (d10 0) (d10 5) = 10 := by decide +kernel
theorem check10c : checkA z10 (d10 0) = 1 := by decide +kernel
theorem siz10 (v : Nat) (h : v < 18446744073709551616) : SizD (d10 v) := ⟨by show (4 : Nat) ≤ _; decide, by show (22 : Nat) ≤ _; decide, fun b hb => (by cases hb), by show (0 : Nat) ≤ _; decide, by show (0 : Nat) ≤ _; decide, fun m hm => (by cases hm), by show (0 : Nat) < _; decide, h⟩
theorem sizz10 : SizD z10 := ⟨by decide, by decide, fun b hb => (by cases hb), by decide, by decide, fun m hm => (by cases hm), by decide, by decide⟩
theorem desc10 (W : World) (B v : Nat) : DescV W B #[.int .u64 0, .int .u64 (v : Int), .slice none 0 0, .string ⟨#[97, 98, 99, 100]⟩, .string ⟨#[48, 49, 50, 51, 52, 53, 54, 55, 56, 57, 48, 49, 50, 51, 52, 53, 54, 55, 56, 57, 48, 49]⟩, .slice none 0 0] (d10 v) (.slice none 0 0) (.slice none 0 0) := ⟨rfl, Rows.nil _ _ _ _, MediasV.nil _ _⟩
theorem descz10 (W : World) (B : Nat) : DescV W B #[.int .u64 0, .int .u64 0, .slice none 0 0, .string ⟨#[]⟩, .string ⟨#[]⟩, .slice none 0 0] z10 (.slice none 0 0) (.slice none 0 0) := ⟨rfl, Rows.nil _ _ _ _, MediasV.nil _ _⟩
set_option maxHeartbeats 3200000 in
set_option maxRecDepth 100000 in
theorem awake10_any (w : World) : Calls Tryz.prog 5 #[] w fun e w' => e = .returned (.bool true) ∧ Below w.heap.size w w' := by
 have HA : Hid (∀ W, Calls Tryz.prog 7 #[.agg #[.int .u64 0, .int .u64 0, .slice none 0 0, .string ⟨#[97, 98, 99, 100]⟩, .string ⟨#[48, 49, 50, 51, 52, 53, 54, 55, 56, 57, 48, 49, 50, 51, 52, 53, 54, 55, 56, 57, 48, 49]⟩, .slice none 0 0], .agg #[.int .u64 0, .int .u64 0, .slice none 0 0, .string ⟨#[97, 98, 99, 100]⟩, .string ⟨#[48, 49, 50, 51, 52, 53, 54, 55, 56, 57, 48, 49, 50, 51, 52, 53, 54, 55, 56, 57, 48, 49]⟩, .slice none 0 0]] W fun e w' => e = .returned (.int .i64 0) ∧ Below W.heap.size W w') := Lib.hid fun W => by
  have h := juCheck_any _ _ _ _ _ _ _ _ W (desc10 W _ 0) (desc10 W _ 0) (siz10 0 (by decide)) (siz10 0 (by decide))
  rw [check10a] at h
  exact h
 have HB : Hid (∀ W, Calls Tryz.prog 7 #[.agg #[.int .u64 0, .int .u64 0, .slice none 0 0, .string ⟨#[97, 98, 99, 100]⟩, .string ⟨#[48, 49, 50, 51, 52, 53, 54, 55, 56, 57, 48, 49, 50, 51, 52, 53, 54, 55, 56, 57, 48, 49]⟩, .slice none 0 0], .agg #[.int .u64 0, .int .u64 5, .slice none 0 0, .string ⟨#[97, 98, 99, 100]⟩, .string ⟨#[48, 49, 50, 51, 52, 53, 54, 55, 56, 57, 48, 49, 50, 51, 52, 53, 54, 55, 56, 57, 48, 49]⟩, .slice none 0 0]] W fun e w' => e = .returned (.int .i64 10) ∧ Below W.heap.size W w') := Lib.hid fun W => by
  have h := juCheck_any _ _ _ _ _ _ _ _ W (desc10 W _ 0) (desc10 W _ 5) (siz10 0 (by decide)) (siz10 5 (by decide))
  rw [check10b] at h
  exact h
 have HC : Hid (∀ W, Calls Tryz.prog 7 #[.agg #[.int .u64 0, .int .u64 0, .slice none 0 0, .string ⟨#[]⟩, .string ⟨#[]⟩, .slice none 0 0], .agg #[.int .u64 0, .int .u64 0, .slice none 0 0, .string ⟨#[97, 98, 99, 100]⟩, .string ⟨#[48, 49, 50, 51, 52, 53, 54, 55, 56, 57, 48, 49, 50, 51, 52, 53, 54, 55, 56, 57, 48, 49]⟩, .slice none 0 0]] W fun e w' => e = .returned (.int .i64 1) ∧ Below W.heap.size W w') := Lib.hid fun W => by
  have h := juCheck_any _ _ _ _ _ _ _ _ W (descz10 W _) (desc10 W _ 0) sizz10 (siz10 0 (by decide))
  rw [check10c] at h
  exact h
 have HW1 : Hid (Below w.heap.size w ((w.alloc (.cells #[.int .u64 0, .int .u64 0, .slice none 0 0, .string ⟨#[]⟩, .string ⟨#[]⟩, .slice none 0 0] 26)).setRow w.heap.size #[.int .u64 0, .int .u64 0, .slice none 0 0, .string ⟨#[97, 98, 99, 100]⟩, .string ⟨#[48, 49, 50, 51, 52, 53, 54, 55, 56, 57, 48, 49, 50, 51, 52, 53, 54, 55, 56, 57, 48, 49]⟩, .slice none 0 0]) ∧ Whole ((w.alloc (.cells #[.int .u64 0, .int .u64 0, .slice none 0 0, .string ⟨#[]⟩, .string ⟨#[]⟩, .slice none 0 0] 26)).setRow w.heap.size #[.int .u64 0, .int .u64 0, .slice none 0 0, .string ⟨#[97, 98, 99, 100]⟩, .string ⟨#[48, 49, 50, 51, 52, 53, 54, 55, 56, 57, 48, 49, 50, 51, 52, 53, 54, 55, 56, 57, 48, 49]⟩, .slice none 0 0]) w.heap.size 26 #[.int .u64 0, .int .u64 0, .slice none 0 0, .string ⟨#[97, 98, 99, 100]⟩, .string ⟨#[48, 49, 50, 51, 52, 53, 54, 55, 56, 57, 48, 49, 50, 51, 52, 53, 54, 55, 56, 57, 48, 49]⟩, .slice none 0 0]) := Lib.hid ⟨below_row ((Below.refl _ w).alloc (Nat.le_refl _) _) (Nat.le_refl _) _, (Whole.new _ _ _).row _⟩
 go_enter Tryz.func5, Tryz.ntmps5
 go_upto_region 2 with ((with_reducible refine wpList_storeS #[.int .u64 0, .int .u64 0, .slice none 0 0, .string ⟨#[97, 98, 99, 100]⟩, .string ⟨#[48, 49, 50, 51, 52, 53, 54, 55, 56, 57, 48, 49, 50, 51, 52, 53, 54, 55, 56, 57, 48, 49]⟩, .slice none 0 0] ?_ 26 (.tmp 1) (.tmp 3) ?_ ?_ ?_ (Whole.new _ _ _) Tryz.sizeDesc ?_ ?_ ?_ ?_); (with_reducible rfl); (with_reducible rfl); rfl; rfl; rfl; rfl; rfl)
 generalize ((w.alloc (.cells #[.int .u64 0, .int .u64 0, .slice none 0 0, .string ⟨#[]⟩, .string ⟨#[]⟩, .slice none 0 0] 26)).setRow w.heap.size #[.int .u64 0, .int .u64 0, .slice none 0 0, .string ⟨#[97, 98, 99, 100]⟩, .string ⟨#[48, 49, 50, 51, 52, 53, 54, 55, 56, 57, 48, 49, 50, 51, 52, 53, 54, 55, 56, 57, 48, 49]⟩, .slice none 0 0]) = w1 at *
 obtain ⟨g1, hg1⟩ : ∃ g, w.heap.size = g := ⟨_, rfl⟩
 have HG := Lib.hid hg1
 rw [hg1] at HW1
 simp only [hg1]
 clear hg1
 have HW2 : Hid (Below g1 w ((w1.alloc (.cells #[.int .u64 0, .int .u64 0, .slice none 0 0, .string ⟨#[]⟩, .string ⟨#[]⟩, .slice none 0 0] 26)).setRow w1.heap.size #[.int .u64 0, .int .u64 0, .slice none 0 0, .string ⟨#[97, 98, 99, 100]⟩, .string ⟨#[48, 49, 50, 51, 52, 53, 54, 55, 56, 57, 48, 49, 50, 51, 52, 53, 54, 55, 56, 57, 48, 49]⟩, .slice none 0 0]) ∧ Whole ((w1.alloc (.cells #[.int .u64 0, .int .u64 0, .slice none 0 0, .string ⟨#[]⟩, .string ⟨#[]⟩, .slice none 0 0] 26)).setRow w1.heap.size #[.int .u64 0, .int .u64 0, .slice none 0 0, .string ⟨#[97, 98, 99, 100]⟩, .string ⟨#[48, 49, 50, 51, 52, 53, 54, 55, 56, 57, 48, 49, 50, 51, 52, 53, 54, 55, 56, 57, 48, 49]⟩, .slice none 0 0]) w1.heap.size 26 #[.int .u64 0, .int .u64 0, .slice none 0 0, .string ⟨#[97, 98, 99, 100]⟩, .string ⟨#[48, 49, 50, 51, 52, 53, 54, 55, 56, 57, 48, 49, 50, 51, 52, 53, 54, 55, 56, 57, 48, 49]⟩, .slice none 0 0] ∧ Whole ((w1.alloc (.cells #[.int .u64 0, .int .u64 0, .slice none 0 0, .string ⟨#[]⟩, .string ⟨#[]⟩, .slice none 0 0] 26)).setRow w1.heap.size #[.int .u64 0, .int .u64 0, .slice none 0 0, .string ⟨#[97, 98, 99, 100]⟩, .string ⟨#[48, 49, 50, 51, 52, 53, 54, 55, 56, 57, 48, 49, 50, 51, 52, 53, 54, 55, 56, 57, 48, 49]⟩, .slice none 0 0]) g1 26 #[.int .u64 0, .int .u64 0, .slice none 0 0, .string ⟨#[97, 98, 99, 100]⟩, .string ⟨#[48, 49, 50, 51, 52, 53, 54, 55, 56, 57, 48, 49, 50, 51, 52, 53, 54, 55, 56, 57, 48, 49]⟩, .slice none 0 0] ∧ g1 < w1.heap.size) := Lib.hid (by
  have hl := HW1.out.2.lt
  exact ⟨below_row (HW1.out.1.alloc (Nat.le_of_lt hl) _) (Nat.le_of_lt hl) _, (Whole.new _ _ _).row _, (HW1.out.2.alloc _).farRow (Nat.ne_of_lt hl) _, hl⟩)
 go_upto_region 3 with (first | ((with_reducible refine wpList_load_all ?_ 26 (.tmp 1) ?_ HW1.out.2 ?_ Tryz.sizeDesc ?_ Tryz.underlying26 rfl ?_); (with_reducible rfl); (with_reducible rfl); rfl; rfl) | ((with_reducible refine wpList_storeS #[.int .u64 0, .int .u64 0, .slice none 0 0, .string ⟨#[97, 98, 99, 100]⟩, .string ⟨#[48, 49, 50, 51, 52, 53, 54, 55, 56, 57, 48, 49, 50, 51, 52, 53, 54, 55, 56, 57, 48, 49]⟩, .slice none 0 0] ?_ 26 (.tmp 2) (.tmp 4) ?_ ?_ ?_ (Whole.new _ _ _) Tryz.sizeDesc ?_ ?_ ?_ ?_); (with_reducible rfl); (with_reducible rfl); rfl; rfl; rfl; rfl; rfl))
 generalize ((w1.alloc (.cells #[.int .u64 0, .int .u64 0, .slice none 0 0, .string ⟨#[]⟩, .string ⟨#[]⟩, .slice none 0 0] 26)).setRow w1.heap.size #[.int .u64 0, .int .u64 0, .slice none 0 0, .string ⟨#[97, 98, 99, 100]⟩, .string ⟨#[48, 49, 50, 51, 52, 53, 54, 55, 56, 57, 48, 49, 50, 51, 52, 53, 54, 55, 56, 57, 48, 49]⟩, .slice none 0 0]) = w2 at *
 generalize w1.heap.size = g2 at *
 have c1 : w2.cell? ⟨g2, 1, none⟩ = some (.int .u64 0) := HW2.out.2.1.cell 1
 have f1 := HW2.out.2.1.frz 1
 go_upto_region 4 with fail
 have HW3 : Hid (Below g1 w (w2.setCell ⟨g2, 1, none⟩ (.int .u64 5)) ∧ Whole (w2.setCell ⟨g2, 1, none⟩ (.int .u64 5)) g2 26 #[.int .u64 0, .int .u64 5, .slice none 0 0, .string ⟨#[97, 98, 99, 100]⟩, .string ⟨#[48, 49, 50, 51, 52, 53, 54, 55, 56, 57, 48, 49, 50, 51, 52, 53, 54, 55, 56, 57, 48, 49]⟩, .slice none 0 0] ∧ Whole (w2.setCell ⟨g2, 1, none⟩ (.int .u64 5)) g1 26 #[.int .u64 0, .int .u64 0, .slice none 0 0, .string ⟨#[97, 98, 99, 100]⟩, .string ⟨#[48, 49, 50, 51, 52, 53, 54, 55, 56, 57, 48, 49, 50, 51, 52, 53, 54, 55, 56, 57, 48, 49]⟩, .slice none 0 0]) := Lib.hid (by
  have hl := HW2.out.2.2.2
  exact ⟨HW2.out.1.setCell (p := ⟨g2, 1, none⟩) (Nat.le_of_lt hl) _, HW2.out.2.1.set 1 _, HW2.out.2.2.1.far (p := ⟨g2, 1, none⟩) (Nat.ne_of_lt hl) _⟩)
 clear c1 f1 HW2 HW1
 generalize w2.setCell ⟨g2, 1, none⟩ (.int .u64 5) = w3 at *
 go_wp2_with (first | ((with_reducible refine wpList_load_allG ?_ 26 (.tmp 1) ?_ H6.out.2.2 ?_ Tryz.sizeDesc ?_ Tryz.underlying26 rfl ?_); rfl; (with_reducible rfl); rfl; rfl) | ((with_reducible refine wpList_load_allG ?_ 26 (.tmp 1) ?_ H5.out.2.2 ?_ Tryz.sizeDesc ?_ Tryz.underlying26 rfl ?_); rfl; (with_reducible rfl); rfl; rfl) | ((with_reducible refine wpList_load_allG ?_ 26 (.tmp 2) ?_ H5.out.2.1 ?_ Tryz.sizeDesc ?_ Tryz.underlying26 rfl ?_); rfl; (with_reducible rfl); rfl; rfl) | ((with_reducible refine wpList_load_allG ?_ 26 (.tmp 1) ?_ HW3.out.2.2 ?_ Tryz.sizeDesc ?_ Tryz.underlying26 rfl ?_); rfl; (with_reducible rfl); rfl; rfl) | (go_at_call 7; (with_reducible refine (HC.out _).mono ?_); rintro e w6 ⟨rfl, hb⟩; have H7 : Hid (Below g1 w w6) := Lib.hid (H6.out.1.trans (hb.mono (Nat.le_of_lt H6.out.2.2.lt))); clear hb) | (go_at_call 7; (with_reducible refine (HB.out _).mono ?_); rintro e w5 ⟨rfl, hb⟩; have H6 : Hid (Below g1 w w5 ∧ Whole w5 g2 26 #[.int .u64 0, .int .u64 5, .slice none 0 0, .string ⟨#[97, 98, 99, 100]⟩, .string ⟨#[48, 49, 50, 51, 52, 53, 54, 55, 56, 57, 48, 49, 50, 51, 52, 53, 54, 55, 56, 57, 48, 49]⟩, .slice none 0 0] ∧ Whole w5 g1 26 #[.int .u64 0, .int .u64 0, .slice none 0 0, .string ⟨#[97, 98, 99, 100]⟩, .string ⟨#[48, 49, 50, 51, 52, 53, 54, 55, 56, 57, 48, 49, 50, 51, 52, 53, 54, 55, 56, 57, 48, 49]⟩, .slice none 0 0]) := Lib.hid ⟨H5.out.1.trans (hb.mono (Nat.le_of_lt H5.out.2.2.lt)), H5.out.2.1.under hb, H5.out.2.2.under hb⟩; clear hb) | (go_at_call 7; (with_reducible refine (HA.out _).mono ?_); rintro e w4 ⟨rfl, hb⟩; have H5 : Hid (Below g1 w w4 ∧ Whole w4 g2 26 #[.int .u64 0, .int .u64 5, .slice none 0 0, .string ⟨#[97, 98, 99, 100]⟩, .string ⟨#[48, 49, 50, 51, 52, 53, 54, 55, 56, 57, 48, 49, 50, 51, 52, 53, 54, 55, 56, 57, 48, 49]⟩, .slice none 0 0] ∧ Whole w4 g1 26 #[.int .u64 0, .int .u64 0, .slice none 0 0, .string ⟨#[97, 98, 99, 100]⟩, .string ⟨#[48, 49, 50, 51, 52, 53, 54, 55, 56, 57, 48, 49, 50, 51, 52, 53, 54, 55, 56, 57, 48, 49]⟩, .slice none 0 0]) := Lib.hid ⟨HW3.out.1.trans (hb.mono (Nat.le_of_lt HW3.out.2.2.lt)), HW3.out.2.1.under hb, HW3.out.2.2.under hb⟩; clear hb))
 go_ret
 exact ⟨rfl, by first | exact H7.out | (rw [HG.out]; exact H7.out)⟩
theorem wpList_load_part {ops : Array Oper} {rest : List Oper} {op : Oper} {a : Act} {w : World} {Q : Exit → Act → World → Prop} (hgd : op.guard = none) (ty : TypeId) (x : Operand) (ho : op.op = .load ty x)
 (b o : Nat) (hx : a.eval x = .pointer (some ⟨b, o, none⟩)) (cs : Array Value) {d : TypeDesc} (hc : w.rangeAt b o cs.toList)
 (hu : Tryz.prog.underlying ty = some d) (hd : d.isRow = true) {n : Nat} (hi : (Tryz.prog.info? ty).map (·.size) = some n) (hn : cs.size = n)
 (h : wpList Tryz.prog ops Q rest (a.put op.dst (.agg cs)) w) : wpList Tryz.prog ops Q (op :: rest) a w := by
 have e : cs.toList.toArray = cs := by simp
 refine wpList_load_mid hgd ty x ho b o hx cs.toList d hc hu hd (by rw [hi, ← hn]; simp) ?_
 rw [e]
 exact h
theorem wpList_load_partG {ops : Array Oper} {rest : List Oper} {op : Oper} {a : Act} {w : World} {Q : Exit → Act → World → Prop} (hw : Region.wanted op (yielded ops a.tmps) = true) (ty : TypeId) (x : Operand) (ho : op.op = .load ty x)
 (b o : Nat) (hx : a.eval x = .pointer (some ⟨b, o, none⟩)) (cs : Array Value) {d : TypeDesc} (hc : w.rangeAt b o cs.toList)
 (hu : Tryz.prog.underlying ty = some d) (hd : d.isRow = true) {n : Nat} (hi : (Tryz.prog.info? ty).map (·.size) = some n) (hn : cs.size = n)
 (h : wpList Tryz.prog ops Q rest (a.put op.dst (.agg cs)) w) : wpList Tryz.prog ops Q (op :: rest) a w := by
 have e : cs.toList.toArray = cs := by simp
 refine wpList_step fun K hK => by
  rw [if_pos hw]
  refine wp_load_mid ty x ho b o hx cs.toList d hc hu hd (by rw [hi, ← hn]; simp) (hK _ _ ?_)
  rw [e]
  exact h
theorem ask_parts {W : World} {b : Nat} {t : TypeId} {D K : Array Value} {name pass : ByteArray} {Y : List Value} (h : Whole W b t (D.toList ++ (K.toList ++ (.string name :: .string pass :: Y))).toArray) (hD : D.size = 6) (hK : K.size = 3) :
 W.rangeAt b 0 D.toList ∧ W.rangeAt b 6 K.toList ∧ W.cell? ⟨b, 9, none⟩ = some (.string name) ∧ W.cell? ⟨b, 10, none⟩ = some (.string pass) ∧ W.rangeAt b 11 Y := by
 have hc : ∀ j, W.cell? ⟨b, j, none⟩ = (D.toList ++ (K.toList ++ (.string name :: .string pass :: Y)))[j]? := fun j => by rw [h.cell]; simp
 have hDl : D.toList.length = 6 := by simpa using hD
 have hKl : K.toList.length = 3 := by simpa using hK
 have h6 : ∀ j, W.cell? ⟨b, 6 + j, none⟩ = (K.toList ++ (.string name :: .string pass :: Y))[j]? := fun j => by
  rw [hc, List.getElem?_append_right (by omega), hDl, Nat.add_sub_cancel_left]
 have h9 : ∀ j, W.cell? ⟨b, 9 + j, none⟩ = (Value.string name :: .string pass :: Y)[j]? := fun j => by
  have := h6 (3 + j)
  rw [List.getElem?_append_right (by omega), hKl, Nat.add_sub_cancel_left, ← Nat.add_assoc] at this
  exact this
 refine ⟨fun j v hv => ?_, fun j v hv => ?_, h9 0, h9 1, fun j v hv => ?_⟩
 · rw [Nat.zero_add, hc, List.getElem?_append_left (by have := (List.getElem?_eq_some_iff.1 hv).1; exact this)]
   exact hv
 · rw [h6, List.getElem?_append_left (by have := (List.getElem?_eq_some_iff.1 hv).1; exact this)]
   exact hv
 · have := h9 (2 + j)
   rw [← Nat.add_assoc, Nat.add_comm 2 j] at this
   exact this.trans hv
def MadeQ (a : AskS) (w : World) (e : Ending) (w' : World) : Prop :=
 ∃ (R : Array Value) (q : Int), e = .returned (.tuple #[.agg R, .int .i64 q]) ∧ R.size = 6 ∧ R.all (·.oneCell') = true ∧ Below w.heap.size w w' ∧
   ((q = 0 ∧ mayA a.o a.c 1 a.name a.pass a.key = true ∧ ∃ uB uM, DescV w' w'.heap.size R (descA a.o a.c 1 a.name a.pass a.key) uB uM) ∨ q = 1)
theorem DescV.all_one {w : World} {B : Nat} {D : Array Value} {d : DescS} {vB vM : Value} (h : DescV w B D d vB vM) : D.all (·.oneCell') = true := by
 obtain ⟨A1, c1, rfl, -⟩ := Rows.form h.bundle
 obtain ⟨A2, c2, rfl, -⟩ := Rows.form h.media
 rw [h.form]
 exact all_oneD _ _ _ _ _ _ rfl rfl
theorem MakeO.q {a : AskS} {w w' : World} {e : Ending} (h : MakeO a.o a.c 1 a.name a.pass a.key w e w') : MadeQ a w e w' := by
 obtain ⟨hb, ⟨hm, R, uB, uM, he, hd⟩ | ⟨hm, he⟩⟩ := h
 · exact ⟨R, 0, he, by rw [hd.form]; rfl, hd.all_one, hb, .inl ⟨rfl, hm, uB, uM, hd⟩⟩
 · exact ⟨zeroDs, 1, he, rfl, all_oneD _ _ _ _ _ _ rfl rfl, hb, .inr rfl⟩
set_option maxHeartbeats 6400000 in
set_option maxRecDepth 100000 in
theorem judgeMade_walk (X : Array Value) (a : AskS) (w : World) (h : AskV10 w w.heap.size X a) (hz : SizAsk a) :
 Calls Tryz.prog 3 #[.agg X] w fun e w' => e = .returned (.bool true) ∧ Below w.heap.size w w' := by
 obtain ⟨D, K, vB, vM, kC, kE, hX, hD, hK, hkey⟩ := h
 obtain ⟨Y, hY⟩ : ∃ Y, (keyC a.key).toArray = Y := ⟨_, rfl⟩
 have hYl : keyC a.key = Y.toList := by rw [← hY]
 rw [hYl] at hX
 have hDs : D.size = 6 := by rw [hD.form]; rfl
 have hKs : K.size = 3 := hK.size
 have hYs : Y.size = 30 := by rw [← hY]; simp [keyC, hkey]
 have HM : Hid (∀ W, Below w.heap.size w W → Calls Tryz.prog 6 #[.agg D, .agg K, .int .u64 1, .string a.name, .string a.pass, .agg Y] W (MadeQ a W)) := Lib.hid fun W hW => by
  have := r9Make_any D K a.key a.o a.c 1 a.name a.pass vB vM kC kE W (hD.under hW) (hK.under hW) hz.o hz.c hkey (by decide) hz.name hz.pass
  rw [hY] at this
  exact this.mono fun e w' h => h.q
 have HCK : Hid (∀ W R uB uM, Below w.heap.size w W → DescV W W.heap.size R (descA a.o a.c 1 a.name a.pass a.key) uB uM → mayA a.o a.c 1 a.name a.pass a.key = true → Calls Tryz.prog 7 #[.agg D, .agg R] W fun e w' => e = .returned (.int .i64 0) ∧ Below W.heap.size W w') := Lib.hid fun W R uB uM hW hR hm => by
  have := juCheck_any D R a.o _ vB vM uB uM W (hD.under hW) hR hz.o (sizD_made hz.o hkey (by decide) hz.name hz.pass)
  rw [made_right hm] at this
  exact this
 obtain ⟨name, hname⟩ : ∃ s, a.name = s := ⟨_, rfl⟩
 obtain ⟨pass, hpass⟩ : ∃ s, a.pass = s := ⟨_, rfl⟩
 rw [hname, hpass] at HM hX
 have HNP := Lib.hid (And.intro hname hpass)
 obtain ⟨b, hb⟩ : ∃ b, w.heap.size = b := ⟨_, rfl⟩
 have HB := Lib.hid hb
 have hg := Whole.new w 32 X
 have hbb := (Below.refl w.heap.size w).alloc (Nat.le_refl _) (.cells X 32)
 rw [hb] at hg hbb HM HCK
 have H0 := Lib.hid (And.intro hg hbb)
 have HPT : Hid (∀ W, Whole W b 32 X → W.rangeAt b 0 D.toList ∧ W.rangeAt b 6 K.toList ∧ W.cell? ⟨b, 9, none⟩ = some (.string name) ∧ W.cell? ⟨b, 10, none⟩ = some (.string pass) ∧ W.rangeAt b 11 Y.toList) := Lib.hid fun W hW => by
  rw [hX] at hW
  exact ask_parts hW hDs hKs
 have HS := Lib.hid (And.intro hDs (And.intro hKs hYs))
 have HAW : Hid (∀ W, Calls Tryz.prog 5 #[] W fun e w' => e = .returned (.bool true) ∧ Below W.heap.size W w') := Lib.hid fun W => awake10_any W
 clear hX hD hK hkey hY hYl hDs hKs hYs hz hname hpass hg hbb
 go_enter Tryz.func3, Tryz.ntmps3
 go_upto_region 1 with fail
 generalize w.alloc (.cells X 32) = W0 at *
 try rw [hb]
 clear hb
 go_upto_region 3 with (go_at_call 5; (with_reducible refine (HAW.out _).mono ?_); rintro e w1 ⟨rfl, hb1⟩)
 have k1 : Below b w w1 := H0.out.2.trans (hb1.mono (Nat.le_of_lt H0.out.1.lt))
 have g1 := H0.out.1.under hb1
 have HK1 := Lib.hid (And.intro k1 g1)
 have HP1 := Lib.hid (HPT.out _ g1)
 have c9 := HP1.out.2.2.1
 have c10 := HP1.out.2.2.2.1
 clear hb1 k1 g1
 go_upto_region 4 with (first | (refine wpList_load_part rfl 26 (.tmp 8) rfl b 0 rfl D HP1.out.1 Tryz.underlying26 rfl Tryz.sizeDesc HS.out.1 ?_) | (refine wpList_load_part rfl 29 (.tmp 10) rfl b 6 rfl K HP1.out.2.1 Tryz.underlying29 rfl Tryz.sizeConfig HS.out.2.1 ?_) | (refine wpList_load_part rfl 30 (.tmp 16) rfl b 11 rfl Y HP1.out.2.2.2.2 Tryz.underlying30 rfl Tryz.sizeKey9 HS.out.2.2 ?_) | (go_at_call 6; (with_reducible refine (HM.out _ HK1.out.1).mono ?_); rintro e w2 ⟨R, q, rfl, hr6, hr1, hb2, hor⟩) | (refine wpList_store_whole rfl 26 (.tmp 3) (.tmp 19) rfl rfl rfl (Whole.new w2 26 #[.int .u64 0, .int .u64 0, .slice none 0 0, .string ⟨#[]⟩, .string ⟨#[]⟩, .slice none 0 0]) Tryz.sizeDesc hr6 rfl hr1 ?_))
 try simp only [Act.put]
 have hb3 : Below w2.heap.size w2 ((w2.alloc (.cells #[.int .u64 0, .int .u64 0, .slice none 0 0, .string ⟨#[]⟩, .string ⟨#[]⟩, .slice none 0 0] 26)).setRow w2.heap.size R) := below_row ((Below.refl _ _).alloc (Nat.le_refl _) _) (Nat.le_refl _) R
 have hg3 : Whole ((w2.alloc (.cells #[.int .u64 0, .int .u64 0, .slice none 0 0, .string ⟨#[]⟩, .string ⟨#[]⟩, .slice none 0 0] 26)).setRow w2.heap.size R) w2.heap.size 26 R := (Whole.new w2 26 #[.int .u64 0, .int .u64 0, .slice none 0 0, .string ⟨#[]⟩, .string ⟨#[]⟩, .slice none 0 0]).row R
 have hb13 := hb2.trans (hb3.mono hb2.size)
 have k3 : Below b w _ := HK1.out.1.trans (hb13.mono (Nat.le_of_lt HK1.out.2.lt))
 have g3 := HK1.out.2.under hb13
 have hor3 : (q = 0 ∧ mayA a.o a.c 1 a.name a.pass a.key = true ∧ ∃ uB uM, DescV ((w2.alloc (.cells #[.int .u64 0, .int .u64 0, .slice none 0 0, .string ⟨#[]⟩, .string ⟨#[]⟩, .slice none 0 0] 26)).setRow w2.heap.size R) ((w2.alloc (.cells #[.int .u64 0, .int .u64 0, .slice none 0 0, .string ⟨#[]⟩, .string ⟨#[]⟩, .slice none 0 0] 26)).setRow w2.heap.size R).heap.size R (descA a.o a.c 1 a.name a.pass a.key) uB uM) ∨ q = 1 := hor.imp (fun ⟨h1, h2, uB, uM, h3⟩ => ⟨h1, h2, uB, uM, h3.under hb3⟩) (fun e => e)
 generalize (w2.alloc (.cells #[.int .u64 0, .int .u64 0, .slice none 0 0, .string ⟨#[]⟩, .string ⟨#[]⟩, .slice none 0 0] 26)).setRow w2.heap.size R = w3 at *
 generalize w2.heap.size = g2 at *
 have H3 := Lib.hid (And.intro k3 (And.intro g3 (And.intro hg3 hr6)))
 clear hb2 hb3 hb13 k3 g3 hg3 hor hr6 hr1 c9 c10
 rcases hor3 with ⟨rfl, hm, uB, uM, hd⟩ | rfl
 · have HP3 := Lib.hid (HPT.out _ H3.out.2.1)
   have HC3 : Hid (Calls Tryz.prog 7 #[.agg D, .agg R] w3 fun e w' => e = .returned (.int .i64 0) ∧ Below w3.heap.size w3 w') := Lib.hid (HCK.out _ _ _ _ H3.out.1 hd hm)
   clear hd hm
   go_wp2_with (first | ((with_reducible refine wpList_load_partG ?_ 26 (.tmp 24) ?_ b 0 ?_ D HP3.out.1 Tryz.underlying26 rfl Tryz.sizeDesc HS.out.1 ?_); rfl; (with_reducible rfl); rfl) | ((with_reducible refine wpList_load_allG ?_ 26 (.tmp 3) ?_ H3.out.2.2.1 ?_ Tryz.sizeDesc H3.out.2.2.2 Tryz.underlying26 rfl ?_); rfl; (with_reducible rfl); rfl) | (go_at_call 7; (with_reducible refine HC3.out.mono ?_); rintro e w4 ⟨rfl, hb4⟩))
   go_ret
   exact ⟨rfl, by rw [HB.out]; exact H3.out.1.trans (hb4.mono (Nat.le_of_lt H3.out.2.1.lt))⟩
 · go_wp2
   go_ret
   exact ⟨rfl, by rw [HB.out]; exact H3.out.1⟩
end Go.Proofs.YtdhlifjiclighaaGreat
