import Derived.Test.YtibpnjakimobmaaGreatPkJudgeTurnedA14
import Derived.Test.YtibpnjakimobmaaGreatPkJudgeTurnedA15
import Derived.Test.YtibpnjakimobmaaGreatPkJudgeTurnedA10
import Derived.Test.YtibpnjakimobmaaGreatPkJudgeTurnedA11
import Derived.Test.YtibpnjakimobmaaGreatPkJudgeTurnedA07
namespace Go.Proofs.YtibpnjakimobmaaGreat
open Go.RowKit
set_option linter.unusedVariables false
set_option linter.unusedSimpArgs false
theorem txs_eq {L M : List ByteArray} : L.map tx = M.map tx ↔ L = M := by
 constructor
 · intro h
   apply List.ext_getElem?
   intro j
   have := congrArg (fun l => l[j]?) h
   simp only [List.getElem?_map] at this
   match h1 : L[j]?, h2 : M[j]? with
   | none, none => rfl
   | some s, none => rw [h1, h2] at this; cases this
   | none, some s => rw [h1, h2] at this; cases this
   | some s, some t =>
     rw [h1, h2] at this
     rw [tx_inj (Option.some.inj this)]
 · intro h; rw [h]
set_option maxHeartbeats 6400000 in
set_option maxRecDepth 100000 in
theorem juBundle_any (X Y : Array Value) (o a : DescS) (vB vM uB uM : Value) (w : World) (h1 : DescV w w.heap.size X o vB vM) (h2 : DescV w w.heap.size Y a uB uM) (h8 : a.media.length ≤ 8) (hlo : o.bundle.length ≤ 8796093021952) :
 Calls Tryz.prog 28 #[.agg X, .agg Y] w fun e w' => e = .returned (.bool (bundle9 o a)) ∧ Below w.heap.size w w' := by
 obtain ⟨hb0, hbx, hby⟩ := two_boxes w 26 X Y
 obtain ⟨AB, cB, rfl, -⟩ := Rows.form h1.bundle
 obtain ⟨AM, cM, rfl, hcM, hmM, -⟩ := Rows.form h1.media
 obtain ⟨AB2, cB2, rfl, -⟩ := Rows.form h2.bundle
 obtain ⟨AM2, cM2, rfl, hcM2, hmM2, -⟩ := Rows.form h2.media
 obtain ⟨nB, hnB⟩ : ∃ n, o.bundle.length = n := ⟨_, rfl⟩
 obtain ⟨nM, hnM⟩ : ∃ n, o.media.length = n := ⟨_, rfl⟩
 obtain ⟨nB2, hnB2⟩ : ∃ n, a.bundle.length = n := ⟨_, rfl⟩
 obtain ⟨nM2, hnM2⟩ : ∃ n, a.media.length = n := ⟨_, rfl⟩
 rw [hnB, hnM] at h1
 rw [hnB2, hnM2] at h2
 have HX1 : Hid (X[1]? = some (.int .u64 (o.ver : Int))) := Lib.hid (by rw [h1.form]; rfl)
 have HX2 : Hid (X[2]? = some (.slice AB nB cB)) := Lib.hid (by rw [h1.form]; rfl)
 have HX5 : Hid (X[5]? = some (.slice AM nM cM)) := Lib.hid (by rw [h1.form]; rfl)
 have HY1 : Hid (Y[1]? = some (.int .u64 (a.ver : Int))) := Lib.hid (by rw [h2.form]; rfl)
 have HY2 : Hid (Y[2]? = some (.slice AB2 nB2 cB2)) := Lib.hid (by rw [h2.form]; rfl)
 have HY5 : Hid (Y[5]? = some (.slice AM2 nM2 cM2)) := Lib.hid (by rw [h2.form]; rfl)
 have HSZ : Hid (X.size = 6 ∧ Y.size = 6) := Lib.hid ⟨by rw [h1.form]; rfl, by rw [h2.form]; rfl⟩
 have HL := Lib.hid (And.intro hnB (And.intro hnM (And.intro hnB2 hnM2)))
 obtain ⟨N, hN⟩ : ∃ N, w.heap.size = N := ⟨_, rfl⟩
 have H0 := Lib.hid (And.intro hb0 (And.intro hbx hby))
 have HV := Lib.hid (And.intro h1 h2)
 rw [hN] at H0 HV
 have HN := Lib.hid hN
 clear h1 h2 hb0 hbx hby hN hnB hnM hnB2 hnM2
 have HR : Hid (bundle9 o a = bundle9 o a) := Lib.hid rfl
 obtain ⟨r, hr⟩ : ∃ r, bundle9 o a = r := ⟨_, rfl⟩
 replace HR : Hid (r = bundle9 o a) := Lib.hid hr.symm
 rw [hr]
 rw [HL.out.2.2.2] at h8
 rw [HL.out.1] at hlo
 clear hr
 go_enter Tryz.func28, Tryz.ntmps28
 go_upto_region 1 with fail
 simp only [HN.out, Nat.add_assoc, Nat.reduceAdd]
 generalize ((w.alloc (.cells X 26)).alloc (.cells Y 26)) = W0 at *
 have HN0 : Hid (N ≤ W0.heap.size) := Lib.hid (Nat.le_of_lt H0.out.2.1.lt)
 have HF : Hid (∀ W, Below W0.heap.size W0 W → Below N w W ∧ Whole W N 26 X ∧ Whole W (N + 1) 26 Y) := Lib.hid fun W hW => ⟨H0.out.1.trans (hW.mono HN0.out), H0.out.2.1.under hW, H0.out.2.2.under hW⟩
 have cy5 : W0.cell? ⟨N + 1, 5, none⟩ = some (.slice AM2 nM2 cM2) := (H0.out.2.2.cell 5).trans HY5.out
 go_wp2
 clear cy5
 go_loopw [11, 5] (fun s11 s5 wq => ∃ i : Nat, i ≤ nM2 ∧ s11 = .int .i64 (i : Int) ∧ (Own wq W0.heap.size 9 1 s5 ((takenMids (a.media.take i)).map tcell) ∧ Below W0.heap.size W0 wq)) (fun s11 _ _ => nM2 - (intOf s11).toNat)
 case atStart => exact ⟨0, Nat.zero_le _, rfl, Own.nil _ _ _ _, Below.refl _ _⟩
 case round =>
  obtain ⟨i, hi, rfl, hst⟩ := hrel
  have HT := Lib.hid hst
  clear hst
  have HFT := Lib.hid (HF.out wr HT.out.2)
  obtain ⟨At, ct, hvt, -⟩ := Own.form HT.out.1
  obtain ⟨nt, hnt⟩ : ∃ n, ((takenMids (a.media.take i)).map tcell).length = n := ⟨_, rfl⟩
  rw [hnt] at hvt
  subst hvt
  have HNT : Hid (((takenMids (a.media.take i)).map tcell).length = nt ∧ nt ≤ 8) := Lib.hid ⟨hnt, by
   rw [← hnt, List.length_map]
   have := taken_le (a.media.take i)
   rw [List.length_take] at this
   omega⟩
  clear hnt
  by_cases hlt : i < nM2
  · obtain ⟨ad2, k2, M, uC, uE, uR, uS, uY, e2, b2, hy, ys⟩ := MediasV.at_ (HV.out.2.media.below HFT.out.1) (i := i) (by rw [HL.out.2.2.2]; exact hlt)
    injection e2 with e2 e2n e2c; clear e2n e2c
    subst e2
    obtain ⟨y, hy2⟩ : ∃ m, a.media.getD i default = m := ⟨_, rfl⟩
    have hyi : a.media[i]? = some y := by rw [← hy2]; exact getD_of (by rw [HL.out.2.2.2]; exact hlt)
    rw [hy2] at hy
    have HYI := Lib.hid hyi
    have hi0 : (0 : Int) ≤ (i : Int) := by omega
    have hi1 : (i : Int) < (nM2 : Int) := by omega
    have HLD : Hid (∀ (ops : Array Oper) (rest : List Oper) (op : Oper) (act : Act) (Q : Exit → Act → World → Prop), op.guard = none → op.op = .load 44 (.tmp 13) → act.eval (.tmp 13) = .pointer (some (ad2.add (i * 11))) → wpList Tryz.prog ops Q rest (act.put op.dst (.agg M)) wr → wpList Tryz.prog ops Q (op :: rest) act wr) :=
     Lib.hid fun ops rest op act Q h1 h2 h3 h4 => wpList_load_at h1 44 (.tmp 13) h2 _ h3 M.toList _ ys Tryz.underlying44 rfl (by rw [Array.length_toList, hy.size]; exact Tryz.sizeMedia) (by rw [Array.toArray_toList]; exact h4)
    have HSM : Hid (M.size = 11 ∧ M.toList.all (·.oneCell') = true ∧ M[1]? = some (.int .i64 y.port) ∧ M[2]? = some (.string y.mid)) := Lib.hid ⟨hy.size, hy.one, by rw [hy.form]; rfl, by rw [hy.form]; rfl⟩
    have HW1 : Hid (Below wr.heap.size wr ((wr.alloc (.cells #[.int .i64 0, .int .i64 0, .string ⟨#[]⟩, .int .i64 0, .slice none 0 0, .slice none 0 0, .slice none 0 0, .bool false, .slice none 0 0, .slice none 0 0, .int .i64 0] 44)).setRow wr.heap.size M) ∧ Whole ((wr.alloc (.cells #[.int .i64 0, .int .i64 0, .string ⟨#[]⟩, .int .i64 0, .slice none 0 0, .slice none 0 0, .slice none 0 0, .bool false, .slice none 0 0, .slice none 0 0, .int .i64 0] 44)).setRow wr.heap.size M) wr.heap.size 44 M) := Lib.hid ⟨below_row ((Below.refl _ wr).alloc (Nat.le_refl _) _) (Nat.le_refl _) _, (Whole.new _ _ _).row _⟩
    clear hy ys b2 hy2 hyi
    go_upto_region 5 with (first | ((with_reducible refine HLD.out _ _ _ _ _ ?_ ?_ ?_ ?_); (with_reducible rfl); (with_reducible rfl); rfl) | ((with_reducible refine wpList_storeS M ?_ 44 (.tmp 7) (.tmp 14) ?_ ?_ ?_ (Whole.new _ _ _) Tryz.sizeMedia HSM.out.1 ?_ HSM.out.2.1 ?_); (with_reducible rfl); (with_reducible rfl); rfl; rfl; rfl))
    have H1 : Hid (Own ((wr.alloc (.cells #[.int .i64 0, .int .i64 0, .string ⟨#[]⟩, .int .i64 0, .slice none 0 0, .slice none 0 0, .slice none 0 0, .bool false, .slice none 0 0, .slice none 0 0, .int .i64 0] 44)).setRow wr.heap.size M) W0.heap.size 9 1 (.slice At nt ct) ((takenMids (a.media.take i)).map tcell) ∧ Below W0.heap.size W0 ((wr.alloc (.cells #[.int .i64 0, .int .i64 0, .string ⟨#[]⟩, .int .i64 0, .slice none 0 0, .slice none 0 0, .slice none 0 0, .bool false, .slice none 0 0, .slice none 0 0, .int .i64 0] 44)).setRow wr.heap.size M) ∧ Whole ((wr.alloc (.cells #[.int .i64 0, .int .i64 0, .string ⟨#[]⟩, .int .i64 0, .slice none 0 0, .slice none 0 0, .slice none 0 0, .bool false, .slice none 0 0, .slice none 0 0, .int .i64 0] 44)).setRow wr.heap.size M) wr.heap.size 44 M) := Lib.hid ⟨HT.out.1.under HW1.out.1, HT.out.2.trans (HW1.out.1.mono HT.out.2.size), HW1.out.2⟩
    clear HLD HW1
    generalize ((wr.alloc (.cells #[.int .i64 0, .int .i64 0, .string ⟨#[]⟩, .int .i64 0, .slice none 0 0, .slice none 0 0, .slice none 0 0, .bool false, .slice none 0 0, .slice none 0 0, .int .i64 0] 44)).setRow wr.heap.size M) = w1 at *
    generalize wr.heap.size = gM at *
    have HTK : Hid (Calls Tryz.prog 41 #[.agg M] w1 fun e w' => e = .returned (.bool (!(y.port == 0))) ∧ Below w1.heap.size w1 w') := Lib.hid (juTaken_any M y.port w1 HSM.out.2.2.1)
    obtain ⟨tk, htk⟩ : ∃ b, tookT y = b := ⟨_, rfl⟩
    have htk2 : (!(y.port == 0)) = tk := by rw [← htk]; rfl
    rw [htk2] at HTK
    have HTN := Lib.hid (taken_next HYI.out)
    rw [htk] at HTN
    clear htk htk2
    cases tk with
    | false =>
      go_wp2_with (first | ((with_reducible refine wpList_load_all ?_ 44 (.tmp 7) ?_ H1.out.2.2 ?_ Tryz.sizeMedia HSM.out.1 Tryz.underlying44 rfl ?_); (with_reducible rfl); (with_reducible rfl); rfl) | (go_at_call 41; (with_reducible refine HTK.out.mono ?_); rintro e w2 ⟨rfl, hb2⟩))
      go_roundw
      case rel => exact ⟨i + 1, by omega, by go_num, by rw [HTN.out]; exact H1.out.1.under hb2, H1.out.2.1.trans (hb2.mono H1.out.2.1.size)⟩
      case measure => simp [intOf]; omega
    | true =>
      go_upto_if 16 with (first | ((with_reducible refine wpList_load_all ?_ 44 (.tmp 7) ?_ H1.out.2.2 ?_ Tryz.sizeMedia HSM.out.1 Tryz.underlying44 rfl ?_); (with_reducible rfl); (with_reducible rfl); rfl) | (go_at_call 41; (with_reducible refine HTK.out.mono ?_); rintro e w2 ⟨rfl, hb2⟩; have H2 : Hid (Own w2 W0.heap.size 9 1 (.slice At nt ct) ((takenMids (a.media.take i)).map tcell) ∧ Below W0.heap.size W0 w2 ∧ Whole w2 gM 44 M) := Lib.hid ⟨H1.out.1.under hb2, H1.out.2.1.trans (hb2.mono H1.out.2.1.size), H1.out.2.2.under hb2⟩; clear hb2))
      have hnt8 := HNT.out.2
      have q2 : w2.cell? ⟨gM, 2, none⟩ = some (.string y.mid) := (H2.out.2.2.cell 2).trans HSM.out.2.2.2
      have HNA : Hid (Own (w2.alloc (.cells #[.string y.mid] 9)) W0.heap.size 9 1 (.slice At nt ct) ((takenMids (a.media.take i)).map tcell) ∧ Whole (w2.alloc (.cells #[.string y.mid] 9)) w2.heap.size 9 #[.string y.mid] ∧ W0.heap.size ≤ (w2.alloc (.cells #[.string y.mid] 9)).heap.size ∧ Below W0.heap.size W0 (w2.alloc (.cells #[.string y.mid] 9))) := Lib.hid
       ⟨H2.out.1.alloc _, Whole.new _ _ _, Nat.le_trans H2.out.2.1.size (by rw [World.size_alloc]; omega), H2.out.2.1.alloc H2.out.2.1.size _⟩
      go_wp2_with (at_builtin; refine wpList_appendE (r := [.string y.mid]) rfl (.tmp 17) (.tmp 20) rfl Tryz.underlying23 Tryz.infoStr rfl (Nat.zero_lt_succ _) rfl HNA.out.1 rfl HNA.out.2.1 rfl (fun u hu => by simp at hu; subst hu; rfl) (by rw [HNT.out.1]; omega) (by rw [HNT.out.1]; omega) HNA.out.2.2.1 ?_; intro v8 w8 ho8 hg8 hn8; have H8 : Hid (Own w8 W0.heap.size 9 1 v8 ((takenMids (a.media.take i)).map tcell ++ [tcell y.mid]) ∧ Below W0.heap.size W0 w8) := Lib.hid ⟨ho8, HNA.out.2.2.2.grown hg8 HNA.out.2.2.1 (fun j hj => (HNA.out.1.lt hj).1)⟩; clear ho8 hg8 hn8)
      go_roundw
      case rel => exact ⟨i + 1, by omega, by go_num, by rw [HTN.out]; simpa using H8.out.1, H8.out.2⟩
      case measure => simp [intOf]; omega
  · obtain rfl : i = nM2 := by omega
    have htk : a.media.take i = a.media := List.take_of_length_le (by rw [HL.out.2.2.2]; exact Nat.le_refl _)
    rw [htk] at HT HNT
    clear htk
    have HTX : Hid (∀ W, Below wr.heap.size wr W → TextsV W W.heap.size (.slice At nt ct) (takenMids a.media)) := Lib.hid fun W hW => (HT.out.1.under hW).texts (Nat.le_refl _)
    have hnr : N ≤ wr.heap.size := Nat.le_of_lt HFT.out.2.1.lt
    have HTB : Hid (TextsV wr wr.heap.size (.slice AB2 nB2 cB2) a.bundle) := Lib.hid ((HV.out.2.bundle.below HFT.out.1).more hnr)
    have HTO : Hid (∀ W, Below wr.heap.size wr W → TextsV W W.heap.size (.slice AB nB cB) o.bundle) := Lib.hid fun W hW => (HV.out.1.bundle.below (HFT.out.1.trans (hW.mono hnr))).more (Nat.le_trans hnr hW.size)
    obtain ⟨q, hq⟩ := sameBool a.bundle (takenMids a.media)
    have HCS : Hid (Calls Tryz.prog 50 #[.slice AB2 nB2 cB2, .slice At nt ct] wr fun e w' => e = .returned (.bool q) ∧ Below wr.heap.size wr w') := Lib.hid ((equalT_any _ _ a.bundle (takenMids a.media) wr HTB.out (HTX.out wr (Below.refl _ _))).mono fun e w' h => h.fix hq)
    have HCW : Hid (∀ W, Below wr.heap.size wr W → Calls Tryz.prog 45 #[.slice At nt ct, .slice AB nB cB] W fun e w' => e = .returned (.bool ((takenMids a.media).all (inT o.bundle))) ∧ Below W.heap.size W w') := Lib.hid fun W hW => juWithinT_any At nt ct AB nB cB (takenMids a.media) o.bundle W (HTX.out W hW) (by rw [← HNT.out.1, List.length_map]) (by have := HNT.out.2; omega) (HTO.out W hW) HL.out.1 (by omega)
    have HQ : Hid (r = ((takenMids a.media).all (inT o.bundle) && q)) := Lib.hid (by
     rw [HR.out]
     unfold bundle9
     congr 1
     rw [Bool.eq_iff_iff, hq, decide_eq_true_eq, txs_eq]
     exact ⟨fun h => h.symm, fun h => h.symm⟩)
    generalize (takenMids a.media).all (inT o.bundle) = ia at *
    have d2 : wr.cell? ⟨N + 1, 2, none⟩ = some (.slice AB2 nB2 cB2) := (HFT.out.2.2.cell 2).trans HY2.out
    have HV1 : Hid (∀ W, Below wr.heap.size wr W → Below N w W ∧ W.cell? ⟨N, 2, none⟩ = some (.slice AB nB cB)) := Lib.hid fun W hW => ⟨HFT.out.1.trans (hW.mono hnr), ((HFT.out.2.1.under hW).cell 2).trans HX2.out⟩
    clear hq hnr
    cases q with
    | false =>
      go_wp2_with (go_at_call 50; (with_reducible refine HCS.out.mono ?_); rintro e w9 ⟨rfl, hb9⟩; have HE9 := Lib.hid (HV1.out w9 hb9); clear hb9)
      go_ret
      exact ⟨ret_bool (by rw [HQ.out]; simp), by rw [HN.out]; exact HE9.out.1⟩
    | true =>
      go_wp2_with (first | (go_at_call 50; (with_reducible refine HCS.out.mono ?_); rintro e w9 ⟨rfl, hb9⟩; have HE9 := Lib.hid (HV1.out w9 hb9); have g2 := HE9.out.2; have HB9 := Lib.hid hb9; clear hb9) | (go_at_call 45; (with_reducible refine (HCW.out _ HB9.out).mono ?_); rintro e w10 ⟨rfl, hb10⟩; have HE10 := Lib.hid (HV1.out w10 (HB9.out.trans (hb10.mono HB9.out.size))); clear hb10))
      go_ret
      exact ⟨ret_bool (by rw [HQ.out]; simp), by rw [HN.out]; exact HE10.out.1⟩
set_option maxHeartbeats 3200000 in
set_option maxRecDepth 100000 in
theorem juRules_any (w : World) : Calls Tryz.prog 11 #[] w fun e w' => ∃ g g0 g1 g2 g3 g4 g5, e = .returned (.slice (some ⟨g, 0, none⟩) 10 10) ∧ Whole w' g 58 #[(.func (.func 19) #[] #[]), (.func (.func 20) #[] #[]), (.func (.func 39) #[] #[.pointer (some ⟨g0, 0, none⟩)]), (.func (.func 39) #[] #[.pointer (some ⟨g1, 0, none⟩)]), (.func (.func 39) #[] #[.pointer (some ⟨g2, 0, none⟩)]), (.func (.func 39) #[] #[.pointer (some ⟨g3, 0, none⟩)]), (.func (.func 39) #[] #[.pointer (some ⟨g4, 0, none⟩)]), (.func (.func 39) #[] #[.pointer (some ⟨g5, 0, none⟩)]), (.func (.func 28) #[] #[]), (.func (.func 29) #[] #[])] ∧ Below w.heap.size w w' ∧ Whole w' g0 67 #[(.func (.func 22) #[] #[])] ∧ Whole w' g1 67 #[(.func (.func 23) #[] #[])] ∧ Whole w' g2 67 #[(.func (.func 24) #[] #[])] ∧ Whole w' g3 67 #[(.func (.func 25) #[] #[])] ∧ Whole w' g4 67 #[(.func (.func 26) #[] #[])] ∧ Whole w' g5 67 #[(.func (.func 27) #[] #[])] := by
 have HOT : Hid (∀ (W : World) (fv : Nat), Calls Tryz.prog 21 #[.func (.func fv) #[] #[]] W fun e w' => ∃ g, e = .returned (.func (.func 39) #[] #[.pointer (some ⟨g, 0, none⟩)]) ∧ W.heap.size ≤ g ∧ Whole w' g 67 #[.func (.func fv) #[] #[]] ∧ Below W.heap.size W w') := Lib.hid fun W fv => juOfTaken_any fv W
 go_enter Tryz.func11, Tryz.ntmps11
 go_wp2_with (first | (have hg := H5.out.1; clear hg; go_at_call 21; (with_reducible refine (HOT.out _ _).mono ?_); rintro e w6 ⟨g5, rfl, -, h2, hb⟩; have H6 : Hid (Below w.heap.size w w6 ∧ Whole w6 g0 67 #[(.func (.func 22) #[] #[])] ∧ Whole w6 g1 67 #[(.func (.func 23) #[] #[])] ∧ Whole w6 g2 67 #[(.func (.func 24) #[] #[])] ∧ Whole w6 g3 67 #[(.func (.func 25) #[] #[])] ∧ Whole w6 g4 67 #[(.func (.func 26) #[] #[])] ∧ Whole w6 g5 67 #[(.func (.func 27) #[] #[])]) := Lib.hid ⟨H5.out.1.trans (hb.mono H5.out.1.size), H5.out.2.1.under hb, H5.out.2.2.1.under hb, H5.out.2.2.2.1.under hb, H5.out.2.2.2.2.1.under hb, H5.out.2.2.2.2.2.under hb, h2⟩; clear h2 hb) | (have hg := H4.out.1; clear hg; go_at_call 21; (with_reducible refine (HOT.out _ _).mono ?_); rintro e w5 ⟨g4, rfl, -, h2, hb⟩; have H5 : Hid (Below w.heap.size w w5 ∧ Whole w5 g0 67 #[(.func (.func 22) #[] #[])] ∧ Whole w5 g1 67 #[(.func (.func 23) #[] #[])] ∧ Whole w5 g2 67 #[(.func (.func 24) #[] #[])] ∧ Whole w5 g3 67 #[(.func (.func 25) #[] #[])] ∧ Whole w5 g4 67 #[(.func (.func 26) #[] #[])]) := Lib.hid ⟨H4.out.1.trans (hb.mono H4.out.1.size), H4.out.2.1.under hb, H4.out.2.2.1.under hb, H4.out.2.2.2.1.under hb, H4.out.2.2.2.2.under hb, h2⟩; clear h2 hb) | (have hg := H3.out.1; clear hg; go_at_call 21; (with_reducible refine (HOT.out _ _).mono ?_); rintro e w4 ⟨g3, rfl, -, h2, hb⟩; have H4 : Hid (Below w.heap.size w w4 ∧ Whole w4 g0 67 #[(.func (.func 22) #[] #[])] ∧ Whole w4 g1 67 #[(.func (.func 23) #[] #[])] ∧ Whole w4 g2 67 #[(.func (.func 24) #[] #[])] ∧ Whole w4 g3 67 #[(.func (.func 25) #[] #[])]) := Lib.hid ⟨H3.out.1.trans (hb.mono H3.out.1.size), H3.out.2.1.under hb, H3.out.2.2.1.under hb, H3.out.2.2.2.under hb, h2⟩; clear h2 hb) | (have hg := H2.out.1; clear hg; go_at_call 21; (with_reducible refine (HOT.out _ _).mono ?_); rintro e w3 ⟨g2, rfl, -, h2, hb⟩; have H3 : Hid (Below w.heap.size w w3 ∧ Whole w3 g0 67 #[(.func (.func 22) #[] #[])] ∧ Whole w3 g1 67 #[(.func (.func 23) #[] #[])] ∧ Whole w3 g2 67 #[(.func (.func 24) #[] #[])]) := Lib.hid ⟨H2.out.1.trans (hb.mono H2.out.1.size), H2.out.2.1.under hb, H2.out.2.2.under hb, h2⟩; clear h2 hb) | (have hg := H1.out.1; clear hg; go_at_call 21; (with_reducible refine (HOT.out _ _).mono ?_); rintro e w2 ⟨g1, rfl, -, h2, hb⟩; have H2 : Hid (Below w.heap.size w w2 ∧ Whole w2 g0 67 #[(.func (.func 22) #[] #[])] ∧ Whole w2 g1 67 #[(.func (.func 23) #[] #[])]) := Lib.hid ⟨H1.out.1.trans (hb.mono H1.out.1.size), H1.out.2.under hb, h2⟩; clear h2 hb) | (go_at_call 21; (with_reducible refine (HOT.out _ _).mono ?_); rintro e w1 ⟨g0, rfl, -, h2, hb⟩; have H1 : Hid (Below w.heap.size w w1 ∧ Whole w1 g0 67 #[(.func (.func 22) #[] #[])]) := Lib.hid ⟨hb, h2⟩; clear h2 hb))
 go_ret
 exact ⟨_, g0, g1, g2, g3, g4, g5, rfl, Whole.new _ _ _, H6.out.1.alloc H6.out.1.size _, H6.out.2.1.alloc _, H6.out.2.2.1.alloc _, H6.out.2.2.2.1.alloc _, H6.out.2.2.2.2.1.alloc _, H6.out.2.2.2.2.2.1.alloc _, H6.out.2.2.2.2.2.2.alloc _⟩
theorem rules_calls {w w1 : World} {N : Nat} {X Y : Array Value} {o a : DescS} {vB vM uB uM : Value} {FV : Array Value} (g0 g1 g2 g3 g4 g5 : Nat) (hFV : FV = #[(.func (.func 19) #[] #[]), (.func (.func 20) #[] #[]), (.func (.func 39) #[] #[.pointer (some ⟨g0, 0, none⟩)]), (.func (.func 39) #[] #[.pointer (some ⟨g1, 0, none⟩)]), (.func (.func 39) #[] #[.pointer (some ⟨g2, 0, none⟩)]), (.func (.func 39) #[] #[.pointer (some ⟨g3, 0, none⟩)]), (.func (.func 39) #[] #[.pointer (some ⟨g4, 0, none⟩)]), (.func (.func 39) #[] #[.pointer (some ⟨g5, 0, none⟩)]), (.func (.func 28) #[] #[]), (.func (.func 29) #[] #[])]) (HR1 : Hid (Below N w w1 ∧ Whole w1 g0 67 #[(.func (.func 22) #[] #[])] ∧ Whole w1 g1 67 #[(.func (.func 23) #[] #[])] ∧ Whole w1 g2 67 #[(.func (.func 24) #[] #[])] ∧ Whole w1 g3 67 #[(.func (.func 25) #[] #[])] ∧ Whole w1 g4 67 #[(.func (.func 26) #[] #[])] ∧ Whole w1 g5 67 #[(.func (.func 27) #[] #[])])) (hN : N ≤ w1.heap.size) (h1 : DescV w N X o vB vM) (h2 : DescV w N Y a uB uM) (hz1 : SizD o) (hz2 : SizD a) (k : Nat) (hk : k < 10) (hgood : 0 < k → goodD o = true ∧ goodD a = true) (W : World) (hW : Below w1.heap.size w1 W) :
 ∃ f cap, FV[k]? = some (.func (.func f) #[] cap) ∧ (∀ args w, (callFunc f args).run Tryz.prog w = .ok (.enter f args) w) ∧ Calls Tryz.prog f (#[.agg X, .agg Y] ++ cap) W fun e w' => e = .returned (.bool (ruleJ o a k)) ∧ Below W.heap.size W w' := by
 have hNW := HR1.out.1.trans (hW.mono hN)
 have hXV : DescV W W.heap.size X o vB vM := (h1.below hNW).more (Nat.le_trans hN hW.size)
 have hYV : DescV W W.heap.size Y a uB uM := (h2.below hNW).more (Nat.le_trans hN hW.size)
 subst hFV
 have : k = 0 ∨ k = 1 ∨ k = 2 ∨ k = 3 ∨ k = 4 ∨ k = 5 ∨ k = 6 ∨ k = 7 ∨ k = 8 ∨ k = 9 := by omega
 rcases this with rfl | rfl | rfl | rfl | rfl | rfl | rfl | rfl | rfl | rfl
 · refine ⟨19, #[], by rfl, enters_to Tryz.func19 (by kernel_rfl) rfl, ?_⟩
   exact juGood_any X Y o a _ _ _ _ W hXV hYV hz1 hz2
 · refine ⟨20, #[], by rfl, enters_to Tryz.func20 (by kernel_rfl) rfl, ?_⟩
   exact juInPlace_any X Y o a _ _ _ _ W hXV hYV
 · refine ⟨39, #[.pointer (some ⟨g0, 0, none⟩)], by rfl, enters_to Tryz.func39 (by kernel_rfl) rfl, ?_⟩
   exact juOfTaken1_any X Y o a _ _ _ _ W hXV hYV g0 22 #[] openQ ((HR1.out.2.1.under hW).cell 0) (enters_to Tryz.func22 (by kernel_rfl) rfl) (fun W2 X Y x y vC vE vR vS vY uC uE uR uS uY hW2 hx hy h1 h2 => juOpen_any X Y x y _ _ _ _ _ _ _ _ _ _ W2 h1 h2)
 · refine ⟨39, #[.pointer (some ⟨g1, 0, none⟩)], by rfl, enters_to Tryz.func39 (by kernel_rfl) rfl, ?_⟩
   exact juOfTaken1_any X Y o a _ _ _ _ W hXV hYV g1 23 #[] codecsQ ((HR1.out.2.2.1.under hW).cell 0) (enters_to Tryz.func23 (by kernel_rfl) rfl) (fun W2 X Y x y vC vE vR vS vY uC uE uR uS uY hW2 hx hy h1 h2 => juCodecs_any X Y x y _ _ _ _ _ _ _ _ _ _ W2 h1 h2 (hz1.media x hx) (hz2.media y hy))
 · refine ⟨39, #[.pointer (some ⟨g2, 0, none⟩)], by rfl, enters_to Tryz.func39 (by kernel_rfl) rfl, ?_⟩
   exact juOfTaken1_any X Y o a _ _ _ _ W hXV hYV g2 24 #[] exts5 ((HR1.out.2.2.2.1.under hW).cell 0) (enters_to Tryz.func24 (by kernel_rfl) rfl) (fun W2 X Y x y vC vE vR vS vY uC uE uR uS uY hW2 hx hy h1 h2 => juExts_any X Y x y _ _ _ _ _ _ _ _ _ _ W2 h1 h2 (hz1.media x hx) (hz2.media y hy))
 · refine ⟨39, #[.pointer (some ⟨g3, 0, none⟩)], by rfl, enters_to Tryz.func39 (by kernel_rfl) rfl, ?_⟩
   exact juOfTaken1_any X Y o a _ _ _ _ W hXV hYV g3 25 #[] dirJ ((HR1.out.2.2.2.2.1.under hW).cell 0) (enters_to Tryz.func25 (by kernel_rfl) rfl) (fun W2 X Y x y vC vE vR vS vY uC uE uR uS uY hW2 hx hy h1 h2 => juDir_any X Y x y _ _ _ _ _ _ _ _ _ _ W2 h1 h2 (goodM_dir ((goodD_parts (hgood (by omega)).1).2.2.2.1 x hx)) (goodM_dir ((goodD_parts (hgood (by omega)).2).2.2.2.1 y hy)))
 · refine ⟨39, #[.pointer (some ⟨g4, 0, none⟩)], by rfl, enters_to Tryz.func39 (by kernel_rfl) rfl, ?_⟩
   exact juOfTaken1_any X Y o a _ _ _ _ W hXV hYV g4 26 #[] ridsJ ((HR1.out.2.2.2.2.2.1.under hW).cell 0) (enters_to Tryz.func26 (by kernel_rfl) rfl) (fun W2 X Y x y vC vE vR vS vY uC uE uR uS uY hW2 hx hy h1 h2 => juRids_any X Y x y _ _ _ _ _ _ _ _ _ _ W2 h1 h2 (hz1.media x hx) (hz2.media y hy))
 · refine ⟨39, #[.pointer (some ⟨g5, 0, none⟩)], by rfl, enters_to Tryz.func39 (by kernel_rfl) rfl, ?_⟩
   exact juOfTaken1_any X Y o a _ _ _ _ W hXV hYV g5 27 #[] transJ ((HR1.out.2.2.2.2.2.2.under hW).cell 0) (enters_to Tryz.func27 (by kernel_rfl) rfl) (fun W2 X Y x y vC vE vR vS vY uC uE uR uS uY hW2 hx hy h1 h2 => juTrans_any X Y x y _ _ _ _ _ _ _ _ _ _ W2 h1 h2)
 · refine ⟨28, #[], by rfl, enters_to Tryz.func28 (by kernel_rfl) rfl, ?_⟩
   exact juBundle_any X Y o a _ _ _ _ W hXV hYV (goodD_parts (hgood (by omega)).2).2.2.1 hz1.count
 · refine ⟨29, #[], by rfl, enters_to Tryz.func29 (by kernel_rfl) rfl, ?_⟩
   exact juVersion_any X Y o a _ _ _ _ W hXV hYV
set_option maxHeartbeats 6400000 in
set_option maxRecDepth 100000 in
theorem juCheck_any (X Y : Array Value) (o a : DescS) (vB vM uB uM : Value) (w : World) (h1 : DescV w w.heap.size X o vB vM) (h2 : DescV w w.heap.size Y a uB uM) (hz1 : SizD o) (hz2 : SizD a) :
 Calls Tryz.prog 7 #[.agg X, .agg Y] w fun e w' => e = .returned (.int .i64 (checkA o a : Nat)) ∧ Below w.heap.size w w' := by
 obtain ⟨hb0, hbx, hby⟩ := two_boxes w 26 X Y
 obtain ⟨AB, cB, rfl, -⟩ := Rows.form h1.bundle
 obtain ⟨AM, cM, rfl, hcM, hmM, -⟩ := Rows.form h1.media
 obtain ⟨AB2, cB2, rfl, -⟩ := Rows.form h2.bundle
 obtain ⟨AM2, cM2, rfl, hcM2, hmM2, -⟩ := Rows.form h2.media
 obtain ⟨nB, hnB⟩ : ∃ n, o.bundle.length = n := ⟨_, rfl⟩
 obtain ⟨nM, hnM⟩ : ∃ n, o.media.length = n := ⟨_, rfl⟩
 obtain ⟨nB2, hnB2⟩ : ∃ n, a.bundle.length = n := ⟨_, rfl⟩
 obtain ⟨nM2, hnM2⟩ : ∃ n, a.media.length = n := ⟨_, rfl⟩
 rw [hnB, hnM] at h1
 rw [hnB2, hnM2] at h2
 have HX1 : Hid (X[1]? = some (.int .u64 (o.ver : Int))) := Lib.hid (by rw [h1.form]; rfl)
 have HX2 : Hid (X[2]? = some (.slice AB nB cB)) := Lib.hid (by rw [h1.form]; rfl)
 have HX5 : Hid (X[5]? = some (.slice AM nM cM)) := Lib.hid (by rw [h1.form]; rfl)
 have HY1 : Hid (Y[1]? = some (.int .u64 (a.ver : Int))) := Lib.hid (by rw [h2.form]; rfl)
 have HY2 : Hid (Y[2]? = some (.slice AB2 nB2 cB2)) := Lib.hid (by rw [h2.form]; rfl)
 have HY5 : Hid (Y[5]? = some (.slice AM2 nM2 cM2)) := Lib.hid (by rw [h2.form]; rfl)
 have HSZ : Hid (X.size = 6 ∧ Y.size = 6) := Lib.hid ⟨by rw [h1.form]; rfl, by rw [h2.form]; rfl⟩
 have HL := Lib.hid (And.intro hnB (And.intro hnM (And.intro hnB2 hnM2)))
 obtain ⟨N, hN⟩ : ∃ N, w.heap.size = N := ⟨_, rfl⟩
 have H0 := Lib.hid (And.intro hb0 (And.intro hbx hby))
 have HV := Lib.hid (And.intro h1 h2)
 rw [hN] at H0 HV
 have HN := Lib.hid hN
 clear h1 h2 hb0 hbx hby hN hnB hnM hnB2 hnM2
 obtain ⟨res, hres⟩ : ∃ n, checkA o a = n := ⟨_, rfl⟩
 have HR : Hid (res = checkA o a) := Lib.hid hres.symm
 have HZ := Lib.hid (And.intro hz1 hz2)
 rw [hres]
 clear hres hz1 hz2
 go_enter Tryz.func7, Tryz.ntmps7
 go_upto_region 1 with fail
 simp only [HN.out, Nat.add_assoc, Nat.reduceAdd]
 generalize ((w.alloc (.cells X 26)).alloc (.cells Y 26)) = W0 at *
 have HN0 : Hid (N ≤ W0.heap.size) := Lib.hid (Nat.le_of_lt H0.out.2.1.lt)
 have HRU := Lib.hid (juRules_any W0)
 go_upto_region 2 with (go_at_call 11; (with_reducible refine HRU.out.mono ?_); rintro e w1 ⟨g, g0, g1, g2, g3, g4, g5, rfl, hg, hst⟩; have HG := Lib.hid hg; have HST := Lib.hid hst; clear hg hst)
 obtain ⟨FV, hFV⟩ : ∃ F : Array Value, F = #[(.func (.func 19) #[] #[]), (.func (.func 20) #[] #[]), (.func (.func 39) #[] #[.pointer (some ⟨g0, 0, none⟩)]), (.func (.func 39) #[] #[.pointer (some ⟨g1, 0, none⟩)]), (.func (.func 39) #[] #[.pointer (some ⟨g2, 0, none⟩)]), (.func (.func 39) #[] #[.pointer (some ⟨g3, 0, none⟩)]), (.func (.func 39) #[] #[.pointer (some ⟨g4, 0, none⟩)]), (.func (.func 39) #[] #[.pointer (some ⟨g5, 0, none⟩)]), (.func (.func 28) #[] #[]), (.func (.func 29) #[] #[])] := ⟨_, rfl⟩
 rw [← hFV] at HG
 have HR1 : Hid (Below N w w1 ∧ Whole w1 g0 67 #[(.func (.func 22) #[] #[])] ∧ Whole w1 g1 67 #[(.func (.func 23) #[] #[])] ∧ Whole w1 g2 67 #[(.func (.func 24) #[] #[])] ∧ Whole w1 g3 67 #[(.func (.func 25) #[] #[])] ∧ Whole w1 g4 67 #[(.func (.func 26) #[] #[])] ∧ Whole w1 g5 67 #[(.func (.func 27) #[] #[])]) := Lib.hid ⟨H0.out.1.trans (HST.out.1.mono HN0.out), HST.out.2⟩
 have HW1 : Hid (Below N w w1 ∧ Whole w1 N 26 X ∧ Whole w1 (N + 1) 26 Y) := Lib.hid ⟨HR1.out.1, H0.out.2.1.under HST.out.1, H0.out.2.2.under HST.out.1⟩
 have HN1 : Hid (N ≤ w1.heap.size) := Lib.hid (Nat.le_of_lt HW1.out.2.1.lt)
 have HRC : Hid (∀ k, k < 10 → (0 < k → goodD o = true ∧ goodD a = true) → ∀ W, Below w1.heap.size w1 W → ∃ f cap, FV[k]? = some (.func (.func f) #[] cap) ∧ (∀ args w, (callFunc f args).run Tryz.prog w = .ok (.enter f args) w) ∧ Calls Tryz.prog f (#[.agg X, .agg Y] ++ cap) W fun e w' => e = .returned (.bool (ruleJ o a k)) ∧ Below W.heap.size W w') := Lib.hid fun k hk hg W hW => rules_calls g0 g1 g2 g3 g4 g5 hFV HR1 HN1.out HV.out.1 HV.out.2 HZ.out.1 HZ.out.2 k hk hg W hW
 clear hFV HST HR1 HRU
 go_wp2
 go_loopw [9] (fun s9 wr => ∃ k : Nat, k ≤ 10 ∧ s9 = .int .i64 (k : Int) ∧ (∀ j, j < k → ruleJ o a j = true) ∧ Below w1.heap.size w1 wr) (fun s9 _ => 10 - (intOf s9).toNat)
 case atStart => exact ⟨0, Nat.zero_le _, rfl, (fun j hj => by omega), Below.refl _ _⟩
 case round =>
  obtain ⟨k, hk, rfl, hall, hb⟩ := hrel
  have HS := Lib.hid (And.intro hall hb)
  have HXY : Hid (Below N w wr ∧ Whole wr N 26 X ∧ Whole wr (N + 1) 26 Y) := Lib.hid ⟨HW1.out.1.trans (hb.mono HN1.out), HW1.out.2.1.under hb, HW1.out.2.2.under hb⟩
  by_cases hlt : k < 10
  · obtain ⟨f, cap, hfk, eg, hcl⟩ := HRC.out k hlt (fun h0 => by
     have h := hall 0 h0
     unfold ruleJ at h
     simp only [Bool.and_eq_true] at h
     exact ⟨h.1.1, h.1.2⟩) wr hb
    have c0 : wr.cell? ⟨g, k, none⟩ = some (.func (.func f) #[] cap) := ((HG.out.under hb).cell k).trans hfk
    obtain ⟨b, hbb⟩ : ∃ b, ruleJ o a k = b := ⟨_, rfl⟩
    rw [hbb] at hcl
    have HCL := Lib.hid hcl
    have HEG := Lib.hid eg
    have HBE := Lib.hid hbb
    have hk0 : (0 : Int) ≤ (k : Int) := by omega
    have hk1 : (k : Int) < 10 := by omega
    have hak : (⟨g, 0, none⟩ : Addr).add k = ⟨g, k, none⟩ := by simp [Addr.add] <;> omega
    clear hall hb hfk eg hcl hbb
    cases b with
    | true =>
      go_wp2_with (first | ((with_reducible refine wpList_load_allG ?_ 26 (.tmp 2) ?_ HXY.out.2.1 ?_ Tryz.sizeDesc HSZ.out.1 Tryz.underlying26 rfl ?_); rfl; (with_reducible rfl); rfl) | ((with_reducible refine wpList_load_allG ?_ 26 (.tmp 3) ?_ HXY.out.2.2 ?_ Tryz.sizeDesc HSZ.out.2 Tryz.underlying26 rfl ?_); rfl; (with_reducible rfl); rfl) | ((with_reducible refine wpList_callV2 ?_ (.tmp 14) (.tmp 15) (.tmp 16) ?_ ?_ ?_ ?_ HEG.out HCL.out ?_); (with_reducible rfl); (exact ⟨_, rfl⟩); rfl; rfl; rfl; rintro e w5 ⟨rfl, hb5⟩; refine ⟨_, rfl, ?_⟩))
      go_roundw
      case rel =>
       refine ⟨k + 1, by omega, by go_num, fun j hj => ?_, HS.out.2.trans (hb5.mono HS.out.2.size)⟩
       by_cases e : j = k
       · subst e
         exact HBE.out
       · exact HS.out.1 j (by omega)
      case measure => simp [intOf]; omega
    | false =>
      have HQ : Hid (res = k + 1) := Lib.hid (by rw [HR.out]; exact checkA_first hlt HS.out.1 HBE.out)
      have HFN : Hid (∀ W, Below wr.heap.size wr W → Below N w W) := Lib.hid fun W hW => HXY.out.1.trans (hW.mono (Nat.le_of_lt HXY.out.2.1.lt))
      go_wp2_with (first | ((with_reducible refine wpList_load_allG ?_ 26 (.tmp 2) ?_ HXY.out.2.1 ?_ Tryz.sizeDesc HSZ.out.1 Tryz.underlying26 rfl ?_); rfl; (with_reducible rfl); rfl) | ((with_reducible refine wpList_load_allG ?_ 26 (.tmp 3) ?_ HXY.out.2.2 ?_ Tryz.sizeDesc HSZ.out.2 Tryz.underlying26 rfl ?_); rfl; (with_reducible rfl); rfl) | ((with_reducible refine wpList_callV2 ?_ (.tmp 14) (.tmp 15) (.tmp 16) ?_ ?_ ?_ ?_ HEG.out HCL.out ?_); (with_reducible rfl); (exact ⟨_, rfl⟩); rfl; rfl; rfl; rintro e w5 ⟨rfl, hb5⟩; refine ⟨_, rfl, ?_⟩))
      go_ret
      exact ⟨by rw [HQ.out]; rfl, by rw [HN.out]; exact HFN.out _ hb5⟩
  · obtain rfl : k = 10 := by omega
    have HQ : Hid (res = 0) := Lib.hid (by rw [HR.out]; exact checkA_none HS.out.1)
    clear hall hb
    go_wp2
    go_ret
    exact ⟨by rw [HQ.out]; rfl, by rw [HN.out]; exact HXY.out.1⟩
def d10 (v : Nat) : DescS := ⟨0, v, [], bs [97, 98, 99, 100], bs [48, 49, 50, 51, 52, 53, 54, 55, 56, 57, 48, 49, 50, 51, 52, 53, 54, 55, 56, 57, 48, 49], []⟩
def z10 : DescS := ⟨0, 0, [], bs [], bs [], []⟩
theorem check10a : checkA (d10 0) (d10 0) = 0 := by decide +kernel
theorem check10b : checkA (d10 0) (d10 5) = 10 := by decide +kernel
theorem check10c : checkA z10 (d10 0) = 1 := by decide +kernel
theorem siz10 (v : Nat) (h : v < 18446744073709551616) : SizD (d10 v) := ⟨by show (4 : Nat) ≤ _; decide, by show (22 : Nat) ≤ _; decide, fun b hb => (by cases hb), by show (0 : Nat) ≤ _; decide, by show (0 : Nat) ≤ _; decide, fun m hm => (by cases hm), by show (0 : Nat) < _; decide, h⟩
theorem sizz10 : SizD z10 := ⟨by decide, by decide, fun b hb => (by cases hb), by decide, by decide, fun m hm => (by cases hm), by decide, by decide⟩
theorem desc10 (W : World) (B v : Nat) : DescV W B #[.int .u64 0, .int .u64 (v : Int), .slice none 0 0, .string ⟨#[97, 98, 99, 100]⟩, .string ⟨#[48, 49, 50, 51, 52, 53, 54, 55, 56, 57, 48, 49, 50, 51, 52, 53, 54, 55, 56, 57, 48, 49]⟩, .slice none 0 0] (d10 v) (.slice none 0 0) (.slice none 0 0) := ⟨rfl, Rows.nil _ _ _ _, MediasV.nil _ _⟩
theorem descz10 (W : World) (B : Nat) : DescV W B #[.int .u64 0, .int .u64 0, .slice none 0 0, .string ⟨#[]⟩, .string ⟨#[]⟩, .slice none 0 0] z10 (.slice none 0 0) (.slice none 0 0) := ⟨rfl, Rows.nil _ _ _ _, MediasV.nil _ _⟩
set_option maxHeartbeats 3200000 in
set_option maxRecDepth 100000 in
theorem awake10_any (w : World) : Calls Tryz.prog 5 #[] w fun e w' => e = .returned (.bool true) ∧ Below w.heap.size w w' := by
 have HA : Hid (∀ W, Calls Tryz.prog 7 #[.agg #[.int .u64 0, .int .u64 0, .slice none 0 0, .string ⟨#[97, 98, 99, 100]⟩, .string ⟨#[48, 49, 50, 51, 52, 53, 54, 55, 56, 57, 48, 49, 50, 51, 52, 53, 54, 55, 56, 57, 48, 49]⟩, .slice none 0 0], .agg #[.int .u64 0, .int .u64 0, .slice none 0 0, .string ⟨#[97, 98, 99, 100]⟩, .string ⟨#[48, 49, 50, 51, 52, 53, 54, 55, 56, 57, 48, 49, 50, 51, 52, 53, 54, 55, 56, 57, 48, 49]⟩, .slice none 0 0]] W fun e w' => e = .returned (.int .i64 0) ∧ Below W.heap.size W w') := Lib.hid fun W => by
  have h := juCheck_any _ _ _ _ _ _ _ _ W (desc10 W _ 0) (desc10 W _ 0) (siz10 0 (by decide)) (siz10 0 (by decide))
  rw [check10a] at h
  exact h
 have HB : Hid (∀ W, Calls Tryz.prog 7 #[.agg #[.int .u64 0, .int .u64 0, .slice none 0 0, .string ⟨#[97, 98, 99, 100]⟩, .string ⟨#[48, 49, 50, 51, 52, 53, 54, 55, 56, 57, 48, 49, 50, 51, 52, 53, 54, 55, 56, 57, 48, 49]⟩, .slice none 0 0], .agg #[.int .u64 0, .int .u64 5, .slice none 0 0, .string ⟨#[97, 98, 99, 100]⟩, .string ⟨#[48, 49, 50, 51, 52, 53, 54, 55, 56, 57, 48, 49, 50, 51, 52, 53, 54, 55, 56, 57, 48, 49]⟩, .slice none 0 0]] W fun e w' => e = .returned (.int .i64 10) ∧ Below W.heap.size W w') := Lib.hid fun W => by
  have h := juCheck_any _ _ _ _ _ _ _ _ W (desc10 W _ 0) (desc10 W _ 5) (siz10 0 (by decide)) (siz10 5 (by decide))
  rw [check10b] at h
  exact h
 have HC : Hid (∀ W, Calls Tryz.prog 7 #[.agg #[.int .u64 0, .int .u64 0, .slice none 0 0, .string ⟨#[]⟩, .string ⟨#[]⟩, .slice none 0 0], .agg #[.int .u64 0, .int .u64 0, .slice none 0 0, .string ⟨#[97, 98, 99, 100]⟩, .string ⟨#[48, 49, 50, 51, 52, 53, 54, 55, 56, 57, 48, 49, 50, 51, 52, 53, 54, 55, 56, 57, 48, 49]⟩, .slice none 0 0]] W fun e w' => e = .returned (.int .i64 1) ∧ Below W.heap.size W w') := Lib.hid fun W => by
  have h := juCheck_any _ _ _ _ _ _ _ _ W (descz10 W _) (desc10 W _ 0) sizz10 (siz10 0 (by decide))
  rw [check10c] at h
  exact h
 have HW1 : Hid (Below w.heap.size w ((w.alloc (.cells #[.int .u64 0, .int .u64 0, .slice none 0 0, .string ⟨#[]⟩, .string ⟨#[]⟩, .slice none 0 0] 26)).setRow w.heap.size #[.int .u64 0, .int .u64 0, .slice none 0 0, .string ⟨#[97, 98, 99, 100]⟩, .string ⟨#[48, 49, 50, 51, 52, 53, 54, 55, 56, 57, 48, 49, 50, 51, 52, 53, 54, 55, 56, 57, 48, 49]⟩, .slice none 0 0]) ∧ Whole ((w.alloc (.cells #[.int .u64 0, .int .u64 0, .slice none 0 0, .string ⟨#[]⟩, .string ⟨#[]⟩, .slice none 0 0] 26)).setRow w.heap.size #[.int .u64 0, .int .u64 0, .slice none 0 0, .string ⟨#[97, 98, 99, 100]⟩, .string ⟨#[48, 49, 50, 51, 52, 53, 54, 55, 56, 57, 48, 49, 50, 51, 52, 53, 54, 55, 56, 57, 48, 49]⟩, .slice none 0 0]) w.heap.size 26 #[.int .u64 0, .int .u64 0, .slice none 0 0, .string ⟨#[97, 98, 99, 100]⟩, .string ⟨#[48, 49, 50, 51, 52, 53, 54, 55, 56, 57, 48, 49, 50, 51, 52, 53, 54, 55, 56, 57, 48, 49]⟩, .slice none 0 0]) := Lib.hid ⟨below_row ((Below.refl _ w).alloc (Nat.le_refl _) _) (Nat.le_refl _) _, (Whole.new _ _ _).row _⟩
 go_enter Tryz.func5, Tryz.ntmps5
 go_upto_region 2 with ((with_reducible refine wpList_storeS #[.int .u64 0, .int .u64 0, .slice none 0 0, .string ⟨#[97, 98, 99, 100]⟩, .string ⟨#[48, 49, 50, 51, 52, 53, 54, 55, 56, 57, 48, 49, 50, 51, 52, 53, 54, 55, 56, 57, 48, 49]⟩, .slice none 0 0] ?_ 26 (.tmp 1) (.tmp 3) ?_ ?_ ?_ (Whole.new _ _ _) Tryz.sizeDesc ?_ ?_ ?_ ?_); (with_reducible rfl); (with_reducible rfl); rfl; rfl; rfl; rfl; rfl)
 generalize ((w.alloc (.cells #[.int .u64 0, .int .u64 0, .slice none 0 0, .string ⟨#[]⟩, .string ⟨#[]⟩, .slice none 0 0] 26)).setRow w.heap.size #[.int .u64 0, .int .u64 0, .slice none 0 0, .string ⟨#[97, 98, 99, 100]⟩, .string ⟨#[48, 49, 50, 51, 52, 53, 54, 55, 56, 57, 48, 49, 50, 51, 52, 53, 54, 55, 56, 57, 48, 49]⟩, .slice none 0 0]) = w1 at *
 obtain ⟨g1, hg1⟩ : ∃ g, w.heap.size = g := ⟨_, rfl⟩
 have HG := Lib.hid hg1
 rw [hg1] at HW1
 simp only [hg1]
 clear hg1
 have HW2 : Hid (Below g1 w ((w1.alloc (.cells #[.int .u64 0, .int .u64 0, .slice none 0 0, .string ⟨#[]⟩, .string ⟨#[]⟩, .slice none 0 0] 26)).setRow w1.heap.size #[.int .u64 0, .int .u64 0, .slice none 0 0, .string ⟨#[97, 98, 99, 100]⟩, .string ⟨#[48, 49, 50, 51, 52, 53, 54, 55, 56, 57, 48, 49, 50, 51, 52, 53, 54, 55, 56, 57, 48, 49]⟩, .slice none 0 0]) ∧ Whole ((w1.alloc (.cells #[.int .u64 0, .int .u64 0, .slice none 0 0, .string ⟨#[]⟩, .string ⟨#[]⟩, .slice none 0 0] 26)).setRow w1.heap.size #[.int .u64 0, .int .u64 0, .slice none 0 0, .string ⟨#[97, 98, 99, 100]⟩, .string ⟨#[48, 49, 50, 51, 52, 53, 54, 55, 56, 57, 48, 49, 50, 51, 52, 53, 54, 55, 56, 57, 48, 49]⟩, .slice none 0 0]) w1.heap.size 26 #[.int .u64 0, .int .u64 0, .slice none 0 0, .string ⟨#[97, 98, 99, 100]⟩, .string ⟨#[48, 49, 50, 51, 52, 53, 54, 55, 56, 57, 48, 49, 50, 51, 52, 53, 54, 55, 56, 57, 48, 49]⟩, .slice none 0 0] ∧ Whole ((w1.alloc (.cells #[.int .u64 0, .int .u64 0, .slice none 0 0, .string ⟨#[]⟩, .string ⟨#[]⟩, .slice none 0 0] 26)).setRow w1.heap.size #[.int .u64 0, .int .u64 0, .slice none 0 0, .string ⟨#[97, 98, 99, 100]⟩, .string ⟨#[48, 49, 50, 51, 52, 53, 54, 55, 56, 57, 48, 49, 50, 51, 52, 53, 54, 55, 56, 57, 48, 49]⟩, .slice none 0 0]) g1 26 #[.int .u64 0, .int .u64 0, .slice none 0 0, .string ⟨#[97, 98, 99, 100]⟩, .string ⟨#[48, 49, 50, 51, 52, 53, 54, 55, 56, 57, 48, 49, 50, 51, 52, 53, 54, 55, 56, 57, 48, 49]⟩, .slice none 0 0] ∧ g1 < w1.heap.size) := Lib.hid (by
  have hl := HW1.out.2.lt
  exact ⟨below_row (HW1.out.1.alloc (Nat.le_of_lt hl) _) (Nat.le_of_lt hl) _, (Whole.new _ _ _).row _, (HW1.out.2.alloc _).farRow (Nat.ne_of_lt hl) _, hl⟩)
 go_upto_region 3 with (first | ((with_reducible refine wpList_load_all ?_ 26 (.tmp 1) ?_ HW1.out.2 ?_ Tryz.sizeDesc ?_ Tryz.underlying26 rfl ?_); (with_reducible rfl); (with_reducible rfl); rfl; rfl) | ((with_reducible refine wpList_storeS #[.int .u64 0, .int .u64 0, .slice none 0 0, .string ⟨#[97, 98, 99, 100]⟩, .string ⟨#[48, 49, 50, 51, 52, 53, 54, 55, 56, 57, 48, 49, 50, 51, 52, 53, 54, 55, 56, 57, 48, 49]⟩, .slice none 0 0] ?_ 26 (.tmp 2) (.tmp 4) ?_ ?_ ?_ (Whole.new _ _ _) Tryz.sizeDesc ?_ ?_ ?_ ?_); (with_reducible rfl); (with_reducible rfl); rfl; rfl; rfl; rfl; rfl))
 generalize ((w1.alloc (.cells #[.int .u64 0, .int .u64 0, .slice none 0 0, .string ⟨#[]⟩, .string ⟨#[]⟩, .slice none 0 0] 26)).setRow w1.heap.size #[.int .u64 0, .int .u64 0, .slice none 0 0, .string ⟨#[97, 98, 99, 100]⟩, .string ⟨#[48, 49, 50, 51, 52, 53, 54, 55, 56, 57, 48, 49, 50, 51, 52, 53, 54, 55, 56, 57, 48, 49]⟩, .slice none 0 0]) = w2 at *
 generalize w1.heap.size = g2 at *
 have c1 : w2.cell? ⟨g2, 1, none⟩ = some (.int .u64 0) := HW2.out.2.1.cell 1
 have f1 := HW2.out.2.1.frz 1
 go_upto_region 4 with fail
 have HW3 : Hid (Below g1 w (w2.setCell ⟨g2, 1, none⟩ (.int .u64 5)) ∧ Whole (w2.setCell ⟨g2, 1, none⟩ (.int .u64 5)) g2 26 #[.int .u64 0, .int .u64 5, .slice none 0 0, .string ⟨#[97, 98, 99, 100]⟩, .string ⟨#[48, 49, 50, 51, 52, 53, 54, 55, 56, 57, 48, 49, 50, 51, 52, 53, 54, 55, 56, 57, 48, 49]⟩, .slice none 0 0] ∧ Whole (w2.setCell ⟨g2, 1, none⟩ (.int .u64 5)) g1 26 #[.int .u64 0, .int .u64 0, .slice none 0 0, .string ⟨#[97, 98, 99, 100]⟩, .string ⟨#[48, 49, 50, 51, 52, 53, 54, 55, 56, 57, 48, 49, 50, 51, 52, 53, 54, 55, 56, 57, 48, 49]⟩, .slice none 0 0]) := Lib.hid (by
  have hl := HW2.out.2.2.2
  exact ⟨HW2.out.1.setCell (p := ⟨g2, 1, none⟩) (Nat.le_of_lt hl) _, HW2.out.2.1.set 1 _, HW2.out.2.2.1.far (p := ⟨g2, 1, none⟩) (Nat.ne_of_lt hl) _⟩)
 clear c1 f1 HW2 HW1
 generalize w2.setCell ⟨g2, 1, none⟩ (.int .u64 5) = w3 at *
 go_wp2_with (first | ((with_reducible refine wpList_load_allG ?_ 26 (.tmp 1) ?_ H6.out.2.2 ?_ Tryz.sizeDesc ?_ Tryz.underlying26 rfl ?_); rfl; (with_reducible rfl); rfl; rfl) | ((with_reducible refine wpList_load_allG ?_ 26 (.tmp 1) ?_ H5.out.2.2 ?_ Tryz.sizeDesc ?_ Tryz.underlying26 rfl ?_); rfl; (with_reducible rfl); rfl; rfl) | ((with_reducible refine wpList_load_allG ?_ 26 (.tmp 2) ?_ H5.out.2.1 ?_ Tryz.sizeDesc ?_ Tryz.underlying26 rfl ?_); rfl; (with_reducible rfl); rfl; rfl) | ((with_reducible refine wpList_load_allG ?_ 26 (.tmp 1) ?_ HW3.out.2.2 ?_ Tryz.sizeDesc ?_ Tryz.underlying26 rfl ?_); rfl; (with_reducible rfl); rfl; rfl) | (go_at_call 7; (with_reducible refine (HC.out _).mono ?_); rintro e w6 ⟨rfl, hb⟩; have H7 : Hid (Below g1 w w6) := Lib.hid (H6.out.1.trans (hb.mono (Nat.le_of_lt H6.out.2.2.lt))); clear hb) | (go_at_call 7; (with_reducible refine (HB.out _).mono ?_); rintro e w5 ⟨rfl, hb⟩; have H6 : Hid (Below g1 w w5 ∧ Whole w5 g2 26 #[.int .u64 0, .int .u64 5, .slice none 0 0, .string ⟨#[97, 98, 99, 100]⟩, .string ⟨#[48, 49, 50, 51, 52, 53, 54, 55, 56, 57, 48, 49, 50, 51, 52, 53, 54, 55, 56, 57, 48, 49]⟩, .slice none 0 0] ∧ Whole w5 g1 26 #[.int .u64 0, .int .u64 0, .slice none 0 0, .string ⟨#[97, 98, 99, 100]⟩, .string ⟨#[48, 49, 50, 51, 52, 53, 54, 55, 56, 57, 48, 49, 50, 51, 52, 53, 54, 55, 56, 57, 48, 49]⟩, .slice none 0 0]) := Lib.hid ⟨H5.out.1.trans (hb.mono (Nat.le_of_lt H5.out.2.2.lt)), H5.out.2.1.under hb, H5.out.2.2.under hb⟩; clear hb) | (go_at_call 7; (with_reducible refine (HA.out _).mono ?_); rintro e w4 ⟨rfl, hb⟩; have H5 : Hid (Below g1 w w4 ∧ Whole w4 g2 26 #[.int .u64 0, .int .u64 5, .slice none 0 0, .string ⟨#[97, 98, 99, 100]⟩, .string ⟨#[48, 49, 50, 51, 52, 53, 54, 55, 56, 57, 48, 49, 50, 51, 52, 53, 54, 55, 56, 57, 48, 49]⟩, .slice none 0 0] ∧ Whole w4 g1 26 #[.int .u64 0, .int .u64 0, .slice none 0 0, .string ⟨#[97, 98, 99, 100]⟩, .string ⟨#[48, 49, 50, 51, 52, 53, 54, 55, 56, 57, 48, 49, 50, 51, 52, 53, 54, 55, 56, 57, 48, 49]⟩, .slice none 0 0]) := Lib.hid ⟨HW3.out.1.trans (hb.mono (Nat.le_of_lt HW3.out.2.2.lt)), HW3.out.2.1.under hb, HW3.out.2.2.under hb⟩; clear hb))
 go_ret
 exact ⟨rfl, by first | exact H7.out | (rw [HG.out]; exact H7.out)⟩
theorem wpList_load_part {ops : Array Oper} {rest : List Oper} {op : Oper} {a : Act} {w : World} {Q : Exit → Act → World → Prop} (hgd : op.guard = none) (ty : TypeId) (x : Operand) (ho : op.op = .load ty x)
 (b o : Nat) (hx : a.eval x = .pointer (some ⟨b, o, none⟩)) (cs : Array Value) {d : TypeDesc} (hc : w.rangeAt b o cs.toList)
 (hu : Tryz.prog.underlying ty = some d) (hd : d.isRow = true) {n : Nat} (hi : (Tryz.prog.info? ty).map (·.size) = some n) (hn : cs.size = n)
 (h : wpList Tryz.prog ops Q rest (a.put op.dst (.agg cs)) w) : wpList Tryz.prog ops Q (op :: rest) a w := by
 have e : cs.toList.toArray = cs := by simp
 refine wpList_load_mid hgd ty x ho b o hx cs.toList d hc hu hd (by rw [hi, ← hn]; simp) ?_
 rw [e]
 exact h
theorem ask_parts {W : World} {b : Nat} {t : TypeId} {D K : Array Value} {name pass : ByteArray} {Y : List Value} (h : Whole W b t (D.toList ++ (K.toList ++ (.string name :: .string pass :: Y))).toArray) (hD : D.size = 6) (hK : K.size = 3) :
 W.rangeAt b 0 D.toList ∧ W.rangeAt b 6 K.toList ∧ W.cell? ⟨b, 9, none⟩ = some (.string name) ∧ W.cell? ⟨b, 10, none⟩ = some (.string pass) ∧ W.rangeAt b 11 Y := by
 have hc : ∀ j, W.cell? ⟨b, j, none⟩ = (D.toList ++ (K.toList ++ (.string name :: .string pass :: Y)))[j]? := fun j => by rw [h.cell]; simp
 have hDl : D.toList.length = 6 := by simpa using hD
 have hKl : K.toList.length = 3 := by simpa using hK
 have h6 : ∀ j, W.cell? ⟨b, 6 + j, none⟩ = (K.toList ++ (.string name :: .string pass :: Y))[j]? := fun j => by
  rw [hc, List.getElem?_append_right (by omega), hDl, Nat.add_sub_cancel_left]
 have h9 : ∀ j, W.cell? ⟨b, 9 + j, none⟩ = (Value.string name :: .string pass :: Y)[j]? := fun j => by
  have := h6 (3 + j)
  rw [List.getElem?_append_right (by omega), hKl, Nat.add_sub_cancel_left, ← Nat.add_assoc] at this
  exact this
 refine ⟨fun j v hv => ?_, fun j v hv => ?_, h9 0, h9 1, fun j v hv => ?_⟩
 · rw [Nat.zero_add, hc, List.getElem?_append_left (by have := (List.getElem?_eq_some_iff.1 hv).1; exact this)]
   exact hv
 · rw [h6, List.getElem?_append_left (by have := (List.getElem?_eq_some_iff.1 hv).1; exact this)]
   exact hv
 · have := h9 (2 + j)
   rw [← Nat.add_assoc, Nat.add_comm 2 j] at this
   exact this.trans hv
def MadeQ (a : AskS) (w : World) (e : Ending) (w' : World) : Prop :=
 ∃ (R : Array Value) (q : Int), e = .returned (.tuple #[.agg R, .int .i64 q]) ∧ R.size = 6 ∧ R.all (·.oneCell') = true ∧ Below w.heap.size w w' ∧
   ((q = 0 ∧ mayA a.o a.c 1 a.name a.pass a.key = true ∧ ∃ uB uM, DescV w' w'.heap.size R (descA a.o a.c 1 a.name a.pass a.key) uB uM) ∨ q = 1)
theorem DescV.all_one {w : World} {B : Nat} {D : Array Value} {d : DescS} {vB vM : Value} (h : DescV w B D d vB vM) : D.all (·.oneCell') = true := by
 obtain ⟨A1, c1, rfl, -⟩ := Rows.form h.bundle
 obtain ⟨A2, c2, rfl, -⟩ := Rows.form h.media
 rw [h.form]
 exact all_oneD _ _ _ _ _ _ rfl rfl
theorem MakeO.q {a : AskS} {w w' : World} {e : Ending} (h : MakeO a.o a.c 1 a.name a.pass a.key w e w') : MadeQ a w e w' := by
 obtain ⟨hb, ⟨hm, R, uB, uM, he, hd⟩ | ⟨hm, he⟩⟩ := h
 · exact ⟨R, 0, he, by rw [hd.form]; rfl, hd.all_one, hb, .inl ⟨rfl, hm, uB, uM, hd⟩⟩
 · exact ⟨zeroDs, 1, he, rfl, all_oneD _ _ _ _ _ _ rfl rfl, hb, .inr rfl⟩
structure Small (m : MediaS) : Prop where
 siz : SizM m
 codecs : m.codecs.length ≤ 1000
 exts : m.exts.length ≤ 1000
 rids : m.rids.length ≤ 1000
 feeds : ∀ x ∈ m.codecs, x.feedback.length ≤ 1000
 mid : m.mid.size ≤ 1000
def RowA (W : World) (r : List Value) : Prop := ∃ m vC vE vR vS vY, MediaV W W.heap.size r.toArray m vC vE vR vS vY ∧ SizM m
def EndO (gd : Nat) (W : World) : Prop := ∃ (R : Array Value) (d : DescS) (uB uM : Value), Whole W gd 26 R ∧ DescV W W.heap.size R d uB uM ∧ SizD d
theorem EndO.mk' {W : World} {N gd : Nat} {id ver : Nat} {name pass : ByteArray} {vB vM : Value} {B : List ByteArray} {rows : List (List Value)} (hbox : Whole W gd 26 #[.int .u64 id, .int .u64 ver, vB, .string name, .string pass, vM])
 (hid : id < 18446744073709551616) (hv : ver < 18446744073709551616) (hB : TextsV W W.heap.size vB B) (hBl : B.length ≤ 1000) (hBs : ∀ s ∈ B, s.size ≤ 140737488355328) (hn : name.size ≤ 140737488355328) (hp : pass.size ≤ 140737488355328)
 (hown : Own W N 44 11 vM rows) (hr : ∀ r ∈ rows, RowA W r) (hl : rows.length ≤ 1000) : EndO gd W := by
 have hat : ∀ i, i < rows.length → ∃ m : MediaS, SizM m ∧ ∀ r, rows[i]? = some r → ∃ vC vE vR vS vY, MediaV W W.heap.size r.toArray m vC vE vR vS vY := fun i hi => by
  have hx := List.getElem?_eq_getElem (l := rows) (i := i) hi
  obtain ⟨m, vC, vE, vR, vS, vY, h1, h2⟩ := hr _ (List.mem_of_getElem? hx)
  refine ⟨m, h2, fun r hr2 => ?_⟩
  rw [hx] at hr2
  obtain rfl := Option.some.inj hr2
  exact ⟨vC, vE, vR, vS, vY, h1⟩
 obtain ⟨ms, hml, hM⟩ := pick hat
 refine ⟨_, ⟨id, ver, B, name, pass, ms⟩, vB, vM, hbox, ⟨rfl, hB, ?_⟩, ⟨hn, hp, hBs, by show B.length ≤ _; omega, by show ms.length ≤ _; omega, fun m hm => ?_, hid, hv⟩⟩
 · refine Own.rows hown (Nat.le_refl _) hml fun i r m f h1 h2 h3 => ?_
   obtain ⟨vC, vE, vR, vS, vY, h4⟩ := (hM i m h2).2 r h1
   exact ⟨r.toArray, vC, vE, vR, vS, vY, h4, fun j hj => by rw [h3 j hj]; simp⟩
 · obtain ⟨i, hi⟩ := List.getElem?_of_mem hm
   exact (hM i m hi).1
def PC (W : World) (v : Value) : Prop := ∃ L, CodecsV W W.heap.size v L ∧ L.length ≤ 1000000 ∧ ∀ c ∈ L, (c.name.size ≤ 140737488355328 ∧ c.format.size ≤ 140737488355328 ∧ ∀ f ∈ c.feedback, f.size ≤ 140737488355328) ∧ c.feedback.length ≤ 1000000
def PE (W : World) (v : Value) : Prop := ∃ L, ExtsV W W.heap.size v L ∧ L.length ≤ 1000000 ∧ ∀ x ∈ L, x.uri.size ≤ 140737488355328
def PR (W : World) (v : Value) : Prop := ∃ L, TextsV W W.heap.size v L ∧ L.length ≤ 1000000 ∧ ∀ s ∈ L, s.size ≤ 140737488355328
def PS (W : World) (v : Value) : Prop := ∃ L, NumsV W W.heap.size v L ∧ L.length ≤ 35184372087808 ∧ ∀ n ∈ L, n < 4294967296
def PY (W : World) (v : Value) : Prop := ∃ L, CrysV W W.heap.size v L ∧ L.length ≤ 3518437208780 ∧ ∀ y ∈ L, y.key.length = 30
theorem RowA.of {W : World} {ki po di sc : Int} {mid : ByteArray} {vC vE vR vS vY : Value} {se : Bool} (hC : PC W vC) (hE : PE W vE) (hR : PR W vR) (hS : PS W vS) (hY : PY W vY) (hm : mid.size ≤ 140737488355328) :
 RowA W [.int .i64 ki, .int .i64 po, .string mid, .int .i64 di, vC, vE, vR, .bool se, vS, vY, .int .i64 sc] := by
 obtain ⟨L1, a1, b1, c1⟩ := hC
 obtain ⟨L2, a2, b2, c2⟩ := hE
 obtain ⟨L3, a3, b3, c3⟩ := hR
 obtain ⟨L4, a4, b4, c4⟩ := hS
 obtain ⟨L5, a5, b5, c5⟩ := hY
 refine ⟨⟨ki, po, mid, di, L1, L2, L3, se, L4, L5, sc⟩, vC, vE, vR, vS, vY, ⟨rfl, a1, a2, a3, a4, a5⟩, ⟨hm, fun c hc => (c1 c hc).1, fun c hc => ?_, c2, c3, ⟨c4, c5⟩, ?_⟩⟩
 · have := (c1 c hc).2; omega
 · show L1.length ≤ _ ∧ L2.length ≤ _ ∧ L3.length ≤ _ ∧ L4.length ≤ _ ∧ L5.length ≤ _; omega
def CRowL (W : World) (B lim : Nat) (r : List Value) : Prop := ∃ x vf, r = ccell x vf ∧ TextsV W B vf x.feedback ∧ (x.name.size ≤ 140737488355328 ∧ x.format.size ≤ 140737488355328 ∧ ∀ f ∈ x.feedback, f.size ≤ 140737488355328) ∧ x.feedback.length ≤ lim
abbrev CRow (W : World) (B : Nat) (r : List Value) : Prop := CRowL W B 1000 r
theorem CRow.up {w W : World} {N lim : Nat} {r : List Value} (h : CRow w N r) (hb : Below N w W) (hN : N ≤ W.heap.size) (hl : 1000 ≤ lim := by decide) : CRowL W W.heap.size lim r := by
 obtain ⟨x, vf, e, h1, h2, h3⟩ := h
 exact ⟨x, vf, e, (h1.below hb).more hN, h2, Nat.le_trans h3 hl⟩
theorem PC.of {W : World} {N : Nat} {v : Value} {rs : List (List Value)} (h : Own W N 47 6 v rs) (hr : ∀ r ∈ rs, CRowL W W.heap.size 1000000 r) (hl : rs.length ≤ 1000000) : PC W v := by
 have hat : ∀ i, i < rs.length → ∃ x : CodecS, ((x.name.size ≤ 140737488355328 ∧ x.format.size ≤ 140737488355328 ∧ ∀ f ∈ x.feedback, f.size ≤ 140737488355328) ∧ x.feedback.length ≤ 1000000) ∧ ∀ r, rs[i]? = some r → ∃ vf, r = ccell x vf ∧ TextsV W W.heap.size vf x.feedback := fun i hi => by
  have hx := List.getElem?_eq_getElem (l := rs) (i := i) hi
  obtain ⟨x, vf, e, h1, h2⟩ := hr _ (List.mem_of_getElem? hx)
  refine ⟨x, h2, fun r hr2 => ?_⟩
  rw [hx] at hr2
  obtain rfl := Option.some.inj hr2
  exact ⟨vf, e, h1⟩
 obtain ⟨L, hL, hM⟩ := pick hat
 refine ⟨L, ?_, by omega, fun c hc => ?_⟩
 · refine Own.rows h (Nat.le_refl _) hL fun i r x f h1 h2 h3 => ?_
   obtain ⟨vf, e, h4⟩ := (hM i x h2).2 r h1
   subst e
   exact ccell_read h3 h4
 · obtain ⟨i, hi⟩ := List.getElem?_of_mem hc
   exact (hM i c hi).1
theorem PR.own {W : World} {N : Nat} {v : Value} {L : List ByteArray} (h : Own W N 9 1 v (L.map tcell)) (hl : L.length ≤ 1000000) (hs : ∀ s ∈ L, s.size ≤ 140737488355328) : PR W v := ⟨L, h.texts (Nat.le_refl _), hl, hs⟩
theorem PE.own {W : World} {N : Nat} {v : Value} {L : List ExtS} (h : Own W N 49 2 v (L.map ecell)) (hl : L.length ≤ 1000000) (hs : ∀ x ∈ L, x.uri.size ≤ 140737488355328) : PE W v :=
 ⟨L, Own.rows h (Nat.le_refl _) (by simp) (fun i r x f hr hx hf => by
  rw [List.getElem?_map, hx] at hr
  obtain rfl : ecell x = r := by simpa using hr
  exact ⟨hf 0 (by decide), hf 1 (by decide)⟩), hl, hs⟩
structure JS (w W : World) (N gd gm n i cM : Nat) (ver : Nat) (vB : Value) (name pass : ByteArray) (rows : List (List Value)) (m : MediaS) (vC vE vR vS vY : Value) (crow : List (List Value)) : Prop where
 low : Below N w W
 gdN : N ≤ gd
 box : Whole W gd 26 #[.int .u64 1, .int .u64 ver, vB, .string name, .string pass, .slice (some ⟨gm, 0, none⟩) n cM]
 own : Own W N 44 11 (.slice (some ⟨gm, 0, none⟩) n cM) rows
 few : rows.length ≤ 1000
 row : rows[i]? = some [.int .i64 m.kind, .int .i64 m.port, .string m.mid, .int .i64 m.dir, vC, vE, vR, .bool m.sending, vS, vY, .int .i64 m.sctp]
 oth : ∀ (j : Nat) (r : List Value), rows[j]? = some r → j ≠ i → ∃ m' vC vE vR vS vY, MediaV w N r.toArray m' vC vE vR vS vY ∧ SizM m'
 cod : Own W N 47 6 vC crow
 codr : ∀ r ∈ crow, CRow w N r
 codl : crow.length ≤ 1000
 exts : ExtsV w N vE m.exts
 rids : TextsV w N vR m.rids
 src : NumsV w N vS m.sources
 cry : CrysV w N vY m.crypto
 sml : Small m
 nm : name.size ≤ 140737488355328
 pw : pass.size ≤ 140737488355328
 bun : ∃ B, TextsV w N vB B ∧ B.length ≤ 100 ∧ ∀ s ∈ B, s.size ≤ 1000
section
variable {w W W' : World} {N gd gm n i cM ver : Nat} {vB vC vE vR vS vY : Value} {name pass : ByteArray} {rows crow : List (List Value)} {m : MediaS}
theorem JS.le (h : JS w W N gd gm n i cM ver vB name pass rows m vC vE vR vS vY crow) : N ≤ gm ∧ gm < W.heap.size ∧ gd < W.heap.size ∧ N ≤ W.heap.size := by
 have h1 := h.own.lt (k := gm) rfl
 have h2 := h.box.lt
 have h3 := h.gdN
 omega
theorem JS.pe (h : JS w W N gd gm n i cM ver vB name pass rows m vC vE vR vS vY crow) (hb : Below N w W') (hN : N ≤ W'.heap.size) : PE W' vE := ⟨m.exts, (h.exts.below hb).more hN, by have := h.sml.exts; omega, h.sml.siz.uris⟩
theorem JS.pr (h : JS w W N gd gm n i cM ver vB name pass rows m vC vE vR vS vY crow) (hb : Below N w W') (hN : N ≤ W'.heap.size) : PR W' vR := ⟨m.rids, (h.rids.below hb).more hN, by have := h.sml.rids; omega, h.sml.siz.rids⟩
theorem JS.ps (h : JS w W N gd gm n i cM ver vB name pass rows m vC vE vR vS vY crow) (hb : Below N w W') (hN : N ≤ W'.heap.size) : PS W' vS := ⟨m.sources, (h.src.below hb).more hN, h.sml.siz.counts.2.2.2.1, h.sml.siz.typed.1⟩
theorem JS.py (h : JS w W N gd gm n i cM ver vB name pass rows m vC vE vR vS vY crow) (hb : Below N w W') (hN : N ≤ W'.heap.size) : PY W' vY := ⟨m.crypto, (h.cry.below hb).more hN, h.sml.siz.counts.2.2.2.2, h.sml.siz.typed.2⟩
theorem JS.pc (h : JS w W N gd gm n i cM ver vB name pass rows m vC vE vR vS vY crow) (hb : Below N w W') (hN : N ≤ W'.heap.size) (hc : Own W' N 47 6 vC crow) : PC W' vC :=
 PC.of hc (fun r hr => (h.codr r hr).up hb hN) (by have := h.codl; omega)
theorem JS.pb (h : JS w W N gd gm n i cM ver vB name pass rows m vC vE vR vS vY crow) (hb : Below N w W') (hN : N ≤ W'.heap.size) : ∃ B, TextsV W' W'.heap.size vB B ∧ B.length ≤ 1000 ∧ ∀ s ∈ B, s.size ≤ 140737488355328 := by
 obtain ⟨B, h1, h2, h3⟩ := h.bun
 exact ⟨B, (h1.below hb).more hN, by omega, fun s hs => by have := h3 s hs; omega⟩
theorem JS.fin (h : JS w W N gd gm n i cM ver vB name pass rows m vC vE vR vS vY crow) (hb : Below N w W') {ver' : Nat} {vB' vM' : Value} (box : Whole W' gd 26 #[.int .u64 1, .int .u64 ver', vB', .string name, .string pass, vM']) (hv : ver' < 18446744073709551616)
 (hB : ∃ B, TextsV W' W'.heap.size vB' B ∧ B.length ≤ 1000 ∧ ∀ s ∈ B, s.size ≤ 140737488355328) {r' : List Value} (own : Own W' N 44 11 vM' (rows.set i r')) (hr : RowA W' r') : EndO gd W' := by
 obtain ⟨B, h1, h2, h3⟩ := hB
 have hN : N ≤ W'.heap.size := by have := box.lt; have := h.gdN; omega
 refine EndO.mk' (id := 1) box (by decide) hv h1 h2 h3 h.nm h.pw own (fun r hm => ?_) (by rw [List.length_set]; exact h.few)
 obtain ⟨j, hj⟩ := List.getElem?_of_mem hm
 rw [List.getElem?_set] at hj
 by_cases hij : i = j
 · subst hij
   have hil := (List.getElem?_eq_some_iff.1 h.row).1
   rw [if_pos rfl, if_pos hil] at hj
   obtain rfl := Option.some.inj hj
   exact hr
 · rw [if_neg hij] at hj
   obtain ⟨m', vC', vE', vR', vS', vY', h4, h5⟩ := h.oth j r hj (fun e => hij e.symm)
   exact ⟨m', vC', vE', vR', vS', vY', (h4.below hb).more hN, h5⟩
theorem JS.cell (h : JS w W N gd gm n i cM ver vB name pass rows m vC vE vR vS vY crow) {j : Nat} (hj : j < 11) (u : Value) {r' : List Value} (hr' : ([.int .i64 m.kind, .int .i64 m.port, .string m.mid, .int .i64 m.dir, vC, vE, vR, .bool m.sending, vS, vY, .int .i64 m.sctp] : List Value).set j u = r') :
 Below N w (W.setCell ⟨gm, i * 11 + j, none⟩ u) ∧ N ≤ (W.setCell ⟨gm, i * 11 + j, none⟩ u).heap.size ∧ Whole (W.setCell ⟨gm, i * 11 + j, none⟩ u) gd 26 #[.int .u64 1, .int .u64 ver, vB, .string name, .string pass, .slice (some ⟨gm, 0, none⟩) n cM] ∧
  Own (W.setCell ⟨gm, i * 11 + j, none⟩ u) N 44 11 (.slice (some ⟨gm, 0, none⟩) n cM) (rows.set i r') ∧ Own (W.setCell ⟨gm, i * 11 + j, none⟩ u) N 47 6 vC crow := by
 obtain ⟨l1, l2, l3, l4⟩ := h.le
 have hbx := h.box.far (p := ⟨gm, i * 11 + j, none⟩) (fun e => h.own.apart h.box (by decide) (by rw [e]; rfl)) u
 refine ⟨h.low.setCell (p := ⟨gm, i * 11 + j, none⟩) l1 _, by have := hbx.lt; have := h.gdN; omega, hbx, ?_, h.cod.far (p := ⟨gm, i * 11 + j, none⟩) (fun e => ?_) u⟩
 · rw [← hr']
   exact h.own.put rfl h.row hj u
 · rcases h.cod.apart2 h.own (by decide) with q | q
   · rw [q] at e; cases e
   · exact q (by rw [e]; rfl)
end
theorem small_of {m : MediaS} (h : goodM m = true) (hs : SizM m) : Small m := by
 have hf : ∀ x ∈ m.codecs, x.feedback.length ≤ 8 := fun x hx => goodM_feeds h hx
 unfold goodM goodHead goodStreams goodChannel wordP at h
 simp only [Bool.and_eq_true, Bool.or_eq_true, decide_eq_true_eq] at h
 obtain ⟨⟨⟨⟨_, _, _, hm⟩, _⟩, _⟩, h2⟩ := h
 rw [tx_length] at hm
 have hl : m.codecs.length ≤ 16 ∧ m.exts.length ≤ 14 ∧ m.rids.length ≤ 3 := by
  rcases h2 with ⟨_, h3⟩ | ⟨_, h3⟩
  · exact ⟨h3.1.1.1.1.1.1.2.1.1, h3.1.1.1.1.1.2.1.1, h3.1.1.1.1.2.1.1⟩
  · have := h3.1.1.1; omega
 exact ⟨hs, by omega, by omega, by omega, fun x hx => by have := hf x hx; omega, by omega⟩
theorem set_same {α : Type} {L : List α} {i : Nat} {r : α} (h : L[i]? = some r) : L.set i r = L := by
 apply List.ext_getElem?
 intro k
 rw [List.getElem?_set]
 by_cases hk : i = k
 · subst hk
   rw [if_pos rfl, if_pos (List.getElem?_eq_some_iff.1 h).1, h]
 · rw [if_neg hk]
section
variable {w W W' : World} {N gd gm n i cM ver : Nat} {vB vC vE vR vS vY : Value} {name pass : ByteArray} {rows crow : List (List Value)} {m : MediaS}
theorem JS.at_ (h : JS w W N gd gm n i cM ver vB name pass rows m vC vE vR vS vY crow) : (∀ j, j < 11 → W.cell? ⟨gm, i * 11 + j, none⟩ = ([.int .i64 m.kind, .int .i64 m.port, .string m.mid, .int .i64 m.dir, vC, vE, vR, .bool m.sending, vS, vY, .int .i64 m.sctp] : List Value)[j]?) ∧ ∀ j, W.frozen? ⟨gm, j, none⟩ = false := by
 obtain ⟨g', c', eg, -, -, -, -, -, hc, hf⟩ := h.own.at_ h.row
 obtain rfl : gm = g' := by injection eg with e1 _ _; injection e1 with e1; injection e1
 exact ⟨hc, hf⟩
theorem JS.under (h : JS w W N gd gm n i cM ver vB name pass rows m vC vE vR vS vY crow) (hb : Below W.heap.size W W') : JS w W' N gd gm n i cM ver vB name pass rows m vC vE vR vS vY crow :=
 ⟨h.low.trans (hb.mono h.le.2.2.2), h.gdN, h.box.under hb, h.own.under hb, h.few, h.row, h.oth, h.cod.under hb, h.codr, h.codl, h.exts, h.rids, h.src, h.cry, h.sml, h.nm, h.pw, h.bun⟩
theorem JS.scal (h : JS w W N gd gm n i cM ver vB name pass rows m vC vE vR vS vY crow) {j : Nat} (hj : j < 11) (u : Value) {ki po di : Int} {mid : ByteArray} {se : Bool}
 (hr : ([.int .i64 m.kind, .int .i64 m.port, .string m.mid, .int .i64 m.dir, vC, vE, vR, .bool m.sending, vS, vY, .int .i64 m.sctp] : List Value).set j u = [.int .i64 ki, .int .i64 po, .string mid, .int .i64 di, vC, vE, vR, .bool se, vS, vY, .int .i64 m.sctp]) (hv : ver < 18446744073709551616) (hm : mid.size ≤ 140737488355328) :
 EndO gd (W.setCell ⟨gm, i * 11 + j, none⟩ u) ∧ Below N w (W.setCell ⟨gm, i * 11 + j, none⟩ u) := by
 obtain ⟨h1, h2, h3, h4, h5⟩ := h.cell hj u hr
 exact ⟨h.fin h1 h3 hv (h.pb h1 h2) h4 (RowA.of (h.pc h1 h2 h5) (h.pe h1 h2) (h.pr h1 h2) (h.ps h1 h2) (h.py h1 h2) hm), h1⟩
theorem JS.exts' (h : JS w W N gd gm n i cM ver vB name pass rows m vC vE vR vS vY crow) {v : Value} {L : List ExtS} (ho : Own W N 49 2 v (L.map ecell)) (hl : L.length ≤ 1000000) (hs : ∀ x ∈ L, x.uri.size ≤ 140737488355328) (hv : ver < 18446744073709551616) :
 EndO gd (W.setCell ⟨gm, i * 11 + 5, none⟩ v) ∧ Below N w (W.setCell ⟨gm, i * 11 + 5, none⟩ v) := by
 obtain ⟨h1, h2, h3, h4, h5⟩ := h.cell (j := 5) (by decide) v rfl
 have ho' := ho.far (p := ⟨gm, i * 11 + 5, none⟩) (fun e => by
  rcases ho.apart2 h.own (by decide) with q | q
  · rw [q] at e; cases e
  · exact q (by rw [e]; rfl)) v
 exact ⟨h.fin h1 h3 hv (h.pb h1 h2) h4 (RowA.of (h.pc h1 h2 h5) (PE.own ho' hl hs) (h.pr h1 h2) (h.ps h1 h2) (h.py h1 h2) h.sml.siz.mid), h1⟩
theorem JS.rids' (h : JS w W N gd gm n i cM ver vB name pass rows m vC vE vR vS vY crow) {v : Value} {L : List ByteArray} (ho : Own W N 9 1 v (L.map tcell)) (hl : L.length ≤ 1000000) (hs : ∀ x ∈ L, x.size ≤ 140737488355328) (hv : ver < 18446744073709551616) :
 EndO gd (W.setCell ⟨gm, i * 11 + 6, none⟩ v) ∧ Below N w (W.setCell ⟨gm, i * 11 + 6, none⟩ v) := by
 obtain ⟨h1, h2, h3, h4, h5⟩ := h.cell (j := 6) (by decide) v rfl
 have ho' := ho.far (p := ⟨gm, i * 11 + 6, none⟩) (fun e => by
  rcases ho.apart2 h.own (by decide) with q | q
  · rw [q] at e; cases e
  · exact q (by rw [e]; rfl)) v
 exact ⟨h.fin h1 h3 hv (h.pb h1 h2) h4 (RowA.of (h.pc h1 h2 h5) (h.pe h1 h2) (PR.own ho' hl hs) (h.ps h1 h2) (h.py h1 h2) h.sml.siz.mid), h1⟩
theorem JS.cry0 (h : JS w W N gd gm n i cM ver vB name pass rows m vC vE vR vS vY crow) (hv : ver < 18446744073709551616) :
 EndO gd (W.setCell ⟨gm, i * 11 + 9, none⟩ (.slice none 0 0)) ∧ Below N w (W.setCell ⟨gm, i * 11 + 9, none⟩ (.slice none 0 0)) := by
 obtain ⟨h1, h2, h3, h4, h5⟩ := h.cell (j := 9) (by decide) (.slice none 0 0) rfl
 exact ⟨h.fin h1 h3 hv (h.pb h1 h2) h4 (RowA.of (h.pc h1 h2 h5) (h.pe h1 h2) (h.pr h1 h2) (h.ps h1 h2) ⟨[], Rows.nil _ _ _ _, by simp, fun y hy => by cases hy⟩ h.sml.siz.mid), h1⟩
theorem JS.box' (h : JS w W N gd gm n i cM ver vB name pass rows m vC vE vR vS vY crow) {j : Nat} {u : Value} {ver' : Nat} {vB' : Value} (hr : (#[.int .u64 1, .int .u64 ver, vB, .string name, .string pass, .slice (some ⟨gm, 0, none⟩) n cM] : Array Value).setIfInBounds j u = #[.int .u64 1, .int .u64 ver', vB', .string name, .string pass, .slice (some ⟨gm, 0, none⟩) n cM])
 (hv : ver' < 18446744073709551616) (hB : ∀ W', Only (fun k => k = gd) W W' → ∃ B, TextsV W' W'.heap.size vB' B ∧ B.length ≤ 1000 ∧ ∀ s ∈ B, s.size ≤ 140737488355328) :
 EndO gd (W.setCell ⟨gd, j, none⟩ u) ∧ Below N w (W.setCell ⟨gd, j, none⟩ u) := by
 have h1 : Below N w (W.setCell ⟨gd, j, none⟩ u) := h.low.setCell (p := ⟨gd, j, none⟩) h.gdN _
 have hb := h.box.set j u
 rw [hr] at hb
 have h2 : N ≤ (W.setCell ⟨gd, j, none⟩ u).heap.size := by have := hb.lt; have := h.gdN; omega
 have hO := h.own.far (p := ⟨gd, j, none⟩) (fun e => h.own.apart h.box (by decide) e) u
 rw [← set_same h.row] at hO
 have hC := h.cod.far (p := ⟨gd, j, none⟩) (fun e => h.cod.apart h.box (by decide) e) u
 exact ⟨h.fin h1 hb hv (hB _ ((Only.refl (fun k => k = gd) W).setCell (p := ⟨gd, j, none⟩) (.inl rfl) u)) hO (RowA.of (h.pc h1 h2 hC) (h.pe h1 h2) (h.pr h1 h2) (h.ps h1 h2) (h.py h1 h2) h.sml.siz.mid), h1⟩
theorem JS.drop1 {A : Addr} {nB cB : Nat} (h : JS w W N gd gm n i cM ver (.slice (some A) nB cB) name pass rows m vC vE vR vS vY crow) (hv : ver < 18446744073709551616) {A' : Option Addr} {c' : Nat} (q1 : 1 < nB → A' = some (A.add 1)) (q2 : nB - 1 ≤ c') (q3 : c' ≤ maxLen) (q4 : A' = none → c' = 0) :
 EndO gd (W.setCell ⟨gd, 2, none⟩ (.slice A' (nB - 1) c')) ∧ Below N w (W.setCell ⟨gd, 2, none⟩ (.slice A' (nB - 1) c')) := by
 refine h.box' rfl hv fun W' hon => ?_
 obtain ⟨B, h1, h2, h3⟩ := h.bun
 have hlow : Below N w W' := h.low.trans (hon.below (fun k e => by have h4 : k = gd := e; have := h.gdN; omega) h.le.2.2.2)
 have h5 := (h1.below hlow).more (Nat.le_trans h.le.2.2.2 hon.size)
 refine ⟨B.drop 1, ?_, by rw [List.length_drop]; omega, fun s hs => by have := h3 s (List.mem_of_mem_drop hs); omega⟩
 obtain ⟨A0, c0, e, k1, k2, k3, k4⟩ := h5
 injection e with e1 e2 e3
 refine ⟨A', c', by rw [List.length_drop, ← e2], by rw [List.length_drop]; omega, q3, q4, fun hn => ?_⟩
 rw [List.length_drop] at hn
 obtain ⟨ad, f1, f2, f3⟩ := k4 (by omega)
 rw [f1] at e1
 obtain rfl := Option.some.inj e1
 refine ⟨A.add 1, q1 (by omega), by rw [add_block]; exact f2, fun j x hx => ?_⟩
 rw [List.getElem?_drop] at hx
 have h6 := f3 (1 + j) x hx
 have e4 : (fun j' => W'.cell? ((A.add 1).add (j * 1 + j'))) = fun j' => W'.cell? (A.add ((1 + j) * 1 + j')) := by
  funext j'
  rw [Go.Deep.add_add]
  congr 2
  omega
 rw [e4]
 exact h6
theorem JS.verU (h : JS w W N gd gm n i cM ver vB name pass rows m vC vE vR vS vY crow) (k : Int) :
 EndO gd (W.setCell ⟨gd, 1, none⟩ (.int .u64 (IntKind.u64.wrap k))) ∧ Below N w (W.setCell ⟨gd, 1, none⟩ (.int .u64 (IntKind.u64.wrap k))) := by
 obtain ⟨v', hv'⟩ : ∃ v' : Nat, IntKind.u64.wrap k = (v' : Nat) := ⟨(IntKind.u64.wrap k).toNat, by rw [IntKind.wrap_u64]; omega⟩
 have hlt : v' < 18446744073709551616 := by rw [IntKind.wrap_u64] at hv'; omega
 rw [hv']
 refine h.box' (j := 1) (ver' := v') rfl hlt fun W' hon => ?_
 have hlow : Below N w W' := h.low.trans (hon.below (fun k e => by have h4 : k = gd := e; have := h.gdN; omega) h.le.2.2.2)
 obtain ⟨B, h1, h2, h3⟩ := h.bun
 exact ⟨B, (h1.below hlow).more (Nat.le_trans h.le.2.2.2 hon.size), by omega, fun s hs => by have := h3 s hs; omega⟩
theorem JS.crys (h : JS w W N gd gm n i cM ver vB name pass rows m vC vE vR vS vY crow) {v : Value} {L : List CryptoS} (ho : ∀ W', Only (fun k => k = gm) W W' → CrysV W' W'.heap.size v L) (hl : L.length ≤ 3518437208780) (hs : ∀ y ∈ L, y.key.length = 30) (hv : ver < 18446744073709551616) :
 EndO gd (W.setCell ⟨gm, i * 11 + 9, none⟩ v) ∧ Below N w (W.setCell ⟨gm, i * 11 + 9, none⟩ v) := by
 obtain ⟨h1, h2, h3, h4, h5⟩ := h.cell (j := 9) (by decide) v rfl
 have ho' := ho _ ((Only.refl (fun k => k = gm) W).setCell (p := ⟨gm, i * 11 + 9, none⟩) (.inl rfl) v)
 exact ⟨h.fin h1 h3 hv (h.pb h1 h2) h4 (RowA.of (h.pc h1 h2 h5) (h.pe h1 h2) (h.pr h1 h2) (h.ps h1 h2) ⟨L, ho', hl, hs⟩ h.sml.siz.mid), h1⟩
theorem JS.endC (h : JS w W N gd gm n i cM ver vB name pass rows m vC vE vR vS vY crow) (hlow : Below N w W') (hbox : Whole W' gd 26 #[.int .u64 1, .int .u64 ver, vB, .string name, .string pass, .slice (some ⟨gm, 0, none⟩) n cM]) (hown : Own W' N 44 11 (.slice (some ⟨gm, 0, none⟩) n cM) rows)
 {cs : List (List Value)} (ho : Own W' N 47 6 vC cs) (hs : ∀ r ∈ cs, CRowL W' W'.heap.size 1000000 r) (hl : cs.length ≤ 1000000) (hv : ver < 18446744073709551616) : EndO gd W' ∧ Below N w W' := by
 have hN : N ≤ W'.heap.size := by have := hbox.lt; have := h.gdN; omega
 rw [← set_same h.row] at hown
 exact ⟨h.fin hlow hbox hv (h.pb hlow hN) hown (RowA.of (PC.of ho hs hl) (h.pe hlow hN) (h.pr hlow hN) (h.ps hlow hN) (h.py hlow hN) h.sml.siz.mid), hlow⟩
theorem JS.grownC (h : JS w W N gd gm n i cM ver vB name pass rows m vC vE vR vS vY crow) (hg : W.grownBy W' vC.ownBlock) :
 Below N w W' ∧ Whole W' gd 26 #[.int .u64 1, .int .u64 ver, vB, .string name, .string pass, .slice (some ⟨gm, 0, none⟩) n cM] ∧ Own W' N 44 11 (.slice (some ⟨gm, 0, none⟩) n cM) rows ∧ (∀ j, W'.cell? ⟨gm, i * 11 + j, none⟩ = if j < 11 then ([.int .i64 m.kind, .int .i64 m.port, .string m.mid, .int .i64 m.dir, vC, vE, vR, .bool m.sending, vS, vY, .int .i64 m.sctp] : List Value)[j]? else W'.cell? ⟨gm, i * 11 + j, none⟩) ∧ ∀ j, W'.frozen? ⟨gm, j, none⟩ = false := by
 have hown : Own W' N 44 11 (.slice (some ⟨gm, 0, none⟩) n cM) rows := h.own.grown hg (h.own.apart2 h.cod (by decide))
 obtain ⟨g', c', eg, -, -, -, -, -, hc, hf⟩ := hown.at_ h.row
 obtain rfl : gm = g' := by injection eg with e1 _ _; injection e1 with e1; injection e1
 refine ⟨h.low.grown hg h.le.2.2.2 (fun k hk => (h.cod.lt hk).1), h.box.grown hg (fun e => h.cod.apart h.box (by decide) e.symm), hown, fun j => ?_, hf⟩
 by_cases hj : j < 11
 · rw [if_pos hj]; exact hc j hj
 · rw [if_neg hj]
theorem JS.putC (h : JS w W N gd gm n i cM ver vB name pass rows m vC vE vR vS vY crow) (hg : W.grownBy W' vC.ownBlock) {v : Value} {cs : List (List Value)} (ho : Own W' N 47 6 v cs) (hs : ∀ r ∈ cs, CRow w N r) (hl : cs.length ≤ 1000000) (hv : ver < 18446744073709551616) :
 EndO gd (W'.setCell ⟨gm, i * 11 + 4, none⟩ v) ∧ Below N w (W'.setCell ⟨gm, i * 11 + 4, none⟩ v) := by
 obtain ⟨hlow, hbox, hown, -, -⟩ := h.grownC hg
 obtain ⟨l1, l2, l3, l4⟩ := h.le
 have h1 : Below N w (W'.setCell ⟨gm, i * 11 + 4, none⟩ v) := hlow.setCell (p := ⟨gm, i * 11 + 4, none⟩) l1 _
 have hbx := hbox.far (p := ⟨gm, i * 11 + 4, none⟩) (fun e => hown.apart hbox (by decide) (by rw [e]; rfl)) v
 have h2 : N ≤ (W'.setCell ⟨gm, i * 11 + 4, none⟩ v).heap.size := by have := hbx.lt; have := h.gdN; omega
 have ho' := ho.far (p := ⟨gm, i * 11 + 4, none⟩) (fun e => by
  rcases ho.apart2 hown (by decide) with q | q
  · rw [q] at e; cases e
  · exact q (by rw [e]; rfl)) v
 exact ⟨h.fin h1 hbx hv (h.pb h1 h2) (hown.put rfl h.row (j := 4) (by decide) v) (RowA.of (PC.of ho' (fun r hr => (hs r hr).up h1 h2) hl) (h.pe h1 h2) (h.pr h1 h2) (h.ps h1 h2) (h.py h1 h2) h.sml.siz.mid), h1⟩
theorem JS.same (h : JS w W N gd gm n i cM ver vB name pass rows m vC vE vR vS vY crow) (hv : ver < 18446744073709551616) : EndO gd W ∧ Below N w W :=
 h.endC h.low h.box h.own h.cod (fun r hr => (h.codr r hr).up h.low h.le.2.2.2) (by have := h.codl; omega) hv
theorem JS.codPut (h : JS w W N gd gm n i cM ver vB name pass rows m vC vE vR vS vY crow) {gc k : Nat} {s : ByteArray} {r : List Value} (hgc : vC.ownBlock = some gc) (hr : crow[k]? = some r) (hs : s.size ≤ 140737488355328) :
 JS w (W.setCell ⟨gc, k * 6 + 4, none⟩ (.string s)) N gd gm n i cM ver vB name pass rows m vC vE vR vS vY (crow.set k (r.set 4 (.string s))) := by
 have hlt := h.cod.lt hgc
 refine ⟨h.low.setCell (p := ⟨gc, k * 6 + 4, none⟩) hlt.1 _, h.gdN, h.box.far (p := ⟨gc, k * 6 + 4, none⟩) (fun e => h.cod.apart h.box (by decide) (by rw [hgc]; exact congrArg some e.symm)) _,
  h.own.far (p := ⟨gc, k * 6 + 4, none⟩) (fun e => ?_) _, h.few, h.row, h.oth, h.cod.put hgc hr (by decide) _, fun r' hr' => ?_, by rw [List.length_set]; exact h.codl, h.exts, h.rids, h.src, h.cry, h.sml, h.nm, h.pw, h.bun⟩
 · rcases h.own.apart2 h.cod (by decide) with q | q
   · rw [q] at e; cases e
   · exact q (e.trans hgc.symm)
 · rcases List.mem_or_eq_of_mem_set hr' with hm | rfl
   · exact h.codr r' hm
   · obtain ⟨x, vf, e, ht, ⟨n1, n2, n3⟩, hl⟩ := h.codr r (List.mem_of_getElem? hr)
     exact ⟨{ x with format := s }, vf, by rw [e]; rfl, ht, ⟨n1, hs, n3⟩, hl⟩
theorem JS.codAt (h : JS w W N gd gm n i cM ver vB name pass rows m vC vE vR vS vY crow) {gc k : Nat} {r : List Value} (hgc : vC.ownBlock = some gc) (hr : crow[k]? = some r) : (∀ j, j < 6 → W.cell? ⟨gc, k * 6 + j, none⟩ = r[j]?) ∧ ∀ j, W.frozen? ⟨gc, j, none⟩ = false := by
 obtain ⟨g', c', eg, ho, -, -, -, -, hc, hf⟩ := h.cod.at_ hr
 rw [hgc] at ho
 obtain rfl := Option.some.inj ho
 exact ⟨hc, hf⟩
end
theorem ExtsV.rows2 {w : World} {B n c : Nat} {A : Option Addr} {L : List ExtS} (h : ExtsV w B (.slice A n c) L) (hn : L.length = n) : (L.map ecell).length = n ∧ (∀ r ∈ L.map ecell, r.length = 2) ∧ (∀ r ∈ L.map ecell, ∀ u ∈ r, u.oneCell' = true) ∧
 ∀ ad, A = some ad → ∀ (i : Nat) (r : List Value), (L.map ecell)[i]? = some r → ∀ j, j < 2 → w.cell? (ad.add (i * 2 + j)) = r[j]? := by
 refine ⟨by rw [List.length_map, hn], fun r hr => ?_, fun r hr u hu => ?_, fun ad ha i r hr j hj => ?_⟩
 · obtain ⟨s, -, rfl⟩ := List.mem_map.1 hr
   rfl
 · obtain ⟨s, -, rfl⟩ := List.mem_map.1 hr
   simp only [ecell, List.mem_cons, List.not_mem_nil, or_false] at hu
   rcases hu with rfl | rfl <;> rfl
 · rw [List.getElem?_map] at hr
   obtain ⟨s, hs, rfl⟩ := Option.map_eq_some_iff.1 hr
   obtain ⟨ad', c', e1, -, -, -, h0, h1⟩ := Rows.at_ h hs
   injection e1 with e1 _ _
   rw [ha] at e1
   obtain rfl := Option.some.inj e1
   match j, hj with
   | 0, _ => exact h0
   | 1, _ => exact h1
theorem crow_new {w : World} {B : Nat} : CRow w B [Value.int .i64 1, Value.string ⟨#[88]⟩, Value.int .i64 1, Value.int .i64 1, Value.string ⟨#[]⟩, Value.slice none 0 0] :=
 ⟨{ type := 1, name := ⟨#[88]⟩, clock := 1, chans := 1, format := ⟨#[]⟩, feedback := [] }, .slice none 0 0, rfl, Rows.nil _ _ _ _, ⟨by decide, by decide, fun f hf => by cases hf⟩, by decide⟩
theorem JS.bunV {w W : World} {N gd gm n i cM ver : Nat} {vB vC vE vR vS vY : Value} {name pass : ByteArray} {rows crow : List (List Value)} {m : MediaS} (h : JS w W N gd gm n i cM ver vB name pass rows m vC vE vR vS vY crow) {v : Value} {L : List ByteArray} {B0 : Nat} (ho : Own W B0 9 1 v (L.map tcell)) (hl : L.length ≤ 1000) (hs : ∀ s ∈ L, s.size ≤ 140737488355328) (hv : ver < 18446744073709551616) :
 EndO gd (W.setCell ⟨gd, 2, none⟩ v) ∧ Below N w (W.setCell ⟨gd, 2, none⟩ v) :=
 h.box' (j := 2) rfl hv fun W' hon => ⟨L, (ho.keep fun g cs hg hw => hw.only hon (fun e => ho.apart h.box (by decide) (by rw [hg]; exact congrArg some e))).texts (Nat.le_refl _), hl, hs⟩
theorem own0J {w : World} {N0 : Nat} (h : N0 ≤ w.heap.size) : Own (w.alloc (.cells #[] 9)) N0 9 1 (.slice (some ⟨w.heap.size, 0, none⟩) 0 0) [] := ⟨World.ownsRow_made w #[] 0 h (Nat.zero_le _) rfl, fun r hr => by cases hr⟩
structure JF (w W : World) (N gd gm n i cM : Nat) (ver : Nat) (vB : Value) (name pass : ByteArray) (rows : List (List Value)) (vC : Value) (crow : List (List Value)) (lim : Nat) : Prop where
 low : Below N w W
 box : Whole W gd 26 #[.int .u64 1, .int .u64 ver, vB, .string name, .string pass, .slice (some ⟨gm, 0, none⟩) n cM]
 own : Own W N 44 11 (.slice (some ⟨gm, 0, none⟩) n cM) rows
 cod : Own W N 47 6 vC crow
 held : ∀ r ∈ crow, ∀ W', Only (fun k => vC.ownBlock = some k) W W' → CRowL W' W'.heap.size lim r
section
variable {w W W' : World} {N gd gm n i cM ver lim : Nat} {vB vC vE vR vS vY : Value} {name pass : ByteArray} {rows crow : List (List Value)} {m : MediaS}
theorem JS.jf (h : JS w W N gd gm n i cM ver vB name pass rows m vC vE vR vS vY crow) : JF w W N gd gm n i cM ver vB name pass rows vC crow 1000 :=
 ⟨h.low, h.box, h.own, h.cod, fun r hr W' hon => (h.codr r hr).up (h.low.trans (hon.below (fun k e => (h.cod.lt e).1) h.le.2.2.2)) (Nat.le_trans h.le.2.2.2 hon.size) (Nat.le_refl _)⟩
theorem JF.under (h : JF w W N gd gm n i cM ver vB name pass rows vC crow lim) (hb : Below W.heap.size W W') : JF w W' N gd gm n i cM ver vB name pass rows vC crow lim :=
 ⟨h.low.trans (hb.mono (by have h1 := h.own.lt (k := gm) rfl; omega)), h.box.under hb, h.own.under hb, h.cod.under hb, fun r hr W2 hon => h.held r hr W2 (((Only.refl (fun k => vC.ownBlock = some k) W).under hb).trans hon)⟩
theorem JF.at_ (h : JF w W N gd gm n i cM ver vB name pass rows vC crow lim) {r : List Value} (hr : rows[i]? = some r) : ∀ j, j < 11 → W.cell? ⟨gm, i * 11 + j, none⟩ = r[j]? := by
 obtain ⟨g', c', eg, -, -, -, -, -, hc, -⟩ := h.own.at_ hr
 obtain rfl : gm = g' := by injection eg with e1 _ _; injection e1 with e1; injection e1
 exact hc
theorem JF.codAt (h : JF w W N gd gm n i cM ver vB name pass rows vC crow lim) {gc k : Nat} {r : List Value} (hgc : vC.ownBlock = some gc) (hr : crow[k]? = some r) : (∀ j, j < 6 → W.cell? ⟨gc, k * 6 + j, none⟩ = r[j]?) ∧ ∀ j, W.frozen? ⟨gc, j, none⟩ = false := by
 obtain ⟨g', c', eg, ho, -, -, -, -, hc, hf⟩ := h.cod.at_ hr
 rw [hgc] at ho
 obtain rfl := Option.some.inj ho
 exact ⟨hc, hf⟩
theorem JF.putF (h : JF w W N gd gm n i cM ver vB name pass rows vC crow lim) {gc k : Nat} {r : List Value} (hgc : vC.ownBlock = some gc) (hr : crow[k]? = some r) {v : Value} {L : List ByteArray} {B0 lim' : Nat} (ho : Own W B0 9 1 v (L.map tcell)) (hl : L.length ≤ lim') (hs : ∀ s ∈ L, s.size ≤ 140737488355328) (hm : lim ≤ lim') :
 JF w (W.setCell ⟨gc, k * 6 + 5, none⟩ v) N gd gm n i cM ver vB name pass rows vC (crow.set k (r.set 5 v)) lim' := by
 have hlt := h.cod.lt hgc
 refine ⟨h.low.setCell (p := ⟨gc, k * 6 + 5, none⟩) hlt.1 _, h.box.far (p := ⟨gc, k * 6 + 5, none⟩) (fun e => h.cod.apart h.box (by decide) (by rw [hgc]; exact congrArg some e.symm)) _,
  h.own.far (p := ⟨gc, k * 6 + 5, none⟩) (fun e => ?_) _, h.cod.put hgc hr (by decide) _, fun r' hr' W2 hon => ?_⟩
 · rcases h.own.apart2 h.cod (by decide) with q | q
   · rw [q] at e; cases e
   · exact q (e.trans hgc.symm)
 · have hon2 : Only (fun k => vC.ownBlock = some k) W W2 := ((Only.refl (fun k => vC.ownBlock = some k) W).setCell (p := ⟨gc, k * 6 + 5, none⟩) (.inl hgc) v).trans hon
   rcases List.mem_or_eq_of_mem_set hr' with hm2 | rfl
   · obtain ⟨x, vf, e, ht, hn, hl2⟩ := h.held r' hm2 W2 hon2
     exact ⟨x, vf, e, ht, hn, Nat.le_trans hl2 hm⟩
   · obtain ⟨x, vf, e, -, ⟨n1, n2, -⟩, -⟩ := h.held r (List.mem_of_getElem? hr) W (Only.refl _ _)
     refine ⟨{ x with feedback := L }, v, by rw [e]; rfl, ?_, ⟨n1, n2, hs⟩, hl⟩
     exact (ho.keep fun g cs hg hw => hw.only hon2 (fun e2 => by
      rcases (ho.base_le (Nat.zero_le B0)).apart2 (h.cod.base_le (Nat.zero_le N)) (by decide) with q | q
      · rw [q] at hg; cases hg
      · exact q (hg.trans (Eq.symm e2)))).texts (Nat.le_refl _)
end
theorem Own.setRow6 {w : World} {base : Nat} {v : Value} {rs : List (List Value)} (h : Own w base 47 6 v rs) {gc k : Nat} (hg : v.ownBlock = some gc) {r : List Value} (hr : rs[k]? = some r) (a b c d e f : Value) :
 Own (w.setCells gc (k * 6) [a, b, c, d, e, f]) base 47 6 v (rs.set k [a, b, c, d, e, f]) := by
 have hl : r.length = 6 := h.2 r (List.mem_of_getElem? hr)
 have hk := (List.getElem?_eq_some_iff.1 hr).1
 have hq : ∀ r' : List Value, (rs.set k r')[k]? = some r' := fun r' => by rw [List.getElem?_set, if_pos rfl, if_pos hk]
 match r, hl with
 | [x0, x1, x2, x3, x4, x5], _ =>
   have h0 := h.put hg hr (j := 0) (by decide) a
   have h1 := h0.put hg (hq _) (j := 1) (by decide) b
   rw [List.set_set] at h1
   have h2 := h1.put hg (hq _) (j := 2) (by decide) c
   rw [List.set_set] at h2
   have h3 := h2.put hg (hq _) (j := 3) (by decide) d
   rw [List.set_set] at h3
   have h4 := h3.put hg (hq _) (j := 4) (by decide) e
   rw [List.set_set] at h4
   have h5 := h4.put hg (hq _) (j := 5) (by decide) f
   rw [List.set_set] at h5
   exact h5
theorem JS.rowPut {w W : World} {N gd gm n i cM ver : Nat} {vB vC vE vR vS vY : Value} {name pass : ByteArray} {rows crow : List (List Value)} {m : MediaS} (h : JS w W N gd gm n i cM ver vB name pass rows m vC vE vR vS vY crow) {gc k : Nat} {r : List Value} (hgc : vC.ownBlock = some gc) (hr : crow[k]? = some r) {x : CodecS} {vf : Value} (hx : CRow w N (ccell x vf)) :
 JS w (W.setCells gc (k * 6) (ccell x vf)) N gd gm n i cM ver vB name pass rows m vC vE vR vS vY (crow.set k (ccell x vf)) := by
 have hlt := h.cod.lt hgc
 have hb : gd ≠ gc := fun e => h.cod.apart h.box (by decide) (by rw [hgc]; exact congrArg some e.symm)
 have ho : (Value.slice (some ⟨gm, 0, none⟩) n cM).ownBlock ≠ some gc := fun e => by
  rcases h.own.apart2 h.cod (by decide) with q | q
  · rw [q] at e; cases e
  · exact q (e.trans hgc.symm)
 refine ⟨((((((h.low.setCell (p := ⟨gc, k * 6, none⟩) hlt.1 _).setCell (p := ⟨gc, k * 6 + 1, none⟩) hlt.1 _).setCell (p := ⟨gc, k * 6 + 2, none⟩) hlt.1 _).setCell (p := ⟨gc, k * 6 + 3, none⟩) hlt.1 _).setCell (p := ⟨gc, k * 6 + 4, none⟩) hlt.1 _).setCell (p := ⟨gc, k * 6 + 5, none⟩) hlt.1 _), h.gdN, ((((((h.box.far (p := ⟨gc, k * 6, none⟩) hb _).far (p := ⟨gc, k * 6 + 1, none⟩) hb _).far (p := ⟨gc, k * 6 + 2, none⟩) hb _).far (p := ⟨gc, k * 6 + 3, none⟩) hb _).far (p := ⟨gc, k * 6 + 4, none⟩) hb _).far (p := ⟨gc, k * 6 + 5, none⟩) hb _), ((((((h.own.far (p := ⟨gc, k * 6, none⟩) ho _).far (p := ⟨gc, k * 6 + 1, none⟩) ho _).far (p := ⟨gc, k * 6 + 2, none⟩) ho _).far (p := ⟨gc, k * 6 + 3, none⟩) ho _).far (p := ⟨gc, k * 6 + 4, none⟩) ho _).far (p := ⟨gc, k * 6 + 5, none⟩) ho _), h.few, h.row, h.oth, h.cod.setRow6 hgc hr _ _ _ _ _ _, fun r' hr' => ?_, by rw [List.length_set]; exact h.codl, h.exts, h.rids, h.src, h.cry, h.sml, h.nm, h.pw, h.bun⟩
 rcases List.mem_or_eq_of_mem_set hr' with hm | rfl
 · exact h.codr r' hm
 · exact hx
theorem JS.there {w W : World} {N gd gm n i cM ver : Nat} {vB vC vE vR vS vY : Value} {name pass : ByteArray} {rows crow : List (List Value)} {m : MediaS} (h : JS w W N gd gm n i cM ver vB name pass rows m vC vE vR vS vY crow) {gc k : Nat} {r : List Value} (hgc : vC.ownBlock = some gc) (hr : crow[k]? = some r) {s : Nat} (hs : s = 6) : W.there gc (k * 6) s := fun j hj => by
 obtain ⟨h1, h2⟩ := h.codAt hgc hr
 have hl : r.length = 6 := h.cod.2 r (List.mem_of_getElem? hr)
 refine ⟨?_, h2 _⟩
 rw [h1 j (by omega), List.getElem?_eq_getElem (by omega)]
 rfl
theorem crow_one {w : World} {N : Nat} {r : List Value} (h : CRow w N r) : r.toArray.all (·.oneCell') = true ∧ r.toArray.size = 6 := by
 obtain ⟨x, vf, rfl, ht, -, -⟩ := h
 refine ⟨all_oneCell_toArray (fun u hu => ?_), rfl⟩
 simp only [ccell, List.mem_cons, List.not_mem_nil, or_false] at hu
 rcases hu with rfl | rfl | rfl | rfl | rfl | rfl
 · rfl
 · rfl
 · rfl
 · rfl
 · rfl
 · exact Rows.one ht
abbrev zeros30 : Tx := [0, 0, 0, 0, 0, 0, 0, 0, 0, 0, 0, 0, 0, 0, 0, 0, 0, 0, 0, 0, 0, 0, 0, 0, 0, 0, 0, 0, 0, 0]
theorem build_cryJ (z : Int) (w : World) : (Instr.build 51 #[(0, .int .i64 z)]).run Tryz.prog w = .ok (.agg (cryC ⟨z, zeros30⟩).toArray) w := run_build w 51 _ _ (by kernel_rfl)
theorem crys_one {W' : World} {g : Nat} {z : Int} {CX : Array Value} (hCX : (cryC (⟨z, zeros30⟩ : CryptoS)).toArray = CX) (hW : Whole W' g 51 CX) : CrysV W' W'.heap.size (.slice (some ⟨g, 0, none⟩) 1 1) [⟨z, zeros30⟩] := by
 refine ⟨some ⟨g, 0, none⟩, 1, rfl, Nat.le_refl _, by unfold maxLen; omega, (fun e => by cases e), fun _ => ⟨_, rfl, hW.lt, fun j x hx => ?_⟩⟩
 match j, hx with
 | 0, hx =>
   obtain rfl : (⟨z, zeros30⟩ : CryptoS) = x := by simpa using hx
   refine ⟨rfl, fun j' hj' => ?_⟩
   show W'.cell? ((⟨g, 0, none⟩ : Addr).add (0 * 31 + j')) = _
   rw [Addr.add_lit, Nat.zero_mul, Nat.zero_add, Nat.zero_add, hW.cell, ← hCX]
   exact List.getElem?_toArray
 | j + 1, hx => simp at hx
theorem wpList_buildJ {ops : Array Oper} {rest : List Oper} {o : Oper} {a : Act} {w : World} {Q : Exit → Act → World → Prop} (hgd : o.guard = none) (t : TypeId) (i : Nat) (x : Operand) (ho : o.op = .build t #[(i, x)]) {u v : Value} (hx : a.eval x = u)
 (hr : (Instr.build t #[(i, u)]).run Tryz.prog w = .ok v w) (h : wpList Tryz.prog ops Q rest (a.put o.dst v) w) : wpList Tryz.prog ops Q (o :: rest) a w := by
 refine wpList_plain hgd fun K hK => ?_
 unfold Oper.wp execOp
 simp only [ho, Sem.run_bind, List.map_toArray, List.map_cons, List.map_nil, hx, hr, Result.andThen_ok, Sem.run_pure]
 exact hK _ _ h
theorem wpList_sliceJ {ops : Array Oper} {rest : List Oper} {o : Oper} {a : Act} {w w' : World} {Q : Exit → Act → World → Prop} (hgd : o.guard = none) (t : TypeId) (n i : Nat) (x : Operand) (ho : o.op = .buildSlice t n #[(i, x)]) {u v : Value} (hx : a.eval x = u)
 (hr : (Instr.buildSlice t n #[(i, u)]).run Tryz.prog w = .ok v w') (h : wpList Tryz.prog ops Q rest (a.put o.dst v) w') : wpList Tryz.prog ops Q (o :: rest) a w := by
 refine wpList_plain hgd fun K hK => ?_
 exact wp_sliceOne9 ho hx hr (hK _ _ h)
end Go.Proofs.YtibpnjakimobmaaGreat
