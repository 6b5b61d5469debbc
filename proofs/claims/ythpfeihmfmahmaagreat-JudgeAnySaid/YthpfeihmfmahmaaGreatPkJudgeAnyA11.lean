import Derived.Test.YthpfeihmfmahmaaGreatPkJudgeAnyA06
import Derived.Test.YthpfeihmfmahmaaGreatPkJudgeAnyA10
import Derived.Test.YthpfeihmfmahmaaGreatPkJudgeAnyA00
import Derived.Deep.Slices
import Derived.Deep.Fields
import Derived.OpenShut
import Derived.ChangeOld
import Derived.ChangeSame
import Derived.SizedLaws
import Derived.HandedShaped
import Derived.Test.YthpfeihmfmahmaaGreatPkJudgeAnyA01
namespace Go.Proofs.YthpfeihmfmahmaaGreat
open Go.RowKit
set_option linter.unusedVariables false
set_option linter.unusedSimpArgs false
theorem txs_eq {L M : List ByteArray} : L.map tx = M.map tx ↔ L = M := by
 constructor
 · intro h
   apply List.ext_getElem?
   intro j
   have := congrArg (fun l => l[j]?) h
   simp only [List.getElem?_map] at this
   match h1 : L[j]?, h2 : M[j]? with
   | none, none => rfl
   | some s, none => rw [h1, h2] at this; cases this
   | none, some s => rw [h1, h2] at this; cases this
   | some s, some t =>
     rw [h1, h2] at this
     rw [tx_inj (Option.some.inj this)]
 · intro h; rw [h]
set_option maxHeartbeats 6400000 in
set_option maxRecDepth 100000 in
theorem juBundle_any (X Y : Array Value) (o a : DescS) (vB vM uB uM : Value) (w : World) (h1 : DescV w w.heap.size X o vB vM) (h2 : DescV w w.heap.size Y a uB uM) (h8 : a.media.length ≤ 8) (hlo : o.bundle.length ≤ 8796093021952) :
 Calls Tryz.prog 47 #[.agg X, .agg Y] w fun e w' => e = .returned (.bool (bundle9 o a)) ∧ Below w.heap.size w w' := by
 obtain ⟨hb0, hbx, hby⟩ := two_boxes w 26 X Y
 obtain ⟨AB, cB, rfl, -⟩ := Rows.form h1.bundle
 obtain ⟨AM, cM, rfl, hcM, hmM, -⟩ := Rows.form h1.media
 obtain ⟨AB2, cB2, rfl, -⟩ := Rows.form h2.bundle
 obtain ⟨AM2, cM2, rfl, hcM2, hmM2, -⟩ := Rows.form h2.media
 obtain ⟨nB, hnB⟩ : ∃ n, o.bundle.length = n := ⟨_, rfl⟩
 obtain ⟨nM, hnM⟩ : ∃ n, o.media.length = n := ⟨_, rfl⟩
 obtain ⟨nB2, hnB2⟩ : ∃ n, a.bundle.length = n := ⟨_, rfl⟩
 obtain ⟨nM2, hnM2⟩ : ∃ n, a.media.length = n := ⟨_, rfl⟩
 rw [hnB, hnM] at h1
 rw [hnB2, hnM2] at h2
 have HX1 : Hid (X[1]? = some (.int .u64 (o.ver : Int))) := Lib.hid (by rw [h1.form]; rfl)
 have HX2 : Hid (X[2]? = some (.slice AB nB cB)) := Lib.hid (by rw [h1.form]; rfl)
 have HX5 : Hid (X[5]? = some (.slice AM nM cM)) := Lib.hid (by rw [h1.form]; rfl)
 have HY1 : Hid (Y[1]? = some (.int .u64 (a.ver : Int))) := Lib.hid (by rw [h2.form]; rfl)
 have HY2 : Hid (Y[2]? = some (.slice AB2 nB2 cB2)) := Lib.hid (by rw [h2.form]; rfl)
 have HY5 : Hid (Y[5]? = some (.slice AM2 nM2 cM2)) := Lib.hid (by rw [h2.form]; rfl)
 have HSZ : Hid (X.size = 6 ∧ Y.size = 6) := Lib.hid ⟨by rw [h1.form]; rfl, by rw [h2.form]; rfl⟩
 have HL := Lib.hid (And.intro hnB (And.intro hnM (And.intro hnB2 hnM2)))
 obtain ⟨N, hN⟩ : ∃ N, w.heap.size = N := ⟨_, rfl⟩
 have H0 := Lib.hid (And.intro hb0 (And.intro hbx hby))
 have HV := Lib.hid (And.intro h1 h2)
 rw [hN] at H0 HV
 have HN := Lib.hid hN
 clear h1 h2 hb0 hbx hby hN hnB hnM hnB2 hnM2
 have HR : Hid (bundle9 o a = bundle9 o a) := Lib.hid rfl
 obtain ⟨r, hr⟩ : ∃ r, bundle9 o a = r := ⟨_, rfl⟩
 replace HR : Hid (r = bundle9 o a) := Lib.hid hr.symm
 rw [hr]
 rw [HL.out.2.2.2] at h8
 rw [HL.out.1] at hlo
 clear hr
 go_enter Tryz.func47, Tryz.ntmps47
 go_upto_region 1 with fail
 simp only [HN.out, Nat.add_assoc, Nat.reduceAdd]
 generalize ((w.alloc (.cells X 26)).alloc (.cells Y 26)) = W0 at *
 have HN0 : Hid (N ≤ W0.heap.size) := Lib.hid (Nat.le_of_lt H0.out.2.1.lt)
 have HF : Hid (∀ W, Below W0.heap.size W0 W → Below N w W ∧ Whole W N 26 X ∧ Whole W (N + 1) 26 Y) := Lib.hid fun W hW => ⟨H0.out.1.trans (hW.mono HN0.out), H0.out.2.1.under hW, H0.out.2.2.under hW⟩
 have cy5 : W0.cell? ⟨N + 1, 5, none⟩ = some (.slice AM2 nM2 cM2) := (H0.out.2.2.cell 5).trans HY5.out
 go_wp2
 clear cy5
 go_loopw [11, 5] (fun s11 s5 wq => ∃ i : Nat, i ≤ nM2 ∧ s11 = .int .i64 (i : Int) ∧ (Own wq W0.heap.size 9 1 s5 ((takenMids (a.media.take i)).map tcell) ∧ Below W0.heap.size W0 wq)) (fun s11 _ _ => nM2 - (intOf s11).toNat)
 case atStart => exact ⟨0, Nat.zero_le _, rfl, Own.nil _ _ _ _, Below.refl _ _⟩
 case round =>
  obtain ⟨i, hi, rfl, hst⟩ := hrel
  have HT := Lib.hid hst
  clear hst
  have HFT := Lib.hid (HF.out wr HT.out.2)
  obtain ⟨At, ct, hvt, -⟩ := Own.form HT.out.1
  obtain ⟨nt, hnt⟩ : ∃ n, ((takenMids (a.media.take i)).map tcell).length = n := ⟨_, rfl⟩
  rw [hnt] at hvt
  subst hvt
  have HNT : Hid (((takenMids (a.media.take i)).map tcell).length = nt ∧ nt ≤ 8) := Lib.hid ⟨hnt, by
   rw [← hnt, List.length_map]
   have := taken_le (a.media.take i)
   rw [List.length_take] at this
   omega⟩
  clear hnt
  by_cases hlt : i < nM2
  · obtain ⟨ad2, k2, M, uC, uE, uR, uS, uY, e2, b2, hy, ys⟩ := MediasV.at_ (HV.out.2.media.below HFT.out.1) (i := i) (by rw [HL.out.2.2.2]; exact hlt)
    injection e2 with e2 e2n e2c; clear e2n e2c
    subst e2
    obtain ⟨y, hy2⟩ : ∃ m, a.media.getD i default = m := ⟨_, rfl⟩
    have hyi : a.media[i]? = some y := by rw [← hy2]; exact getD_of (by rw [HL.out.2.2.2]; exact hlt)
    rw [hy2] at hy
    have HYI := Lib.hid hyi
    have hi0 : (0 : Int) ≤ (i : Int) := by omega
    have hi1 : (i : Int) < (nM2 : Int) := by omega
    have HLD : Hid (∀ (ops : Array Oper) (rest : List Oper) (op : Oper) (act : Act) (Q : Exit → Act → World → Prop), op.guard = none → op.op = .load 44 (.tmp 13) → act.eval (.tmp 13) = .pointer (some (ad2.add (i * 11))) → wpList Tryz.prog ops Q rest (act.put op.dst (.agg M)) wr → wpList Tryz.prog ops Q (op :: rest) act wr) :=
     Lib.hid fun ops rest op act Q h1 h2 h3 h4 => wpList_load_at h1 44 (.tmp 13) h2 _ h3 M.toList _ ys Tryz.underlying44 rfl (by rw [Array.length_toList, hy.size]; exact Tryz.sizeMedia) (by rw [Array.toArray_toList]; exact h4)
    have HSM : Hid (M.size = 11 ∧ M.toList.all (·.oneCell') = true ∧ M[1]? = some (.int .i64 y.port) ∧ M[2]? = some (.string y.mid)) := Lib.hid ⟨hy.size, hy.one, by rw [hy.form]; rfl, by rw [hy.form]; rfl⟩
    have HW1 : Hid (Below wr.heap.size wr ((wr.alloc (.cells #[.int .i64 0, .int .i64 0, .string ⟨#[]⟩, .int .i64 0, .slice none 0 0, .slice none 0 0, .slice none 0 0, .bool false, .slice none 0 0, .slice none 0 0, .int .i64 0] 44)).setRow wr.heap.size M) ∧ Whole ((wr.alloc (.cells #[.int .i64 0, .int .i64 0, .string ⟨#[]⟩, .int .i64 0, .slice none 0 0, .slice none 0 0, .slice none 0 0, .bool false, .slice none 0 0, .slice none 0 0, .int .i64 0] 44)).setRow wr.heap.size M) wr.heap.size 44 M) := Lib.hid ⟨below_row ((Below.refl _ wr).alloc (Nat.le_refl _) _) (Nat.le_refl _) _, (Whole.new _ _ _).row _⟩
    clear hy ys b2 hy2 hyi
    go_upto_region 5 with (first | ((with_reducible refine HLD.out _ _ _ _ _ ?_ ?_ ?_ ?_); (with_reducible rfl); (with_reducible rfl); rfl) | ((with_reducible refine wpList_storeS M ?_ 44 (.tmp 7) (.tmp 14) ?_ ?_ ?_ (Whole.new _ _ _) Tryz.sizeMedia HSM.out.1 ?_ HSM.out.2.1 ?_); (with_reducible rfl); (with_reducible rfl); rfl; rfl; rfl))
    have H1 : Hid (Own ((wr.alloc (.cells #[.int .i64 0, .int .i64 0, .string ⟨#[]⟩, .int .i64 0, .slice none 0 0, .slice none 0 0, .slice none 0 0, .bool false, .slice none 0 0, .slice none 0 0, .int .i64 0] 44)).setRow wr.heap.size M) W0.heap.size 9 1 (.slice At nt ct) ((takenMids (a.media.take i)).map tcell) ∧ Below W0.heap.size W0 ((wr.alloc (.cells #[.int .i64 0, .int .i64 0, .string ⟨#[]⟩, .int .i64 0, .slice none 0 0, .slice none 0 0, .slice none 0 0, .bool false, .slice none 0 0, .slice none 0 0, .int .i64 0] 44)).setRow wr.heap.size M) ∧ Whole ((wr.alloc (.cells #[.int .i64 0, .int .i64 0, .string ⟨#[]⟩, .int .i64 0, .slice none 0 0, .slice none 0 0, .slice none 0 0, .bool false, .slice none 0 0, .slice none 0 0, .int .i64 0] 44)).setRow wr.heap.size M) wr.heap.size 44 M) := Lib.hid ⟨HT.out.1.under HW1.out.1, HT.out.2.trans (HW1.out.1.mono HT.out.2.size), HW1.out.2⟩
    clear HLD HW1
    generalize ((wr.alloc (.cells #[.int .i64 0, .int .i64 0, .string ⟨#[]⟩, .int .i64 0, .slice none 0 0, .slice none 0 0, .slice none 0 0, .bool false, .slice none 0 0, .slice none 0 0, .int .i64 0] 44)).setRow wr.heap.size M) = w1 at *
    generalize wr.heap.size = gM at *
    have HTK : Hid (Calls Tryz.prog 78 #[.agg M] w1 fun e w' => e = .returned (.bool (!(y.port == 0))) ∧ Below w1.heap.size w1 w') := Lib.hid (juTaken_any M y.port w1 HSM.out.2.2.1)
    obtain ⟨tk, htk⟩ : ∃ b, tookT y = b := ⟨_, rfl⟩
    have htk2 : (!(y.port == 0)) = tk := by rw [← htk]; rfl
    rw [htk2] at HTK
    have HTN := Lib.hid (taken_next HYI.out)
    rw [htk] at HTN
    clear htk htk2
    cases tk with
    | false =>
      go_wp2_with (first | ((with_reducible refine wpList_load_all ?_ 44 (.tmp 7) ?_ H1.out.2.2 ?_ Tryz.sizeMedia HSM.out.1 Tryz.underlying44 rfl ?_); (with_reducible rfl); (with_reducible rfl); rfl) | (go_at_call 78; (with_reducible refine HTK.out.mono ?_); rintro e w2 ⟨rfl, hb2⟩))
      go_roundw
      case rel => exact ⟨i + 1, by omega, by go_num, by rw [HTN.out]; exact H1.out.1.under hb2, H1.out.2.1.trans (hb2.mono H1.out.2.1.size)⟩
      case measure => simp [intOf]; omega
    | true =>
      go_upto_if 16 with (first | ((with_reducible refine wpList_load_all ?_ 44 (.tmp 7) ?_ H1.out.2.2 ?_ Tryz.sizeMedia HSM.out.1 Tryz.underlying44 rfl ?_); (with_reducible rfl); (with_reducible rfl); rfl) | (go_at_call 78; (with_reducible refine HTK.out.mono ?_); rintro e w2 ⟨rfl, hb2⟩; have H2 : Hid (Own w2 W0.heap.size 9 1 (.slice At nt ct) ((takenMids (a.media.take i)).map tcell) ∧ Below W0.heap.size W0 w2 ∧ Whole w2 gM 44 M) := Lib.hid ⟨H1.out.1.under hb2, H1.out.2.1.trans (hb2.mono H1.out.2.1.size), H1.out.2.2.under hb2⟩; clear hb2))
      have hnt8 := HNT.out.2
      have q2 : w2.cell? ⟨gM, 2, none⟩ = some (.string y.mid) := (H2.out.2.2.cell 2).trans HSM.out.2.2.2
      have HNA : Hid (Own (w2.alloc (.cells #[.string y.mid] 9)) W0.heap.size 9 1 (.slice At nt ct) ((takenMids (a.media.take i)).map tcell) ∧ Whole (w2.alloc (.cells #[.string y.mid] 9)) w2.heap.size 9 #[.string y.mid] ∧ W0.heap.size ≤ (w2.alloc (.cells #[.string y.mid] 9)).heap.size ∧ Below W0.heap.size W0 (w2.alloc (.cells #[.string y.mid] 9))) := Lib.hid
       ⟨H2.out.1.alloc _, Whole.new _ _ _, Nat.le_trans H2.out.2.1.size (by rw [World.size_alloc]; omega), H2.out.2.1.alloc H2.out.2.1.size _⟩
      go_wp2_with (at_builtin; refine wpList_appendE (r := [.string y.mid]) rfl (.tmp 17) (.tmp 20) rfl Tryz.underlying23 Tryz.infoStr rfl (Nat.zero_lt_succ _) rfl HNA.out.1 rfl HNA.out.2.1 rfl (fun u hu => by simp at hu; subst hu; rfl) (by rw [HNT.out.1]; omega) (by rw [HNT.out.1]; omega) HNA.out.2.2.1 ?_; intro v8 w8 ho8 hg8 hn8; have H8 : Hid (Own w8 W0.heap.size 9 1 v8 ((takenMids (a.media.take i)).map tcell ++ [tcell y.mid]) ∧ Below W0.heap.size W0 w8) := Lib.hid ⟨ho8, HNA.out.2.2.2.grown hg8 HNA.out.2.2.1 (fun j hj => (HNA.out.1.lt hj).1)⟩; clear ho8 hg8 hn8)
      go_roundw
      case rel => exact ⟨i + 1, by omega, by go_num, by rw [HTN.out]; simpa using H8.out.1, H8.out.2⟩
      case measure => simp [intOf]; omega
  · obtain rfl : i = nM2 := by omega
    have htk : a.media.take i = a.media := List.take_of_length_le (by rw [HL.out.2.2.2]; exact Nat.le_refl _)
    rw [htk] at HT HNT
    clear htk
    have HTX : Hid (∀ W, Below wr.heap.size wr W → TextsV W W.heap.size (.slice At nt ct) (takenMids a.media)) := Lib.hid fun W hW => (HT.out.1.under hW).texts (Nat.le_refl _)
    have hnr : N ≤ wr.heap.size := Nat.le_of_lt HFT.out.2.1.lt
    have HTB : Hid (TextsV wr wr.heap.size (.slice AB2 nB2 cB2) a.bundle) := Lib.hid ((HV.out.2.bundle.below HFT.out.1).more hnr)
    have HTO : Hid (∀ W, Below wr.heap.size wr W → TextsV W W.heap.size (.slice AB nB cB) o.bundle) := Lib.hid fun W hW => (HV.out.1.bundle.below (HFT.out.1.trans (hW.mono hnr))).more (Nat.le_trans hnr hW.size)
    obtain ⟨q, hq⟩ := sameBool a.bundle (takenMids a.media)
    have HCS : Hid (Calls Tryz.prog 87 #[.slice AB2 nB2 cB2, .slice At nt ct] wr fun e w' => e = .returned (.bool q) ∧ Below wr.heap.size wr w') := Lib.hid ((equalT_any _ _ a.bundle (takenMids a.media) wr HTB.out (HTX.out wr (Below.refl _ _))).mono fun e w' h => h.fix hq)
    have HCW : Hid (∀ W, Below wr.heap.size wr W → Calls Tryz.prog 82 #[.slice At nt ct, .slice AB nB cB] W fun e w' => e = .returned (.bool ((takenMids a.media).all (inT o.bundle))) ∧ Below W.heap.size W w') := Lib.hid fun W hW => juWithinT_any At nt ct AB nB cB (takenMids a.media) o.bundle W (HTX.out W hW) (by rw [← HNT.out.1, List.length_map]) (by have := HNT.out.2; omega) (HTO.out W hW) HL.out.1 (by omega)
    have HQ : Hid (r = ((takenMids a.media).all (inT o.bundle) && q)) := Lib.hid (by
     rw [HR.out]
     unfold bundle9
     congr 1
     rw [Bool.eq_iff_iff, hq, decide_eq_true_eq, txs_eq]
     exact ⟨fun h => h.symm, fun h => h.symm⟩)
    generalize (takenMids a.media).all (inT o.bundle) = ia at *
    have d2 : wr.cell? ⟨N + 1, 2, none⟩ = some (.slice AB2 nB2 cB2) := (HFT.out.2.2.cell 2).trans HY2.out
    have HV1 : Hid (∀ W, Below wr.heap.size wr W → Below N w W ∧ W.cell? ⟨N, 2, none⟩ = some (.slice AB nB cB)) := Lib.hid fun W hW => ⟨HFT.out.1.trans (hW.mono hnr), ((HFT.out.2.1.under hW).cell 2).trans HX2.out⟩
    clear hq hnr
    cases q with
    | false =>
      go_wp2_with (go_at_call 87; (with_reducible refine HCS.out.mono ?_); rintro e w9 ⟨rfl, hb9⟩; have HE9 := Lib.hid (HV1.out w9 hb9); clear hb9)
      go_ret
      exact ⟨ret_bool (by rw [HQ.out]; simp), by rw [HN.out]; exact HE9.out.1⟩
    | true =>
      go_wp2_with (first | (go_at_call 87; (with_reducible refine HCS.out.mono ?_); rintro e w9 ⟨rfl, hb9⟩; have HE9 := Lib.hid (HV1.out w9 hb9); have g2 := HE9.out.2; have HB9 := Lib.hid hb9; clear hb9) | (go_at_call 82; (with_reducible refine (HCW.out _ HB9.out).mono ?_); rintro e w10 ⟨rfl, hb10⟩; have HE10 := Lib.hid (HV1.out w10 (HB9.out.trans (hb10.mono HB9.out.size))); clear hb10))
      go_ret
      exact ⟨ret_bool (by rw [HQ.out]; simp), by rw [HN.out]; exact HE10.out.1⟩
set_option maxHeartbeats 3200000 in
set_option maxRecDepth 100000 in
theorem juRules_any (w : World) : Calls Tryz.prog 22 #[] w fun e w' => ∃ g g0 g1 g2 g3 g4 g5, e = .returned (.slice (some ⟨g, 0, none⟩) 10 10) ∧ Whole w' g 73 #[(.func (.func 38) #[] #[]), (.func (.func 39) #[] #[]), (.func (.func 76) #[] #[.pointer (some ⟨g0, 0, none⟩)]), (.func (.func 76) #[] #[.pointer (some ⟨g1, 0, none⟩)]), (.func (.func 76) #[] #[.pointer (some ⟨g2, 0, none⟩)]), (.func (.func 76) #[] #[.pointer (some ⟨g3, 0, none⟩)]), (.func (.func 76) #[] #[.pointer (some ⟨g4, 0, none⟩)]), (.func (.func 76) #[] #[.pointer (some ⟨g5, 0, none⟩)]), (.func (.func 47) #[] #[]), (.func (.func 48) #[] #[])] ∧ Below w.heap.size w w' ∧ Whole w' g0 70 #[(.func (.func 41) #[] #[])] ∧ Whole w' g1 70 #[(.func (.func 42) #[] #[])] ∧ Whole w' g2 70 #[(.func (.func 43) #[] #[])] ∧ Whole w' g3 70 #[(.func (.func 44) #[] #[])] ∧ Whole w' g4 70 #[(.func (.func 45) #[] #[])] ∧ Whole w' g5 70 #[(.func (.func 46) #[] #[])] := by
 have HOT : Hid (∀ (W : World) (fv : Nat), Calls Tryz.prog 40 #[.func (.func fv) #[] #[]] W fun e w' => ∃ g, e = .returned (.func (.func 76) #[] #[.pointer (some ⟨g, 0, none⟩)]) ∧ W.heap.size ≤ g ∧ Whole w' g 70 #[.func (.func fv) #[] #[]] ∧ Below W.heap.size W w') := Lib.hid fun W fv => juOfTaken_any fv W
 go_enter Tryz.func22, Tryz.ntmps22
 go_wp2_with (first | (have hg := H5.out.1; clear hg; go_at_call 40; (with_reducible refine (HOT.out _ _).mono ?_); rintro e w6 ⟨g5, rfl, -, h2, hb⟩; have H6 : Hid (Below w.heap.size w w6 ∧ Whole w6 g0 70 #[(.func (.func 41) #[] #[])] ∧ Whole w6 g1 70 #[(.func (.func 42) #[] #[])] ∧ Whole w6 g2 70 #[(.func (.func 43) #[] #[])] ∧ Whole w6 g3 70 #[(.func (.func 44) #[] #[])] ∧ Whole w6 g4 70 #[(.func (.func 45) #[] #[])] ∧ Whole w6 g5 70 #[(.func (.func 46) #[] #[])]) := Lib.hid ⟨H5.out.1.trans (hb.mono H5.out.1.size), H5.out.2.1.under hb, H5.out.2.2.1.under hb, H5.out.2.2.2.1.under hb, H5.out.2.2.2.2.1.under hb, H5.out.2.2.2.2.2.under hb, h2⟩; clear h2 hb) | (have hg := H4.out.1; clear hg; go_at_call 40; (with_reducible refine (HOT.out _ _).mono ?_); rintro e w5 ⟨g4, rfl, -, h2, hb⟩; have H5 : Hid (Below w.heap.size w w5 ∧ Whole w5 g0 70 #[(.func (.func 41) #[] #[])] ∧ Whole w5 g1 70 #[(.func (.func 42) #[] #[])] ∧ Whole w5 g2 70 #[(.func (.func 43) #[] #[])] ∧ Whole w5 g3 70 #[(.func (.func 44) #[] #[])] ∧ Whole w5 g4 70 #[(.func (.func 45) #[] #[])]) := Lib.hid ⟨H4.out.1.trans (hb.mono H4.out.1.size), H4.out.2.1.under hb, H4.out.2.2.1.under hb, H4.out.2.2.2.1.under hb, H4.out.2.2.2.2.under hb, h2⟩; clear h2 hb) | (have hg := H3.out.1; clear hg; go_at_call 40; (with_reducible refine (HOT.out _ _).mono ?_); rintro e w4 ⟨g3, rfl, -, h2, hb⟩; have H4 : Hid (Below w.heap.size w w4 ∧ Whole w4 g0 70 #[(.func (.func 41) #[] #[])] ∧ Whole w4 g1 70 #[(.func (.func 42) #[] #[])] ∧ Whole w4 g2 70 #[(.func (.func 43) #[] #[])] ∧ Whole w4 g3 70 #[(.func (.func 44) #[] #[])]) := Lib.hid ⟨H3.out.1.trans (hb.mono H3.out.1.size), H3.out.2.1.under hb, H3.out.2.2.1.under hb, H3.out.2.2.2.under hb, h2⟩; clear h2 hb) | (have hg := H2.out.1; clear hg; go_at_call 40; (with_reducible refine (HOT.out _ _).mono ?_); rintro e w3 ⟨g2, rfl, -, h2, hb⟩; have H3 : Hid (Below w.heap.size w w3 ∧ Whole w3 g0 70 #[(.func (.func 41) #[] #[])] ∧ Whole w3 g1 70 #[(.func (.func 42) #[] #[])] ∧ Whole w3 g2 70 #[(.func (.func 43) #[] #[])]) := Lib.hid ⟨H2.out.1.trans (hb.mono H2.out.1.size), H2.out.2.1.under hb, H2.out.2.2.under hb, h2⟩; clear h2 hb) | (have hg := H1.out.1; clear hg; go_at_call 40; (with_reducible refine (HOT.out _ _).mono ?_); rintro e w2 ⟨g1, rfl, -, h2, hb⟩; have H2 : Hid (Below w.heap.size w w2 ∧ Whole w2 g0 70 #[(.func (.func 41) #[] #[])] ∧ Whole w2 g1 70 #[(.func (.func 42) #[] #[])]) := Lib.hid ⟨H1.out.1.trans (hb.mono H1.out.1.size), H1.out.2.under hb, h2⟩; clear h2 hb) | (go_at_call 40; (with_reducible refine (HOT.out _ _).mono ?_); rintro e w1 ⟨g0, rfl, -, h2, hb⟩; have H1 : Hid (Below w.heap.size w w1 ∧ Whole w1 g0 70 #[(.func (.func 41) #[] #[])]) := Lib.hid ⟨hb, h2⟩; clear h2 hb))
 go_ret
 exact ⟨_, g0, g1, g2, g3, g4, g5, rfl, Whole.new _ _ _, H6.out.1.alloc H6.out.1.size _, H6.out.2.1.alloc _, H6.out.2.2.1.alloc _, H6.out.2.2.2.1.alloc _, H6.out.2.2.2.2.1.alloc _, H6.out.2.2.2.2.2.1.alloc _, H6.out.2.2.2.2.2.2.alloc _⟩
theorem rules_calls {w w1 : World} {N : Nat} {X Y : Array Value} {o a : DescS} {vB vM uB uM : Value} {FV : Array Value} (g0 g1 g2 g3 g4 g5 : Nat) (hFV : FV = #[(.func (.func 38) #[] #[]), (.func (.func 39) #[] #[]), (.func (.func 76) #[] #[.pointer (some ⟨g0, 0, none⟩)]), (.func (.func 76) #[] #[.pointer (some ⟨g1, 0, none⟩)]), (.func (.func 76) #[] #[.pointer (some ⟨g2, 0, none⟩)]), (.func (.func 76) #[] #[.pointer (some ⟨g3, 0, none⟩)]), (.func (.func 76) #[] #[.pointer (some ⟨g4, 0, none⟩)]), (.func (.func 76) #[] #[.pointer (some ⟨g5, 0, none⟩)]), (.func (.func 47) #[] #[]), (.func (.func 48) #[] #[])]) (HR1 : Hid (Below N w w1 ∧ Whole w1 g0 70 #[(.func (.func 41) #[] #[])] ∧ Whole w1 g1 70 #[(.func (.func 42) #[] #[])] ∧ Whole w1 g2 70 #[(.func (.func 43) #[] #[])] ∧ Whole w1 g3 70 #[(.func (.func 44) #[] #[])] ∧ Whole w1 g4 70 #[(.func (.func 45) #[] #[])] ∧ Whole w1 g5 70 #[(.func (.func 46) #[] #[])])) (hN : N ≤ w1.heap.size) (h1 : DescV w N X o vB vM) (h2 : DescV w N Y a uB uM) (hz1 : SizD o) (hz2 : SizD a) (k : Nat) (hk : k < 10) (hgood : 0 < k → goodD o = true ∧ goodD a = true) (W : World) (hW : Below w1.heap.size w1 W) :
 ∃ f cap, FV[k]? = some (.func (.func f) #[] cap) ∧ (∀ args w, (callFunc f args).run Tryz.prog w = .ok (.enter f args) w) ∧ Calls Tryz.prog f (#[.agg X, .agg Y] ++ cap) W fun e w' => e = .returned (.bool (ruleJ o a k)) ∧ Below W.heap.size W w' := by
 have hNW := HR1.out.1.trans (hW.mono hN)
 have hXV : DescV W W.heap.size X o vB vM := (h1.below hNW).more (Nat.le_trans hN hW.size)
 have hYV : DescV W W.heap.size Y a uB uM := (h2.below hNW).more (Nat.le_trans hN hW.size)
 subst hFV
 have : k = 0 ∨ k = 1 ∨ k = 2 ∨ k = 3 ∨ k = 4 ∨ k = 5 ∨ k = 6 ∨ k = 7 ∨ k = 8 ∨ k = 9 := by omega
 rcases this with rfl | rfl | rfl | rfl | rfl | rfl | rfl | rfl | rfl | rfl
 · refine ⟨38, #[], by rfl, enters_to Tryz.func38 (by kernel_rfl) rfl, ?_⟩
   exact juGood_any X Y o a _ _ _ _ W hXV hYV hz1 hz2
 · refine ⟨39, #[], by rfl, enters_to Tryz.func39 (by kernel_rfl) rfl, ?_⟩
   exact juInPlace_any X Y o a _ _ _ _ W hXV hYV
 · refine ⟨76, #[.pointer (some ⟨g0, 0, none⟩)], by rfl, enters_to Tryz.func76 (by kernel_rfl) rfl, ?_⟩
   exact juOfTaken1_any X Y o a _ _ _ _ W hXV hYV g0 41 #[] openQ ((HR1.out.2.1.under hW).cell 0) (enters_to Tryz.func41 (by kernel_rfl) rfl) (fun W2 X Y x y vC vE vR vS vY uC uE uR uS uY hW2 hx hy h1 h2 => juOpen_any X Y x y _ _ _ _ _ _ _ _ _ _ W2 h1 h2)
 · refine ⟨76, #[.pointer (some ⟨g1, 0, none⟩)], by rfl, enters_to Tryz.func76 (by kernel_rfl) rfl, ?_⟩
   exact juOfTaken1_any X Y o a _ _ _ _ W hXV hYV g1 42 #[] codecsQ ((HR1.out.2.2.1.under hW).cell 0) (enters_to Tryz.func42 (by kernel_rfl) rfl) (fun W2 X Y x y vC vE vR vS vY uC uE uR uS uY hW2 hx hy h1 h2 => juCodecs_any X Y x y _ _ _ _ _ _ _ _ _ _ W2 h1 h2 (hz1.media x hx) (hz2.media y hy))
 · refine ⟨76, #[.pointer (some ⟨g2, 0, none⟩)], by rfl, enters_to Tryz.func76 (by kernel_rfl) rfl, ?_⟩
   exact juOfTaken1_any X Y o a _ _ _ _ W hXV hYV g2 43 #[] exts5 ((HR1.out.2.2.2.1.under hW).cell 0) (enters_to Tryz.func43 (by kernel_rfl) rfl) (fun W2 X Y x y vC vE vR vS vY uC uE uR uS uY hW2 hx hy h1 h2 => juExts_any X Y x y _ _ _ _ _ _ _ _ _ _ W2 h1 h2 (hz1.media x hx) (hz2.media y hy))
 · refine ⟨76, #[.pointer (some ⟨g3, 0, none⟩)], by rfl, enters_to Tryz.func76 (by kernel_rfl) rfl, ?_⟩
   exact juOfTaken1_any X Y o a _ _ _ _ W hXV hYV g3 44 #[] dirJ ((HR1.out.2.2.2.2.1.under hW).cell 0) (enters_to Tryz.func44 (by kernel_rfl) rfl) (fun W2 X Y x y vC vE vR vS vY uC uE uR uS uY hW2 hx hy h1 h2 => juDir_any X Y x y _ _ _ _ _ _ _ _ _ _ W2 h1 h2 (goodM_dir ((goodD_parts (hgood (by omega)).1).2.2.2.1 x hx)) (goodM_dir ((goodD_parts (hgood (by omega)).2).2.2.2.1 y hy)))
 · refine ⟨76, #[.pointer (some ⟨g4, 0, none⟩)], by rfl, enters_to Tryz.func76 (by kernel_rfl) rfl, ?_⟩
   exact juOfTaken1_any X Y o a _ _ _ _ W hXV hYV g4 45 #[] ridsJ ((HR1.out.2.2.2.2.2.1.under hW).cell 0) (enters_to Tryz.func45 (by kernel_rfl) rfl) (fun W2 X Y x y vC vE vR vS vY uC uE uR uS uY hW2 hx hy h1 h2 => juRids_any X Y x y _ _ _ _ _ _ _ _ _ _ W2 h1 h2 (hz1.media x hx) (hz2.media y hy))
 · refine ⟨76, #[.pointer (some ⟨g5, 0, none⟩)], by rfl, enters_to Tryz.func76 (by kernel_rfl) rfl, ?_⟩
   exact juOfTaken1_any X Y o a _ _ _ _ W hXV hYV g5 46 #[] transJ ((HR1.out.2.2.2.2.2.2.under hW).cell 0) (enters_to Tryz.func46 (by kernel_rfl) rfl) (fun W2 X Y x y vC vE vR vS vY uC uE uR uS uY hW2 hx hy h1 h2 => juTrans_any X Y x y _ _ _ _ _ _ _ _ _ _ W2 h1 h2)
 · refine ⟨47, #[], by rfl, enters_to Tryz.func47 (by kernel_rfl) rfl, ?_⟩
   exact juBundle_any X Y o a _ _ _ _ W hXV hYV (goodD_parts (hgood (by omega)).2).2.2.1 hz1.count
 · refine ⟨48, #[], by rfl, enters_to Tryz.func48 (by kernel_rfl) rfl, ?_⟩
   exact juVersion_any X Y o a _ _ _ _ W hXV hYV
set_option maxHeartbeats 6400000 in
set_option maxRecDepth 100000 in
theorem juCheck_any (X Y : Array Value) (o a : DescS) (vB vM uB uM : Value) (w : World) (h1 : DescV w w.heap.size X o vB vM) (h2 : DescV w w.heap.size Y a uB uM) (hz1 : SizD o) (hz2 : SizD a) :
 Calls Tryz.prog 13 #[.agg X, .agg Y] w fun e w' => e = .returned (.int .i64 (checkA o a : Nat)) ∧ Below w.heap.size w w' := by
 obtain ⟨hb0, hbx, hby⟩ := two_boxes w 26 X Y
 obtain ⟨AB, cB, rfl, -⟩ := Rows.form h1.bundle
 obtain ⟨AM, cM, rfl, hcM, hmM, -⟩ := Rows.form h1.media
 obtain ⟨AB2, cB2, rfl, -⟩ := Rows.form h2.bundle
 obtain ⟨AM2, cM2, rfl, hcM2, hmM2, -⟩ := Rows.form h2.media
 obtain ⟨nB, hnB⟩ : ∃ n, o.bundle.length = n := ⟨_, rfl⟩
 obtain ⟨nM, hnM⟩ : ∃ n, o.media.length = n := ⟨_, rfl⟩
 obtain ⟨nB2, hnB2⟩ : ∃ n, a.bundle.length = n := ⟨_, rfl⟩
 obtain ⟨nM2, hnM2⟩ : ∃ n, a.media.length = n := ⟨_, rfl⟩
 rw [hnB, hnM] at h1
 rw [hnB2, hnM2] at h2
 have HX1 : Hid (X[1]? = some (.int .u64 (o.ver : Int))) := Lib.hid (by rw [h1.form]; rfl)
 have HX2 : Hid (X[2]? = some (.slice AB nB cB)) := Lib.hid (by rw [h1.form]; rfl)
 have HX5 : Hid (X[5]? = some (.slice AM nM cM)) := Lib.hid (by rw [h1.form]; rfl)
 have HY1 : Hid (Y[1]? = some (.int .u64 (a.ver : Int))) := Lib.hid (by rw [h2.form]; rfl)
 have HY2 : Hid (Y[2]? = some (.slice AB2 nB2 cB2)) := Lib.hid (by rw [h2.form]; rfl)
 have HY5 : Hid (Y[5]? = some (.slice AM2 nM2 cM2)) := Lib.hid (by rw [h2.form]; rfl)
 have HSZ : Hid (X.size = 6 ∧ Y.size = 6) := Lib.hid ⟨by rw [h1.form]; rfl, by rw [h2.form]; rfl⟩
 have HL := Lib.hid (And.intro hnB (And.intro hnM (And.intro hnB2 hnM2)))
 obtain ⟨N, hN⟩ : ∃ N, w.heap.size = N := ⟨_, rfl⟩
 have H0 := Lib.hid (And.intro hb0 (And.intro hbx hby))
 have HV := Lib.hid (And.intro h1 h2)
 rw [hN] at H0 HV
 have HN := Lib.hid hN
 clear h1 h2 hb0 hbx hby hN hnB hnM hnB2 hnM2
 obtain ⟨res, hres⟩ : ∃ n, checkA o a = n := ⟨_, rfl⟩
 have HR : Hid (res = checkA o a) := Lib.hid hres.symm
 have HZ := Lib.hid (And.intro hz1 hz2)
 rw [hres]
 clear hres hz1 hz2
 go_enter Tryz.func13, Tryz.ntmps13
 go_upto_region 1 with fail
 simp only [HN.out, Nat.add_assoc, Nat.reduceAdd]
 generalize ((w.alloc (.cells X 26)).alloc (.cells Y 26)) = W0 at *
 have HN0 : Hid (N ≤ W0.heap.size) := Lib.hid (Nat.le_of_lt H0.out.2.1.lt)
 have HRU := Lib.hid (juRules_any W0)
 go_upto_region 2 with (go_at_call 22; (with_reducible refine HRU.out.mono ?_); rintro e w1 ⟨g, g0, g1, g2, g3, g4, g5, rfl, hg, hst⟩; have HG := Lib.hid hg; have HST := Lib.hid hst; clear hg hst)
 obtain ⟨FV, hFV⟩ : ∃ F : Array Value, F = #[(.func (.func 38) #[] #[]), (.func (.func 39) #[] #[]), (.func (.func 76) #[] #[.pointer (some ⟨g0, 0, none⟩)]), (.func (.func 76) #[] #[.pointer (some ⟨g1, 0, none⟩)]), (.func (.func 76) #[] #[.pointer (some ⟨g2, 0, none⟩)]), (.func (.func 76) #[] #[.pointer (some ⟨g3, 0, none⟩)]), (.func (.func 76) #[] #[.pointer (some ⟨g4, 0, none⟩)]), (.func (.func 76) #[] #[.pointer (some ⟨g5, 0, none⟩)]), (.func (.func 47) #[] #[]), (.func (.func 48) #[] #[])] := ⟨_, rfl⟩
 rw [← hFV] at HG
 have HR1 : Hid (Below N w w1 ∧ Whole w1 g0 70 #[(.func (.func 41) #[] #[])] ∧ Whole w1 g1 70 #[(.func (.func 42) #[] #[])] ∧ Whole w1 g2 70 #[(.func (.func 43) #[] #[])] ∧ Whole w1 g3 70 #[(.func (.func 44) #[] #[])] ∧ Whole w1 g4 70 #[(.func (.func 45) #[] #[])] ∧ Whole w1 g5 70 #[(.func (.func 46) #[] #[])]) := Lib.hid ⟨H0.out.1.trans (HST.out.1.mono HN0.out), HST.out.2⟩
 have HW1 : Hid (Below N w w1 ∧ Whole w1 N 26 X ∧ Whole w1 (N + 1) 26 Y) := Lib.hid ⟨HR1.out.1, H0.out.2.1.under HST.out.1, H0.out.2.2.under HST.out.1⟩
 have HN1 : Hid (N ≤ w1.heap.size) := Lib.hid (Nat.le_of_lt HW1.out.2.1.lt)
 have HRC : Hid (∀ k, k < 10 → (0 < k → goodD o = true ∧ goodD a = true) → ∀ W, Below w1.heap.size w1 W → ∃ f cap, FV[k]? = some (.func (.func f) #[] cap) ∧ (∀ args w, (callFunc f args).run Tryz.prog w = .ok (.enter f args) w) ∧ Calls Tryz.prog f (#[.agg X, .agg Y] ++ cap) W fun e w' => e = .returned (.bool (ruleJ o a k)) ∧ Below W.heap.size W w') := Lib.hid fun k hk hg W hW => rules_calls g0 g1 g2 g3 g4 g5 hFV HR1 HN1.out HV.out.1 HV.out.2 HZ.out.1 HZ.out.2 k hk hg W hW
 clear hFV HST HR1 HRU
 go_wp2
 go_loopw [9] (fun s9 wr => ∃ k : Nat, k ≤ 10 ∧ s9 = .int .i64 (k : Int) ∧ (∀ j, j < k → ruleJ o a j = true) ∧ Below w1.heap.size w1 wr) (fun s9 _ => 10 - (intOf s9).toNat)
 case atStart => exact ⟨0, Nat.zero_le _, rfl, (fun j hj => by omega), Below.refl _ _⟩
 case round =>
  obtain ⟨k, hk, rfl, hall, hb⟩ := hrel
  have HS := Lib.hid (And.intro hall hb)
  have HXY : Hid (Below N w wr ∧ Whole wr N 26 X ∧ Whole wr (N + 1) 26 Y) := Lib.hid ⟨HW1.out.1.trans (hb.mono HN1.out), HW1.out.2.1.under hb, HW1.out.2.2.under hb⟩
  by_cases hlt : k < 10
  · obtain ⟨f, cap, hfk, eg, hcl⟩ := HRC.out k hlt (fun h0 => by
     have h := hall 0 h0
     unfold ruleJ at h
     simp only [Bool.and_eq_true] at h
     exact ⟨h.1.1, h.1.2⟩) wr hb
    have c0 : wr.cell? ⟨g, k, none⟩ = some (.func (.func f) #[] cap) := ((HG.out.under hb).cell k).trans hfk
    obtain ⟨b, hbb⟩ : ∃ b, ruleJ o a k = b := ⟨_, rfl⟩
    rw [hbb] at hcl
    have HCL := Lib.hid hcl
    have HEG := Lib.hid eg
    have HBE := Lib.hid hbb
    have hk0 : (0 : Int) ≤ (k : Int) := by omega
    have hk1 : (k : Int) < 10 := by omega
    have hak : (⟨g, 0, none⟩ : Addr).add k = ⟨g, k, none⟩ := by simp [Addr.add] <;> omega
    clear hall hb hfk eg hcl hbb
    cases b with
    | true =>
      go_wp2_with (first | ((with_reducible refine wpList_load_allG ?_ 26 (.tmp 2) ?_ HXY.out.2.1 ?_ Tryz.sizeDesc HSZ.out.1 Tryz.underlying26 rfl ?_); rfl; (with_reducible rfl); rfl) | ((with_reducible refine wpList_load_allG ?_ 26 (.tmp 3) ?_ HXY.out.2.2 ?_ Tryz.sizeDesc HSZ.out.2 Tryz.underlying26 rfl ?_); rfl; (with_reducible rfl); rfl) | ((with_reducible refine wpList_callV2 ?_ (.tmp 14) (.tmp 15) (.tmp 16) ?_ ?_ ?_ ?_ HEG.out HCL.out ?_); (with_reducible rfl); (exact ⟨_, rfl⟩); rfl; rfl; rfl; rintro e w5 ⟨rfl, hb5⟩; refine ⟨_, rfl, ?_⟩))
      go_roundw
      case rel =>
       refine ⟨k + 1, by omega, by go_num, fun j hj => ?_, HS.out.2.trans (hb5.mono HS.out.2.size)⟩
       by_cases e : j = k
       · subst e
         exact HBE.out
       · exact HS.out.1 j (by omega)
      case measure => simp [intOf]; omega
    | false =>
      have HQ : Hid (res = k + 1) := Lib.hid (by rw [HR.out]; exact checkA_first hlt HS.out.1 HBE.out)
      have HFN : Hid (∀ W, Below wr.heap.size wr W → Below N w W) := Lib.hid fun W hW => HXY.out.1.trans (hW.mono (Nat.le_of_lt HXY.out.2.1.lt))
      go_wp2_with (first | ((with_reducible refine wpList_load_allG ?_ 26 (.tmp 2) ?_ HXY.out.2.1 ?_ Tryz.sizeDesc HSZ.out.1 Tryz.underlying26 rfl ?_); rfl; (with_reducible rfl); rfl) | ((with_reducible refine wpList_load_allG ?_ 26 (.tmp 3) ?_ HXY.out.2.2 ?_ Tryz.sizeDesc HSZ.out.2 Tryz.underlying26 rfl ?_); rfl; (with_reducible rfl); rfl) | ((with_reducible refine wpList_callV2 ?_ (.tmp 14) (.tmp 15) (.tmp 16) ?_ ?_ ?_ ?_ HEG.out HCL.out ?_); (with_reducible rfl); (exact ⟨_, rfl⟩); rfl; rfl; rfl; rintro e w5 ⟨rfl, hb5⟩; refine ⟨_, rfl, ?_⟩))
      go_ret
      exact ⟨by rw [HQ.out]; rfl, by rw [HN.out]; exact HFN.out _ hb5⟩
  · obtain rfl : k = 10 := by omega
    have HQ : Hid (res = 0) := Lib.hid (by rw [HR.out]; exact checkA_none HS.out.1)
    clear hall hb
    go_wp2
    go_ret
    exact ⟨by rw [HQ.out]; rfl, by rw [HN.out]; exact HXY.out.1⟩
def d10 (v : Nat) : DescS := ⟨0, v, [], bs [97, 98, 99, 100], bs [48, 49, 50, 51, 52, 53, 54, 55, 56, 57, 48, 49, 50, 51, 52, 53, 54, 55, 56, 57, 48, 49], []⟩
def z10 : DescS := ⟨0, 0, [], bs [], bs [], []⟩
theorem check10a : checkA (d10 0) (d10 0) = 0 := by decide +kernel
theorem check10b : checkA (d10 0) (d10 5) = 10 := by decide +kernel
theorem check10c : checkA z10 (d10 0) = 1 := by decide +kernel
theorem siz10 (v : Nat) (h : v < 18446744073709551616) : SizD (d10 v) := ⟨by show (4 : Nat) ≤ _; decide, by show (22 : Nat) ≤ _; decide, fun b hb => (by cases hb), by show (0 : Nat) ≤ _; decide, by show (0 : Nat) ≤ _; decide, fun m hm => (by cases hm), by show (0 : Nat) < _; decide, h⟩
theorem sizz10 : SizD z10 := ⟨by decide, by decide, fun b hb => (by cases hb), by decide, by decide, fun m hm => (by cases hm), by decide, by decide⟩
theorem desc10 (W : World) (B v : Nat) : DescV W B #[.int .u64 0, .int .u64 (v : Int), .slice none 0 0, .string ⟨#[97, 98, 99, 100]⟩, .string ⟨#[48, 49, 50, 51, 52, 53, 54, 55, 56, 57, 48, 49, 50, 51, 52, 53, 54, 55, 56, 57, 48, 49]⟩, .slice none 0 0] (d10 v) (.slice none 0 0) (.slice none 0 0) := ⟨rfl, Rows.nil _ _ _ _, MediasV.nil _ _⟩
theorem descz10 (W : World) (B : Nat) : DescV W B #[.int .u64 0, .int .u64 0, .slice none 0 0, .string ⟨#[]⟩, .string ⟨#[]⟩, .slice none 0 0] z10 (.slice none 0 0) (.slice none 0 0) := ⟨rfl, Rows.nil _ _ _ _, MediasV.nil _ _⟩
set_option maxHeartbeats 3200000 in
set_option maxRecDepth 100000 in
theorem awake10_any (w : World) : Calls Tryz.prog 12 #[] w fun e w' => e = .returned (.bool true) ∧ Below w.heap.size w w' := by
 have HA : Hid (∀ W, Calls Tryz.prog 13 #[.agg #[.int .u64 0, .int .u64 0, .slice none 0 0, .string ⟨#[97, 98, 99, 100]⟩, .string ⟨#[48, 49, 50, 51, 52, 53, 54, 55, 56, 57, 48, 49, 50, 51, 52, 53, 54, 55, 56, 57, 48, 49]⟩, .slice none 0 0], .agg #[.int .u64 0, .int .u64 0, .slice none 0 0, .string ⟨#[97, 98, 99, 100]⟩, .string ⟨#[48, 49, 50, 51, 52, 53, 54, 55, 56, 57, 48, 49, 50, 51, 52, 53, 54, 55, 56, 57, 48, 49]⟩, .slice none 0 0]] W fun e w' => e = .returned (.int .i64 0) ∧ Below W.heap.size W w') := Lib.hid fun W => by
  have h := juCheck_any _ _ _ _ _ _ _ _ W (desc10 W _ 0) (desc10 W _ 0) (siz10 0 (by decide)) (siz10 0 (by decide))
  rw [check10a] at h
  exact h
 have HB : Hid (∀ W, Calls Tryz.prog 13 #[.agg #[.int .u64 0, .int .u64 0, .slice none 0 0, .string ⟨#[97, 98, 99, 100]⟩, .string ⟨#[48, 49, 50, 51, 52, 53, 54, 55, 56, 57, 48, 49, 50, 51, 52, 53, 54, 55, 56, 57, 48, 49]⟩, .slice none 0 0], .agg #[.int .u64 0, .int .u64 5, .slice none 0 0, .string ⟨#[97, 98, 99, 100]⟩, .string ⟨#[48, 49, 50, 51, 52, 53, 54, 55, 56, 57, 48, 49, 50, 51, 52, 53, 54, 55, 56, 57, 48, 49]⟩, .slice none 0 0]] W fun e w' => e = .returned (.int .i64 10) ∧ Below W.heap.size W w') := Lib.hid fun W => by
  have h := juCheck_any _ _ _ _ _ _ _ _ W (desc10 W _ 0) (desc10 W _ 5) (siz10 0 (by decide)) (siz10 5 (by decide))
  rw [check10b] at h
  exact h
 have HC : Hid (∀ W, Calls Tryz.prog 13 #[.agg #[.int .u64 0, .int .u64 0, .slice none 0 0, .string ⟨#[]⟩, .string ⟨#[]⟩, .slice none 0 0], .agg #[.int .u64 0, .int .u64 0, .slice none 0 0, .string ⟨#[97, 98, 99, 100]⟩, .string ⟨#[48, 49, 50, 51, 52, 53, 54, 55, 56, 57, 48, 49, 50, 51, 52, 53, 54, 55, 56, 57, 48, 49]⟩, .slice none 0 0]] W fun e w' => e = .returned (.int .i64 1) ∧ Below W.heap.size W w') := Lib.hid fun W => by
  have h := juCheck_any _ _ _ _ _ _ _ _ W (descz10 W _) (desc10 W _ 0) sizz10 (siz10 0 (by decide))
  rw [check10c] at h
  exact h
 have HW1 : Hid (Below w.heap.size w ((w.alloc (.cells #[.int .u64 0, .int .u64 0, .slice none 0 0, .string ⟨#[]⟩, .string ⟨#[]⟩, .slice none 0 0] 26)).setRow w.heap.size #[.int .u64 0, .int .u64 0, .slice none 0 0, .string ⟨#[97, 98, 99, 100]⟩, .string ⟨#[48, 49, 50, 51, 52, 53, 54, 55, 56, 57, 48, 49, 50, 51, 52, 53, 54, 55, 56, 57, 48, 49]⟩, .slice none 0 0]) ∧ Whole ((w.alloc (.cells #[.int .u64 0, .int .u64 0, .slice none 0 0, .string ⟨#[]⟩, .string ⟨#[]⟩, .slice none 0 0] 26)).setRow w.heap.size #[.int .u64 0, .int .u64 0, .slice none 0 0, .string ⟨#[97, 98, 99, 100]⟩, .string ⟨#[48, 49, 50, 51, 52, 53, 54, 55, 56, 57, 48, 49, 50, 51, 52, 53, 54, 55, 56, 57, 48, 49]⟩, .slice none 0 0]) w.heap.size 26 #[.int .u64 0, .int .u64 0, .slice none 0 0, .string ⟨#[97, 98, 99, 100]⟩, .string ⟨#[48, 49, 50, 51, 52, 53, 54, 55, 56, 57, 48, 49, 50, 51, 52, 53, 54, 55, 56, 57, 48, 49]⟩, .slice none 0 0]) := Lib.hid ⟨below_row ((Below.refl _ w).alloc (Nat.le_refl _) _) (Nat.le_refl _) _, (Whole.new _ _ _).row _⟩
 go_enter Tryz.func12, Tryz.ntmps12
 go_upto_region 2 with ((with_reducible refine wpList_storeS #[.int .u64 0, .int .u64 0, .slice none 0 0, .string ⟨#[97, 98, 99, 100]⟩, .string ⟨#[48, 49, 50, 51, 52, 53, 54, 55, 56, 57, 48, 49, 50, 51, 52, 53, 54, 55, 56, 57, 48, 49]⟩, .slice none 0 0] ?_ 26 (.tmp 1) (.tmp 3) ?_ ?_ ?_ (Whole.new _ _ _) Tryz.sizeDesc ?_ ?_ ?_ ?_); (with_reducible rfl); (with_reducible rfl); rfl; rfl; rfl; rfl; rfl)
 generalize ((w.alloc (.cells #[.int .u64 0, .int .u64 0, .slice none 0 0, .string ⟨#[]⟩, .string ⟨#[]⟩, .slice none 0 0] 26)).setRow w.heap.size #[.int .u64 0, .int .u64 0, .slice none 0 0, .string ⟨#[97, 98, 99, 100]⟩, .string ⟨#[48, 49, 50, 51, 52, 53, 54, 55, 56, 57, 48, 49, 50, 51, 52, 53, 54, 55, 56, 57, 48, 49]⟩, .slice none 0 0]) = w1 at *
 obtain ⟨g1, hg1⟩ : ∃ g, w.heap.size = g := ⟨_, rfl⟩
 have HG := Lib.hid hg1
 rw [hg1] at HW1
 simp only [hg1]
 clear hg1
 have HW2 : Hid (Below g1 w ((w1.alloc (.cells #[.int .u64 0, .int .u64 0, .slice none 0 0, .string ⟨#[]⟩, .string ⟨#[]⟩, .slice none 0 0] 26)).setRow w1.heap.size #[.int .u64 0, .int .u64 0, .slice none 0 0, .string ⟨#[97, 98, 99, 100]⟩, .string ⟨#[48, 49, 50, 51, 52, 53, 54, 55, 56, 57, 48, 49, 50, 51, 52, 53, 54, 55, 56, 57, 48, 49]⟩, .slice none 0 0]) ∧ Whole ((w1.alloc (.cells #[.int .u64 0, .int .u64 0, .slice none 0 0, .string ⟨#[]⟩, .string ⟨#[]⟩, .slice none 0 0] 26)).setRow w1.heap.size #[.int .u64 0, .int .u64 0, .slice none 0 0, .string ⟨#[97, 98, 99, 100]⟩, .string ⟨#[48, 49, 50, 51, 52, 53, 54, 55, 56, 57, 48, 49, 50, 51, 52, 53, 54, 55, 56, 57, 48, 49]⟩, .slice none 0 0]) w1.heap.size 26 #[.int .u64 0, .int .u64 0, .slice none 0 0, .string ⟨#[97, 98, 99, 100]⟩, .string ⟨#[48, 49, 50, 51, 52, 53, 54, 55, 56, 57, 48, 49, 50, 51, 52, 53, 54, 55, 56, 57, 48, 49]⟩, .slice none 0 0] ∧ Whole ((w1.alloc (.cells #[.int .u64 0, .int .u64 0, .slice none 0 0, .string ⟨#[]⟩, .string ⟨#[]⟩, .slice none 0 0] 26)).setRow w1.heap.size #[.int .u64 0, .int .u64 0, .slice none 0 0, .string ⟨#[97, 98, 99, 100]⟩, .string ⟨#[48, 49, 50, 51, 52, 53, 54, 55, 56, 57, 48, 49, 50, 51, 52, 53, 54, 55, 56, 57, 48, 49]⟩, .slice none 0 0]) g1 26 #[.int .u64 0, .int .u64 0, .slice none 0 0, .string ⟨#[97, 98, 99, 100]⟩, .string ⟨#[48, 49, 50, 51, 52, 53, 54, 55, 56, 57, 48, 49, 50, 51, 52, 53, 54, 55, 56, 57, 48, 49]⟩, .slice none 0 0] ∧ g1 < w1.heap.size) := Lib.hid (by
  have hl := HW1.out.2.lt
  exact ⟨below_row (HW1.out.1.alloc (Nat.le_of_lt hl) _) (Nat.le_of_lt hl) _, (Whole.new _ _ _).row _, (HW1.out.2.alloc _).farRow (Nat.ne_of_lt hl) _, hl⟩)
 go_upto_region 3 with (first | ((with_reducible refine wpList_load_all ?_ 26 (.tmp 1) ?_ HW1.out.2 ?_ Tryz.sizeDesc ?_ Tryz.underlying26 rfl ?_); (with_reducible rfl); (with_reducible rfl); rfl; rfl) | ((with_reducible refine wpList_storeS #[.int .u64 0, .int .u64 0, .slice none 0 0, .string ⟨#[97, 98, 99, 100]⟩, .string ⟨#[48, 49, 50, 51, 52, 53, 54, 55, 56, 57, 48, 49, 50, 51, 52, 53, 54, 55, 56, 57, 48, 49]⟩, .slice none 0 0] ?_ 26 (.tmp 2) (.tmp 4) ?_ ?_ ?_ (Whole.new _ _ _) Tryz.sizeDesc ?_ ?_ ?_ ?_); (with_reducible rfl); (with_reducible rfl); rfl; rfl; rfl; rfl; rfl))
 generalize ((w1.alloc (.cells #[.int .u64 0, .int .u64 0, .slice none 0 0, .string ⟨#[]⟩, .string ⟨#[]⟩, .slice none 0 0] 26)).setRow w1.heap.size #[.int .u64 0, .int .u64 0, .slice none 0 0, .string ⟨#[97, 98, 99, 100]⟩, .string ⟨#[48, 49, 50, 51, 52, 53, 54, 55, 56, 57, 48, 49, 50, 51, 52, 53, 54, 55, 56, 57, 48, 49]⟩, .slice none 0 0]) = w2 at *
 generalize w1.heap.size = g2 at *
 have c1 : w2.cell? ⟨g2, 1, none⟩ = some (.int .u64 0) := HW2.out.2.1.cell 1
 have f1 := HW2.out.2.1.frz 1
 go_upto_region 4 with fail
 have HW3 : Hid (Below g1 w (w2.setCell ⟨g2, 1, none⟩ (.int .u64 5)) ∧ Whole (w2.setCell ⟨g2, 1, none⟩ (.int .u64 5)) g2 26 #[.int .u64 0, .int .u64 5, .slice none 0 0, .string ⟨#[97, 98, 99, 100]⟩, .string ⟨#[48, 49, 50, 51, 52, 53, 54, 55, 56, 57, 48, 49, 50, 51, 52, 53, 54, 55, 56, 57, 48, 49]⟩, .slice none 0 0] ∧ Whole (w2.setCell ⟨g2, 1, none⟩ (.int .u64 5)) g1 26 #[.int .u64 0, .int .u64 0, .slice none 0 0, .string ⟨#[97, 98, 99, 100]⟩, .string ⟨#[48, 49, 50, 51, 52, 53, 54, 55, 56, 57, 48, 49, 50, 51, 52, 53, 54, 55, 56, 57, 48, 49]⟩, .slice none 0 0]) := Lib.hid (by
  have hl := HW2.out.2.2.2
  exact ⟨HW2.out.1.setCell (p := ⟨g2, 1, none⟩) (Nat.le_of_lt hl) _, HW2.out.2.1.set 1 _, HW2.out.2.2.1.far (p := ⟨g2, 1, none⟩) (Nat.ne_of_lt hl) _⟩)
 clear c1 f1 HW2 HW1
 generalize w2.setCell ⟨g2, 1, none⟩ (.int .u64 5) = w3 at *
 go_wp2_with (first | ((with_reducible refine wpList_load_allG ?_ 26 (.tmp 1) ?_ H6.out.2.2 ?_ Tryz.sizeDesc ?_ Tryz.underlying26 rfl ?_); rfl; (with_reducible rfl); rfl; rfl) | ((with_reducible refine wpList_load_allG ?_ 26 (.tmp 1) ?_ H5.out.2.2 ?_ Tryz.sizeDesc ?_ Tryz.underlying26 rfl ?_); rfl; (with_reducible rfl); rfl; rfl) | ((with_reducible refine wpList_load_allG ?_ 26 (.tmp 2) ?_ H5.out.2.1 ?_ Tryz.sizeDesc ?_ Tryz.underlying26 rfl ?_); rfl; (with_reducible rfl); rfl; rfl) | ((with_reducible refine wpList_load_allG ?_ 26 (.tmp 1) ?_ HW3.out.2.2 ?_ Tryz.sizeDesc ?_ Tryz.underlying26 rfl ?_); rfl; (with_reducible rfl); rfl; rfl) | (go_at_call 13; (with_reducible refine (HC.out _).mono ?_); rintro e w6 ⟨rfl, hb⟩; have H7 : Hid (Below g1 w w6) := Lib.hid (H6.out.1.trans (hb.mono (Nat.le_of_lt H6.out.2.2.lt))); clear hb) | (go_at_call 13; (with_reducible refine (HB.out _).mono ?_); rintro e w5 ⟨rfl, hb⟩; have H6 : Hid (Below g1 w w5 ∧ Whole w5 g2 26 #[.int .u64 0, .int .u64 5, .slice none 0 0, .string ⟨#[97, 98, 99, 100]⟩, .string ⟨#[48, 49, 50, 51, 52, 53, 54, 55, 56, 57, 48, 49, 50, 51, 52, 53, 54, 55, 56, 57, 48, 49]⟩, .slice none 0 0] ∧ Whole w5 g1 26 #[.int .u64 0, .int .u64 0, .slice none 0 0, .string ⟨#[97, 98, 99, 100]⟩, .string ⟨#[48, 49, 50, 51, 52, 53, 54, 55, 56, 57, 48, 49, 50, 51, 52, 53, 54, 55, 56, 57, 48, 49]⟩, .slice none 0 0]) := Lib.hid ⟨H5.out.1.trans (hb.mono (Nat.le_of_lt H5.out.2.2.lt)), H5.out.2.1.under hb, H5.out.2.2.under hb⟩; clear hb) | (go_at_call 13; (with_reducible refine (HA.out _).mono ?_); rintro e w4 ⟨rfl, hb⟩; have H5 : Hid (Below g1 w w4 ∧ Whole w4 g2 26 #[.int .u64 0, .int .u64 5, .slice none 0 0, .string ⟨#[97, 98, 99, 100]⟩, .string ⟨#[48, 49, 50, 51, 52, 53, 54, 55, 56, 57, 48, 49, 50, 51, 52, 53, 54, 55, 56, 57, 48, 49]⟩, .slice none 0 0] ∧ Whole w4 g1 26 #[.int .u64 0, .int .u64 0, .slice none 0 0, .string ⟨#[97, 98, 99, 100]⟩, .string ⟨#[48, 49, 50, 51, 52, 53, 54, 55, 56, 57, 48, 49, 50, 51, 52, 53, 54, 55, 56, 57, 48, 49]⟩, .slice none 0 0]) := Lib.hid ⟨HW3.out.1.trans (hb.mono (Nat.le_of_lt HW3.out.2.2.lt)), HW3.out.2.1.under hb, HW3.out.2.2.under hb⟩; clear hb))
 go_ret
 exact ⟨rfl, by first | exact H7.out | (rw [HG.out]; exact H7.out)⟩
set_option maxHeartbeats 6400000 in
set_option maxRecDepth 100000 in
theorem judgeAny_walk (X : Array Value) (o : DescS) (vB vM : Value) (Y : Array Value) (a : DescS) (uB uM : Value) (w : World) (h1 : DescV w w.heap.size X o vB vM) (hz1 : SizD o) (h2 : DescV w w.heap.size Y a uB uM) (hz2 : SizD a) :
 Calls Tryz.prog 4 #[.agg X, .agg Y] w fun e w' => e = .returned (.bool true) ∧ Below w.heap.size w w' := by
 obtain ⟨hb0, hbx, hby⟩ := two_boxes w 26 X Y
 obtain ⟨r1, hr1⟩ : ∃ n, checkA o a = n := ⟨_, rfl⟩
 obtain ⟨r2, hr2⟩ : ∃ n, checkA o o = n := ⟨_, rfl⟩
 have HC1 : Hid (∀ W, Below w.heap.size w W → Calls Tryz.prog 13 #[.agg X, .agg Y] W fun e w' => e = .returned (.int .i64 (r1 : Nat)) ∧ Below W.heap.size W w') := Lib.hid fun W hW => by rw [← hr1]; exact juCheck_any X Y o a _ _ _ _ W (h1.under hW) (h2.under hW) hz1 hz2
 have HC2 : Hid (∀ W, Below w.heap.size w W → Calls Tryz.prog 14 #[.agg X, .agg Y] W fun e w' => e = .returned (.int .i64 (r1 : Nat)) ∧ Below W.heap.size W w') := Lib.hid fun W hW => by rw [← hr1]; exact r10Check_any X Y o a _ _ _ _ W (h1.under hW) hz1 (h2.under hW) hz2
 have HC3 : Hid (∀ W, Below w.heap.size w W → Calls Tryz.prog 13 #[.agg X, .agg X] W fun e w' => e = .returned (.int .i64 (r2 : Nat)) ∧ Below W.heap.size W w') := Lib.hid fun W hW => by rw [← hr2]; exact juCheck_any X X o o _ _ _ _ W (h1.under hW) (h1.under hW) hz1 hz1
 have HC4 : Hid (∀ W, Below w.heap.size w W → Calls Tryz.prog 14 #[.agg X, .agg X] W fun e w' => e = .returned (.int .i64 (r2 : Nat)) ∧ Below W.heap.size W w') := Lib.hid fun W hW => by rw [← hr2]; exact r10Check_any X X o o _ _ _ _ W (h1.under hW) hz1 (h1.under hW) hz1
 have HXS : Hid ((Tryz.prog.info? 26).map (·.size) = some X.toList.length) := Lib.hid (by rw [Tryz.sizeDesc, Array.length_toList, h1.form]; rfl)
 have HYS : Hid ((Tryz.prog.info? 26).map (·.size) = some Y.toList.length) := Lib.hid (by rw [Tryz.sizeDesc, Array.length_toList, h2.form]; rfl)
 obtain ⟨N, hN⟩ : ∃ N, w.heap.size = N := ⟨_, rfl⟩
 have H0 := Lib.hid (And.intro hb0 (And.intro hbx hby))
 rw [hN] at H0 HC1 HC2 HC3 HC4
 have HN := Lib.hid hN
 clear h1 h2 hb0 hbx hby hN hz1 hz2 hr1 hr2
 go_enter Tryz.func4, Tryz.ntmps4
 go_upto_region 1 with fail
 simp only [HN.out, Nat.add_assoc, Nat.reduceAdd]
 generalize ((w.alloc (.cells X 26)).alloc (.cells Y 26)) = W0 at *
 go_upto_region 3 with (go_at_call 12; (with_reducible refine (awake10_any W0).mono ?_); rintro e w1 ⟨rfl, hb1⟩; have H1 : Hid (Below N w w1 ∧ Whole w1 N 26 X ∧ Whole w1 (N + 1) 26 Y) := Lib.hid ⟨H0.out.1.trans (hb1.mono (Nat.le_of_lt H0.out.2.1.lt)), H0.out.2.1.under hb1, H0.out.2.2.under hb1⟩; clear hb1)
 have HNW : Hid (N ≤ w1.heap.size) := Lib.hid (Nat.le_of_lt H1.out.2.1.lt)
 have HXL : Hid (∀ W, Below N w W ∧ Below w1.heap.size w1 W → ∀ j u, X.toList[j]? = some u → W.cell? ((⟨N, 0, none⟩ : Addr).add j) = some u) := Lib.hid fun W hW j u hu => by
  rw [Addr.add_lit, Nat.zero_add, (H1.out.2.1.under hW.2).cell j, ← Array.getElem?_toList]
  exact hu
 have HYL : Hid (∀ W, Below N w W ∧ Below w1.heap.size w1 W → ∀ j u, Y.toList[j]? = some u → W.cell? ((⟨N + 1, 0, none⟩ : Addr).add j) = some u) := Lib.hid fun W hW j u hu => by
  rw [Addr.add_lit, Nat.zero_add, (H1.out.2.2.under hW.2).cell j, ← Array.getElem?_toList]
  exact hu
 have HKB : Hid (∀ W W', Below N w W ∧ Below w1.heap.size w1 W → Below W.heap.size W W' → Below N w W' ∧ Below w1.heap.size w1 W') := Lib.hid fun W W' h1 h2 => ⟨h1.1.trans (h2.mono (Nat.le_trans HNW.out h1.2.size)), h1.2.trans (h2.mono h1.2.size)⟩
 have HD1 : Hid (∀ W, Below N w W ∧ Below w1.heap.size w1 W → Calls Tryz.prog 13 #[.agg X, .agg Y] W fun e w' => e = .returned (.int .i64 (r1 : Nat)) ∧ Below W.heap.size W w') := Lib.hid fun W hW => HC1.out W hW.1
 have HD2 : Hid (∀ W, Below N w W ∧ Below w1.heap.size w1 W → Calls Tryz.prog 14 #[.agg X, .agg Y] W fun e w' => e = .returned (.int .i64 (r1 : Nat)) ∧ Below W.heap.size W w') := Lib.hid fun W hW => HC2.out W hW.1
 have HD3 : Hid (∀ W, Below N w W ∧ Below w1.heap.size w1 W → Calls Tryz.prog 13 #[.agg X, .agg X] W fun e w' => e = .returned (.int .i64 (r2 : Nat)) ∧ Below W.heap.size W w') := Lib.hid fun W hW => HC3.out W hW.1
 have HD4 : Hid (∀ W, Below N w W ∧ Below w1.heap.size w1 W → Calls Tryz.prog 14 #[.agg X, .agg X] W fun e w' => e = .returned (.int .i64 (r2 : Nat)) ∧ Below W.heap.size W w') := Lib.hid fun W hW => HC4.out W hW.1
 have HDR : Hid (Below N w w1.drew ∧ Below w1.heap.size w1 w1.drew) := Lib.hid ⟨H1.out.1.drew, (Below.refl _ _).drew⟩
 have hq1 : ((r1 : Int) == (r1 : Int)) = true := by simp
 have hq2 : ((r2 : Int) == (r2 : Int)) = true := by simp
 refine wp_region_held_drew (S := fun W => Below N w W ∧ Below w1.heap.size w1 W) (by kernel_rfl) HDR.out (fun hHeld => ?_)
 refine wpAnyH_take (i := 0) (v := _) rfl (by as_aux_lemma => kernel_rfl) (by as_aux_lemma => kernel_rfl) (by as_aux_lemma => kernel_rfl) (fun _ _ _ h => h) (yieldsIf_load_at (by rfl) 26 (.tmp 2) rfl ⟨N, 0, none⟩ rfl X.toList _ (fun w h => HXL.out w h) Tryz.underlying26 rfl HXS.out) (by assumption) ?_
 simp only [Act.put, List.getElem_toArray, List.getElem_cons_succ, List.getElem_cons_zero, List.setIfInBounds_toArray, List.set_cons_succ, List.set_cons_zero]
 refine wpAnyH_take (i := 1) (v := _) rfl (by as_aux_lemma => kernel_rfl) (by as_aux_lemma => kernel_rfl) (by as_aux_lemma => kernel_rfl) (fun _ _ _ h => h) (yieldsIf_load_at (by rfl) 26 (.tmp 3) rfl ⟨N + 1, 0, none⟩ rfl Y.toList _ (fun w h => HYL.out w h) Tryz.underlying26 rfl HYS.out) (by assumption) ?_
 simp only [Act.put, List.getElem_toArray, List.getElem_cons_succ, List.getElem_cons_zero, List.setIfInBounds_toArray, List.set_cons_succ, List.set_cons_zero]
 refine wpAnyH_take (i := 3) (v := _) rfl (by as_aux_lemma => kernel_rfl) (by as_aux_lemma => kernel_rfl) (by as_aux_lemma => kernel_rfl) (fun _ _ _ h => h) (yieldsIf_load_at (by rfl) 26 (.tmp 2) rfl ⟨N, 0, none⟩ rfl X.toList _ (fun w h => HXL.out w h) Tryz.underlying26 rfl HXS.out) (by assumption) ?_
 simp only [Act.put, List.getElem_toArray, List.getElem_cons_succ, List.getElem_cons_zero, List.setIfInBounds_toArray, List.set_cons_succ, List.set_cons_zero]
 refine wpAnyH_take (i := 4) (v := _) rfl (by as_aux_lemma => kernel_rfl) (by as_aux_lemma => kernel_rfl) (by as_aux_lemma => kernel_rfl) (fun _ _ _ h => h) (yieldsIf_load_at (by rfl) 26 (.tmp 3) rfl ⟨N + 1, 0, none⟩ rfl Y.toList _ (fun w h => HYL.out w h) Tryz.underlying26 rfl HYS.out) (by assumption) ?_
 simp only [Act.put, List.getElem_toArray, List.getElem_cons_succ, List.getElem_cons_zero, List.setIfInBounds_toArray, List.set_cons_succ, List.set_cons_zero]
 refine wpAnyH_ready (rs := [2]) (by as_aux_lemma => kernel_rfl) (by simp) ?_
 refine AllReadyH.cons (i := 2) rfl (fun K hK => ?_) AllReadyH.nil
 go_simp
 refine (HD1.out _ hHeld).mono ?_
 rintro e w3 ⟨rfl, hb3⟩
 refine hK.out _ _ (HKB.out _ _ hHeld hb3) (fun hHeld4 => ?_)
 clear hK K hHeld hb3
 have hHeld := hHeld4
 clear hHeld4
 try simp only [Act.put]
 refine wpAnyH_ready (rs := [5]) (by as_aux_lemma => kernel_rfl) (by simp) ?_
 refine AllReadyH.cons (i := 5) rfl (fun K hK => ?_) AllReadyH.nil
 go_simp
 refine (HD2.out _ hHeld).mono ?_
 rintro e w4 ⟨rfl, hb3⟩
 refine hK.out _ _ (HKB.out _ _ hHeld hb3) (fun hHeld4 => ?_)
 clear hK K hHeld hb3
 have hHeld := hHeld4
 clear hHeld4
 try simp only [Act.put]
 refine wpAnyH_take (i := 6) (v := _) rfl (by as_aux_lemma => kernel_rfl) (by as_aux_lemma => kernel_rfl) (by as_aux_lemma => kernel_rfl) (fun _ _ _ h => h) (Or.inl ⟨by rfl, fun w h => by clear h; go_simp; (try with_reducible rfl)⟩) (by assumption) ?_
 simp only [Act.put, List.getElem_toArray, List.getElem_cons_succ, List.getElem_cons_zero, List.setIfInBounds_toArray, List.set_cons_succ, List.set_cons_zero]
 refine wpAnyH_take (i := 7) (v := _) rfl (by as_aux_lemma => kernel_rfl) (by as_aux_lemma => kernel_rfl) (by as_aux_lemma => kernel_rfl) (fun _ _ _ h => h) (Or.inl ⟨by rfl, fun w h => by clear h; go_simp; (try with_reducible rfl)⟩) (by assumption) ?_
 simp only [Act.put, List.getElem_toArray, List.getElem_cons_succ, List.getElem_cons_zero, List.setIfInBounds_toArray, List.set_cons_succ, List.set_cons_zero]
 refine wpAnyH_take (i := 8) (v := _) rfl (by as_aux_lemma => kernel_rfl) (by as_aux_lemma => kernel_rfl) (by as_aux_lemma => kernel_rfl) (fun _ _ _ h => h) (yieldsIf_load_at (by rfl) 26 (.tmp 2) rfl ⟨N, 0, none⟩ rfl X.toList _ (fun w h => HXL.out w h) Tryz.underlying26 rfl HXS.out) (by assumption) ?_
 simp only [Act.put, List.getElem_toArray, List.getElem_cons_succ, List.getElem_cons_zero, List.setIfInBounds_toArray, List.set_cons_succ, List.set_cons_zero]
 refine wpAnyH_take (i := 9) (v := _) rfl (by as_aux_lemma => kernel_rfl) (by as_aux_lemma => kernel_rfl) (by as_aux_lemma => kernel_rfl) (fun _ _ _ h => h) (yieldsIf_load_at (by rfl) 26 (.tmp 2) rfl ⟨N, 0, none⟩ rfl X.toList _ (fun w h => HXL.out w h) Tryz.underlying26 rfl HXS.out) (by assumption) ?_
 simp only [Act.put, List.getElem_toArray, List.getElem_cons_succ, List.getElem_cons_zero, List.setIfInBounds_toArray, List.set_cons_succ, List.set_cons_zero]
 refine wpAnyH_take (i := 11) (v := _) rfl (by as_aux_lemma => kernel_rfl) (by as_aux_lemma => kernel_rfl) (by as_aux_lemma => kernel_rfl) (fun _ _ _ h => h) (yieldsIf_load_at (by rfl) 26 (.tmp 2) rfl ⟨N, 0, none⟩ rfl X.toList _ (fun w h => HXL.out w h) Tryz.underlying26 rfl HXS.out) (by assumption) ?_
 simp only [Act.put, List.getElem_toArray, List.getElem_cons_succ, List.getElem_cons_zero, List.setIfInBounds_toArray, List.set_cons_succ, List.set_cons_zero]
 refine wpAnyH_take (i := 12) (v := _) rfl (by as_aux_lemma => kernel_rfl) (by as_aux_lemma => kernel_rfl) (by as_aux_lemma => kernel_rfl) (fun _ _ _ h => h) (yieldsIf_load_at (by rfl) 26 (.tmp 2) rfl ⟨N, 0, none⟩ rfl X.toList _ (fun w h => HXL.out w h) Tryz.underlying26 rfl HXS.out) (by assumption) ?_
 simp only [Act.put, List.getElem_toArray, List.getElem_cons_succ, List.getElem_cons_zero, List.setIfInBounds_toArray, List.set_cons_succ, List.set_cons_zero]
 refine wpAnyH_ready (rs := [10]) (by as_aux_lemma => kernel_rfl) (by simp) ?_
 refine AllReadyH.cons (i := 10) rfl (fun K hK => ?_) AllReadyH.nil
 go_simp
 refine (HD3.out _ hHeld).mono ?_
 rintro e w5 ⟨rfl, hb3⟩
 refine hK.out _ _ (HKB.out _ _ hHeld hb3) (fun hHeld4 => ?_)
 clear hK K hHeld hb3
 have hHeld := hHeld4
 clear hHeld4
 try simp only [Act.put]
 refine wpAnyH_ready (rs := [13]) (by as_aux_lemma => kernel_rfl) (by simp) ?_
 refine AllReadyH.cons (i := 13) rfl (fun K hK => ?_) AllReadyH.nil
 go_simp
 refine (HD4.out _ hHeld).mono ?_
 rintro e w6 ⟨rfl, hb3⟩
 refine hK.out _ _ (HKB.out _ _ hHeld hb3) (fun hHeld4 => ?_)
 clear hK K hHeld hb3
 have hHeld := hHeld4
 clear hHeld4
 try simp only [Act.put]
 refine wpAnyH_take (i := 14) (v := _) rfl (by as_aux_lemma => kernel_rfl) (by as_aux_lemma => kernel_rfl) (by as_aux_lemma => kernel_rfl) (fun _ _ _ h => h) (Or.inl ⟨by rfl, fun w h => by clear h; go_simp; (try with_reducible rfl)⟩) (by assumption) ?_
 simp only [Act.put, List.getElem_toArray, List.getElem_cons_succ, List.getElem_cons_zero, List.setIfInBounds_toArray, List.set_cons_succ, List.set_cons_zero]
 refine wpAnyH_take (i := 15) (v := _) rfl (by as_aux_lemma => kernel_rfl) (by as_aux_lemma => kernel_rfl) (by as_aux_lemma => kernel_rfl) (fun _ _ _ h => h) (Or.inl ⟨by rfl, fun w h => by clear h; go_simp; (try with_reducible rfl)⟩) (by assumption) ?_
 simp only [Act.put, List.getElem_toArray, List.getElem_cons_succ, List.getElem_cons_zero, List.setIfInBounds_toArray, List.set_cons_succ, List.set_cons_zero]
 refine wpAnyH_take (i := 16) (v := _) rfl (by as_aux_lemma => kernel_rfl) (by as_aux_lemma => kernel_rfl) (by as_aux_lemma => kernel_rfl) (fun _ _ _ h => h) (Or.inl ⟨by rfl, fun w h => by clear h; go_simp; (try with_reducible rfl)⟩) (by assumption) ?_
 simp only [Act.put, List.getElem_toArray, List.getElem_cons_succ, List.getElem_cons_zero, List.setIfInBounds_toArray, List.set_cons_succ, List.set_cons_zero]
 refine wpAnyH_done (by as_aux_lemma => kernel_rfl) ?_ _
 have HFIN := Lib.hid hHeld.1
 clear hHeld
 go_wp2
 go_ret
 exact ⟨rfl, by rw [HN.out]; exact HFIN.out⟩
def MaxL (w : World) : Prop := ∃ m, w.cell? ⟨0, 0, none⟩ = some (.int .i64 m)
theorem MaxL.under {w w' : World} (h : MaxL w) (hb : Below w.heap.size w w') : MaxL w' := by
 obtain ⟨m, hm⟩ := h
 exact ⟨m, (hb.cell (p := ⟨0, 0, none⟩) (block_lt_of_cell hm)).trans hm⟩
theorem MaxL.below {w w' : World} {B : Nat} (h : MaxL w) (hb : Below B w w') (hB : 0 < B) : MaxL w' := by
 obtain ⟨m, hm⟩ := h
 exact ⟨m, (hb.cell (p := ⟨0, 0, none⟩) hB).trans hm⟩
theorem MaxL.lt {w : World} (h : MaxL w) : 0 < w.heap.size := by
 obtain ⟨m, hm⟩ := h
 exact block_lt_of_cell hm
end Go.Proofs.YthpfeihmfmahmaaGreat
namespace Go.Proofs.YthpfeihmfmahmaaGreat
open Go.RowKit Go.ChangeShapes Go.WideShapes Go.ChangeAt Go.Deep
set_option linter.unusedVariables false
section
variable {H : Type} {enc : TypeId × Value → H} {P : Program} {w : World} {base : Nat} {spare : Nat → Bool} {held : Bool}
theorem weights_mem_all {e : TypeId} {ds : List (DataW H)} {d : DataW H} (h : d ∈ ds) : ∀ n ∈ d.weights P e, n ∈ DataW.weightsAll P e ds := by
 induction ds with
 | nil => cases h
 | cons d0 r ih =>
   intro n hn
   simp only [DataW.weightsAll, List.mem_append]
   rcases List.mem_cons.1 h with rfl | h
   · exact .inl hn
   · exact .inr (ih h n hn)
end
theorem pick {α : Type} {n : Nat} {R : Nat → α → Prop} (h : ∀ i, i < n → ∃ a, R i a) : ∃ L : List α, L.length = n ∧ ∀ i a, L[i]? = some a → R i a := by
 induction n with
 | zero => exact ⟨[], rfl, fun i a e => by simp at e⟩
 | succ n ih =>
   obtain ⟨L, hL, hl⟩ := ih (fun i hi => h i (by omega))
   obtain ⟨a, ha⟩ := h n (by omega)
   refine ⟨L ++ [a], by simp [hL], fun i b e => ?_⟩
   rw [List.getElem?_append] at e
   split at e
   · exact hl i b e
   · next hn =>
     have hlt := (List.getElem?_eq_some_iff.1 e).1
     have hi : i = n := by simp at hlt; omega
     subst hi
     rw [hL, Nat.sub_self] at e
     obtain rfl : a = b := by simpa using e
     exact ha
section
variable {H : Type} {enc : TypeId × Value → H} {W : World} {base : Nat} {sp : Nat → Bool} {held : Bool}
theorem open_str {fuel : Nat} {v : Value} {x : DataW H × List MemPlace} (h : DataW.trod enc Tryz.prog W base sp held fuel 9 [v] = some x) (hw : ∀ n ∈ x.1.weights Tryz.prog 9, n ≤ 140737488351232) :
 ∃ s : ByteArray, v = .string s ∧ s.size ≤ 140737488351232 := by
 obtain ⟨s, e, hx, _⟩ := DataW.trod_string Tryz.underlying9 h
 refine ⟨s, by simpa using e, ?_⟩
 have := hw s.data.toList.length (by rw [hx]; simp [DataW.weights])
 rw [Array.length_toList] at this
 exact this
end
end Go.Proofs.YthpfeihmfmahmaaGreat
namespace Go.Proofs.YthpfeihmfmahmaaGreat
open Go.RowKit Go.ChangeShapes Go.WideShapes Go.ChangeAt Go.Deep
set_option linter.unusedVariables false
set_option linter.unusedSimpArgs false
section
variable {H : Type} {enc : TypeId × Value → H} {P : Program} {w : World} {base : Nat} {spare : Nat → Bool} {held : Bool}
end
section
variable {H : Type} {enc : TypeId × Value → H} {W : World} {base : Nat} {sp : Nat → Bool} {held : Bool}
theorem open_rows {α : Type} {t e : TypeId} {sz by_ : Nat} {R : (Nat → Option Value) → α → Prop} {Q : α → Prop} (ht : Tryz.prog.underlying t = some (.slice e)) (hc : Tryz.prog.cellsOf e = sz) (hsz : 0 < sz) (hby : Tryz.prog.bytesOf e = by_)
 (hel : ∀ (n : Nat) (cs : List Value) (y : DataW H × List MemPlace) (f : Nat → Option Value), cs.length = sz → (∀ j, j < sz → f j = cs[j]?) → DataW.trod enc Tryz.prog W base sp held n e cs = some y → (∀ k ∈ y.1.weights Tryz.prog e, k ≤ 140737488351232) → ∃ a, R f a ∧ Q a)
 {fuel : Nat} {v : Value} {x : DataW H × List MemPlace} (h : DataW.trod enc Tryz.prog W base sp held fuel t [v] = some x) (hw : ∀ n ∈ x.1.weights Tryz.prog t, n ≤ 140737488351232) :
 ∃ L : List α, Rows W W.heap.size sz R v L ∧ L.length * by_ ≤ 140737488351232 ∧ ∀ a ∈ L, Q a := by
 rcases open_slice ht h with ⟨hcs, _⟩ | ⟨ad, len, cap, m, n, D, Pl, hcs, hb, hl, hm, hmm, hx, hi⟩
 · simp at hcs
   subst hcs
   exact ⟨[], Rows.nil _ _ _ _, by simp, fun a ha => by cases ha⟩
 · simp at hcs
   subst hcs
   have hlm : len ≤ m := by rw [hmm]; split <;> omega
   rw [hc] at hi
   have hat : ∀ i, i < len → ∃ a : α, R (fun j => W.cell? (ad.add (i * sz + j))) a ∧ Q a ∧ ∃ u, W.cell? (ad.add (i * sz)) = some u := fun i hin => by
    obtain ⟨cs', hcc, htr⟩ := hi i (by omega)
    obtain ⟨_, hcl, hca⟩ := World.cells?_some hcc
    obtain ⟨a, h1, h2⟩ := hel n cs' _ (fun j => W.cell? (ad.add (i * sz + j))) hcl (fun j hj => by
     rw [← Go.Deep.add_add]
     exact hca j hj) htr (fun k hk => hw k (by
      rw [hx]
      simp only [DataW.weights, ht, List.mem_cons, List.mem_append]
      exact .inr (.inl (weights_mem_all (d := D i) (List.mem_map.2 ⟨i, List.mem_range.2 hin, rfl⟩) k hk))))
    refine ⟨a, h1, h2, cs'[0]'(by omega), ?_⟩
    have := hca 0 hsz
    rw [List.getElem?_eq_getElem (by omega)] at this
    exact this
   obtain ⟨L, hL, hR⟩ := pick hat
   refine ⟨L, ⟨some ad, cap, by rw [hL], by omega, hm, (fun e => by cases e), fun hn => ⟨ad, rfl, ?_, fun i a e => (hR i a e).1⟩⟩, ?_, fun a ha => ?_⟩
   · obtain ⟨a, _, _, u, h0⟩ := hat 0 (by omega)
     have := block_lt_of_cell h0
     rwa [add_block] at this
   · have := hw (m * Tryz.prog.bytesOf e) (by
      rw [hx]
      simp only [DataW.weights, ht, List.mem_cons]
      refine .inl ?_
      have e9 : m = ((List.range len).map D).length + ((List.range (m - len)).map fun j => D (len + j)).length := by simp; omega
      rw [← e9])
     rw [hby] at this
     rw [hL]
     exact Nat.le_trans (Nat.mul_le_mul_right _ hlm) this
   · obtain ⟨i, hi2⟩ := List.mem_iff_getElem?.1 ha
     exact (hR i a hi2).2.1
theorem one_cell {cs : List Value} (h : cs.length = 1) : ∃ v, cs = [v] := by
 match cs, h with
 | [v], _ => exact ⟨v, rfl⟩
theorem open_texts {fuel : Nat} {v : Value} {x : DataW H × List MemPlace} (h : DataW.trod enc Tryz.prog W base sp held fuel 23 [v] = some x) (hw : ∀ n ∈ x.1.weights Tryz.prog 23, n ≤ 140737488351232) :
 ∃ L, TextsV W W.heap.size v L ∧ L.length * 16 ≤ 140737488351232 ∧ ∀ s ∈ L, s.size ≤ 140737488351232 :=
 open_rows (e := 9) Tryz.underlying23 (by kernel_rfl) (by decide) (by kernel_rfl) (fun n cs y f hl hf ht hk => by
  obtain ⟨u, rfl⟩ := one_cell hl
  obtain ⟨s, rfl, hs⟩ := open_str ht hk
  exact ⟨s, hf 0 (by decide), hs⟩) h hw
theorem open_i64 {fuel : Nat} {v : Value} {x : DataW H × List MemPlace} (h : DataW.trod enc Tryz.prog W base sp held fuel 3 [v] = some x) : ∃ n : Int, v = .int .i64 n := by
 obtain ⟨n, e, _⟩ := DataW.trod_int Tryz.underlying3 h
 simp at e
 exact ⟨n, e⟩
set_option maxRecDepth 100000 in
theorem open_u32s {fuel : Nat} {v : Value} {x : DataW H × List MemPlace} (h : DataW.trod enc Tryz.prog W base sp held fuel 41 [v] = some x) (hw : ∀ n ∈ x.1.weights Tryz.prog 41, n ≤ 140737488351232) :
 ∃ L, NumsV W W.heap.size v L ∧ L.length * 4 ≤ 140737488351232 ∧ ∀ n ∈ L, n < 4294967296 :=
 open_rows (e := 94) Tryz.underlying41 (by kernel_rfl) (by decide) (by kernel_rfl) (fun n cs y f hl hf ht hk => by
  obtain ⟨z, rfl, _, hz⟩ := DataW.trod_int Tryz.underlying94 ht
  simp [Lit.wf, IntKind.min, IntKind.max, IntKind.signed, IntKind.bits] at hz
  refine ⟨z.toNat, ?_, by omega⟩
  show f 0 = some (.int .u32 (z.toNat : Int))
  rw [show ((z.toNat : Nat) : Int) = z by omega]
  exact hf 0 (by decide)) h hw
set_option maxRecDepth 100000 in
theorem open_exts {fuel : Nat} {v : Value} {x : DataW H × List MemPlace} (h : DataW.trod enc Tryz.prog W base sp held fuel 40 [v] = some x) (hw : ∀ n ∈ x.1.weights Tryz.prog 40, n ≤ 140737488351232) :
 ∃ L, ExtsV W W.heap.size v L ∧ L.length * 24 ≤ 140737488351232 ∧ ∀ a ∈ L, a.uri.size ≤ 140737488351232 :=
 open_rows (e := 56) Tryz.underlying40 (by kernel_rfl) (by decide) (by kernel_rfl) (fun n cs y f hl hf ht hk => by
  obtain ⟨ys, n', _, hy, _, hyl, hfl⟩ := DataW.trod_struct Tryz.underlying56 ht
  match cs, hl with
  | [c0, c1], _ =>
    have f0 : DataW.trod enc Tryz.prog W base sp held n' 3 (([c0, c1].drop 0).take (Tryz.prog.cellsOf 3)) = ys[0]? := hfl 0 _ rfl
    have f1 : DataW.trod enc Tryz.prog W base sp held n' 9 (([c0, c1].drop 1).take (Tryz.prog.cellsOf 9)) = ys[1]? := hfl 1 _ rfl
    rw [show Tryz.prog.cellsOf 3 = 1 by kernel_rfl] at f0
    rw [show Tryz.prog.cellsOf 9 = 1 by kernel_rfl] at f1
    have hyl2 : ys.length = 2 := hyl
    match ys, hyl2 with
    | [y0, y1], _ =>
      simp only [List.drop_zero, List.take_succ_cons, List.take_zero, List.drop_succ_cons, List.getElem?_cons_zero, List.getElem?_cons_succ] at f0 f1
      obtain ⟨z, rfl⟩ := open_i64 f0
      obtain ⟨s, rfl, hs⟩ := open_str f1 (fun k hk2 => hk k (by
       rw [hy]
       simp only [DataW.weights, Tryz.underlying56]
       exact DataW.weights_mem_each (j := 1) rfl rfl k hk2))
      exact ⟨⟨z, s⟩, ⟨hf 0 (by decide), hf 1 (by decide)⟩, hs⟩) h hw
set_option maxRecDepth 100000 in
theorem open_codecs {fuel : Nat} {v : Value} {x : DataW H × List MemPlace} (h : DataW.trod enc Tryz.prog W base sp held fuel 27 [v] = some x) (hw : ∀ n ∈ x.1.weights Tryz.prog 27, n ≤ 140737488351232) :
 ∃ L, CodecsV W W.heap.size v L ∧ L.length * 80 ≤ 140737488351232 ∧ ∀ a ∈ L, (a.name.size ≤ 140737488351232 ∧ a.format.size ≤ 140737488351232 ∧ ∀ f ∈ a.feedback, f.size ≤ 140737488351232) ∧ a.feedback.length * 16 ≤ 140737488351232 :=
 open_rows (e := 46) Tryz.underlying27 (by kernel_rfl) (by decide) (by kernel_rfl) (fun n cs y f hl hf ht hk => by
  obtain ⟨ys, n', _, hy, _, hyl, hfl⟩ := DataW.trod_struct Tryz.underlying46 ht
  match cs, hl with
  | [c0, c1, c2, c3, c4, c5], _ =>
    have f0 : DataW.trod enc Tryz.prog W base sp held n' 3 (([c0, c1, c2, c3, c4, c5].drop 0).take (Tryz.prog.cellsOf 3)) = ys[0]? := hfl 0 _ rfl
    have f1 : DataW.trod enc Tryz.prog W base sp held n' 9 (([c0, c1, c2, c3, c4, c5].drop 1).take (Tryz.prog.cellsOf 9)) = ys[1]? := hfl 1 _ rfl
    have f2 : DataW.trod enc Tryz.prog W base sp held n' 3 (([c0, c1, c2, c3, c4, c5].drop 2).take (Tryz.prog.cellsOf 3)) = ys[2]? := hfl 2 _ rfl
    have f3 : DataW.trod enc Tryz.prog W base sp held n' 3 (([c0, c1, c2, c3, c4, c5].drop 3).take (Tryz.prog.cellsOf 3)) = ys[3]? := hfl 3 _ rfl
    have f4 : DataW.trod enc Tryz.prog W base sp held n' 9 (([c0, c1, c2, c3, c4, c5].drop 4).take (Tryz.prog.cellsOf 9)) = ys[4]? := hfl 4 _ rfl
    have f5 : DataW.trod enc Tryz.prog W base sp held n' 23 (([c0, c1, c2, c3, c4, c5].drop 5).take (Tryz.prog.cellsOf 23)) = ys[5]? := hfl 5 _ rfl
    rw [show Tryz.prog.cellsOf 3 = 1 by kernel_rfl] at f0 f2 f3
    rw [show Tryz.prog.cellsOf 9 = 1 by kernel_rfl] at f1 f4
    rw [show Tryz.prog.cellsOf 23 = 1 by kernel_rfl] at f5
    have hyl2 : ys.length = 6 := hyl
    match ys, hyl2 with
    | [y0, y1, y2, y3, y4, y5], _ =>
      simp only [List.drop_zero, List.take_succ_cons, List.take_zero, List.drop_succ_cons, List.getElem?_cons_zero, List.getElem?_cons_succ] at f0 f1 f2 f3 f4 f5
      obtain ⟨z0, rfl⟩ := open_i64 f0
      obtain ⟨z2, rfl⟩ := open_i64 f2
      obtain ⟨z3, rfl⟩ := open_i64 f3
      obtain ⟨s1, rfl, hs1⟩ := open_str f1 (fun k hk2 => hk k (by
       rw [hy]
       simp only [DataW.weights, Tryz.underlying46]
       exact DataW.weights_mem_each (j := 1) rfl rfl k hk2))
      obtain ⟨s4, rfl, hs4⟩ := open_str f4 (fun k hk2 => hk k (by
       rw [hy]
       simp only [DataW.weights, Tryz.underlying46]
       exact DataW.weights_mem_each (j := 4) rfl rfl k hk2))
      obtain ⟨L5, hv5, hl5, hs5⟩ := open_texts f5 (fun k hk2 => hk k (by
       rw [hy]
       simp only [DataW.weights, Tryz.underlying46]
       exact DataW.weights_mem_each (j := 5) rfl rfl k hk2))
      exact ⟨⟨z0, s1, z2, z3, s4, L5⟩, ⟨hf 0 (by decide), hf 1 (by decide), hf 2 (by decide), hf 3 (by decide), hf 4 (by decide), _, hf 5 (by decide), hv5⟩, ⟨hs1, hs4, hs5⟩, hl5⟩) h hw
theorem open_key {n : Nat} {cs : List Value} {y : DataW H × List MemPlace} (hl : cs.length = 30) (h : DataW.trod enc Tryz.prog W base sp held n 30 cs = some y) : ∃ k : Tx, k.length = 30 ∧ cs = keyC k := by
 obtain ⟨xs, m, rfl, rfl, hxl, hxs, hat⟩ := DataW.trod_array Tryz.underlying30 h
 have hb : ∀ i, i < 30 → ∃ b : UInt8, cs[i]? = some (.int .u8 (b.toNat : Int)) := fun i hi => by
  have h1 := hat i hi
  rw [show Tryz.prog.cellsOf 5 = 1 by kernel_rfl, Nat.mul_one] at h1
  have h2 : (cs.drop i).take 1 = [cs[i]'(by omega)] := by
   rw [List.drop_eq_getElem_cons (by omega)]
   rfl
  rw [h2, List.getElem?_eq_getElem (by omega)] at h1
  obtain ⟨z, e1, _, e3⟩ := DataW.trod_int Tryz.underlying5 h1
  simp [Lit.wf, IntKind.min, IntKind.max, IntKind.signed, IntKind.bits] at e3
  refine ⟨UInt8.ofNat z.toNat, ?_⟩
  rw [List.getElem?_eq_getElem (by omega)]
  have e4 : cs[i]'(by omega) = .int .u8 z := by simpa using e1
  rw [e4, UInt8.toNat_ofNat', show ((z.toNat % 2 ^ 8 : Nat) : Int) = z by omega]
 obtain ⟨k, hk, hr⟩ := pick hb
 refine ⟨k, hk, List.ext_getElem? fun i => ?_⟩
 unfold keyC
 rw [List.getElem?_map]
 by_cases hi : i < 30
 · have e := List.getElem?_eq_getElem (l := k) (i := i) (by omega)
   rw [e, hr i _ e]
   rfl
 · rw [List.getElem?_eq_none (by omega), List.getElem?_eq_none (by omega)]
   rfl
set_option maxRecDepth 100000 in
theorem open_crys {fuel : Nat} {v : Value} {x : DataW H × List MemPlace} (h : DataW.trod enc Tryz.prog W base sp held fuel 42 [v] = some x) (hw : ∀ n ∈ x.1.weights Tryz.prog 42, n ≤ 140737488351232) :
 ∃ L, CrysV W W.heap.size v L ∧ L.length * 40 ≤ 140737488351232 ∧ ∀ a ∈ L, a.key.length = 30 :=
 open_rows (e := 58) Tryz.underlying42 (by kernel_rfl) (by decide) (by kernel_rfl) (fun n cs y f hl hf ht hk => by
  obtain ⟨ys, n', _, hy, _, hyl, hfl⟩ := DataW.trod_struct Tryz.underlying58 ht
  have f0 : DataW.trod enc Tryz.prog W base sp held n' 3 ((cs.drop 0).take (Tryz.prog.cellsOf 3)) = ys[0]? := hfl 0 _ rfl
  have f1 : DataW.trod enc Tryz.prog W base sp held n' 30 ((cs.drop 1).take (Tryz.prog.cellsOf 30)) = ys[1]? := hfl 1 _ rfl
  rw [show Tryz.prog.cellsOf 3 = 1 by kernel_rfl] at f0
  rw [show Tryz.prog.cellsOf 30 = 30 by kernel_rfl] at f1
  have hyl2 : ys.length = 2 := hyl
  match ys, hyl2 with
  | [y0, y1], _ =>
    obtain ⟨c0, r, hcr⟩ : ∃ c0 r, cs = c0 :: r := by
     cases cs with
     | nil => simp at hl
     | cons a b => exact ⟨a, b, rfl⟩
    subst hcr
    simp only [List.drop_zero, List.take_succ_cons, List.take_zero, List.drop_succ_cons, List.getElem?_cons_zero, List.getElem?_cons_succ] at f0 f1
    have hrl : r.length = 30 := by simpa using hl
    rw [List.take_of_length_le (by omega)] at f1
    obtain ⟨z, rfl⟩ := open_i64 f0
    obtain ⟨k, hk30, rfl⟩ := open_key hrl f1
    exact ⟨⟨z, k⟩, ⟨hk30, fun j hj => hf j hj⟩, hk30⟩) h hw
end
section
variable {H : Type} {enc : TypeId × Value → H} {W : World} {base : Nat} {sp : Nat → Bool} {held : Bool}
set_option maxRecDepth 100000 in
theorem open_mediaL {n : Nat} {l : List Value} {x : DataW H × List MemPlace} (hl : l.length = 11) (h : DataW.trod enc Tryz.prog W base sp held n 44 l = some x) (hw : ∀ n ∈ x.1.weights Tryz.prog 44, n ≤ 140737488351232) :
 ∃ (M : Array Value) (m : MediaS) (vC vE vR vS vY : Value), l = M.toList ∧ MediaV W W.heap.size M m vC vE vR vS vY ∧ SizM m := by
 obtain ⟨ys, n, _, hx, _, hyl, hf⟩ := DataW.trod_struct Tryz.underlying44 h
 have hy11 : ys.length = 11 := hyl
 have g0 : DataW.trod enc Tryz.prog W base sp held n 3 ((l.drop 0).take (Tryz.prog.cellsOf 3)) = ys[0]? := hf 0 _ rfl
 have g1 : DataW.trod enc Tryz.prog W base sp held n 3 ((l.drop 1).take (Tryz.prog.cellsOf 3)) = ys[1]? := hf 1 _ rfl
 have g2 : DataW.trod enc Tryz.prog W base sp held n 9 ((l.drop 2).take (Tryz.prog.cellsOf 9)) = ys[2]? := hf 2 _ rfl
 have g3 : DataW.trod enc Tryz.prog W base sp held n 3 ((l.drop 3).take (Tryz.prog.cellsOf 3)) = ys[3]? := hf 3 _ rfl
 have g4 : DataW.trod enc Tryz.prog W base sp held n 27 ((l.drop 4).take (Tryz.prog.cellsOf 27)) = ys[4]? := hf 4 _ rfl
 have g5 : DataW.trod enc Tryz.prog W base sp held n 40 ((l.drop 5).take (Tryz.prog.cellsOf 40)) = ys[5]? := hf 5 _ rfl
 have g6 : DataW.trod enc Tryz.prog W base sp held n 23 ((l.drop 6).take (Tryz.prog.cellsOf 23)) = ys[6]? := hf 6 _ rfl
 have g7 : DataW.trod enc Tryz.prog W base sp held n 4 ((l.drop 7).take (Tryz.prog.cellsOf 4)) = ys[7]? := hf 7 _ rfl
 have g8 : DataW.trod enc Tryz.prog W base sp held n 41 ((l.drop 8).take (Tryz.prog.cellsOf 41)) = ys[8]? := hf 8 _ rfl
 have g9 : DataW.trod enc Tryz.prog W base sp held n 42 ((l.drop 9).take (Tryz.prog.cellsOf 42)) = ys[9]? := hf 9 _ rfl
 have g10 : DataW.trod enc Tryz.prog W base sp held n 3 ((l.drop 10).take (Tryz.prog.cellsOf 3)) = ys[10]? := hf 10 _ rfl
 rw [show Tryz.prog.cellsOf 3 = 1 by kernel_rfl] at g0 g1 g3 g10
 rw [show Tryz.prog.cellsOf 9 = 1 by kernel_rfl] at g2
 rw [show Tryz.prog.cellsOf 27 = 1 by kernel_rfl] at g4
 rw [show Tryz.prog.cellsOf 40 = 1 by kernel_rfl] at g5
 rw [show Tryz.prog.cellsOf 23 = 1 by kernel_rfl] at g6
 rw [show Tryz.prog.cellsOf 4 = 1 by kernel_rfl] at g7
 rw [show Tryz.prog.cellsOf 41 = 1 by kernel_rfl] at g8
 rw [show Tryz.prog.cellsOf 42 = 1 by kernel_rfl] at g9
 clear hf hyl h
 match l, hl with
 | [c0, c1, c2, c3, c4, c5, c6, c7, c8, c9, c10], _ =>
   match ys, hy11 with
   | [y0, y1, y2, y3, y4, y5, y6, y7, y8, y9, y10], _ =>
     simp only [List.drop_zero, List.take_succ_cons, List.take_zero, List.drop_succ_cons, List.getElem?_cons_zero, List.getElem?_cons_succ] at g0 g1 g2 g3 g4 g5 g6 g7 g8 g9 g10
     obtain ⟨z0, rfl⟩ := open_i64 g0
     obtain ⟨z1, rfl⟩ := open_i64 g1
     obtain ⟨z3, rfl⟩ := open_i64 g3
     obtain ⟨z10, rfl⟩ := open_i64 g10
     obtain ⟨b7, e7, _⟩ := DataW.trod_bool Tryz.underlying4 g7
     simp at e7
     subst e7
     obtain ⟨s2, rfl, hs2⟩ := open_str g2 (fun k hk => hw k (by
      rw [hx]
      simp only [DataW.weights, Tryz.underlying44]
      exact DataW.weights_mem_each (j := 2) rfl rfl k hk))
     obtain ⟨L4, v4, l4, q4⟩ := open_codecs g4 (fun k hk => hw k (by
      rw [hx]
      simp only [DataW.weights, Tryz.underlying44]
      exact DataW.weights_mem_each (j := 4) rfl rfl k hk))
     obtain ⟨L5, v5, l5, q5⟩ := open_exts g5 (fun k hk => hw k (by
      rw [hx]
      simp only [DataW.weights, Tryz.underlying44]
      exact DataW.weights_mem_each (j := 5) rfl rfl k hk))
     obtain ⟨L6, v6, l6, q6⟩ := open_texts g6 (fun k hk => hw k (by
      rw [hx]
      simp only [DataW.weights, Tryz.underlying44]
      exact DataW.weights_mem_each (j := 6) rfl rfl k hk))
     obtain ⟨L8, v8, l8, q8⟩ := open_u32s g8 (fun k hk => hw k (by
      rw [hx]
      simp only [DataW.weights, Tryz.underlying44]
      exact DataW.weights_mem_each (j := 8) rfl rfl k hk))
     obtain ⟨L9, v9, l9, q9⟩ := open_crys g9 (fun k hk => hw k (by
      rw [hx]
      simp only [DataW.weights, Tryz.underlying44]
      exact DataW.weights_mem_each (j := 9) rfl rfl k hk))
     refine ⟨#[.int .i64 z0, .int .i64 z1, .string s2, .int .i64 z3, c4, c5, c6, .bool b7, c8, c9, .int .i64 z10], ⟨z0, z1, s2, z3, L4, L5, L6, b7, L8, L9, z10⟩, c4, c5, c6, c8, c9, rfl, ⟨rfl, v4, v5, v6, v8, v9⟩, ⟨?_, fun c hc => ?_, fun c hc => ?_, fun c hc => ?_, fun c hc => ?_, ⟨q8, q9⟩, ?_⟩⟩
     · show s2.size ≤ _
       omega
     · obtain ⟨⟨h1, h2, h3⟩, _⟩ := q4 c hc
       exact ⟨by omega, by omega, fun f hf => by have := h3 f hf; omega⟩
     · have := (q4 c hc).2
       omega
     · have := q5 c hc
       omega
     · have := q6 c hc
       omega
     · show L4.length ≤ _ ∧ L5.length ≤ _ ∧ L6.length ≤ _ ∧ L8.length ≤ _ ∧ L9.length ≤ _
       omega
theorem open_medias {fuel : Nat} {v : Value} {x : DataW H × List MemPlace} (h : DataW.trod enc Tryz.prog W base sp held fuel 24 [v] = some x) (hw : ∀ n ∈ x.1.weights Tryz.prog 24, n ≤ 140737488351232) :
 ∃ L, MediasV W W.heap.size v L ∧ L.length * 176 ≤ 140737488351232 ∧ ∀ m ∈ L, SizM m :=
 open_rows (e := 44) Tryz.underlying24 (by kernel_rfl) (by decide) (by kernel_rfl) (fun n cs y f hl hf ht hk => by
  obtain ⟨M, m, vC, vE, vR, vS, vY, rfl, hm, hz⟩ := open_mediaL hl ht hk
  exact ⟨m, ⟨M, vC, vE, vR, vS, vY, hm, fun j hj => by rw [hf j hj, Array.getElem?_toList]⟩, hz⟩) h hw
set_option maxRecDepth 100000 in
theorem open_u64 {fuel : Nat} {v : Value} {x : DataW H × List MemPlace} (h : DataW.trod enc Tryz.prog W base sp held fuel 22 [v] = some x) : ∃ n : Nat, v = .int .u64 (n : Int) ∧ n < 18446744073709551616 := by
 obtain ⟨z, e, _, hz⟩ := DataW.trod_int Tryz.underlying22 h
 simp [Lit.wf, IntKind.min, IntKind.max, IntKind.signed, IntKind.bits] at hz
 simp at e
 refine ⟨z.toNat, ?_, by omega⟩
 rw [e, show ((z.toNat : Nat) : Int) = z by omega]
set_option maxRecDepth 100000 in
theorem open_desc {fuel : Nat} {v : Value} {x : DataW H × List MemPlace} (hv : Value.okWide Tryz.prog W .any base 26 v) (h : DataW.trod enc Tryz.prog W 0 sp true fuel 26 v.cells.toList = some x) (hw : ∀ n ∈ x.1.weights Tryz.prog 26, n ≤ 140737488351232) :
 ∃ D d vB vM, v = .agg D ∧ DescV W W.heap.size D d vB vM ∧ SizD d := by
 obtain ⟨cs, rfl, hsz⟩ := okWide_struct Tryz.underlying26 hv
 rw [show Tryz.prog.cellsOf 26 = 6 by kernel_rfl] at hsz
 have h' : DataW.trod enc Tryz.prog W 0 sp true fuel 26 cs.toList = some x := h
 obtain ⟨ys, n, _, hx, _, hyl, hf⟩ := DataW.trod_struct Tryz.underlying26 h'
 obtain ⟨l⟩ := cs
 have hl : l.length = 6 := by simpa using hsz
 have hy6 : ys.length = 6 := hyl
 have g0 : DataW.trod enc Tryz.prog W 0 sp true n 22 ((l.drop 0).take (Tryz.prog.cellsOf 22)) = ys[0]? := hf 0 _ rfl
 have g1 : DataW.trod enc Tryz.prog W 0 sp true n 22 ((l.drop 1).take (Tryz.prog.cellsOf 22)) = ys[1]? := hf 1 _ rfl
 have g2 : DataW.trod enc Tryz.prog W 0 sp true n 23 ((l.drop 2).take (Tryz.prog.cellsOf 23)) = ys[2]? := hf 2 _ rfl
 have g3 : DataW.trod enc Tryz.prog W 0 sp true n 9 ((l.drop 3).take (Tryz.prog.cellsOf 9)) = ys[3]? := hf 3 _ rfl
 have g4 : DataW.trod enc Tryz.prog W 0 sp true n 9 ((l.drop 4).take (Tryz.prog.cellsOf 9)) = ys[4]? := hf 4 _ rfl
 have g5 : DataW.trod enc Tryz.prog W 0 sp true n 24 ((l.drop 5).take (Tryz.prog.cellsOf 24)) = ys[5]? := hf 5 _ rfl
 rw [show Tryz.prog.cellsOf 22 = 1 by kernel_rfl] at g0 g1
 rw [show Tryz.prog.cellsOf 9 = 1 by kernel_rfl] at g3 g4
 rw [show Tryz.prog.cellsOf 23 = 1 by kernel_rfl] at g2
 rw [show Tryz.prog.cellsOf 24 = 1 by kernel_rfl] at g5
 clear hf hyl hv h h'
 match l, hl with
 | [c0, c1, c2, c3, c4, c5], _ =>
   match ys, hy6 with
   | [y0, y1, y2, y3, y4, y5], _ =>
     simp only [List.drop_zero, List.take_succ_cons, List.take_zero, List.drop_succ_cons, List.getElem?_cons_zero, List.getElem?_cons_succ] at g0 g1 g2 g3 g4 g5
     obtain ⟨z0, rfl, h0⟩ := open_u64 g0
     obtain ⟨z1, rfl, h1⟩ := open_u64 g1
     obtain ⟨L2, v2, l2, q2⟩ := open_texts g2 (fun k hk => hw k (by
      rw [hx]
      simp only [DataW.weights, Tryz.underlying26]
      exact DataW.weights_mem_each (j := 2) rfl rfl k hk))
     obtain ⟨s3, rfl, hs3⟩ := open_str g3 (fun k hk => hw k (by
      rw [hx]
      simp only [DataW.weights, Tryz.underlying26]
      exact DataW.weights_mem_each (j := 3) rfl rfl k hk))
     obtain ⟨s4, rfl, hs4⟩ := open_str g4 (fun k hk => hw k (by
      rw [hx]
      simp only [DataW.weights, Tryz.underlying26]
      exact DataW.weights_mem_each (j := 4) rfl rfl k hk))
     obtain ⟨L5, v5, l5, q5⟩ := open_medias g5 (fun k hk => hw k (by
      rw [hx]
      simp only [DataW.weights, Tryz.underlying26]
      exact DataW.weights_mem_each (j := 5) rfl rfl k hk))
     refine ⟨_, ⟨z0, z1, L2, s3, s4, L5⟩, _, _, rfl, ⟨rfl, v2, v5⟩, ⟨?_, ?_, fun b hb => ?_, ?_, ?_, q5, h0, h1⟩⟩
     · show s3.size ≤ _; omega
     · show s4.size ≤ _; omega
     · have := q2 b hb; omega
     · show L2.length ≤ _; omega
     · show L5.length ≤ _; omega
end
end Go.Proofs.YthpfeihmfmahmaaGreat
