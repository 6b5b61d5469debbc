import Derived.Test.YtbbedhecfipdjaaGreatDoorPkDescPrintsA21
import Derived.Test.YtbbedhecfipdjaaGreatDoorPkDescPrintsA14
import Derived.Test.YtbbedhecfipdjaaGreatDoorPkDescPrintsA17
import Derived.Test.YtbbedhecfipdjaaGreatDoorPkDescPrintsA22
import Derived.Test.YtbbedhecfipdjaaGreatDoorPkDescPrintsA25
import Derived.Test.YtbbedhecfipdjaaGreatDoorPkDescPrintsA00
import Derived.Test.YtbbedhecfipdjaaGreatDoorPkDescPrintsA02
import Derived.Deep.Slices
import Derived.Deep.Fields
import Derived.OpenShut
import Derived.ChangeOld
import Derived.ChangeSame
import Derived.SizedLaws
import Derived.HandedShaped
import Derived.Test.YtbbedhecfipdjaaGreatDoorPkDescPrintsA06
import Derived.Lib.LaidTab
import Derived.ChangeArms
import Derived.LaidLaws
namespace Go.Proofs.YtbbedhecfipdjaaGreatDoor
open Go.RowKit
set_option linter.unusedVariables false
set_option linter.unusedSimpArgs false
theorem lineA_small {a : AttrS} (h1 : a.name.size ≤ 100000) (h2 : a.value.size ≤ 100000) : (lineA a).length ≤ 300000 := by
 unfold lineA valTail
 simp only [List.length_append, List.length_cons, List.length_nil, tx_length]
 split
 · simp only [List.length_nil]; omega
 · simp only [List.length_cons, tx_length]; omega
theorem linesP_small {m : MediaS} (h : mayM m = true) (ht : TypedM m) : (linesP (partM m)).length ≤ 66 ∧ ∀ a ∈ linesP (partM m), a.length ≤ 300000 := by
 obtain ⟨s1, s2⟩ := small_part h ht
 have hf := attrsM_few h
 have hc : (connL (partM m).conn).length ≤ 1 := by unfold connL; split <;> simp
 unfold linesP
 refine ⟨?_, fun a ha => ?_⟩
 · rw [List.length_cons, List.length_append]
   unfold linesA
   rw [List.length_map]
   show (connL (partM m).conn).length + (attrsM m).length + 1 ≤ _
   omega
 · rw [List.mem_cons, List.mem_append] at ha
   rcases ha with rfl | ha | ha
   · simp only [List.length_append, List.length_cons, List.length_nil, tx_length]; omega
   · unfold connL at ha
     split at ha
     · cases ha
     · rw [List.mem_singleton] at ha
       subst ha
       show ([99, 61] ++ tx (bs wConn)).length ≤ _
       rw [tx_bs]
       decide
   · unfold linesA at ha
     obtain ⟨x, hx, rfl⟩ := List.mem_map.1 ha
     have := names_part m x hx
     exact lineA_small (by omega) (s2 x hx)
theorem small_text {d : DescS} (hg : goodD d = true) (hm : ∀ m ∈ d.media, mayM m = true) (ht : TypedD d) : (textS (sesD d)).length ≤ 1099511627776 := by
 obtain ⟨h1, h2, h3, h4, h5, h6, h7⟩ := goodD_parts hg
 have w1 := (wordP_len h1).2
 have w2 := (wordP_len h2).2
 rw [tx_length] at w1 w2
 have hB := goodD_few hg
 have hbs : ∀ b ∈ d.bundle, b.size ≤ 16 := fun b hb => by
  have := (wordP_len (goodD_bundle hg b hb)).2
  rwa [tx_length] at this
 have hfl := bundle_fl hbs
 have h8 : d.bundle.length * (16 + 1) ≤ 8 * (16 + 1) := Nat.mul_le_mul_right _ hB
 have d1 := dec_len 19 d.id (by rw [show (10 : Nat) ^ (19 + 1) = 100000000000000000000 by decide]; have := ht.1; omega)
 have d2 := dec_len 19 d.ver (by rw [show (10 : Nat) ^ (19 + 1) = 100000000000000000000 by decide]; have := ht.2.1; omega)
 have hA : (headA d).length ≤ 3 ∧ ∀ a ∈ headA d, (lineA a).length ≤ 300000 := by
  unfold headA
  constructor
  · rw [List.length_append]
    split <;> simp
  · intro a ha
    rw [List.mem_append] at ha
    rcases ha with ha | ha
    · split at ha
      · cases ha
      · rw [List.mem_singleton] at ha
        subst ha
        refine lineA_small (by show (bs nGroup).size ≤ _; decide) ?_
        show (bs (groupT d.bundle)).size ≤ _
        rw [bs_size]
        unfold groupT
        rw [List.length_append]
        have h9 : wBundle.length = 6 := rfl
        omega
    · simp only [List.mem_cons, List.not_mem_nil, or_false] at ha
      rcases ha with rfl | rfl
      · exact lineA_small (by show (bs nUfrag).size ≤ _; decide) (by show d.name.size ≤ _; omega)
      · exact lineA_small (by show (bs nPwd).size ≤ _; decide) (by show d.pass.size ≤ _; omega)
 have hP : ((d.media.map partM).flatMap linesP).length ≤ 528 ∧ ∀ a ∈ (d.media.map partM).flatMap linesP, a.length ≤ 300000 := by
  constructor
  · have := flat_le (m := 66) (f := linesP) (d.media.map partM) (fun p hp => by
     obtain ⟨m, hmm, rfl⟩ := List.mem_map.1 hp
     exact (linesP_small (hm m hmm) (ht.2.2 m hmm)).1)
    rw [List.length_map] at this
    have : d.media.length * 66 ≤ 8 * 66 := Nat.mul_le_mul_right _ h3
    omega
  · intro a ha
    obtain ⟨p, hp, ha⟩ := List.mem_flatMap.1 ha
    obtain ⟨m, hmm, rfl⟩ := List.mem_map.1 hp
    exact (linesP_small (hm m hmm) (ht.2.2 m hmm)).2 a ha
 have hl : (linesS (sesD d)).length ≤ 535 := by
  unfold linesS headL
  simp only [List.length_append, List.length_cons, List.length_nil]
  show _ + ((linesA (headA d)).length + ((d.media.map partM).flatMap linesP).length) ≤ _
  unfold linesA
  rw [List.length_map]
  omega
 have ha : ∀ a ∈ linesS (sesD d), a.length ≤ 300000 := by
  intro a ha
  unfold linesS headL at ha
  rw [List.mem_append, List.mem_append] at ha
  rcases ha with ha | ha | ha
  · have ho : (originT d.id d.ver).length ≤ 100 := by
     unfold originT
     simp only [List.length_cons, List.length_append, List.length_nil]
     omega
    simp only [List.mem_cons, List.not_mem_nil, or_false] at ha
    rcases ha with rfl | rfl | rfl | rfl
    · decide
    · show ([111, 61] ++ tx (bs (originT d.id d.ver))).length ≤ _
      rw [tx_bs, List.length_append]
      have : ([111, 61] : Tx).length = 2 := rfl
      omega
    · show ([115, 61] ++ tx (bs [45])).length ≤ _
      rw [tx_bs]
      decide
    · show ([116, 61] ++ tx (bs [48, 32, 48])).length ≤ _
      rw [tx_bs]
      decide
  · have ha : a ∈ (headA d).map lineA := ha
    obtain ⟨x, hx, rfl⟩ := List.mem_map.1 ha
    exact hA.2 x hx
  · exact hP.2 a ha
 have := textL_le (linesS (sesD d)) ha
 unfold textS
 have : (linesS (sesD d)).length * (300000 + 2) ≤ 535 * (300000 + 2) := Nat.mul_le_mul_right _ hl
 omega
theorem SesO.five {w' : World} {d : DescS} {Y : Array Value} {vA vP : Value} {b : Bool} (h : (b = true ∧ (∀ m ∈ d.media, mayM m = true) ∧ SesV w' w'.heap.size Y (sesD d) vA vP) ∨ (b = false ∧ (∃ m ∈ d.media, mayM m = false) ∧ Y = #[.string ⟨#[]⟩, .string ⟨#[]⟩, .string ⟨#[]⟩, .slice none 0 0, .slice none 0 0])) : Y.size = 5 ∧ Y.toList.all (·.oneCell') = true := by
 rcases h with ⟨_, _, h⟩ | ⟨_, _, rfl⟩
 · rw [h.form]
   refine ⟨rfl, ?_⟩
   simp only [List.all_cons, List.all_nil, Rows.one h.attrs, Rows.one h.parts]
   rfl
 · exact ⟨rfl, rfl⟩
set_option maxHeartbeats 6400000 in
set_option maxRecDepth 100000 in
theorem r8Print_any (D : Array Value) (d : DescS) (vB vM : Value) (w : World) (h : DescV w w.heap.size D d vB vM) (hz : SizD d) :
 Calls Tryz.prog 28 #[.agg D] w (PrintDO w d) := by
 have HD : Hid (∀ W, Below w.heap.size w W → DescV W W.heap.size D d vB vM) := Lib.hid fun W hW => h.under hW
 have hsz6 : D.size = 6 := by rw [h.form]; rfl
 have hb0 : Below w.heap.size w (w.alloc (.cells D 62)) := (Below.refl _ w).alloc (Nat.le_refl _) _
 have H0 := Lib.hid (And.intro hb0 (Whole.new w 62 D))
 have HGD : Hid (∀ W, Below w.heap.size w W → Calls Tryz.prog 31 #[.agg D] W fun e w' => e = .returned (.bool (goodD d)) ∧ Below W.heap.size W w') := Lib.hid fun W hW => r8Good_any D d vB vM W (HD.out W hW) hz
 have HSS : Hid (goodD d = true → ∀ W, Below w.heap.size w W → Calls Tryz.prog 57 #[.agg D] W (SesO W d)) := Lib.hid fun hg W hW => by
  have hB := goodD_few hg
  have h3 := (goodD_parts hg).2.2.1
  have hbs : ∀ b ∈ d.bundle, b.size ≤ 16 := fun b hb => by
   have := (wordP_len (goodD_bundle hg b hb)).2
   rwa [tx_length] at this
  have hfl := bundle_fl hbs
  have h8 : d.bundle.length * (16 + 1) ≤ 8 * (16 + 1) := Nat.mul_le_mul_right _ hB
  exact session_any D d vB vM W (HD.out W hW) hz.media hz.ids.1 hz.ids.2 (by omega) (by omega) (by omega)
 have HZ := Lib.hid hz
 obtain ⟨N, hN⟩ : ∃ N, w.heap.size = N := ⟨_, rfl⟩
 have HN := Lib.hid hN
 have HNN : Hid (N ≤ w.heap.size) := Lib.hid (by omega)
 have HNB : Hid (N ≤ (w.alloc (.cells D 62)).heap.size) := Lib.hid (by have := hb0.size; omega)
 rw [hN] at H0
 clear h hz hb0 hN
 cases hg : goodD d with
 | false =>
   have HNO : Hid (PrD d ⟨#[]⟩ 1) := Lib.hid (PrD.none fun h => by have := h.1; rw [hg] at this; cases this)
   rw [hg] at HGD
   clear hg HSS
   go_enter Tryz.func28, Tryz.ntmps28
   go_upto_region 1 with fail
   simp only [HN.out]
   generalize w.alloc (.cells D 62) = w0 at *
   go_wp2_with (first
    | ((with_reducible refine wpList_load_all ?_ 62 (.tmp 1) ?_ H0.out.2 ?_ Tryz.sizeDesc ?_ Tryz.underlying62 ?_ ?_); (with_reducible rfl); (with_reducible rfl); rfl; exact hsz6; rfl)
    | (go_at_call 31; (with_reducible refine (HGD.out _ (by rw [HN.out]; exact H0.out.1)).mono ?_); rintro e w1 ⟨rfl, hb1⟩; have H1 := Lib.hid hb1; clear hb1; dsimp only))
   go_ret2
   exact ⟨_, _, rfl, HNO.out, by rw [HN.out]; exact below_chain HNN.out H0.out.1 H1.out⟩
 | true =>
   have HGT := Lib.hid hg
   have HSE : Hid (∀ W, Below N w W → Calls Tryz.prog 57 #[.agg D] W (SesO W d)) := Lib.hid fun W hW => HSS.out hg W (by rw [HN.out]; exact hW)
   rw [hg] at HGD
   clear hg HSS
   go_enter Tryz.func28, Tryz.ntmps28
   go_upto_region 1 with fail
   simp only [HN.out]
   generalize w.alloc (.cells D 62) = w0 at *
   go_upto_region 3 with (first
    | ((with_reducible refine wpList_load_all ?_ 62 (.tmp 1) ?_ H0.out.2 ?_ Tryz.sizeDesc ?_ Tryz.underlying62 ?_ ?_); (with_reducible rfl); (with_reducible rfl); rfl; exact hsz6; rfl)
    | (go_at_call 31; (with_reducible refine (HGD.out _ (by rw [HN.out]; exact H0.out.1)).mono ?_); rintro e w1 ⟨rfl, hb1⟩; have H1 : Hid (Below N w w1 ∧ Whole w1 N 62 D) := Lib.hid ⟨below_chain HNN.out H0.out.1 hb1, H0.out.2.under hb1⟩; clear hb1; dsimp only))
   go_cut [4, 5] (fun s4 s5 wc => ∃ (g : Nat) (Y : Array Value) (vA vP : Value) (b : Bool), s4 = .pointer (some ⟨g, 0, none⟩) ∧ s5 = .bool b ∧ Below N w wc ∧ Whole wc g 107 Y ∧ Y.size = 5 ∧ ((b = true ∧ (∀ m ∈ d.media, mayM m = true) ∧ SesV wc wc.heap.size Y (sesD d) vA vP) ∨ (b = false ∧ (∃ m ∈ d.media, mayM m = false))))
   case first =>
    go_wp2_with (first
     | ((with_reducible refine wpList_load_all ?_ 62 (.tmp 1) ?_ H1.out.2 ?_ Tryz.sizeDesc ?_ Tryz.underlying62 ?_ ?_); (with_reducible rfl); (with_reducible rfl); rfl; exact hsz6; rfl)
     | (go_at_call 57; (with_reducible refine (HSE.out _ H1.out.1).mono ?_); rintro e w2 ⟨Y, vA, vP, b, rfl, hb2, hc⟩; have HY := Lib.hid (SesO.five hc); have HC := Lib.hid hc; have HB2 := Lib.hid hb2; clear hc hb2; dsimp only)
     | ((with_reducible refine wpList_storeS Y ?_ 107 (.tmp 4) (.tmp 14) ?_ ?_ ?_ (Whole.new _ _ _) Tryz.sizeRsSes HY.out.1 ?_ HY.out.2 ?_); (with_reducible rfl); (with_reducible rfl); rfl; rfl; rfl))
    go_meet
    exact ⟨_, Y, vA, vP, b, rfl, rfl, below_row ((below_chain HNN.out H1.out.1 HB2.out).alloc (Nat.le_trans (Nat.le_of_lt H1.out.2.lt) HB2.out.size) _) (Nat.le_trans (Nat.le_of_lt H1.out.2.lt) HB2.out.size) _, (Whole.new _ _ _).row _, HY.out.1, HC.out.elim (fun h => .inl ⟨h.1, h.2.1, h.2.2.under (below_row ((Below.refl _ _).alloc (Nat.le_refl _) _) (Nat.le_refl _) _)⟩) (fun h => .inr ⟨h.1, h.2.1⟩)⟩
   case rest =>
    obtain ⟨g, Y, vA, vP, b, rfl, rfl, hb, hw, hys, hc⟩ := hcut
    have H2 := Lib.hid (And.intro hb hw)
    rcases hc with ⟨rfl, hmm, hv⟩ | ⟨rfl, hex⟩
    · have HMM := Lib.hid hmm
      have HPT : Hid (Calls Tryz.prog 58 #[.agg Y] wc (PrintO wc (sesD d))) := Lib.hid (rPrint_any Y (sesD d) vA vP wc hv (small_text HGT.out hmm HZ.out.typed))
      clear hb hw hmm hv
      go_upto_region 6 with fail
      go_cut [6, 7] (fun s6 s7 wd => ∃ (t : ByteArray) (er : Int), s6 = .string t ∧ s7 = .int .i64 er ∧ PrO (sesD d) t er ∧ Below wc.heap.size wc wd)
      case first =>
       go_wp2_with (first
        | ((with_reducible refine wpList_load_all ?_ 107 (.tmp 4) ?_ H2.out.2 ?_ Tryz.sizeRsSes ?_ Tryz.underlying107 ?_ ?_); (with_reducible rfl); (with_reducible rfl); rfl; exact hys; rfl)
        | (go_at_call 58; (with_reducible refine HPT.out.mono ?_); rintro e w5 ⟨t, er, rfl, hpr, hb5⟩; have H5 := Lib.hid (And.intro hpr hb5); clear hpr hb5; dsimp only))
       go_meet
       exact ⟨t, er, rfl, rfl, H5.out.1, H5.out.2⟩
      case rest =>
       obtain ⟨t, er, rfl, rfl, hpr, hb5⟩ := hcut
       have H5 := Lib.hid (And.intro (PrD.of HGT.out HMM.out hpr) (below_chain HNN.out H2.out.1 hb5))
       rcases hpr with ⟨-, rfl, -⟩ | ⟨-, rfl, rfl⟩
       · clear hb5
         go_wp2
         go_ret2
         exact ⟨_, _, rfl, H5.out.1, by rw [HN.out]; exact H5.out.2⟩
       · clear hb5
         go_wp2
         go_ret2
         exact ⟨_, _, rfl, H5.out.1, by rw [HN.out]; exact H5.out.2⟩
    · have HNT : Hid (PrD d ⟨#[]⟩ 1) := Lib.hid (PrD.none fun h => by
       obtain ⟨m, hm, h2⟩ := hex
       have := h.2.1 m hm
       rw [h2] at this
       cases this)
      clear hb hw hex
      go_wp2
      go_ret2
      exact ⟨_, _, rfl, HNT.out, by rw [HN.out]; exact H2.out.1⟩
set_option maxHeartbeats 6400000 in
set_option maxRecDepth 100000 in
theorem prints8_walk (D : Array Value) (d : DescS) (vB vM : Value) (w : World) (h : DescV w w.heap.size D d vB vM) (hz : SizD d) (hE : Env w) (h7 : 7 ≤ w.heap.size) :
 Calls Tryz.prog 8 #[.agg D] w fun e w' => e = .returned (.bool true) ∧ Below w.heap.size w w' := by
 obtain ⟨AB, cB, hvB, -⟩ := Rows.form h.bundle
 obtain ⟨AM, cM, hvM, -⟩ := Rows.form h.media
 obtain rfl := h.form
 obtain ⟨n, hn⟩ : ∃ n, d.bundle.length = n := ⟨_, rfl⟩
 obtain ⟨nM, hnM⟩ : ∃ n, d.media.length = n := ⟨_, rfl⟩
 rw [hn] at hvB
 rw [hnM] at hvM
 subst hvB hvM
 have HD : Hid (∀ W, Below w.heap.size w W → DescV W W.heap.size #[.int .u64 d.id, .int .u64 d.ver, .slice AB n cB, .string d.name, .string d.pass, .slice AM nM cM] d (.slice AB n cB) (.slice AM nM cM)) := Lib.hid fun W hW => h.under hW
 have hb0 : Below w.heap.size w (w.alloc (.cells #[.int .u64 d.id, .int .u64 d.ver, .slice AB n cB, .string d.name, .string d.pass, .slice AM nM cM] 62)) := (Below.refl _ w).alloc (Nat.le_refl _) _
 have H0 := Lib.hid (And.intro hb0 (Whole.new w 62 #[.int .u64 d.id, .int .u64 d.ver, .slice AB n cB, .string d.name, .string d.pass, .slice AM nM cM]))
 have HAW : Hid (∀ W, Below w.heap.size w W → Calls Tryz.prog 27 #[] W fun e w' => e = .returned (.bool true) ∧ Below W.heap.size W w') := Lib.hid fun W hW => awake8_any W (hE.under hW) (Nat.le_trans h7 hW.size)
 have HRP : Hid (∀ W, Below w.heap.size w W → Calls Tryz.prog 28 #[.agg #[.int .u64 d.id, .int .u64 d.ver, .slice AB n cB, .string d.name, .string d.pass, .slice AM nM cM]] W (PrintDO W d)) := Lib.hid fun W hW => r8Print_any _ d _ _ W (HD.out W hW) hz
 have HPR : Hid (∀ W, Below w.heap.size w W → Calls Tryz.prog 29 #[.agg #[.int .u64 d.id, .int .u64 d.ver, .slice AB n cB, .string d.name, .string d.pass, .slice AM nM cM]] W (PrintDO W d)) := Lib.hid fun W hW => dePrint_any _ d _ _ W (HD.out W hW) hz (hE.under hW) (Nat.le_trans h7 hW.size)
 have HGD : Hid (∀ W, Below w.heap.size w W → Calls Tryz.prog 30 #[.agg #[.int .u64 d.id, .int .u64 d.ver, .slice AB n cB, .string d.name, .string d.pass, .slice AM nM cM]] W fun e w' => e = .returned (.bool (goodD d)) ∧ Below W.heap.size W w') := Lib.hid fun W hW => deGood_any _ d _ _ W (HD.out W hW) hz
 have HRG : Hid (∀ W, Below w.heap.size w W → Calls Tryz.prog 31 #[.agg #[.int .u64 d.id, .int .u64 d.ver, .slice AB n cB, .string d.name, .string d.pass, .slice AM nM cM]] W fun e w' => e = .returned (.bool (goodD d)) ∧ Below W.heap.size W w') := Lib.hid fun W hW => r8Good_any _ d _ _ W (HD.out W hW) hz
 have HKB : Hid (∀ W W', Below w.heap.size w W → Below W.heap.size W W' → Below w.heap.size w W') := Lib.hid fun W W' h1 h2 => h1.trans (h2.mono h1.size)
 obtain ⟨gd, hgd⟩ : ∃ b, goodD d = b := ⟨_, rfl⟩
 rw [hgd] at HGD HRG
 obtain ⟨N, hN⟩ : ∃ N, w.heap.size = N := ⟨_, rfl⟩
 have HN := Lib.hid hN
 rw [hN] at H0 HAW HRP HPR HGD HRG HKB
 clear h hz hE h7 hb0 hn hnM hN hgd
 go_enter Tryz.func8, Tryz.ntmps8
 go_upto_region 1 with fail
 simp only [HN.out]
 generalize w.alloc (.cells #[.int .u64 d.id, .int .u64 d.ver, .slice AB n cB, .string d.name, .string d.pass, .slice AM nM cM] 62) = w0 at *
 go_upto_region 3 with (go_at_call 27; (with_reducible refine (HAW.out _ H0.out.1).mono ?_); rintro e w1 ⟨rfl, hb1⟩; have H1 : Hid (Below N w w1 ∧ Whole w1 N 62 #[.int .u64 d.id, .int .u64 d.ver, .slice AB n cB, .string d.name, .string d.pass, .slice AM nM cM]) := Lib.hid ⟨HKB.out _ _ H0.out.1 hb1, H0.out.2.under hb1⟩; clear hb1; dsimp only)
 go_upto_region 4 with (first
  | ((with_reducible refine wpList_load_all ?_ 62 (.tmp 1) ?_ H1.out.2 ?_ Tryz.sizeDesc ?_ Tryz.underlying62 ?_ ?_); (with_reducible rfl); (with_reducible rfl); rfl; rfl; rfl)
  | (go_at_call 28; (with_reducible refine (HRP.out _ H1.out.1).mono ?_); rintro e w2 ⟨t, er, rfl, hpr, hb2⟩; have H2 : Hid (Below N w w2 ∧ Whole w2 N 62 #[.int .u64 d.id, .int .u64 d.ver, .slice AB n cB, .string d.name, .string d.pass, .slice AM nM cM] ∧ PrD d t er) := Lib.hid ⟨HKB.out _ _ H1.out.1 hb2, H1.out.2.under hb2, hpr⟩; clear hb2 hpr; dsimp only))
 go_upto_region 5 with (first
  | ((with_reducible refine wpList_load_all ?_ 62 (.tmp 1) ?_ H2.out.2.1 ?_ Tryz.sizeDesc ?_ Tryz.underlying62 ?_ ?_); (with_reducible rfl); (with_reducible rfl); rfl; rfl; rfl)
  | (go_at_call 29; (with_reducible refine (HPR.out _ H2.out.1).mono ?_); rintro e w3 ⟨t', er', rfl, hpr, hb3⟩; obtain ⟨rfl, rfl⟩ := PrD.one H2.out.2.2 hpr; have H3 : Hid (Below N w w3 ∧ Whole w3 N 62 #[.int .u64 d.id, .int .u64 d.ver, .slice AB n cB, .string d.name, .string d.pass, .slice AM nM cM]) := Lib.hid ⟨HKB.out _ _ H2.out.1 hb3, H2.out.2.1.under hb3⟩; clear hb3 hpr; dsimp only))
 obtain ⟨B3, hB3⟩ : ∃ B, w3.heap.size = B := ⟨_, rfl⟩
 have HB3 := Lib.hid hB3
 have HNB : Hid (N ≤ B3) := Lib.hid (by have := H3.out.2.lt; omega)
 clear hB3
 have HUP : Hid (∀ W, Below B3 w3 W → Below N w W) := Lib.hid fun W hW => H3.out.1.trans (hW.mono HNB.out)
 have HKC : Hid (∀ W W', Below B3 w3 W → Below W.heap.size W W' → Below B3 w3 W') := Lib.hid fun W W' h1 h2 => h1.trans (h2.mono (by have := h1.size; rw [HB3.out] at this; exact this))
 have HX : Hid (∀ W, Below B3 w3 W → Whole W N 62 #[.int .u64 d.id, .int .u64 d.ver, .slice AB n cB, .string d.name, .string d.pass, .slice AM nM cM]) := Lib.hid fun W hW => H3.out.2.below hW (by have := H3.out.2.lt; rw [HB3.out] at this; exact this)
 have HG0 : Hid (∀ W, Below B3 w3 W → W.cell? ⟨N, 0, none⟩ = some (.int .u64 d.id)) := Lib.hid fun W hW => (HX.out W hW).cell 0
 have HG1 : Hid (∀ W, Below B3 w3 W → W.cell? ⟨N, 1, none⟩ = some (.int .u64 d.ver)) := Lib.hid fun W hW => (HX.out W hW).cell 1
 have HG2 : Hid (∀ W, Below B3 w3 W → W.cell? ⟨N, 2, none⟩ = some (.slice AB n cB)) := Lib.hid fun W hW => (HX.out W hW).cell 2
 have HG3 : Hid (∀ W, Below B3 w3 W → W.cell? ⟨N, 3, none⟩ = some (.string d.name)) := Lib.hid fun W hW => (HX.out W hW).cell 3
 have HG4 : Hid (∀ W, Below B3 w3 W → W.cell? ⟨N, 4, none⟩ = some (.string d.pass)) := Lib.hid fun W hW => (HX.out W hW).cell 4
 have HG5 : Hid (∀ W, Below B3 w3 W → W.cell? ⟨N, 5, none⟩ = some (.slice AM nM cM)) := Lib.hid fun W hW => (HX.out W hW).cell 5
 have HR3 : Hid (Below B3 w3 w3.drew) := Lib.hid (Below.refl _ _).drew
 have HQT : Hid ((t.toList == t.toList) = true) := Lib.hid (by simp)
 have hq : (t.toList == t.toList) = true := by simp
 have hq2 : (er == er) = true := by simp
 refine wp_region_held_drew (S := fun W => Below B3 w3 W) (by kernel_rfl) HR3.out (fun hHeld => ?_)
 generalize w3.drew = w4 at hHeld ⊢
 refine wpAnyH_take (i := 0) (v := _) rfl (by as_aux_lemma => kernel_rfl) (by as_aux_lemma => kernel_rfl) (by as_aux_lemma => kernel_rfl) (fun _ _ _ h => h) (Or.inl ⟨by rfl, fun w h => by have e0 := HG0.out w h; have e1 := HG1.out w h; have e2 := HG2.out w h; have e3 := HG3.out w h; have e4 := HG4.out w h; have e5 := HG5.out w h; clear h; go_simp; (try with_reducible rfl)⟩) (by assumption) ?_
 simp only [Act.put, List.getElem_toArray, List.getElem_cons_succ, List.getElem_cons_zero, List.setIfInBounds_toArray, List.set_cons_succ, List.set_cons_zero]
 refine wpAnyH_take (i := 1) (v := _) rfl (by as_aux_lemma => kernel_rfl) (by as_aux_lemma => kernel_rfl) (by as_aux_lemma => kernel_rfl) (fun _ _ _ h => h) (Or.inl ⟨by rfl, fun w h => by have e0 := HG0.out w h; have e1 := HG1.out w h; have e2 := HG2.out w h; have e3 := HG3.out w h; have e4 := HG4.out w h; have e5 := HG5.out w h; clear h; go_simp; (try with_reducible rfl)⟩) (by assumption) ?_
 simp only [Act.put, List.getElem_toArray, List.getElem_cons_succ, List.getElem_cons_zero, List.setIfInBounds_toArray, List.set_cons_succ, List.set_cons_zero]
 refine wpAnyH_take (i := 2) (v := _) rfl (by as_aux_lemma => kernel_rfl) (by as_aux_lemma => kernel_rfl) (by as_aux_lemma => kernel_rfl) (fun _ _ _ h => h) (Or.inl ⟨by rfl, fun w h => by have e0 := HG0.out w h; have e1 := HG1.out w h; have e2 := HG2.out w h; have e3 := HG3.out w h; have e4 := HG4.out w h; have e5 := HG5.out w h; clear h; go_simp; (try with_reducible rfl)⟩) (by assumption) ?_
 simp only [Act.put, List.getElem_toArray, List.getElem_cons_succ, List.getElem_cons_zero, List.setIfInBounds_toArray, List.set_cons_succ, List.set_cons_zero]
 refine wpAnyH_take (i := 3) (v := _) rfl (by as_aux_lemma => kernel_rfl) (by as_aux_lemma => kernel_rfl) (by as_aux_lemma => kernel_rfl) (fun _ _ _ h => h) (Or.inl ⟨by rfl, fun w h => by have e0 := HG0.out w h; have e1 := HG1.out w h; have e2 := HG2.out w h; have e3 := HG3.out w h; have e4 := HG4.out w h; have e5 := HG5.out w h; clear h; go_simp; (try with_reducible rfl)⟩) (by assumption) ?_
 simp only [Act.put, List.getElem_toArray, List.getElem_cons_succ, List.getElem_cons_zero, List.setIfInBounds_toArray, List.set_cons_succ, List.set_cons_zero]
 refine wpAnyH_take (i := 4) (v := _) rfl (by as_aux_lemma => kernel_rfl) (by as_aux_lemma => kernel_rfl) (by as_aux_lemma => kernel_rfl) (fun _ _ _ h => h) (Or.inl ⟨by rfl, fun w h => by have e0 := HG0.out w h; have e1 := HG1.out w h; have e2 := HG2.out w h; have e3 := HG3.out w h; have e4 := HG4.out w h; have e5 := HG5.out w h; clear h; go_simp; (try with_reducible rfl)⟩) (by assumption) ?_
 simp only [Act.put, List.getElem_toArray, List.getElem_cons_succ, List.getElem_cons_zero, List.setIfInBounds_toArray, List.set_cons_succ, List.set_cons_zero]
 refine wpAnyH_take (i := 5) (v := _) rfl (by as_aux_lemma => kernel_rfl) (by as_aux_lemma => kernel_rfl) (by as_aux_lemma => kernel_rfl) (fun _ _ _ h => h) (Or.inl ⟨by rfl, fun w h => by have e0 := HG0.out w h; have e1 := HG1.out w h; have e2 := HG2.out w h; have e3 := HG3.out w h; have e4 := HG4.out w h; have e5 := HG5.out w h; clear h; go_simp; (try with_reducible rfl)⟩) (by assumption) ?_
 simp only [Act.put, List.getElem_toArray, List.getElem_cons_succ, List.getElem_cons_zero, List.setIfInBounds_toArray, List.set_cons_succ, List.set_cons_zero]
 refine wpAnyH_take (i := 6) (v := _) rfl (by as_aux_lemma => kernel_rfl) (by as_aux_lemma => kernel_rfl) (by as_aux_lemma => kernel_rfl) (fun _ _ _ h => h) (Or.inl ⟨by rfl, fun w h => by have e0 := HG0.out w h; have e1 := HG1.out w h; have e2 := HG2.out w h; have e3 := HG3.out w h; have e4 := HG4.out w h; have e5 := HG5.out w h; clear h; go_simp; (try with_reducible rfl)⟩) (by assumption) ?_
 simp only [Act.put, List.getElem_toArray, List.getElem_cons_succ, List.getElem_cons_zero, List.setIfInBounds_toArray, List.set_cons_succ, List.set_cons_zero]
 refine wpAnyH_take (i := 7) (v := _) rfl (by as_aux_lemma => kernel_rfl) (by as_aux_lemma => kernel_rfl) (by as_aux_lemma => kernel_rfl) (fun _ _ _ h => h) (Or.inl ⟨by rfl, fun w h => by have e0 := HG0.out w h; have e1 := HG1.out w h; have e2 := HG2.out w h; have e3 := HG3.out w h; have e4 := HG4.out w h; have e5 := HG5.out w h; clear h; go_simp; (try with_reducible rfl)⟩) (by assumption) ?_
 simp only [Act.put, List.getElem_toArray, List.getElem_cons_succ, List.getElem_cons_zero, List.setIfInBounds_toArray, List.set_cons_succ, List.set_cons_zero]
 refine wpAnyH_take (i := 8) (v := _) rfl (by as_aux_lemma => kernel_rfl) (by as_aux_lemma => kernel_rfl) (by as_aux_lemma => kernel_rfl) (fun _ _ _ h => h) (Or.inl ⟨by rfl, fun w h => by have e0 := HG0.out w h; have e1 := HG1.out w h; have e2 := HG2.out w h; have e3 := HG3.out w h; have e4 := HG4.out w h; have e5 := HG5.out w h; clear h; go_simp; (try with_reducible rfl)⟩) (by assumption) ?_
 simp only [Act.put, List.getElem_toArray, List.getElem_cons_succ, List.getElem_cons_zero, List.setIfInBounds_toArray, List.set_cons_succ, List.set_cons_zero]
 refine wpAnyH_take (i := 9) (v := _) rfl (by as_aux_lemma => kernel_rfl) (by as_aux_lemma => kernel_rfl) (by as_aux_lemma => kernel_rfl) (fun _ _ _ h => h) (Or.inl ⟨by rfl, fun w h => by have e0 := HG0.out w h; have e1 := HG1.out w h; have e2 := HG2.out w h; have e3 := HG3.out w h; have e4 := HG4.out w h; have e5 := HG5.out w h; clear h; go_simp; (try with_reducible rfl)⟩) (by assumption) ?_
 simp only [Act.put, List.getElem_toArray, List.getElem_cons_succ, List.getElem_cons_zero, List.setIfInBounds_toArray, List.set_cons_succ, List.set_cons_zero]
 refine wpAnyH_take (i := 11) (v := _) rfl (by as_aux_lemma => kernel_rfl) (by as_aux_lemma => kernel_rfl) (by as_aux_lemma => kernel_rfl) (fun _ _ _ h => h) (Or.inl ⟨by rfl, fun w h => by have e0 := HG0.out w h; have e1 := HG1.out w h; have e2 := HG2.out w h; have e3 := HG3.out w h; have e4 := HG4.out w h; have e5 := HG5.out w h; clear h; go_simp; (try with_reducible rfl)⟩) (by assumption) ?_
 simp only [Act.put, List.getElem_toArray, List.getElem_cons_succ, List.getElem_cons_zero, List.setIfInBounds_toArray, List.set_cons_succ, List.set_cons_zero]
 refine wpAnyH_ready (rs := [10]) (by as_aux_lemma => kernel_rfl) (by simp) ?_
 refine (AllReadyH.cons (i := 10) rfl (fun K hK => ?_) AllReadyH.nil)
 go_simp
 refine (HGD.out _ (HUP.out _ hHeld)).mono ?_
 rintro e w10 ⟨rfl, hb5⟩
 have hbn := HKC.out _ _ hHeld hb5
 refine hK.out _ _ hbn (fun hHeld' => ?_)
 clear hb5 hbn
 clear hK K hHeld
 have hHeld := hHeld'
 clear hHeld'
 try simp only [Act.put]
 refine wpAnyH_ready (rs := [12]) (by as_aux_lemma => kernel_rfl) (by simp) ?_
 refine (AllReadyH.cons (i := 12) rfl (fun K hK => ?_) AllReadyH.nil)
 go_simp
 refine (HRG.out _ (HUP.out _ hHeld)).mono ?_
 rintro e w12 ⟨rfl, hb5⟩
 have hbn := HKC.out _ _ hHeld hb5
 refine hK.out _ _ hbn (fun hHeld' => ?_)
 clear hb5 hbn
 clear hK K hHeld
 have hHeld := hHeld'
 clear hHeld'
 try simp only [Act.put]
 refine wpAnyH_take (i := 13) (v := _) rfl (by as_aux_lemma => kernel_rfl) (by as_aux_lemma => kernel_rfl) (by as_aux_lemma => kernel_rfl) (fun _ _ _ h => h) (Or.inl ⟨by rfl, fun w h => by have e0 := HG0.out w h; have e1 := HG1.out w h; have e2 := HG2.out w h; have e3 := HG3.out w h; have e4 := HG4.out w h; have e5 := HG5.out w h; clear h; go_simp; (try with_reducible rfl)⟩) (by assumption) ?_
 simp only [Act.put, List.getElem_toArray, List.getElem_cons_succ, List.getElem_cons_zero, List.setIfInBounds_toArray, List.set_cons_succ, List.set_cons_zero]
 refine wpAnyH_take (i := 14) (v := _) rfl (by as_aux_lemma => kernel_rfl) (by as_aux_lemma => kernel_rfl) (by as_aux_lemma => kernel_rfl) (fun _ _ _ h => h) (Or.inl ⟨by rfl, fun w h => by have e0 := HG0.out w h; have e1 := HG1.out w h; have e2 := HG2.out w h; have e3 := HG3.out w h; have e4 := HG4.out w h; have e5 := HG5.out w h; clear h; go_simp; (try with_reducible rfl)⟩) (by assumption) ?_
 simp only [Act.put, List.getElem_toArray, List.getElem_cons_succ, List.getElem_cons_zero, List.setIfInBounds_toArray, List.set_cons_succ, List.set_cons_zero]
 refine wpAnyH_take (i := 15) (v := _) rfl (by as_aux_lemma => kernel_rfl) (by as_aux_lemma => kernel_rfl) (by as_aux_lemma => kernel_rfl) (fun _ _ _ h => h) (Or.inl ⟨by rfl, fun w h => by have e0 := HG0.out w h; have e1 := HG1.out w h; have e2 := HG2.out w h; have e3 := HG3.out w h; have e4 := HG4.out w h; have e5 := HG5.out w h; clear h; go_simp; (try with_reducible rfl)⟩) (by assumption) ?_
 simp only [Act.put, List.getElem_toArray, List.getElem_cons_succ, List.getElem_cons_zero, List.setIfInBounds_toArray, List.set_cons_succ, List.set_cons_zero]
 refine wpAnyH_done (by as_aux_lemma => kernel_rfl) ?_ _
 have HL := Lib.hid hHeld
 clear hHeld
 go_wp2
 go_ret
 exact ⟨rfl, by rw [HN.out]; exact HUP.out _ HL.out⟩
end Go.Proofs.YtbbedhecfipdjaaGreatDoor
namespace Go.Proofs.YtbbedhecfipdjaaGreatDoor
open Go.RowKit Go.ChangeShapes Go.WideShapes Go.ChangeAt Go.Deep
set_option linter.unusedVariables false
set_option linter.unusedSimpArgs false
section
variable {H : Type} {enc : TypeId × Value → H} {P : Program} {w : World} {base : Nat} {spare : Nat → Bool} {held : Bool}
end
section
variable {H : Type} {enc : TypeId × Value → H} {W : World} {base : Nat} {sp : Nat → Bool} {held : Bool}
theorem open_rows {α : Type} {t e : TypeId} {sz by_ : Nat} {R : (Nat → Option Value) → α → Prop} {Q : α → Prop} (ht : Tryz.prog.underlying t = some (.slice e)) (hc : Tryz.prog.cellsOf e = sz) (hsz : 0 < sz) (hby : Tryz.prog.bytesOf e = by_)
 (hel : ∀ (n : Nat) (cs : List Value) (y : DataW H × List MemPlace) (f : Nat → Option Value), cs.length = sz → (∀ j, j < sz → f j = cs[j]?) → DataW.trod enc Tryz.prog W base sp held n e cs = some y → (∀ k ∈ y.1.weights Tryz.prog e, k ≤ 140737488351232) → ∃ a, R f a ∧ Q a)
 {fuel : Nat} {v : Value} {x : DataW H × List MemPlace} (h : DataW.trod enc Tryz.prog W base sp held fuel t [v] = some x) (hw : ∀ n ∈ x.1.weights Tryz.prog t, n ≤ 140737488351232) :
 ∃ L : List α, Rows W W.heap.size sz R v L ∧ L.length * by_ ≤ 140737488351232 ∧ ∀ a ∈ L, Q a := by
 rcases open_slice ht h with ⟨hcs, _⟩ | ⟨ad, len, cap, m, n, D, Pl, hcs, hb, hl, hm, hmm, hx, hi⟩
 · simp at hcs
   subst hcs
   exact ⟨[], Rows.nil _ _ _ _, by simp, fun a ha => by cases ha⟩
 · simp at hcs
   subst hcs
   have hlm : len ≤ m := by rw [hmm]; split <;> omega
   rw [hc] at hi
   have hat : ∀ i, i < len → ∃ a : α, R (fun j => W.cell? (ad.add (i * sz + j))) a ∧ Q a ∧ ∃ u, W.cell? (ad.add (i * sz)) = some u := fun i hin => by
    obtain ⟨cs', hcc, htr⟩ := hi i (by omega)
    obtain ⟨_, hcl, hca⟩ := World.cells?_some hcc
    obtain ⟨a, h1, h2⟩ := hel n cs' _ (fun j => W.cell? (ad.add (i * sz + j))) hcl (fun j hj => by
     rw [← Go.Deep.add_add]
     exact hca j hj) htr (fun k hk => hw k (by
      rw [hx]
      simp only [DataW.weights, ht, List.mem_cons, List.mem_append]
      exact .inr (.inl (weights_mem_all (d := D i) (List.mem_map.2 ⟨i, List.mem_range.2 hin, rfl⟩) k hk))))
    refine ⟨a, h1, h2, cs'[0]'(by omega), ?_⟩
    have := hca 0 hsz
    rw [List.getElem?_eq_getElem (by omega)] at this
    exact this
   obtain ⟨L, hL, hR⟩ := pick hat
   refine ⟨L, ⟨some ad, cap, by rw [hL], by omega, hm, (fun e => by cases e), fun hn => ⟨ad, rfl, ?_, fun i a e => (hR i a e).1⟩⟩, ?_, fun a ha => ?_⟩
   · obtain ⟨a, _, _, u, h0⟩ := hat 0 (by omega)
     have := block_lt_of_cell h0
     rwa [add_block] at this
   · have := hw (m * Tryz.prog.bytesOf e) (by
      rw [hx]
      simp only [DataW.weights, ht, List.mem_cons]
      refine .inl ?_
      have e9 : m = ((List.range len).map D).length + ((List.range (m - len)).map fun j => D (len + j)).length := by simp; omega
      rw [← e9])
     rw [hby] at this
     rw [hL]
     exact Nat.le_trans (Nat.mul_le_mul_right _ hlm) this
   · obtain ⟨i, hi2⟩ := List.mem_iff_getElem?.1 ha
     exact (hR i a hi2).2.1
theorem one_cell {cs : List Value} (h : cs.length = 1) : ∃ v, cs = [v] := by
 match cs, h with
 | [v], _ => exact ⟨v, rfl⟩
theorem open_texts {fuel : Nat} {v : Value} {x : DataW H × List MemPlace} (h : DataW.trod enc Tryz.prog W base sp held fuel 24 [v] = some x) (hw : ∀ n ∈ x.1.weights Tryz.prog 24, n ≤ 140737488351232) :
 ∃ L, TextsV W W.heap.size v L ∧ L.length * 16 ≤ 140737488351232 ∧ ∀ s ∈ L, s.size ≤ 140737488351232 :=
 open_rows (e := 9) Tryz.underlying24 (by kernel_rfl) (by decide) (by kernel_rfl) (fun n cs y f hl hf ht hk => by
  obtain ⟨u, rfl⟩ := one_cell hl
  obtain ⟨s, rfl, hs⟩ := open_str ht hk
  exact ⟨s, hf 0 (by decide), hs⟩) h hw
theorem open_i64 {fuel : Nat} {v : Value} {x : DataW H × List MemPlace} (h : DataW.trod enc Tryz.prog W base sp held fuel 3 [v] = some x) : ∃ n : Int, v = .int .i64 n := by
 obtain ⟨n, e, _⟩ := DataW.trod_int Tryz.underlying3 h
 simp at e
 exact ⟨n, e⟩
set_option maxRecDepth 100000 in
theorem open_u32s {fuel : Nat} {v : Value} {x : DataW H × List MemPlace} (h : DataW.trod enc Tryz.prog W base sp held fuel 25 [v] = some x) (hw : ∀ n ∈ x.1.weights Tryz.prog 25, n ≤ 140737488351232) :
 ∃ L, NumsV W W.heap.size v L ∧ L.length * 4 ≤ 140737488351232 ∧ ∀ n ∈ L, n < 4294967296 :=
 open_rows (e := 85) Tryz.underlying25 (by kernel_rfl) (by decide) (by kernel_rfl) (fun n cs y f hl hf ht hk => by
  obtain ⟨z, rfl, _, hz⟩ := DataW.trod_int Tryz.underlying85 ht
  simp [Lit.wf, IntKind.min, IntKind.max, IntKind.signed, IntKind.bits] at hz
  refine ⟨z.toNat, ?_, by omega⟩
  show f 0 = some (.int .u32 (z.toNat : Int))
  rw [show ((z.toNat : Nat) : Int) = z by omega]
  exact hf 0 (by decide)) h hw
set_option maxRecDepth 100000 in
theorem open_exts {fuel : Nat} {v : Value} {x : DataW H × List MemPlace} (h : DataW.trod enc Tryz.prog W base sp held fuel 23 [v] = some x) (hw : ∀ n ∈ x.1.weights Tryz.prog 23, n ≤ 140737488351232) :
 ∃ L, ExtsV W W.heap.size v L ∧ L.length * 24 ≤ 140737488351232 ∧ ∀ a ∈ L, a.uri.size ≤ 140737488351232 :=
 open_rows (e := 84) Tryz.underlying23 (by kernel_rfl) (by decide) (by kernel_rfl) (fun n cs y f hl hf ht hk => by
  obtain ⟨ys, n', _, hy, _, hyl, hfl⟩ := DataW.trod_struct Tryz.underlying84 ht
  match cs, hl with
  | [c0, c1], _ =>
    have f0 : DataW.trod enc Tryz.prog W base sp held n' 3 (([c0, c1].drop 0).take (Tryz.prog.cellsOf 3)) = ys[0]? := hfl 0 _ rfl
    have f1 : DataW.trod enc Tryz.prog W base sp held n' 9 (([c0, c1].drop 1).take (Tryz.prog.cellsOf 9)) = ys[1]? := hfl 1 _ rfl
    rw [show Tryz.prog.cellsOf 3 = 1 by kernel_rfl] at f0
    rw [show Tryz.prog.cellsOf 9 = 1 by kernel_rfl] at f1
    have hyl2 : ys.length = 2 := hyl
    match ys, hyl2 with
    | [y0, y1], _ =>
      simp only [List.drop_zero, List.take_succ_cons, List.take_zero, List.drop_succ_cons, List.getElem?_cons_zero, List.getElem?_cons_succ] at f0 f1
      obtain ⟨z, rfl⟩ := open_i64 f0
      obtain ⟨s, rfl, hs⟩ := open_str f1 (fun k hk2 => hk k (by
       rw [hy]
       simp only [DataW.weights, Tryz.underlying84]
       exact DataW.weights_mem_each (j := 1) rfl rfl k hk2))
      exact ⟨⟨z, s⟩, ⟨hf 0 (by decide), hf 1 (by decide)⟩, hs⟩) h hw
set_option maxRecDepth 100000 in
theorem open_codecs {fuel : Nat} {v : Value} {x : DataW H × List MemPlace} (h : DataW.trod enc Tryz.prog W base sp held fuel 22 [v] = some x) (hw : ∀ n ∈ x.1.weights Tryz.prog 22, n ≤ 140737488351232) :
 ∃ L, CodecsV W W.heap.size v L ∧ L.length * 80 ≤ 140737488351232 ∧ ∀ a ∈ L, (a.name.size ≤ 140737488351232 ∧ a.format.size ≤ 140737488351232 ∧ ∀ f ∈ a.feedback, f.size ≤ 140737488351232) ∧ a.feedback.length * 16 ≤ 140737488351232 :=
 open_rows (e := 58) Tryz.underlying22 (by kernel_rfl) (by decide) (by kernel_rfl) (fun n cs y f hl hf ht hk => by
  obtain ⟨ys, n', _, hy, _, hyl, hfl⟩ := DataW.trod_struct Tryz.underlying58 ht
  match cs, hl with
  | [c0, c1, c2, c3, c4, c5], _ =>
    have f0 : DataW.trod enc Tryz.prog W base sp held n' 3 (([c0, c1, c2, c3, c4, c5].drop 0).take (Tryz.prog.cellsOf 3)) = ys[0]? := hfl 0 _ rfl
    have f1 : DataW.trod enc Tryz.prog W base sp held n' 9 (([c0, c1, c2, c3, c4, c5].drop 1).take (Tryz.prog.cellsOf 9)) = ys[1]? := hfl 1 _ rfl
    have f2 : DataW.trod enc Tryz.prog W base sp held n' 3 (([c0, c1, c2, c3, c4, c5].drop 2).take (Tryz.prog.cellsOf 3)) = ys[2]? := hfl 2 _ rfl
    have f3 : DataW.trod enc Tryz.prog W base sp held n' 3 (([c0, c1, c2, c3, c4, c5].drop 3).take (Tryz.prog.cellsOf 3)) = ys[3]? := hfl 3 _ rfl
    have f4 : DataW.trod enc Tryz.prog W base sp held n' 9 (([c0, c1, c2, c3, c4, c5].drop 4).take (Tryz.prog.cellsOf 9)) = ys[4]? := hfl 4 _ rfl
    have f5 : DataW.trod enc Tryz.prog W base sp held n' 24 (([c0, c1, c2, c3, c4, c5].drop 5).take (Tryz.prog.cellsOf 24)) = ys[5]? := hfl 5 _ rfl
    rw [show Tryz.prog.cellsOf 3 = 1 by kernel_rfl] at f0 f2 f3
    rw [show Tryz.prog.cellsOf 9 = 1 by kernel_rfl] at f1 f4
    rw [show Tryz.prog.cellsOf 24 = 1 by kernel_rfl] at f5
    have hyl2 : ys.length = 6 := hyl
    match ys, hyl2 with
    | [y0, y1, y2, y3, y4, y5], _ =>
      simp only [List.drop_zero, List.take_succ_cons, List.take_zero, List.drop_succ_cons, List.getElem?_cons_zero, List.getElem?_cons_succ] at f0 f1 f2 f3 f4 f5
      obtain ⟨z0, rfl⟩ := open_i64 f0
      obtain ⟨z2, rfl⟩ := open_i64 f2
      obtain ⟨z3, rfl⟩ := open_i64 f3
      obtain ⟨s1, rfl, hs1⟩ := open_str f1 (fun k hk2 => hk k (by
       rw [hy]
       simp only [DataW.weights, Tryz.underlying58]
       exact DataW.weights_mem_each (j := 1) rfl rfl k hk2))
      obtain ⟨s4, rfl, hs4⟩ := open_str f4 (fun k hk2 => hk k (by
       rw [hy]
       simp only [DataW.weights, Tryz.underlying58]
       exact DataW.weights_mem_each (j := 4) rfl rfl k hk2))
      obtain ⟨L5, hv5, hl5, hs5⟩ := open_texts f5 (fun k hk2 => hk k (by
       rw [hy]
       simp only [DataW.weights, Tryz.underlying58]
       exact DataW.weights_mem_each (j := 5) rfl rfl k hk2))
      exact ⟨⟨z0, s1, z2, z3, s4, L5⟩, ⟨hf 0 (by decide), hf 1 (by decide), hf 2 (by decide), hf 3 (by decide), hf 4 (by decide), _, hf 5 (by decide), hv5⟩, ⟨hs1, hs4, hs5⟩, hl5⟩) h hw
theorem open_key {n : Nat} {cs : List Value} {y : DataW H × List MemPlace} (hl : cs.length = 30) (h : DataW.trod enc Tryz.prog W base sp held n 86 cs = some y) : ∃ k : Tx, k.length = 30 ∧ cs = keyC k := by
 obtain ⟨xs, m, rfl, rfl, hxl, hxs, hat⟩ := DataW.trod_array Tryz.underlying86 h
 have hb : ∀ i, i < 30 → ∃ b : UInt8, cs[i]? = some (.int .u8 (b.toNat : Int)) := fun i hi => by
  have h1 := hat i hi
  rw [show Tryz.prog.cellsOf 5 = 1 by kernel_rfl, Nat.mul_one] at h1
  have h2 : (cs.drop i).take 1 = [cs[i]'(by omega)] := by
   rw [List.drop_eq_getElem_cons (by omega)]
   rfl
  rw [h2, List.getElem?_eq_getElem (by omega)] at h1
  obtain ⟨z, e1, _, e3⟩ := DataW.trod_int Tryz.underlying5 h1
  simp [Lit.wf, IntKind.min, IntKind.max, IntKind.signed, IntKind.bits] at e3
  refine ⟨UInt8.ofNat z.toNat, ?_⟩
  rw [List.getElem?_eq_getElem (by omega)]
  have e4 : cs[i]'(by omega) = .int .u8 z := by simpa using e1
  rw [e4, UInt8.toNat_ofNat', show ((z.toNat % 2 ^ 8 : Nat) : Int) = z by omega]
 obtain ⟨k, hk, hr⟩ := pick hb
 refine ⟨k, hk, List.ext_getElem? fun i => ?_⟩
 unfold keyC
 rw [List.getElem?_map]
 by_cases hi : i < 30
 · have e := List.getElem?_eq_getElem (l := k) (i := i) (by omega)
   rw [e, hr i _ e]
   rfl
 · rw [List.getElem?_eq_none (by omega), List.getElem?_eq_none (by omega)]
   rfl
set_option maxRecDepth 100000 in
theorem open_crys {fuel : Nat} {v : Value} {x : DataW H × List MemPlace} (h : DataW.trod enc Tryz.prog W base sp held fuel 26 [v] = some x) (hw : ∀ n ∈ x.1.weights Tryz.prog 26, n ≤ 140737488351232) :
 ∃ L, CrysV W W.heap.size v L ∧ L.length * 40 ≤ 140737488351232 ∧ ∀ a ∈ L, a.key.length = 30 :=
 open_rows (e := 88) Tryz.underlying26 (by kernel_rfl) (by decide) (by kernel_rfl) (fun n cs y f hl hf ht hk => by
  obtain ⟨ys, n', _, hy, _, hyl, hfl⟩ := DataW.trod_struct Tryz.underlying88 ht
  have f0 : DataW.trod enc Tryz.prog W base sp held n' 3 ((cs.drop 0).take (Tryz.prog.cellsOf 3)) = ys[0]? := hfl 0 _ rfl
  have f1 : DataW.trod enc Tryz.prog W base sp held n' 86 ((cs.drop 1).take (Tryz.prog.cellsOf 86)) = ys[1]? := hfl 1 _ rfl
  rw [show Tryz.prog.cellsOf 3 = 1 by kernel_rfl] at f0
  rw [show Tryz.prog.cellsOf 86 = 30 by kernel_rfl] at f1
  have hyl2 : ys.length = 2 := hyl
  match ys, hyl2 with
  | [y0, y1], _ =>
    obtain ⟨c0, r, hcr⟩ : ∃ c0 r, cs = c0 :: r := by
     cases cs with
     | nil => simp at hl
     | cons a b => exact ⟨a, b, rfl⟩
    subst hcr
    simp only [List.drop_zero, List.take_succ_cons, List.take_zero, List.drop_succ_cons, List.getElem?_cons_zero, List.getElem?_cons_succ] at f0 f1
    have hrl : r.length = 30 := by simpa using hl
    rw [List.take_of_length_le (by omega)] at f1
    obtain ⟨z, rfl⟩ := open_i64 f0
    obtain ⟨k, hk30, rfl⟩ := open_key hrl f1
    exact ⟨⟨z, k⟩, ⟨hk30, fun j hj => hf j hj⟩, hk30⟩) h hw
end
section
variable {H : Type} {enc : TypeId × Value → H} {W : World} {base : Nat} {sp : Nat → Bool} {held : Bool}
set_option maxRecDepth 100000 in
theorem open_mediaL {n : Nat} {l : List Value} {x : DataW H × List MemPlace} (hl : l.length = 11) (h : DataW.trod enc Tryz.prog W base sp held n 28 l = some x) (hw : ∀ n ∈ x.1.weights Tryz.prog 28, n ≤ 140737488351232) :
 ∃ (M : Array Value) (m : MediaS) (vC vE vR vS vY : Value), l = M.toList ∧ MediaV W W.heap.size M m vC vE vR vS vY ∧ SizM m := by
 obtain ⟨ys, n, _, hx, _, hyl, hf⟩ := DataW.trod_struct Tryz.underlying28 h
 have hy11 : ys.length = 11 := hyl
 have g0 : DataW.trod enc Tryz.prog W base sp held n 3 ((l.drop 0).take (Tryz.prog.cellsOf 3)) = ys[0]? := hf 0 _ rfl
 have g1 : DataW.trod enc Tryz.prog W base sp held n 3 ((l.drop 1).take (Tryz.prog.cellsOf 3)) = ys[1]? := hf 1 _ rfl
 have g2 : DataW.trod enc Tryz.prog W base sp held n 9 ((l.drop 2).take (Tryz.prog.cellsOf 9)) = ys[2]? := hf 2 _ rfl
 have g3 : DataW.trod enc Tryz.prog W base sp held n 3 ((l.drop 3).take (Tryz.prog.cellsOf 3)) = ys[3]? := hf 3 _ rfl
 have g4 : DataW.trod enc Tryz.prog W base sp held n 22 ((l.drop 4).take (Tryz.prog.cellsOf 22)) = ys[4]? := hf 4 _ rfl
 have g5 : DataW.trod enc Tryz.prog W base sp held n 23 ((l.drop 5).take (Tryz.prog.cellsOf 23)) = ys[5]? := hf 5 _ rfl
 have g6 : DataW.trod enc Tryz.prog W base sp held n 24 ((l.drop 6).take (Tryz.prog.cellsOf 24)) = ys[6]? := hf 6 _ rfl
 have g7 : DataW.trod enc Tryz.prog W base sp held n 4 ((l.drop 7).take (Tryz.prog.cellsOf 4)) = ys[7]? := hf 7 _ rfl
 have g8 : DataW.trod enc Tryz.prog W base sp held n 25 ((l.drop 8).take (Tryz.prog.cellsOf 25)) = ys[8]? := hf 8 _ rfl
 have g9 : DataW.trod enc Tryz.prog W base sp held n 26 ((l.drop 9).take (Tryz.prog.cellsOf 26)) = ys[9]? := hf 9 _ rfl
 have g10 : DataW.trod enc Tryz.prog W base sp held n 3 ((l.drop 10).take (Tryz.prog.cellsOf 3)) = ys[10]? := hf 10 _ rfl
 rw [show Tryz.prog.cellsOf 3 = 1 by kernel_rfl] at g0 g1 g3 g10
 rw [show Tryz.prog.cellsOf 9 = 1 by kernel_rfl] at g2
 rw [show Tryz.prog.cellsOf 22 = 1 by kernel_rfl] at g4
 rw [show Tryz.prog.cellsOf 23 = 1 by kernel_rfl] at g5
 rw [show Tryz.prog.cellsOf 24 = 1 by kernel_rfl] at g6
 rw [show Tryz.prog.cellsOf 4 = 1 by kernel_rfl] at g7
 rw [show Tryz.prog.cellsOf 25 = 1 by kernel_rfl] at g8
 rw [show Tryz.prog.cellsOf 26 = 1 by kernel_rfl] at g9
 clear hf hyl h
 match l, hl with
 | [c0, c1, c2, c3, c4, c5, c6, c7, c8, c9, c10], _ =>
   match ys, hy11 with
   | [y0, y1, y2, y3, y4, y5, y6, y7, y8, y9, y10], _ =>
     simp only [List.drop_zero, List.take_succ_cons, List.take_zero, List.drop_succ_cons, List.getElem?_cons_zero, List.getElem?_cons_succ] at g0 g1 g2 g3 g4 g5 g6 g7 g8 g9 g10
     obtain ⟨z0, rfl⟩ := open_i64 g0
     obtain ⟨z1, rfl⟩ := open_i64 g1
     obtain ⟨z3, rfl⟩ := open_i64 g3
     obtain ⟨z10, rfl⟩ := open_i64 g10
     obtain ⟨b7, e7, _⟩ := DataW.trod_bool Tryz.underlying4 g7
     simp at e7
     subst e7
     obtain ⟨s2, rfl, hs2⟩ := open_str g2 (fun k hk => hw k (by
      rw [hx]
      simp only [DataW.weights, Tryz.underlying28]
      exact DataW.weights_mem_each (j := 2) rfl rfl k hk))
     obtain ⟨L4, v4, l4, q4⟩ := open_codecs g4 (fun k hk => hw k (by
      rw [hx]
      simp only [DataW.weights, Tryz.underlying28]
      exact DataW.weights_mem_each (j := 4) rfl rfl k hk))
     obtain ⟨L5, v5, l5, q5⟩ := open_exts g5 (fun k hk => hw k (by
      rw [hx]
      simp only [DataW.weights, Tryz.underlying28]
      exact DataW.weights_mem_each (j := 5) rfl rfl k hk))
     obtain ⟨L6, v6, l6, q6⟩ := open_texts g6 (fun k hk => hw k (by
      rw [hx]
      simp only [DataW.weights, Tryz.underlying28]
      exact DataW.weights_mem_each (j := 6) rfl rfl k hk))
     obtain ⟨L8, v8, l8, q8⟩ := open_u32s g8 (fun k hk => hw k (by
      rw [hx]
      simp only [DataW.weights, Tryz.underlying28]
      exact DataW.weights_mem_each (j := 8) rfl rfl k hk))
     obtain ⟨L9, v9, l9, q9⟩ := open_crys g9 (fun k hk => hw k (by
      rw [hx]
      simp only [DataW.weights, Tryz.underlying28]
      exact DataW.weights_mem_each (j := 9) rfl rfl k hk))
     refine ⟨#[.int .i64 z0, .int .i64 z1, .string s2, .int .i64 z3, c4, c5, c6, .bool b7, c8, c9, .int .i64 z10], ⟨z0, z1, s2, z3, L4, L5, L6, b7, L8, L9, z10⟩, c4, c5, c6, c8, c9, rfl, ⟨rfl, v4, v5, v6, v8, v9⟩, ⟨?_, fun c hc => ?_, fun c hc => ?_, fun c hc => ?_, fun c hc => ?_, ⟨q8, q9⟩, ?_⟩⟩
     · show s2.size ≤ _
       omega
     · obtain ⟨⟨h1, h2, h3⟩, _⟩ := q4 c hc
       exact ⟨by omega, by omega, fun f hf => by have := h3 f hf; omega⟩
     · have := (q4 c hc).2
       omega
     · have := q5 c hc
       omega
     · have := q6 c hc
       omega
     · show L4.length ≤ _ ∧ L5.length ≤ _ ∧ L6.length ≤ _ ∧ L8.length ≤ _ ∧ L9.length ≤ _
       omega
theorem open_medias {fuel : Nat} {v : Value} {x : DataW H × List MemPlace} (h : DataW.trod enc Tryz.prog W base sp held fuel 60 [v] = some x) (hw : ∀ n ∈ x.1.weights Tryz.prog 60, n ≤ 140737488351232) :
 ∃ L, MediasV W W.heap.size v L ∧ L.length * 176 ≤ 140737488351232 ∧ ∀ m ∈ L, SizM m :=
 open_rows (e := 28) Tryz.underlying60 (by kernel_rfl) (by decide) (by kernel_rfl) (fun n cs y f hl hf ht hk => by
  obtain ⟨M, m, vC, vE, vR, vS, vY, rfl, hm, hz⟩ := open_mediaL hl ht hk
  exact ⟨m, ⟨M, vC, vE, vR, vS, vY, hm, fun j hj => by rw [hf j hj, Array.getElem?_toList]⟩, hz⟩) h hw
set_option maxRecDepth 100000 in
theorem open_u64 {fuel : Nat} {v : Value} {x : DataW H × List MemPlace} (h : DataW.trod enc Tryz.prog W base sp held fuel 59 [v] = some x) : ∃ n : Nat, v = .int .u64 (n : Int) ∧ n < 18446744073709551616 := by
 obtain ⟨z, e, _, hz⟩ := DataW.trod_int Tryz.underlying59 h
 simp [Lit.wf, IntKind.min, IntKind.max, IntKind.signed, IntKind.bits] at hz
 simp at e
 refine ⟨z.toNat, ?_, by omega⟩
 rw [e, show ((z.toNat : Nat) : Int) = z by omega]
set_option maxRecDepth 100000 in
theorem open_desc {fuel : Nat} {v : Value} {x : DataW H × List MemPlace} (hv : Value.okWide Tryz.prog W .any base 62 v) (h : DataW.trod enc Tryz.prog W 0 sp true fuel 62 v.cells.toList = some x) (hw : ∀ n ∈ x.1.weights Tryz.prog 62, n ≤ 140737488351232) :
 ∃ D d vB vM, v = .agg D ∧ DescV W W.heap.size D d vB vM ∧ SizD d := by
 obtain ⟨cs, rfl, hsz⟩ := okWide_struct Tryz.underlying62 hv
 rw [show Tryz.prog.cellsOf 62 = 6 by kernel_rfl] at hsz
 have h' : DataW.trod enc Tryz.prog W 0 sp true fuel 62 cs.toList = some x := h
 obtain ⟨ys, n, _, hx, _, hyl, hf⟩ := DataW.trod_struct Tryz.underlying62 h'
 obtain ⟨l⟩ := cs
 have hl : l.length = 6 := by simpa using hsz
 have hy6 : ys.length = 6 := hyl
 have g0 : DataW.trod enc Tryz.prog W 0 sp true n 59 ((l.drop 0).take (Tryz.prog.cellsOf 59)) = ys[0]? := hf 0 _ rfl
 have g1 : DataW.trod enc Tryz.prog W 0 sp true n 59 ((l.drop 1).take (Tryz.prog.cellsOf 59)) = ys[1]? := hf 1 _ rfl
 have g2 : DataW.trod enc Tryz.prog W 0 sp true n 24 ((l.drop 2).take (Tryz.prog.cellsOf 24)) = ys[2]? := hf 2 _ rfl
 have g3 : DataW.trod enc Tryz.prog W 0 sp true n 9 ((l.drop 3).take (Tryz.prog.cellsOf 9)) = ys[3]? := hf 3 _ rfl
 have g4 : DataW.trod enc Tryz.prog W 0 sp true n 9 ((l.drop 4).take (Tryz.prog.cellsOf 9)) = ys[4]? := hf 4 _ rfl
 have g5 : DataW.trod enc Tryz.prog W 0 sp true n 60 ((l.drop 5).take (Tryz.prog.cellsOf 60)) = ys[5]? := hf 5 _ rfl
 rw [show Tryz.prog.cellsOf 59 = 1 by kernel_rfl] at g0 g1
 rw [show Tryz.prog.cellsOf 9 = 1 by kernel_rfl] at g3 g4
 rw [show Tryz.prog.cellsOf 24 = 1 by kernel_rfl] at g2
 rw [show Tryz.prog.cellsOf 60 = 1 by kernel_rfl] at g5
 clear hf hyl hv h h'
 match l, hl with
 | [c0, c1, c2, c3, c4, c5], _ =>
   match ys, hy6 with
   | [y0, y1, y2, y3, y4, y5], _ =>
     simp only [List.drop_zero, List.take_succ_cons, List.take_zero, List.drop_succ_cons, List.getElem?_cons_zero, List.getElem?_cons_succ] at g0 g1 g2 g3 g4 g5
     obtain ⟨z0, rfl, h0⟩ := open_u64 g0
     obtain ⟨z1, rfl, h1⟩ := open_u64 g1
     obtain ⟨L2, v2, l2, q2⟩ := open_texts g2 (fun k hk => hw k (by
      rw [hx]
      simp only [DataW.weights, Tryz.underlying62]
      exact DataW.weights_mem_each (j := 2) rfl rfl k hk))
     obtain ⟨s3, rfl, hs3⟩ := open_str g3 (fun k hk => hw k (by
      rw [hx]
      simp only [DataW.weights, Tryz.underlying62]
      exact DataW.weights_mem_each (j := 3) rfl rfl k hk))
     obtain ⟨s4, rfl, hs4⟩ := open_str g4 (fun k hk => hw k (by
      rw [hx]
      simp only [DataW.weights, Tryz.underlying62]
      exact DataW.weights_mem_each (j := 4) rfl rfl k hk))
     obtain ⟨L5, v5, l5, q5⟩ := open_medias g5 (fun k hk => hw k (by
      rw [hx]
      simp only [DataW.weights, Tryz.underlying62]
      exact DataW.weights_mem_each (j := 5) rfl rfl k hk))
     refine ⟨_, ⟨z0, z1, L2, s3, s4, L5⟩, _, _, rfl, ⟨rfl, v2, v5⟩, ⟨?_, ?_, fun b hb => ?_, ?_, ?_, q5, h0, h1⟩⟩
     · show s3.size ≤ _; omega
     · show s4.size ≤ _; omega
     · have := q2 b hb; omega
     · show L2.length ≤ _; omega
     · show L5.length ≤ _; omega
end
end Go.Proofs.YtbbedhecfipdjaaGreatDoor
namespace Go.Proofs.YtbbedhecfipdjaaGreatDoor
open Go.RowKit Go.ChangeShapes Go.WideShapes Go.ChangeAt
set_option linter.unusedVariables false
set_option linter.unusedSimpArgs false
theorem laid_at {P : Program} {W : World} : ∀ {laid : List (String × DataW Unit)} {ps : List MemPlace}, DataW.LaidVars P W laid ps → ∀ {n : String} {d : DataW Unit}, (n, d) ∈ laid →
 ∃ g t cs fuel p, P.globalNamed n = some g ∧ (P.globals[g]?).map (·.type) = some t ∧ W.var? P n = some cs ∧ DataW.trod (fun _ => ()) P W 0 (fun _ => true) false fuel t cs.toList = some (d, p)
 | [], _, _, _, _, hm => by cases hm
 | (n0, d0) :: r, ps, h, n, d, hm => by
   obtain ⟨g, t, cs, fuel, p, q, h1, h2, h3, h4, h5, _⟩ := h
   rcases List.mem_cons.1 hm with e | hm
   · injection e with e1 e2
     subst e1 e2
     exact ⟨g, t, cs, fuel, p, h1, h2, h3, h4⟩
   · exact laid_at h5 hm
set_option maxRecDepth 100000 in
theorem laid_tab {W : World} {laid : List (String × DataW Unit)} (h : laidMet Tryz.prog laid W) {name : String} {k : IntKind} {zs : List Int} (hm : (name, Lib.tabData k zs) ∈ laid) {g : Nat} {t e : TypeId} {n : Nat}
 (hg : Tryz.prog.globalNamed name = some g) (hty : (Tryz.prog.globals[g]?).map (·.type) = some t) (ht : Tryz.prog.underlying t = some (.array n e)) (he : Tryz.prog.underlying e = some (.int k)) (hce : Tryz.prog.cellsOf e = 1) (hct : Tryz.prog.cellsOf t = n) : Lib.TabIs Tryz.prog W name k zs := by
 obtain ⟨ps, hv, _⟩ := h
 obtain ⟨g', t', cs, fuel, p, hg', ht', hvar, hd⟩ := laid_at hv hm
 obtain rfl := Option.some.inj (hg.symm.trans hg')
 obtain rfl := Option.some.inj (hty.symm.trans ht')
 unfold Lib.TabIs
 rw [hvar, ← Lib.cells_of_tab ht he hce hct hd]
set_option maxRecDepth 100000 in
theorem laid_strs {W : World} {laid : List (String × DataW Unit)} (h : laidMet Tryz.prog laid W) {name : String} {ss : List Tx} (hm : (name, (.agg (ss.map fun s => .lit (.string s)) : DataW Unit)) ∈ laid) {g : Nat} {t : TypeId} {n : Nat}
 (hg : Tryz.prog.globalNamed name = some g) (hty : (Tryz.prog.globals[g]?).map (·.type) = some t) (ht : Tryz.prog.underlying t = some (.array n 9)) (hn : ss.length = n) (i : Nat) (s : Tx) (hi : ss[i]? = some s) : W.cell? ⟨g, i, none⟩ = some (.string (bs s)) := by
 obtain ⟨ps, hv, _⟩ := h
 obtain ⟨g', t', cs, fuel, p, hg', ht', hvar, hd⟩ := laid_at hv hm
 obtain rfl := Option.some.inj (hg.symm.trans hg')
 obtain rfl := Option.some.inj (hty.symm.trans ht')
 obtain ⟨xs, m, _, hx, hcl, hxl, hat⟩ := DataW.trod_array ht hd
 have hil : i < n := by rw [← hn]; exact (List.getElem?_eq_some_iff.1 hi).1
 have h1 := hat i hil
 rw [show Tryz.prog.cellsOf 9 = 1 by kernel_rfl, Nat.mul_one] at h1
 have hxe : xs[i]? = some (xs[i]'(by omega)) := List.getElem?_eq_getElem (by omega)
 rw [hxe] at h1
 obtain ⟨u, e1, e2, _⟩ := DataW.trod_string Tryz.underlying9 h1
 have hag : (ss.map fun s => (.lit (.string s) : DataW Unit)) = xs.map (·.1) := by
  injection hx with hx1 _
  injection hx1
 have h3 := congrArg (fun l => l[i]?) hag
 simp only [List.getElem?_map, hi, hxe, Option.map_some] at h3
 have h4 : s = u.data.toList := by
  have h5 := Option.some.inj h3
  rw [e2] at h5
  injection h5 with h6
  injection h6
 rw [World.var?_cell hg hvar i]
 have h7 := congrArg (fun l => l[0]?) e1
 simp only [List.getElem?_take, List.getElem?_drop, List.getElem?_cons_zero] at h7
 simp at h7
 rw [h7, h4]
 rfl
set_option maxRecDepth 100000 in
theorem env_of {W : World} {laid : List (String × DataW Unit)} (h : laidMet Tryz.prog laid W)
 (h1 : ("internal/strconv.uint64pow10", Lib.tabData .u64 Lib.pow10Tab) ∈ laid)
 (h2 : ("rostrum/attr.kinds", (.agg ([[], wAudio, wVideo, wApplication].map fun s => .lit (.string s)) : DataW Unit)) ∈ laid)
 (h3 : ("rostrum/attr.directions", (.agg ([nInactive, nSendonly, nRecvonly, nSendrecv].map fun s => .lit (.string s)) : DataW Unit)) ∈ laid) : Env W := by
 have hk := laid_strs h h2 (g := 1) (t := 132) (n := 4) (by kernel_rfl) (by kernel_rfl) Tryz.underlying132 rfl
 have hd := laid_strs h h3 (g := 0) (t := 132) (n := 4) (by kernel_rfl) (by kernel_rfl) Tryz.underlying132 rfl
 refine ⟨laid_tab h h1 (g := 2) (t := 229) (e := 59) (n := 20) (by kernel_rfl) (by kernel_rfl) Tryz.underlying229 Tryz.underlying59 (by kernel_rfl) (by kernel_rfl), fun j hj => ?_, fun j h1 hj => ?_, hk 0 _ rfl⟩
 · have : j = 0 ∨ j = 1 ∨ j = 2 ∨ j = 3 := by omega
   rcases this with rfl | rfl | rfl | rfl
   · exact hd 0 _ rfl
   · exact hd 1 _ rfl
   · exact hd 2 _ rfl
   · exact hd 3 _ rfl
 · have : j = 1 ∨ j = 2 ∨ j = 3 := by omega
   rcases this with rfl | rfl | rfl
   · exact hk 1 _ rfl
   · exact hk 2 _ rfl
   · exact hk 3 _ rfl
set_option maxRecDepth 100000 in
theorem seven_of {W : World} {laid : List (String × DataW Unit)} (h : laidMet Tryz.prog laid W) {zs : List Int} (hz : 0 < zs.length) (h1 : ("math/bits.deBruijn32tab", Lib.tabData .u8 zs) ∈ laid) : 7 ≤ W.heap.size := by
 have ht := laid_tab h h1 (g := 6) (t := 253) (e := 5) (n := 32) (by kernel_rfl) (by kernel_rfl) Tryz.underlying253 Tryz.underlying5 (by kernel_rfl) (by kernel_rfl)
 exact block_lt_of_cell (ht.cell (g := 6) (by kernel_rfl) 0 hz)
end Go.Proofs.YtbbedhecfipdjaaGreatDoor
