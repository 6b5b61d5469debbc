import Derived.Test.YtibpnjakimobmaaGreatPkJudgeTurnedA16
namespace Go.Proofs.YtibpnjakimobmaaGreat
open Go.RowKit
set_option linter.unusedVariables false
set_option linter.unusedSimpArgs false
set_option maxHeartbeats 12800000 in
set_option maxRecDepth 100000 in
theorem judgeTurned_walk (X : Array Value) (a : AskS) (wh at_ : Int) (w : World) (h : AskV10 w w.heap.size X a) (hz : SizAsk a) (hw1 : (Lit.int .i64 wh).wf = true) (hw2 : (Lit.int .i64 at_).wf = true) :
 Calls Tryz.prog 4 #[.agg X, .int .i64 wh, .int .i64 at_] w fun e w' => e = .returned (.bool true) ∧ Below w.heap.size w w' := by
 obtain ⟨D, K, vB, vM, kC, kE, hX, hD, hK, hkey⟩ := h
 obtain ⟨Y, hY⟩ : ∃ Y, (keyC a.key).toArray = Y := ⟨_, rfl⟩
 have hYl : keyC a.key = Y.toList := by rw [← hY]
 rw [hYl] at hX
 have hDs : D.size = 6 := by rw [hD.form]; rfl
 have hKs : K.size = 3 := hK.size
 have hYs : Y.size = 30 := by rw [← hY]; simp [keyC, hkey]
 have HM : Hid (∀ W, Below w.heap.size w W → Calls Tryz.prog 6 #[.agg D, .agg K, .int .u64 1, .string a.name, .string a.pass, .agg Y] W (MadeQ a W)) := Lib.hid fun W hW => by
  have := r9Make_any D K a.key a.o a.c 1 a.name a.pass vB vM kC kE W (hD.under hW) (hK.under hW) hz.o hz.c hkey (by decide) hz.name hz.pass
  rw [hY] at this
  exact this.mono fun e w' h => h.q
 have HC1 : Hid (∀ W R d uB uM, Below w.heap.size w W → DescV W W.heap.size R d uB uM → SizD d → Calls Tryz.prog 7 #[.agg D, .agg R] W fun e w' => e = .returned (.int .i64 (checkA a.o d : Nat)) ∧ Below W.heap.size W w') := Lib.hid fun W R d uB uM hW hR hs => juCheck_any D R a.o d vB vM uB uM W (hD.under hW) hR hz.o hs
 have HC2 : Hid (∀ W R d uB uM, Below w.heap.size w W → DescV W W.heap.size R d uB uM → SizD d → Calls Tryz.prog 8 #[.agg D, .agg R] W fun e w' => e = .returned (.int .i64 (checkA a.o d : Nat)) ∧ Below W.heap.size W w') := Lib.hid fun W R d uB uM hW hR hs => r10Check_any D R a.o d vB vM uB uM W (hD.under hW) hz.o hR hs
 have HSD : Hid (SizD (descA a.o a.c 1 a.name a.pass a.key)) := Lib.hid (sizD_made hz.o hkey (by decide) hz.name hz.pass)
 have HZN := Lib.hid (And.intro hz.name hz.pass)
 obtain ⟨name, hname⟩ : ∃ s, a.name = s := ⟨_, rfl⟩
 obtain ⟨pass, hpass⟩ : ∃ s, a.pass = s := ⟨_, rfl⟩
 rw [hname, hpass] at HM hX
 have HNP := Lib.hid (And.intro hname hpass)
 obtain ⟨b, hb⟩ : ∃ b, w.heap.size = b := ⟨_, rfl⟩
 have HB := Lib.hid hb
 have hg := Whole.new w 32 X
 have hbb := (Below.refl w.heap.size w).alloc (Nat.le_refl _) (.cells X 32)
 rw [hb] at hg hbb HM HC1 HC2
 have H0 := Lib.hid (And.intro hg hbb)
 have HPT : Hid (∀ W, Whole W b 32 X → W.rangeAt b 0 D.toList ∧ W.rangeAt b 6 K.toList ∧ W.cell? ⟨b, 9, none⟩ = some (.string name) ∧ W.cell? ⟨b, 10, none⟩ = some (.string pass) ∧ W.rangeAt b 11 Y.toList) := Lib.hid fun W hW => by
  rw [hX] at hW
  exact ask_parts hW hDs hKs
 have HS := Lib.hid (And.intro hDs (And.intro hKs hYs))
 have HAW : Hid (∀ W, Calls Tryz.prog 5 #[] W fun e w' => e = .returned (.bool true) ∧ Below W.heap.size W w') := Lib.hid fun W => awake10_any W
 clear hX hD hK hkey hY hYl hDs hKs hYs hz hname hpass hg hbb
 go_enter Tryz.func4, Tryz.ntmps4
 go_upto_region 1 with fail
 generalize w.alloc (.cells X 32) = W0 at *
 try rw [hb]
 clear hb
 go_upto_region 3 with (go_at_call 5; (with_reducible refine (HAW.out _).mono ?_); rintro e w1 ⟨rfl, hb1⟩)
 have k1 : Below b w w1 := H0.out.2.trans (hb1.mono (Nat.le_of_lt H0.out.1.lt))
 have g1 := H0.out.1.under hb1
 have HK1 := Lib.hid (And.intro k1 g1)
 have HP1 := Lib.hid (HPT.out _ g1)
 have c9 := HP1.out.2.2.1
 have c10 := HP1.out.2.2.2.1
 clear hb1 k1 g1
 go_upto_region 4 with (first | (refine wpList_load_part rfl 26 (.tmp 15) rfl b 0 rfl D HP1.out.1 Tryz.underlying26 rfl Tryz.sizeDesc HS.out.1 ?_) | (refine wpList_load_part rfl 29 (.tmp 17) rfl b 6 rfl K HP1.out.2.1 Tryz.underlying29 rfl Tryz.sizeConfig HS.out.2.1 ?_) | (refine wpList_load_part rfl 30 (.tmp 23) rfl b 11 rfl Y HP1.out.2.2.2.2 Tryz.underlying30 rfl Tryz.sizeKey9 HS.out.2.2 ?_) | (go_at_call 6; (with_reducible refine (HM.out _ HK1.out.1).mono ?_); rintro e w2 ⟨R, q, rfl, hr6, hr1, hb2, hor⟩) | (refine wpList_store_whole rfl 26 (.tmp 7) (.tmp 26) rfl rfl rfl (Whole.new w2 26 #[.int .u64 0, .int .u64 0, .slice none 0 0, .string ⟨#[]⟩, .string ⟨#[]⟩, .slice none 0 0]) Tryz.sizeDesc hr6 rfl hr1 ?_))
 try simp only [Act.put]
 have hb3 : Below w2.heap.size w2 ((w2.alloc (.cells #[.int .u64 0, .int .u64 0, .slice none 0 0, .string ⟨#[]⟩, .string ⟨#[]⟩, .slice none 0 0] 26)).setRow w2.heap.size R) := below_row ((Below.refl _ _).alloc (Nat.le_refl _) _) (Nat.le_refl _) R
 have hg3 : Whole ((w2.alloc (.cells #[.int .u64 0, .int .u64 0, .slice none 0 0, .string ⟨#[]⟩, .string ⟨#[]⟩, .slice none 0 0] 26)).setRow w2.heap.size R) w2.heap.size 26 R := (Whole.new w2 26 #[.int .u64 0, .int .u64 0, .slice none 0 0, .string ⟨#[]⟩, .string ⟨#[]⟩, .slice none 0 0]).row R
 have hb13 := hb2.trans (hb3.mono hb2.size)
 have k3 : Below b w _ := HK1.out.1.trans (hb13.mono (Nat.le_of_lt HK1.out.2.lt))
 have g3 := HK1.out.2.under hb13
 have HOR := Lib.hid hor
 have HBG0 : Hid (b < w2.heap.size) := Lib.hid (by have := HK1.out.2.lt; have := hb2.size; omega)
 have HB23 := Lib.hid hb3
 have HK2 : Hid (Below b w w2) := Lib.hid (HK1.out.1.trans (hb2.mono (Nat.le_of_lt HK1.out.2.lt)))
 generalize (w2.alloc (.cells #[.int .u64 0, .int .u64 0, .slice none 0 0, .string ⟨#[]⟩, .string ⟨#[]⟩, .slice none 0 0] 26)).setRow w2.heap.size R = w3 at *
 obtain ⟨gd, hgd⟩ : ∃ k, w2.heap.size = k := ⟨_, rfl⟩
 have HGD := Lib.hid hgd
 have HBG : Hid (b < gd) := Lib.hid (by rw [← hgd]; exact HBG0.out)
 rw [hgd] at hg3 HB23
 try rw [hgd]
 clear hgd
 have H3 := Lib.hid (And.intro k3 (And.intro g3 (And.intro hg3 hr6)))
 clear hb2 hb3 hb13 k3 g3 hg3 hor hr6 hr1 c9 c10
 rcases HOR.out with ⟨hq, hm, uB, uM, hd⟩ | hq
 · subst hq
   have hgd' : goodD (descA a.o a.c 1 a.name a.pass a.key) = true := by
    unfold mayA at hm
    rw [Bool.and_eq_true] at hm
    exact hm.2
   have hR := hd.form
   have hdB := hd.bundle
   have hdM := hd.media
   obtain ⟨AB, cB, hub, -⟩ := Rows.form hdB
   obtain ⟨AM, cM, hum, hnc, hcm, hnone⟩ := Rows.form hdM
   have HSD2 := HSD.out
   obtain ⟨dd, hdd⟩ : ∃ x, descA a.o a.c 1 a.name a.pass a.key = x := ⟨_, rfl⟩
   have hd4 : dd.id = 1 ∧ dd.name = name ∧ dd.pass = pass := by rw [← hdd, ← HNP.out.1, ← HNP.out.2]; exact ⟨rfl, rfl, rfl⟩
   rw [hdd] at hgd' hR hdB hdM hub hum hnc HSD2
   obtain ⟨n, hn⟩ : ∃ k, dd.media.length = k := ⟨_, rfl⟩
   obtain ⟨nB, hnB⟩ : ∃ k, dd.bundle.length = k := ⟨_, rfl⟩
   obtain ⟨ver, hver⟩ : ∃ k, dd.ver = k := ⟨_, rfl⟩
   rw [hn] at hum hnc
   rw [hnB] at hub
   subst hub
   subst hum
   rw [hd4.1, hd4.2.1, hd4.2.2, hver] at hR
   rw [HGD.out] at hdB hdM
   subst hR
   have hgp := goodD_parts hgd'
   have HDB := Lib.hid (And.intro hdB (And.intro hdM (And.intro hgp (And.intro HSD2 (And.intro hn (And.intro hnB (And.intro hver hgd')))))))
   have hn8 : n ≤ 8 := by rw [← hn]; exact hgp.2.2.1
   have c5 : w3.cell? ⟨gd, 5, none⟩ = some (.slice AM n cM) := H3.out.2.2.1.cell 5
   have HNC := Lib.hid (And.intro hnc (And.intro hcm hnone))
   clear hgd' hd hm hdB hdM hnc hcm hnone hd4 hn hnB hver hgp HSD2
   have hb3d : Below gd w2 w3 := HB23.out
   by_cases hn0 : n = 0
   · subst hn0
     go_wp2
     go_ret
     exact ⟨rfl, by rw [HB.out]; exact H3.out.1⟩
   · have hn0' : ((n : Int) == 0) = false := by simp; omega
     have hn1 : ¬ (n : Int) = 0 := by omega
     have hgl : gd + 1 ≤ w3.heap.size := H3.out.2.2.1.lt
     have hA0 : Own (w3.alloc (.cells #[] 44)) gd 44 11 (.slice (some ⟨w3.heap.size, 0, none⟩) 0 0) [] := ⟨World.ownsRow_made w3 #[] 0 (by omega) (Nat.zero_le _) rfl, fun r hr => by cases hr⟩
     have hbA : Below gd w2 (w3.alloc (.cells #[] 44)) := hb3d.alloc (by omega) _
     obtain ⟨rs, hrl, hr11, hrone, hrm, hrc⟩ := (HDB.out.2.1.below hbA).rows11 HDB.out.2.2.2.2.1
     have HA := Lib.hid (And.intro hA0 (And.intro (H3.out.2.2.1.alloc (.cells #[] 44)) (And.intro hbA hrm)))
     have HRS := Lib.hid (And.intro hrl (And.intro hr11 (And.intro hrone hrc)))
     have HAS : Hid (gd ≤ (w3.alloc (.cells #[] 44)).heap.size) := Lib.hid (by rw [World.size_alloc]; omega)
     have c5A : (w3.alloc (.cells #[] 44)).cell? ⟨gd, 5, none⟩ = some (.slice AM n cM) := HA.out.2.1.cell 5
     clear hA0 hbA hrl hr11 hrone hrm hrc
     go_upto_region 7 with (at_builtin; go_must (refine wpList_appendRows (ks := []) (rs := rs) rfl (.tmp 36) (.tmp 38) rfl Tryz.underlying24 infoMedia9 rfl (Nat.zero_lt_succ _) rfl HA.out.1 rfl HNC.out.2.2 HNC.out.1 HRS.out.1 HRS.out.2.1 HRS.out.2.2.1 HRS.out.2.2.2 (by simp; omega) (by simp; omega) HAS.out ?_); intro v4 w4 ho4 hg4 hn4; go_must (rw [List.nil_append] at ho4; have hx0 := List.getElem?_eq_getElem (l := rs) (i := 0) (by have := HRS.out.1; omega); obtain ⟨gm, c4, hv4, hob4, hgm4, hlt4, -, hcm4, -, -⟩ := ho4.at_ hx0; rw [HRS.out.1] at hv4; subst hv4; have hO4 := HA.out.2.1.grown hg4 (fun e => (HA.out.1.apart HA.out.2.1 (by decide)) e.symm); have q5 : w4.cell? ⟨gd, 5, none⟩ = some (.slice AM n cM) := hO4.cell 5; have f5 := hO4.frz 5))
     have hw5 := hO4.set 5 (.slice (some ⟨gm, 0, none⟩) n c4)
     have ho5 : Own (w4.setCell ⟨gd, 5, none⟩ (.slice (some ⟨gm, 0, none⟩) n c4)) gd 44 11 (.slice (some ⟨gm, 0, none⟩) n c4) rs := ho4.far (p := ⟨gd, 5, none⟩) (ho4.apart hO4 (by decide)) _
     have hlo5 : Below gd (w3.alloc (.cells #[] 44)) (w4.setCell ⟨gd, 5, none⟩ (.slice (some ⟨gm, 0, none⟩) n c4)) := ((Below.refl gd _).grown hg4 HAS.out (fun k hk => (HA.out.1.lt hk).1)).setCell (p := ⟨gd, 5, none⟩) (Nat.le_refl _) _
     have hX5 : Whole (w4.setCell ⟨gd, 5, none⟩ (.slice (some ⟨gm, 0, none⟩) n c4)) b 32 X := by
      have h1 : Whole (w3.alloc (.cells #[] 44)) b 32 X := H3.out.2.1.alloc _
      have h2 := h1.grown hg4 (fun e => (HA.out.1.apart h1 (by decide)) e.symm)
      exact h2.far (p := ⟨gd, 5, none⟩) (fun e => (h2.ne hO4 (by decide)) e) _
     have hb5 : Below b w (w4.setCell ⟨gd, 5, none⟩ (.slice (some ⟨gm, 0, none⟩) n c4)) := by
      have hbg : b ≤ gd := by have := HK2.out.size; have := HGD.out; have := HB.out; omega
      exact (H3.out.1.alloc (by have := H3.out.2.1.lt; omega) (.cells #[] 44)).trans (hlo5.mono hbg)
     generalize w4.setCell ⟨gd, 5, none⟩ (.slice (some ⟨gm, 0, none⟩) n c4) = w5 at *
     have H5 := Lib.hid (And.intro hw5 (And.intro ho5 (And.intro hlo5 (And.intro hX5 hb5))))
     have hcm4' : c4 ≤ maxLen := hcm4
     have e5 : w5.cell? ⟨gd, 5, none⟩ = some (.slice (some ⟨gm, 0, none⟩) n c4) := hw5.cell 5
     have HLT := Lib.hid (And.intro hgm4 hlt4)
     clear hw5 ho5 hlo5 hX5 hb5 ho4 hg4 hn4 hO4 q5 f5 c5 c5A hx0 hob4 hgm4 hlt4 hcm4
     obtain ⟨U, hU⟩ : ∃ U : Nat, IntKind.u64.wrap at_ = U := ⟨(IntKind.u64.wrap at_).toNat, by rw [IntKind.wrap_u64]; omega⟩
     obtain ⟨i, hi⟩ : ∃ i : Nat, U % n = i := ⟨_, rfl⟩
     have hin : i < n := by rw [← hi]; exact Nat.mod_lt _ (by omega)
     have hm1 : Int.tmod (U : Int) n = i := by rw [Int.tmod_eq_emod_of_nonneg (by omega), ← hi]; exact (Int.natCast_emod U n).symm
     have hm2 : (U : Int) % (n : Int) = i := by rw [← hi]; exact (Int.natCast_emod U n).symm
     have hm3 : IntKind.i64.wrap (i : Int) = i := by rw [IntKind.wrap_i64]; omega
     have hi0 : (0 : Int) ≤ i := by omega
     have hi1 : (i : Int) < n := by omega
     clear hi
     go_quiet (fail)
     have hil : i < rs.length := by rw [HRS.out.1]; exact hin
     have hri := List.getElem?_eq_getElem (l := rs) (i := i) hil
     have him : i < dd.media.length := by rw [HDB.out.2.2.2.2.1]; exact hin
     have hmi := List.getElem?_eq_getElem (l := dd.media) (i := i) him
     obtain ⟨m, hm⟩ : ∃ m, dd.media[i] = m := ⟨_, rfl⟩
     rw [hm] at hmi
     obtain ⟨r, hr⟩ : ∃ r, rs[i] = r := ⟨_, rfl⟩
     rw [hr] at hri
     obtain ⟨vC, vE, vR, vS, vY, hmv⟩ := HA.out.2.2.2 i r m hri hmi
     have hmm : m ∈ dd.media := List.mem_of_getElem? hmi
     have HSM := Lib.hid (small_of (HDB.out.2.2.1.2.2.2.1 m hmm) (HDB.out.2.2.2.1.media m hmm))
     have hrf : r = [.int .i64 m.kind, .int .i64 m.port, .string m.mid, .int .i64 m.dir, vC, vE, vR, .bool m.sending, vS, vY, .int .i64 m.sctp] := by
      have := congrArg Array.toList hmv.form
      simpa using this
     rw [hrf] at hri
     have HMV := Lib.hid hmv
     obtain ⟨AC, cC, hvC, hnC, hmC, hzC⟩ := Rows.form hmv.codecs
     obtain ⟨nC, hnCl⟩ : ∃ k, m.codecs.length = k := ⟨_, rfl⟩
     rw [hnCl] at hvC hnC
     subst hvC
     have HRI := Lib.hid (And.intro hri (And.intro hnC (And.intro hmC (And.intro hzC hnCl))))
     have H6 : Hid (Whole (w5.drewN nq) gd 26 #[.int .u64 1, .int .u64 ver, .slice AB nB cB, .string name, .string pass, .slice (some ⟨gm, 0, none⟩) n c4] ∧ Own (w5.drewN nq) gd 44 11 (.slice (some ⟨gm, 0, none⟩) n c4) rs ∧ Below gd (w3.alloc (.cells #[] 44)) (w5.drewN nq) ∧ Whole (w5.drewN nq) b 32 X ∧ Below b w (w5.drewN nq)) := Lib.hid ⟨H5.out.1.drewN nq, H5.out.2.1.drewN nq, below_drewN' H5.out.2.2.1 nq, H5.out.2.2.2.1.drewN nq, below_drewN' H5.out.2.2.2.2 nq⟩
     clear hil hri him hmi hm hr hmv hmm hrf hnC hmC hzC hnCl e5 H5 hm1 hm2 hm3 hU
     generalize w5.drewN nq = w6 at *
     obtain ⟨wA, hwA⟩ : ∃ W, w3.alloc (.cells #[] 44) = W := ⟨_, rfl⟩
     rw [hwA] at H6 HA HAS HRS
     have hlm := H6.out.2.1.lt (k := gm) rfl
     have hA7 : Own (w6.alloc (.cells #[] 47)) gd 47 6 (.slice (some ⟨w6.heap.size, 0, none⟩) 0 0) [] := ⟨World.ownsRow_made w6 #[] 0 (by omega) (Nat.zero_le _) rfl, fun r hr => by cases hr⟩
     have hM7 : Own (w6.alloc (.cells #[] 47)) gd 44 11 (.slice (some ⟨gm, 0, none⟩) n c4) rs := H6.out.2.1.alloc _
     have hb7 : Below gd wA (w6.alloc (.cells #[] 47)) := H6.out.2.2.1.alloc (by omega) _
     obtain ⟨cs, hcl, hc6, hcone, hcm7, hcc⟩ := (CodecsV.below HMV.out.codecs (by rw [hwA]; exact hb7)).rows6 HRI.out.2.2.2.2
     have hB7 : Whole (w6.alloc (.cells #[] 47)) gd 26 #[.int .u64 1, .int .u64 ver, .slice AB nB cB, .string name, .string pass, .slice (some ⟨gm, 0, none⟩) n c4] := H6.out.1.alloc _
     have hX7 : Whole (w6.alloc (.cells #[] 47)) b 32 X := H6.out.2.2.2.1.alloc _
     have hbb7 : Below b w (w6.alloc (.cells #[] 47)) := H6.out.2.2.2.2.alloc (by have := H6.out.2.2.2.1.lt; omega) _
     have hs7 : gd ≤ (w6.alloc (.cells #[] 47)).heap.size := by rw [World.size_alloc]; omega
     have hcrow : ∀ r ∈ cs, CRow (w6.alloc (.cells #[] 47)) gd r := fun r hr => by
      obtain ⟨j, hj⟩ := List.getElem?_of_mem hr
      have hjl := (List.getElem?_eq_some_iff.1 hj).1
      have hx := List.getElem?_eq_getElem (l := m.codecs) (i := j) (by rw [HRI.out.2.2.2.2]; omega)
      obtain ⟨vf, e, ht⟩ := hcm7 j r _ hj hx
      have hxm := List.mem_of_getElem? hx
      exact ⟨_, vf, e, ht, HSM.out.siz.names _ hxm, by have := HSM.out.feeds _ hxm; omega⟩
     have hread : ∀ (j : Nat) (r : List Value), rs[j]? = some r → ∃ m' vC vE vR vS vY, MediaV (w6.alloc (.cells #[] 47)) gd r.toArray m' vC vE vR vS vY ∧ SizM m' := fun j r hj => by
      have hjl := (List.getElem?_eq_some_iff.1 hj).1
      have hx := List.getElem?_eq_getElem (l := dd.media) (i := j) (by rw [HDB.out.2.2.2.2.1, ← HRS.out.1]; exact hjl)
      obtain ⟨vC', vE', vR', vS', vY', h1⟩ := HA.out.2.2.2 j r _ hj hx
      exact ⟨_, vC', vE', vR', vS', vY', h1.below hb7, HDB.out.2.2.2.1.media _ (List.mem_of_getElem? hx)⟩
     have hmv7 : MediaV (w6.alloc (.cells #[] 47)) gd _ m (.slice AC nC cC) vE vR vS vY := MediaV.below (by have := HMV.out; rw [hwA] at this; exact this) hb7
     have hbun : ∃ B, TextsV (w6.alloc (.cells #[] 47)) gd (.slice AB nB cB) B ∧ B.length ≤ 100 ∧ ∀ s ∈ B, s.size ≤ 1000 := by
      have h1 : Below gd w2 (w6.alloc (.cells #[] 47)) := by
       have := HA.out.2.2.1
       exact this.trans hb7
      refine ⟨dd.bundle, HDB.out.1.below h1, ?_, fun s hs => ?_⟩
      · have h2 := HDB.out.2.2.1.2.2.2.2.2
        have h3 : (dd.bundle.map tx).length ≤ (dd.media.map midT).length := List.Nodup.length_le_of_subset h2.2 (fun y hy => by
         obtain ⟨s, hs, rfl⟩ := List.mem_map.1 hy
         obtain ⟨m', hm', e⟩ := h2.1 s hs
         rw [← e]
         exact List.mem_map_of_mem hm')
        rw [List.length_map, List.length_map] at h3
        have := HDB.out.2.2.1.2.2.1
        omega
      · have := goodD_bundle HDB.out.2.2.2.2.2.2.2 s hs
        unfold wordP at this
        simp only [Bool.and_eq_true, decide_eq_true_eq] at this
        rw [tx_length] at this
        omega
     obtain ⟨k4, -⟩ : (w6.alloc (.cells #[] 47)).cell? ⟨gm, i * 11 + 4, none⟩ = some (.slice AC nC cC) ∧ True := by
      obtain ⟨g', c', e, -, -, -, -, -, hc, -⟩ := hM7.at_ HRI.out.1
      cases e
      exact ⟨hc 4 (by decide), trivial⟩
     have HBs := Lib.hid (And.intro hA7 (And.intro hM7 (And.intro hB7 (And.intro hX7 (And.intro hbb7 (And.intro hs7 (And.intro hcrow (And.intro hread (And.intro hmv7 hbun)))))))))
     have HCS := Lib.hid (And.intro hcl (And.intro hc6 (And.intro hcone hcc)))
     clear hA7 hM7 hb7 hB7 hX7 hbb7 hs7 hcrow hread hmv7 hbun hcl hc6 hcone hcc hcm7 hlm hwA
     have hnC16 : nC ≤ 1000 := by rw [← HRI.out.2.2.2.2]; exact HSM.out.codecs
     go_upto_region 9 with (at_builtin; go_must (refine wpList_appendRows (ks := []) (rs := cs) rfl (.tmp 53) (.tmp 57) rfl Tryz.underlying27 infoCodec9 rfl (Nat.zero_lt_succ _) rfl HBs.out.1 rfl HRI.out.2.2.2.1 HRI.out.2.1 HCS.out.1 HCS.out.2.1 HCS.out.2.2.1 HCS.out.2.2.2 (by simp; omega) (by simp; omega) HBs.out.2.2.2.2.2.1 ?_); intro v8 w8 ho8 hg8 hn8; go_must (rw [List.nil_append] at ho8; obtain ⟨A8, c8, hv8, -⟩ := Own.form ho8; rw [HCS.out.1] at hv8; subst hv8; have hM8 : Own w8 gd 44 11 (.slice (some ⟨gm, 0, none⟩) n c4) rs := HBs.out.2.1.grown hg8 (HBs.out.2.1.apart2 HBs.out.1 (by decide)); obtain ⟨g', c', eg, -, -, -, -, -, hcg, hfg⟩ := hM8.at_ HRI.out.1; obtain rfl : gm = g' := (by injection eg with e1 _ _; injection e1 with e1; injection e1); have q4 : w8.cell? ⟨gm, i * 11 + 4, none⟩ = some (.slice AC nC cC) := hcg 4 (by decide); have f4 := hfg (i * 11 + 4)))
     have hgm8 : gd ≤ gm ∧ gm < w8.heap.size := hM8.lt rfl
     have hB8 := HBs.out.2.2.1.grown hg8 (fun e => (HBs.out.1.apart HBs.out.2.2.1 (by decide)) e.symm)
     have hlow8 : Below gd (w6.alloc (.cells #[] 47)) (w8.setCell ⟨gm, i * 11 + 4, none⟩ (.slice A8 nC c8)) := ((Below.refl gd _).grown hg8 HBs.out.2.2.2.2.2.1 (fun k hk => (HBs.out.1.lt hk).1)).setCell (p := ⟨gm, i * 11 + 4, none⟩) hgm8.1 _
     have hjs : JS (w6.alloc (.cells #[] 47)) (w8.setCell ⟨gm, i * 11 + 4, none⟩ (.slice A8 nC c8)) gd gd gm rs.length i c4 ver (.slice AB nB cB) name pass (rs.set i [.int .i64 m.kind, .int .i64 m.port, .string m.mid, .int .i64 m.dir, .slice A8 nC c8, vE, vR, .bool m.sending, vS, vY, .int .i64 m.sctp]) m (.slice A8 nC c8) vE vR vS vY cs := by
      refine ⟨hlow8, Nat.le_refl _, hB8.far (p := ⟨gm, i * 11 + 4, none⟩) (fun e => hM8.apart hB8 (by decide) (by rw [e]; rfl)) _, hM8.put rfl HRI.out.1 (by decide) _, by rw [List.length_set, HRS.out.1]; omega, ?_, fun j r hj hne => ?_, ?_, HBs.out.2.2.2.2.2.2.1, by rw [HCS.out.1]; omega, HBs.out.2.2.2.2.2.2.2.2.1.exts, HBs.out.2.2.2.2.2.2.2.2.1.rids, HBs.out.2.2.2.2.2.2.2.2.1.sources, HBs.out.2.2.2.2.2.2.2.2.1.crypto, HSM.out, by rw [← HNP.out.1]; exact HZN.out.1, by rw [← HNP.out.2]; exact HZN.out.2, HBs.out.2.2.2.2.2.2.2.2.2⟩
      · rw [List.getElem?_set, if_pos rfl, if_pos (by rw [HRS.out.1]; exact hin)]
      · rw [List.getElem?_set, if_neg (fun e => hne e.symm)] at hj
        exact HBs.out.2.2.2.2.2.2.2.1 j r hj
      · refine ho8.far (p := ⟨gm, i * 11 + 4, none⟩) (fun e => ?_) _
        rcases ho8.apart2 hM8 (by decide) with q | q
        · rw [q] at e; cases e
        · exact q (by rw [e]; rfl)
     have HXB : Hid (∀ wc, Below gd (w6.alloc (.cells #[] 47)) wc → Whole wc b 32 X ∧ Below b w wc) := Lib.hid fun wc hw => by
      have hbg := HBG.out
      exact ⟨HBs.out.2.2.2.1.below hw hbg, HBs.out.2.2.2.2.1.trans (hw.mono (Nat.le_of_lt hbg))⟩
     generalize rs.set i [.int .i64 m.kind, .int .i64 m.port, .string m.mid, .int .i64 m.dir, .slice A8 nC c8, vE, vR, .bool m.sending, vS, vY, .int .i64 m.sctp] = rows at *
     generalize w6.alloc (.cells #[] 47) = wB at *
     generalize w8.setCell ⟨gm, i * 11 + 4, none⟩ (.slice A8 nC c8) = W at *
     have HJ := Lib.hid hjs
     have HVER : Hid (ver < 18446744073709551616) := Lib.hid (by rw [← HDB.out.2.2.2.2.2.2.1]; exact HDB.out.2.2.2.1.ids.2)
     clear hgm8 hB8 hlow8 hjs hM8 ho8 hg8 hn8 q4 f4 hcg hfg k4
     obtain ⟨V, hV⟩ : ∃ V : Nat, IntKind.u64.wrap wh = V := ⟨(IntKind.u64.wrap wh).toNat, by rw [IntKind.wrap_u64]; omega⟩
     obtain ⟨c, hc⟩ : ∃ i : Nat, V % 16 = i := ⟨_, rfl⟩
     have hc16 : c < 16 := by rw [← hc]; exact Nat.mod_lt _ (by decide)
     have hm1 : Int.tmod (V : Int) 16 = c := by rw [Int.tmod_eq_emod_of_nonneg (by omega), ← hc]; exact (Int.natCast_emod V 16).symm
     have hm2 : (V : Int) % 16 = c := by rw [← hc]; exact (Int.natCast_emod V 16).symm
     have hm3 : IntKind.i64.wrap (c : Int) = c := by rw [IntKind.wrap_i64]; omega
     clear hc
     have HCELL := Lib.hid HJ.out.at_
     have HNB : Hid (nB ≤ cB ∧ cB ≤ maxLen ∧ (AB = none → cB = 0)) := Lib.hid (by
      obtain ⟨B, hB, -, -⟩ := HJ.out.bun
      obtain ⟨A', c', e, h1, h2, h3⟩ := Rows.form hB
      injection e with e1 e2 e3
      subst e1 e3
      exact ⟨by omega, h2, h3⟩)
     have HSAME : Hid (EndO gd W ∧ Below gd wB W) := Lib.hid (by
      have h := HJ.out
      have h1 := h.own
      rw [← set_same h.row] at h1
      exact ⟨h.fin h.low h.box HVER.out (h.pb h.low h.le.2.2.2) h1 (RowA.of (h.pc h.low h.le.2.2.2 h.cod) (h.pe h.low h.le.2.2.2) (h.pr h.low h.le.2.2.2) (h.ps h.low h.le.2.2.2) (h.py h.low h.le.2.2.2) h.sml.siz.mid), h.low⟩)
     go_upto_block 0 with fail
     generalize (#[.int .u64 1, .int .u64 ver, .slice AB nB cB, .string name, .string pass, .slice AM rs.length cM] : Array Value) = RR
     go_cut [] from 65 to 279 (fun wc => EndO gd wc ∧ Below gd wB wc)
     case first =>
      have hcs : c = 0 ∨ c = 1 ∨ c = 2 ∨ c = 3 ∨ c = 4 ∨ c = 5 ∨ c = 6 ∨ c = 7 ∨ c = 8 ∨ c = 9 ∨ c = 10 ∨ c = 11 ∨ c = 12 ∨ c = 13 ∨ c = 14 ∨ c = 15 := by omega
      clear hc16
      rcases hcs with rfl | rfl | rfl | rfl | rfl | rfl | rfl | rfl | rfl | rfl | rfl | rfl | rfl | rfl | rfl | rfl
      · clear hm1 hm2 hm3
        have kc := HCELL.out.1 0 (by decide)
        have fc := HCELL.out.2 (i * 11 + 0)
        simp only [List.getElem?_cons_zero, List.getElem?_cons_succ, Nat.add_zero] at kc fc
        go_wp2
        go_meet
        exact HJ.out.scal (j := 0) (by decide) _ rfl HVER.out HJ.out.sml.siz.mid
      · clear hm1 hm2 hm3
        have kc := HCELL.out.1 2 (by decide)
        have fc := HCELL.out.2 (i * 11 + 2)
        simp only [List.getElem?_cons_zero, List.getElem?_cons_succ, Nat.add_zero] at kc fc
        have hms := HJ.out.sml.mid
        have q5 : ¬ 9223372036854775807 < m.mid.size + 1 := by omega
        have q6 : (m.mid ++ ⟨#[120]⟩).size ≤ 140737488355328 := by rw [ByteArray.size_append]; show m.mid.size + 1 ≤ _; omega
        have HQ6 := Lib.hid q6
        clear q6 hms
        go_wp2
        go_meet
        exact HJ.out.scal (j := 2) (by decide) _ rfl HVER.out HQ6.out
      · clear hm1 hm2 hm3
        have kc := HCELL.out.1 1 (by decide)
        have fc := HCELL.out.2 (i * 11 + 1)
        simp only [List.getElem?_cons_zero, List.getElem?_cons_succ, Nat.add_zero] at kc fc
        go_wp2
        go_meet
        exact HJ.out.scal (j := 1) (by decide) _ rfl HVER.out HJ.out.sml.siz.mid
      · clear hm1 hm2 hm3
        have kc := HCELL.out.1 3 (by decide)
        have fc := HCELL.out.2 (i * 11 + 3)
        simp only [List.getElem?_cons_zero, List.getElem?_cons_succ, Nat.add_zero] at kc fc
        go_wp2
        go_meet
        exact HJ.out.scal (j := 3) (by decide) _ rfl HVER.out HJ.out.sml.siz.mid
      · clear hm1 hm2 hm3
        have HJA := Lib.hid (HJ.out.under ((Below.refl _ W).alloc (Nat.le_refl _) (.cells #[Value.int .i64 1, Value.string ⟨#[88]⟩, Value.int .i64 1, Value.int .i64 1, Value.string ⟨#[]⟩, Value.slice none 0 0] 47)))
        have kc := HJA.out.at_.1 4 (by decide)
        have kd := HCELL.out.1 4 (by decide)
        simp only [List.getElem?_cons_zero, List.getElem?_cons_succ, Nat.add_zero] at kc kd
        have HBS : Hid (gd ≤ (W.alloc (.cells #[Value.int .i64 1, Value.string ⟨#[88]⟩, Value.int .i64 1, Value.int .i64 1, Value.string ⟨#[]⟩, Value.slice none 0 0] 47)).heap.size) := Lib.hid HJA.out.le.2.2.2
        go_wp2_with (at_builtin; go_loud (refine wpList_appendE (base := gd) (rs := cs) (r := [Value.int .i64 1, Value.string ⟨#[88]⟩, Value.int .i64 1, Value.int .i64 1, Value.string ⟨#[]⟩, Value.slice none 0 0]) rfl (.tmp 110) (.tmp 112) rfl Tryz.underlying27 infoCodec9 rfl (Nat.zero_lt_succ _) rfl HJA.out.cod rfl (Whole.new W 47 #[Value.int .i64 1, Value.string ⟨#[88]⟩, Value.int .i64 1, Value.int .i64 1, Value.string ⟨#[]⟩, Value.slice none 0 0]) rfl (fun u hu => by simp at hu; rcases hu with rfl | rfl | rfl | rfl | rfl | rfl <;> rfl) (by rw [HCS.out.1]; omega) (by rw [HCS.out.1]; omega) HBS.out ?_; intro v9 w9 ho9 hg9 hn9; obtain ⟨AZ, kZ, hv9, -⟩ := Own.form ho9; rw [List.length_append, HCS.out.1] at hv9; change v9 = .slice AZ (nC + 1) kZ at hv9; subst hv9; have H9 := Lib.hid (HJA.out.putC hg9 ho9 (fun r hr => by rcases List.mem_append.1 hr with hr | hr; exact HJ.out.codr r hr; obtain rfl := List.mem_singleton.1 hr; exact crow_new) (by rw [List.length_append, HCS.out.1]; show nC + 1 ≤ _; omega) HVER.out); have q9 := HJA.out.grownC hg9; have x9 : w9.cell? ⟨gm, i * 11 + 4, none⟩ = some (.slice A8 nC c8) := q9.2.2.2.1 4; have y9 := q9.2.2.2.2 (i * 11 + 4); clear q9 ho9 hg9 hn9))
        go_meet
        exact H9.out
      · clear hm1 hm2 hm3
        as_aux_lemma =>
         have kc := HCELL.out.1 4 (by decide)
         simp only [List.getElem?_cons_zero, List.getElem?_cons_succ, Nat.add_zero] at kc
         go_wp2
         clear kc
         go_loopw [123] (fun s123 wr => ∃ (k : Nat) (cs' : List (List Value)), k ≤ nC ∧ s123 = .int .i64 (k : Int) ∧ cs'.length = nC ∧ JF wB wr gd gd gm rs.length i c4 ver (.slice AB nB cB) name pass rows (.slice A8 nC c8) cs' (1000 + k)) (fun s123 _ => nC - (intOf s123).toNat)
         case atStart => exact ⟨0, cs, Nat.zero_le _, rfl, HCS.out.1, HJ.out.jf⟩
         case round =>
          obtain ⟨k, cs', hk, rfl, hl', hj'⟩ := hrel
          have HJ' := Lib.hid hj'
          have HL' := Lib.hid hl'
          clear hj' hl'
          by_cases hkt : k < nC
          · have hk1 : (k : Int) < (nC : Int) := by omega
            have hk0 : (0 : Int) ≤ (k : Int) := by omega
            have e1 : IntKind.i64.wrap ((k : Int) + 1) = (k : Int) + 1 := IntWalk.i64_in _ (by omega)
            have hrk := List.getElem?_eq_getElem (l := cs') (i := k) (by rw [HL'.out]; omega)
            obtain ⟨gc, hgc⟩ : ∃ gc, A8 = some ⟨gc, 0, none⟩ := by
             obtain ⟨g', c', e, -⟩ := HJ'.out.cod.at_ hrk
             injection e with e1 _ _
             exact ⟨g', e1⟩
            subst hgc
            obtain ⟨x5, vf5, hx5, htx, ⟨n1, n2, n3⟩, hfl⟩ := HJ'.out.held _ (List.mem_of_getElem? hrk) wr (Only.refl _ _)
            rw [hx5] at hrk
            obtain ⟨AF, cF, hvF, hnF, hmF, hzF⟩ := Rows.form htx
            obtain ⟨nF, hnFl⟩ : ∃ n, x5.feedback.length = n := ⟨_, rfl⟩
            rw [hnFl] at hvF hnF
            subst hvF
            have HLB : Hid (True ∧ nF ≤ cF ∧ (AF = none → cF = 0)) := Lib.hid ⟨trivial, hnF, hzF⟩
            have hnF8 : nF ≤ 2000 := by omega
            have HFN := Lib.hid (And.intro hnFl (And.intro n3 hfl))
            have HRK := Lib.hid hrk
            clear hx5 n1 n2 n3 hnF hmF hzF hfl hrk
            go_upto_region 25 with fail
            obtain ⟨W0, hW0⟩ : ∃ X, wr.drew = X := ⟨_, rfl⟩
            have hJ0 := HJ'.out.under (Below.refl _ wr).drew
            rw [hW0] at hJ0
            obtain ⟨N0, hN0⟩ : ∃ k, W0.heap.size = k := ⟨_, rfl⟩
            have htx0 : TextsV W0 N0 (.slice AF nF cF) x5.feedback := by rw [← hN0, ← hW0]; exact htx.below (Below.refl _ wr).drew
            have HJU := Lib.hid (fun w (hw : Below N0 W0 w) => hJ0.under (by rw [hN0]; exact hw))
            have HBS : Hid (∀ w, Below N0 W0 w → N0 ≤ w.heap.size) := Lib.hid fun w hw => by have := hw.size; omega
            have HB0 : Hid (Below N0 W0 W0) := Lib.hid (Below.refl _ _)
            have HTW : Hid (∀ w, Below N0 W0 w → ∀ L, (TillOne (fun _ => True) (fun W => W.cell? ⟨gm, i * 11 + 4, none⟩ = some (.slice (some ⟨gc, 0, none⟩) nC c8) ∧ W.cell? ⟨gc, k * 6 + 5, none⟩ = some (.slice AF nF cF)) 19) L w) := Lib.hid fun w hw L => TillOne.mk trivial ⟨(HJU.out w hw).at_ HJ.out.row 4 (by decide), ((HJU.out w hw).codAt rfl HRK.out).1 5 (by decide)⟩
            have HQ0 : Hid (∀ W, Ahead (TillOne (fun _ => True) (fun W => W.cell? ⟨gm, i * 11 + 4, none⟩ = some (.slice (some ⟨gc, 0, none⟩) nC c8) ∧ W.cell? ⟨gc, k * 6 + 5, none⟩ = some (.slice AF nF cF)) 19) 19 W → W.cell? ⟨gm, i * 11 + 4, none⟩ = some (.slice (some ⟨gc, 0, none⟩) nC c8)) := Lib.hid fun W hW => (TillOne.get hW).2.1
            have HQ1 : Hid (∀ W, Ahead (TillOne (fun _ => True) (fun W => W.cell? ⟨gm, i * 11 + 4, none⟩ = some (.slice (some ⟨gc, 0, none⟩) nC c8) ∧ W.cell? ⟨gc, k * 6 + 5, none⟩ = some (.slice AF nF cF)) 19) 19 W → W.cell? ⟨gc, k * 6 + 5, none⟩ = some (.slice AF nF cF)) := Lib.hid fun W hW => (TillOne.get hW).2.2
            have HRB : Hid ((x5.feedback.map fun s => [Value.string s]).length = nF ∧ (∀ r ∈ x5.feedback.map fun s => [Value.string s], r.length = 1) ∧ ∀ r ∈ x5.feedback.map fun s => [Value.string s], ∀ u ∈ r, u.oneCell' = true) := Lib.hid (by have h := TextsV.rows1 htx0 HFN.out.1; exact ⟨h.1, h.2.1, h.2.2.1⟩)
            have HRW : Hid (∀ w, Below N0 W0 w → ∀ ad, AF = some ad → ∀ (i : Nat) (r : List Value), (x5.feedback.map fun s => [Value.string s])[i]? = some r → ∀ j, j < 1 → w.cell? (ad.add (i * 1 + j)) = r[j]?) := Lib.hid fun w hw => (TextsV.rows1 (htx0.below hw) HFN.out.1).2.2.2
            clear hJ0 hN0 htx htx0 hnFl
            refine wp_region_late (TillOne (fun _ => True) (fun W => W.cell? ⟨gm, i * 11 + 4, none⟩ = some (.slice (some ⟨gc, 0, none⟩) nC c8) ∧ W.cell? ⟨gc, k * 6 + 5, none⟩ = some (.slice AF nF cF)) 19) (by as_aux_lemma => kernel_rfl) ?_
            change wpLate Tryz.prog .any _ _ _ 20 #[false, false, false, false, false, false, false, false, false, false, false, false, false, false, false, false, false, false, false, false] _ _
            rw [hW0]
            clear hW0
            refine wpLate.take (i := 0) (q := 19) (oi := _) (v := ?_) rfl (by as_aux_lemma => kernel_rfl) (by as_aux_lemma => kernel_rfl) (by as_aux_lemma => kernel_rfl) (by as_aux_lemma => kernel_rfl) (by rfl) (fun _ _ _ h => h) (TillOne.set (by decide)) (HTW.out _ HB0.out _) (Or.inl ⟨by rfl, ?_⟩) ?_
            case refine_2 => intro W hw; have e0 := HQ0.out W hw; have e1 := HQ1.out W hw; clear hw; go_simp; (try with_reducible rfl)
            simp only [Act.put, List.getElem_toArray, List.getElem_cons_succ, List.getElem_cons_zero, List.setIfInBounds_toArray, List.set_cons_succ, List.set_cons_zero]
            refine wpLate.take (i := 1) (q := 19) (oi := _) (v := ?_) rfl (by as_aux_lemma => kernel_rfl) (by as_aux_lemma => kernel_rfl) (by as_aux_lemma => kernel_rfl) (by as_aux_lemma => kernel_rfl) (by rfl) (fun _ _ _ h => h) (TillOne.set (by decide)) (HTW.out _ HB0.out _) (Or.inl ⟨by rfl, ?_⟩) ?_
            case refine_2 => intro W hw; have e0 := HQ0.out W hw; have e1 := HQ1.out W hw; clear hw; go_simp; (try with_reducible rfl)
            simp only [Act.put, List.getElem_toArray, List.getElem_cons_succ, List.getElem_cons_zero, List.setIfInBounds_toArray, List.set_cons_succ, List.set_cons_zero]
            refine wpLate.take (i := 2) (q := 19) (oi := _) (v := ?_) rfl (by as_aux_lemma => kernel_rfl) (by as_aux_lemma => kernel_rfl) (by as_aux_lemma => kernel_rfl) (by as_aux_lemma => kernel_rfl) (by rfl) (fun _ _ _ h => h) (TillOne.set (by decide)) (HTW.out _ HB0.out _) (Or.inl ⟨by rfl, ?_⟩) ?_
            case refine_2 => intro W hw; have e0 := HQ0.out W hw; have e1 := HQ1.out W hw; clear hw; go_simp; (try with_reducible rfl)
            simp only [Act.put, List.getElem_toArray, List.getElem_cons_succ, List.getElem_cons_zero, List.setIfInBounds_toArray, List.set_cons_succ, List.set_cons_zero]
            refine wpLate.take (i := 3) (q := 19) (oi := _) (v := ?_) rfl (by as_aux_lemma => kernel_rfl) (by as_aux_lemma => kernel_rfl) (by as_aux_lemma => kernel_rfl) (by as_aux_lemma => kernel_rfl) (by rfl) (fun _ _ _ h => h) (TillOne.set (by decide)) (HTW.out _ HB0.out _) (Or.inl ⟨by rfl, ?_⟩) ?_
            case refine_2 => intro W hw; have e0 := HQ0.out W hw; have e1 := HQ1.out W hw; clear hw; go_simp; (try with_reducible rfl)
            simp only [Act.put, List.getElem_toArray, List.getElem_cons_succ, List.getElem_cons_zero, List.setIfInBounds_toArray, List.set_cons_succ, List.set_cons_zero]
            refine wpLate.take (i := 4) (q := 19) (oi := _) (v := ?_) rfl (by as_aux_lemma => kernel_rfl) (by as_aux_lemma => kernel_rfl) (by as_aux_lemma => kernel_rfl) (by as_aux_lemma => kernel_rfl) (by rfl) (fun _ _ _ h => h) (TillOne.set (by decide)) (HTW.out _ HB0.out _) (Or.inl ⟨by rfl, ?_⟩) ?_
            case refine_2 => intro W hw; have e0 := HQ0.out W hw; have e1 := HQ1.out W hw; clear hw; go_simp; (try with_reducible rfl)
            simp only [Act.put, List.getElem_toArray, List.getElem_cons_succ, List.getElem_cons_zero, List.setIfInBounds_toArray, List.set_cons_succ, List.set_cons_zero]
            refine wpLate.take (i := 6) (q := 19) (oi := _) (v := ?_) rfl (by as_aux_lemma => kernel_rfl) (by as_aux_lemma => kernel_rfl) (by as_aux_lemma => kernel_rfl) (by as_aux_lemma => kernel_rfl) (by rfl) (fun _ _ _ h => h) (TillOne.set (by decide)) (HTW.out _ HB0.out _) (Or.inl ⟨by rfl, ?_⟩) ?_
            case refine_2 => intro W hw; have e0 := HQ0.out W hw; have e1 := HQ1.out W hw; clear hw; go_simp; (try with_reducible rfl)
            simp only [Act.put, List.getElem_toArray, List.getElem_cons_succ, List.getElem_cons_zero, List.setIfInBounds_toArray, List.set_cons_succ, List.set_cons_zero]
            refine wpLate.take (i := 7) (q := 19) (oi := _) (v := ?_) rfl (by as_aux_lemma => kernel_rfl) (by as_aux_lemma => kernel_rfl) (by as_aux_lemma => kernel_rfl) (by as_aux_lemma => kernel_rfl) (by rfl) (fun _ _ _ h => h) (TillOne.set (by decide)) (HTW.out _ HB0.out _) (Or.inl ⟨by rfl, ?_⟩) ?_
            case refine_2 => intro W hw; have e0 := HQ0.out W hw; have e1 := HQ1.out W hw; clear hw; go_simp; (try with_reducible rfl)
            simp only [Act.put, List.getElem_toArray, List.getElem_cons_succ, List.getElem_cons_zero, List.setIfInBounds_toArray, List.set_cons_succ, List.set_cons_zero]
            refine wpLate.take (i := 8) (q := 19) (oi := _) (v := ?_) rfl (by as_aux_lemma => kernel_rfl) (by as_aux_lemma => kernel_rfl) (by as_aux_lemma => kernel_rfl) (by as_aux_lemma => kernel_rfl) (by rfl) (fun _ _ _ h => h) (TillOne.set (by decide)) (HTW.out _ HB0.out _) (Or.inl ⟨by rfl, ?_⟩) ?_
            case refine_2 => intro W hw; have e0 := HQ0.out W hw; have e1 := HQ1.out W hw; clear hw; go_simp; (try with_reducible rfl)
            simp only [Act.put, List.getElem_toArray, List.getElem_cons_succ, List.getElem_cons_zero, List.setIfInBounds_toArray, List.set_cons_succ, List.set_cons_zero]
            refine wpLate.take (i := 9) (q := 19) (oi := _) (v := ?_) rfl (by as_aux_lemma => kernel_rfl) (by as_aux_lemma => kernel_rfl) (by as_aux_lemma => kernel_rfl) (by as_aux_lemma => kernel_rfl) (by rfl) (fun _ _ _ h => h) (TillOne.set (by decide)) (HTW.out _ HB0.out _) (Or.inl ⟨by rfl, ?_⟩) ?_
            case refine_2 => intro W hw; have e0 := HQ0.out W hw; have e1 := HQ1.out W hw; clear hw; go_simp; (try with_reducible rfl)
            simp only [Act.put, List.getElem_toArray, List.getElem_cons_succ, List.getElem_cons_zero, List.setIfInBounds_toArray, List.set_cons_succ, List.set_cons_zero]
            refine wpLate.take (i := 10) (q := 19) (oi := _) (v := ?_) rfl (by as_aux_lemma => kernel_rfl) (by as_aux_lemma => kernel_rfl) (by as_aux_lemma => kernel_rfl) (by as_aux_lemma => kernel_rfl) (by rfl) (fun _ _ _ h => h) (TillOne.set (by decide)) (HTW.out _ HB0.out _) (Or.inl ⟨by rfl, ?_⟩) ?_
            case refine_2 => intro W hw; have e0 := HQ0.out W hw; have e1 := HQ1.out W hw; clear hw; go_simp; (try with_reducible rfl)
            simp only [Act.put, List.getElem_toArray, List.getElem_cons_succ, List.getElem_cons_zero, List.setIfInBounds_toArray, List.set_cons_succ, List.set_cons_zero]
            refine wpLate.take (i := 11) (q := 19) (oi := _) (v := ?_) rfl (by as_aux_lemma => kernel_rfl) (by as_aux_lemma => kernel_rfl) (by as_aux_lemma => kernel_rfl) (by as_aux_lemma => kernel_rfl) (by rfl) (fun _ _ _ h => h) (TillOne.set (by decide)) (HTW.out _ HB0.out _) (Or.inl ⟨by rfl, ?_⟩) ?_
            case refine_2 => intro W hw; have e0 := HQ0.out W hw; have e1 := HQ1.out W hw; clear hw; go_simp; (try with_reducible rfl)
            simp only [Act.put, List.getElem_toArray, List.getElem_cons_succ, List.getElem_cons_zero, List.setIfInBounds_toArray, List.set_cons_succ, List.set_cons_zero]
            refine wpLate.take (i := 12) (q := 19) (oi := _) (v := ?_) rfl (by as_aux_lemma => kernel_rfl) (by as_aux_lemma => kernel_rfl) (by as_aux_lemma => kernel_rfl) (by as_aux_lemma => kernel_rfl) (by rfl) (fun _ _ _ h => h) (TillOne.set (by decide)) (HTW.out _ HB0.out _) (Or.inl ⟨by rfl, ?_⟩) ?_
            case refine_2 => intro W hw; have e0 := HQ0.out W hw; have e1 := HQ1.out W hw; clear hw; go_simp; (try with_reducible rfl)
            simp only [Act.put, List.getElem_toArray, List.getElem_cons_succ, List.getElem_cons_zero, List.setIfInBounds_toArray, List.set_cons_succ, List.set_cons_zero]
            refine wpLate.take (i := 13) (q := 19) (oi := _) (v := ?_) rfl (by as_aux_lemma => kernel_rfl) (by as_aux_lemma => kernel_rfl) (by as_aux_lemma => kernel_rfl) (by as_aux_lemma => kernel_rfl) (by rfl) (fun _ _ _ h => h) (TillOne.set (by decide)) (HTW.out _ HB0.out _) (Or.inl ⟨by rfl, ?_⟩) ?_
            case refine_2 => intro W hw; have e0 := HQ0.out W hw; have e1 := HQ1.out W hw; clear hw; go_simp; (try with_reducible rfl)
            simp only [Act.put, List.getElem_toArray, List.getElem_cons_succ, List.getElem_cons_zero, List.setIfInBounds_toArray, List.set_cons_succ, List.set_cons_zero]
            refine wpLate.ready (rs := [5, 15]) (by as_aux_lemma => kernel_rfl) (by simp) (eachLate.cons (i := 5) rfl (fun K hK => ?_) (eachLate.cons (i := 15) rfl (fun K hK => ?_) eachLate.nil))
            · go_simp
              have n_hb := HB0.out.alloc (HBS.out _ HB0.out) (Obj.cells #[] 9)
              have n_r0 := own0J (w := W0) (HBS.out _ HB0.out)
              generalize W0.alloc (Obj.cells #[] 9) = w_5_ at *
              generalize W0.heap.size = g0 at *
              have H_5_ := Lib.hid (And.intro n_hb (n_r0))
              clear n_hb n_r0
              refine hK.out _ _ (HTW.out _ H_5_.out.1 _) ?_
              clear hK K
              try simp only [Act.put, List.setIfInBounds_toArray, List.set_cons_succ, List.set_cons_zero]
              refine wpLate.ready (rs := [14, 15]) (by as_aux_lemma => kernel_rfl) (by simp) (eachLate.cons (i := 14) rfl (fun K hK => ?_) (eachLate.cons (i := 15) rfl (fun K hK => ?_) eachLate.nil))
              · refine step_of rfl (wp_appendRows (ks := []) (rs := x5.feedback.map fun s => [Value.string s]) (base := N0) (v := .slice (some ⟨g0, 0, none⟩) 0 0) (A := AF) (n := nF) (c := cF) (.tmp 131) (.tmp 139) rfl Tryz.underlying23 infoStr9 rfl (Nat.zero_lt_succ _) (by go_simp; (try with_reducible rfl)) H_5_.out.2 (by go_simp; (try with_reducible rfl)) HLB.out.2.2 HLB.out.2.1 HRB.out.1 HRB.out.2.1 HRB.out.2.2 (HRW.out _ H_5_.out.1) (by simp only [List.length_nil]; omega) (by simp only [List.length_nil]; omega) (HBS.out _ H_5_.out.1) ?_)
                intro v3 w_5_14_ ho3 hg3 hn3
                rw [List.nil_append] at ho3
                have n_hb := H_5_.out.1.grown hg3 (HBS.out _ H_5_.out.1) (fun j hj => (Own.lt H_5_.out.2 hj).1)
                have n_r3 := ho3
                clear ho3 hg3 hn3
                have H_5_14_ := Lib.hid (And.intro n_hb (n_r3))
                clear n_hb n_r3
                refine hK.out _ _ (HTW.out _ H_5_14_.out.1 _) ?_
                clear hK K
                try simp only [Act.put, List.setIfInBounds_toArray, List.set_cons_succ, List.set_cons_zero]
                refine wpLate.ready (rs := [15]) (by as_aux_lemma => kernel_rfl) (by simp) (eachLate.cons (i := 15) rfl (fun K hK => ?_) eachLate.nil)
                go_simp
                have n_hb := H_5_14_.out.1.alloc (HBS.out _ H_5_14_.out.1) (Obj.cells #[Value.string ⟨#[120]⟩] 9)
                have n_r3 := H_5_14_.out.2.alloc (Obj.cells #[Value.string ⟨#[120]⟩] 9)
                have n_o8 := Whole.new w_5_14_ 9 #[Value.string ⟨#[120]⟩]
                generalize w_5_14_.alloc (Obj.cells #[Value.string ⟨#[120]⟩] 9) = w_5_14_15_ at *
                generalize w_5_14_.heap.size = g8 at *
                have H_5_14_15_ := Lib.hid (And.intro n_hb (And.intro n_r3 (n_o8)))
                clear n_hb n_r3 n_o8
                refine hK.out _ _ (HTW.out _ H_5_14_15_.out.1 _) ?_
                clear hK K
                try simp only [Act.put, List.setIfInBounds_toArray, List.set_cons_succ, List.set_cons_zero]
                refine wpLate.ready (rs := [16]) (by as_aux_lemma => kernel_rfl) (by simp) (eachLate.cons (i := 16) rfl (fun K hK => ?_) eachLate.nil)
                refine step_of rfl (wp_appendE (base := N0) (rs := x5.feedback.map fun s => [Value.string s]) (r := [Value.string ⟨#[120]⟩]) (v := v3) (g := g8) (c := 1) (.tmp 140) (.tmp 141) rfl Tryz.underlying23 infoStr9 rfl (Nat.zero_lt_succ _) (by go_simp; (try with_reducible rfl)) H_5_14_15_.out.2.1 (by go_simp; (try with_reducible rfl)) H_5_14_15_.out.2.2 rfl (fun u hu => by simp at hu; subst hu; rfl) (by rw [HRB.out.1]; omega) (by rw [HRB.out.1]; omega) (HBS.out _ H_5_14_15_.out.1) ?_)
                intro v9 w_5_14_15_16_ ho9 hg9 hn9
                obtain ⟨AZ, kZ, hv9, -⟩ := Own.form ho9
                generalize List.length _ = l9 at hv9
                subst hv9
                have n_hb := H_5_14_15_.out.1.grown hg9 (HBS.out _ H_5_14_15_.out.1) (fun j hj => (Own.lt H_5_14_15_.out.2.1 hj).1)
                have n_r9 := ho9
                clear ho9 hg9 hn9
                have H_5_14_15_16_ := Lib.hid (And.intro n_hb (n_r9))
                clear n_hb n_r9
                refine hK.out _ _ (HTW.out _ H_5_14_15_16_.out.1 _) ?_
                clear hK K
                try simp only [Act.put, List.setIfInBounds_toArray, List.set_cons_succ, List.set_cons_zero]
                have c9 := ((HJU.out _ H_5_14_15_16_.out.1).codAt rfl HRK.out).1 5 (by decide)
                have f9 := ((HJU.out _ H_5_14_15_16_.out.1).codAt rfl HRK.out).2 (k * 6 + 5)
                simp only [ccell, List.getElem?_cons_zero, List.getElem?_cons_succ] at c9
                refine wpLate.ready (rs := [17]) (by as_aux_lemma => kernel_rfl) (by simp) (eachLate.cons rfl (fun K hK => ?_) eachLate.nil)
                go_simp
                refine hK.out _ _ (HTW.out _ H_5_14_15_16_.out.1 _) ?_
                clear hK K
                try simp only [Act.put, List.setIfInBounds_toArray, List.set_cons_succ, List.set_cons_zero]
                refine wpLate.take (i := 18) (q := 19) (oi := _) (v := ?_) rfl (by as_aux_lemma => kernel_rfl) (by as_aux_lemma => kernel_rfl) (by as_aux_lemma => kernel_rfl) (by as_aux_lemma => kernel_rfl) (by rfl) (fun _ _ _ h => h) (TillOne.set (by decide)) (HTW.out _ H_5_14_15_16_.out.1 _) (Or.inl ⟨by rfl, ?_⟩) ?_
                case refine_2 => intro W hw; have e0 := HQ0.out W hw; have e1 := HQ1.out W hw; clear hw; go_simp; (try with_reducible rfl)
                simp only [Act.put, List.getElem_toArray, List.getElem_cons_succ, List.getElem_cons_zero, List.setIfInBounds_toArray, List.set_cons_succ, List.set_cons_zero]
                refine wpLate.ready (rs := [19]) (by as_aux_lemma => kernel_rfl) (by simp) (eachLate.cons (i := 19) rfl (fun K hK => ?_) eachLate.nil)
                go_simp
                refine hK.out _ _ (TillOne.past trivial rfl) ?_
                clear hK K
                try simp only [Act.put]
                refine wpLate.done (by as_aux_lemma => kernel_rfl) ?_ _
                have HP := Lib.hid ((HJU.out _ H_5_14_15_16_.out.1).putF rfl HRK.out (L := x5.feedback ++ [⟨#[120]⟩]) (lim' := 1000 + (k + 1)) (by rw [List.map_append]; exact H_5_14_15_16_.out.2) (by rw [List.length_append]; have := HFN.out.2.2; show x5.feedback.length + 1 ≤ _; omega) (fun x hx => by rcases List.mem_append.1 hx with hx | hx; exact HFN.out.2.1 x hx; obtain rfl := List.mem_singleton.1 hx; show 1 ≤ _; omega) (by omega))
                go_wp2
                go_roundw
                case rel => exact ⟨k + 1, _, by omega, by go_num, by rw [List.length_set]; exact HL'.out, HP.out⟩
                case measure => simp [intOf]; omega
              · go_simp
                have n_hb := H_5_.out.1.alloc (HBS.out _ H_5_.out.1) (Obj.cells #[Value.string ⟨#[120]⟩] 9)
                have n_r0 := H_5_.out.2.alloc (Obj.cells #[Value.string ⟨#[120]⟩] 9)
                have n_o8 := Whole.new w_5_ 9 #[Value.string ⟨#[120]⟩]
                have n_n08 := Nat.ne_of_lt (H_5_.out.2.lt (k := g0) rfl).2
                generalize w_5_.alloc (Obj.cells #[Value.string ⟨#[120]⟩] 9) = w_5_15_ at *
                generalize w_5_.heap.size = g8 at *
                have H_5_15_ := Lib.hid (And.intro n_hb (And.intro n_r0 (And.intro n_o8 (n_n08))))
                clear n_hb n_r0 n_o8 n_n08
                refine hK.out _ _ (HTW.out _ H_5_15_.out.1 _) ?_
                clear hK K
                try simp only [Act.put, List.setIfInBounds_toArray, List.set_cons_succ, List.set_cons_zero]
                refine wpLate.ready (rs := [14]) (by as_aux_lemma => kernel_rfl) (by simp) (eachLate.cons (i := 14) rfl (fun K hK => ?_) eachLate.nil)
                refine step_of rfl (wp_appendRows (ks := []) (rs := x5.feedback.map fun s => [Value.string s]) (base := N0) (v := .slice (some ⟨g0, 0, none⟩) 0 0) (A := AF) (n := nF) (c := cF) (.tmp 131) (.tmp 139) rfl Tryz.underlying23 infoStr9 rfl (Nat.zero_lt_succ _) (by go_simp; (try with_reducible rfl)) H_5_15_.out.2.1 (by go_simp; (try with_reducible rfl)) HLB.out.2.2 HLB.out.2.1 HRB.out.1 HRB.out.2.1 HRB.out.2.2 (HRW.out _ H_5_15_.out.1) (by simp only [List.length_nil]; omega) (by simp only [List.length_nil]; omega) (HBS.out _ H_5_15_.out.1) ?_)
                intro v3 w_5_15_14_ ho3 hg3 hn3
                rw [List.nil_append] at ho3
                have n_hb := H_5_15_.out.1.grown hg3 (HBS.out _ H_5_15_.out.1) (fun j hj => (Own.lt H_5_15_.out.2.1 hj).1)
                have n_r3 := ho3
                have n_o8 := H_5_15_.out.2.2.1.grown hg3 (fun e => H_5_15_.out.2.2.2 (Option.some.inj (e : some g8 = some g0)).symm)
                clear ho3 hg3 hn3
                have H_5_15_14_ := Lib.hid (And.intro n_hb (And.intro n_r3 (n_o8)))
                clear n_hb n_r3 n_o8
                refine hK.out _ _ (HTW.out _ H_5_15_14_.out.1 _) ?_
                clear hK K
                try simp only [Act.put, List.setIfInBounds_toArray, List.set_cons_succ, List.set_cons_zero]
                refine wpLate.ready (rs := [16]) (by as_aux_lemma => kernel_rfl) (by simp) (eachLate.cons (i := 16) rfl (fun K hK => ?_) eachLate.nil)
                refine step_of rfl (wp_appendE (base := N0) (rs := x5.feedback.map fun s => [Value.string s]) (r := [Value.string ⟨#[120]⟩]) (v := v3) (g := g8) (c := 1) (.tmp 140) (.tmp 141) rfl Tryz.underlying23 infoStr9 rfl (Nat.zero_lt_succ _) (by go_simp; (try with_reducible rfl)) H_5_15_14_.out.2.1 (by go_simp; (try with_reducible rfl)) H_5_15_14_.out.2.2 rfl (fun u hu => by simp at hu; subst hu; rfl) (by rw [HRB.out.1]; omega) (by rw [HRB.out.1]; omega) (HBS.out _ H_5_15_14_.out.1) ?_)
                intro v9 w_5_15_14_16_ ho9 hg9 hn9
                obtain ⟨AZ, kZ, hv9, -⟩ := Own.form ho9
                generalize List.length _ = l9 at hv9
                subst hv9
                have n_hb := H_5_15_14_.out.1.grown hg9 (HBS.out _ H_5_15_14_.out.1) (fun j hj => (Own.lt H_5_15_14_.out.2.1 hj).1)
                have n_r9 := ho9
                clear ho9 hg9 hn9
                have H_5_15_14_16_ := Lib.hid (And.intro n_hb (n_r9))
                clear n_hb n_r9
                refine hK.out _ _ (HTW.out _ H_5_15_14_16_.out.1 _) ?_
                clear hK K
                try simp only [Act.put, List.setIfInBounds_toArray, List.set_cons_succ, List.set_cons_zero]
                have c9 := ((HJU.out _ H_5_15_14_16_.out.1).codAt rfl HRK.out).1 5 (by decide)
                have f9 := ((HJU.out _ H_5_15_14_16_.out.1).codAt rfl HRK.out).2 (k * 6 + 5)
                simp only [ccell, List.getElem?_cons_zero, List.getElem?_cons_succ] at c9
                refine wpLate.ready (rs := [17]) (by as_aux_lemma => kernel_rfl) (by simp) (eachLate.cons rfl (fun K hK => ?_) eachLate.nil)
                go_simp
                refine hK.out _ _ (HTW.out _ H_5_15_14_16_.out.1 _) ?_
                clear hK K
                try simp only [Act.put, List.setIfInBounds_toArray, List.set_cons_succ, List.set_cons_zero]
                refine wpLate.take (i := 18) (q := 19) (oi := _) (v := ?_) rfl (by as_aux_lemma => kernel_rfl) (by as_aux_lemma => kernel_rfl) (by as_aux_lemma => kernel_rfl) (by as_aux_lemma => kernel_rfl) (by rfl) (fun _ _ _ h => h) (TillOne.set (by decide)) (HTW.out _ H_5_15_14_16_.out.1 _) (Or.inl ⟨by rfl, ?_⟩) ?_
                case refine_2 => intro W hw; have e0 := HQ0.out W hw; have e1 := HQ1.out W hw; clear hw; go_simp; (try with_reducible rfl)
                simp only [Act.put, List.getElem_toArray, List.getElem_cons_succ, List.getElem_cons_zero, List.setIfInBounds_toArray, List.set_cons_succ, List.set_cons_zero]
                refine wpLate.ready (rs := [19]) (by as_aux_lemma => kernel_rfl) (by simp) (eachLate.cons (i := 19) rfl (fun K hK => ?_) eachLate.nil)
                go_simp
                refine hK.out _ _ (TillOne.past trivial rfl) ?_
                clear hK K
                try simp only [Act.put]
                refine wpLate.done (by as_aux_lemma => kernel_rfl) ?_ _
                have HP := Lib.hid ((HJU.out _ H_5_15_14_16_.out.1).putF rfl HRK.out (L := x5.feedback ++ [⟨#[120]⟩]) (lim' := 1000 + (k + 1)) (by rw [List.map_append]; exact H_5_15_14_16_.out.2) (by rw [List.length_append]; have := HFN.out.2.2; show x5.feedback.length + 1 ≤ _; omega) (fun x hx => by rcases List.mem_append.1 hx with hx | hx; exact HFN.out.2.1 x hx; obtain rfl := List.mem_singleton.1 hx; show 1 ≤ _; omega) (by omega))
                go_wp2
                go_roundw
                case rel => exact ⟨k + 1, _, by omega, by go_num, by rw [List.length_set]; exact HL'.out, HP.out⟩
                case measure => simp [intOf]; omega
            · go_simp
              have n_hb := HB0.out.alloc (HBS.out _ HB0.out) (Obj.cells #[Value.string ⟨#[120]⟩] 9)
              have n_o8 := Whole.new W0 9 #[Value.string ⟨#[120]⟩]
              generalize W0.alloc (Obj.cells #[Value.string ⟨#[120]⟩] 9) = w_15_ at *
              generalize W0.heap.size = g8 at *
              have H_15_ := Lib.hid (And.intro n_hb (n_o8))
              clear n_hb n_o8
              refine hK.out _ _ (HTW.out _ H_15_.out.1 _) ?_
              clear hK K
              try simp only [Act.put, List.setIfInBounds_toArray, List.set_cons_succ, List.set_cons_zero]
              refine wpLate.ready (rs := [5]) (by as_aux_lemma => kernel_rfl) (by simp) (eachLate.cons (i := 5) rfl (fun K hK => ?_) eachLate.nil)
              go_simp
              have n_hb := H_15_.out.1.alloc (HBS.out _ H_15_.out.1) (Obj.cells #[] 9)
              have n_r0 := own0J (w := w_15_) (HBS.out _ H_15_.out.1)
              have n_o8 := H_15_.out.2.alloc (Obj.cells #[] 9)
              have n_n08 := Nat.ne_of_gt H_15_.out.2.lt
              generalize w_15_.alloc (Obj.cells #[] 9) = w_15_5_ at *
              generalize w_15_.heap.size = g0 at *
              have H_15_5_ := Lib.hid (And.intro n_hb (And.intro n_r0 (And.intro n_o8 (n_n08))))
              clear n_hb n_r0 n_o8 n_n08
              refine hK.out _ _ (HTW.out _ H_15_5_.out.1 _) ?_
              clear hK K
              try simp only [Act.put, List.setIfInBounds_toArray, List.set_cons_succ, List.set_cons_zero]
              refine wpLate.ready (rs := [14]) (by as_aux_lemma => kernel_rfl) (by simp) (eachLate.cons (i := 14) rfl (fun K hK => ?_) eachLate.nil)
              refine step_of rfl (wp_appendRows (ks := []) (rs := x5.feedback.map fun s => [Value.string s]) (base := N0) (v := .slice (some ⟨g0, 0, none⟩) 0 0) (A := AF) (n := nF) (c := cF) (.tmp 131) (.tmp 139) rfl Tryz.underlying23 infoStr9 rfl (Nat.zero_lt_succ _) (by go_simp; (try with_reducible rfl)) H_15_5_.out.2.1 (by go_simp; (try with_reducible rfl)) HLB.out.2.2 HLB.out.2.1 HRB.out.1 HRB.out.2.1 HRB.out.2.2 (HRW.out _ H_15_5_.out.1) (by simp only [List.length_nil]; omega) (by simp only [List.length_nil]; omega) (HBS.out _ H_15_5_.out.1) ?_)
              intro v3 w_15_5_14_ ho3 hg3 hn3
              rw [List.nil_append] at ho3
              have n_hb := H_15_5_.out.1.grown hg3 (HBS.out _ H_15_5_.out.1) (fun j hj => (Own.lt H_15_5_.out.2.1 hj).1)
              have n_r3 := ho3
              have n_o8 := H_15_5_.out.2.2.1.grown hg3 (fun e => H_15_5_.out.2.2.2 (Option.some.inj (e : some g8 = some g0)).symm)
              clear ho3 hg3 hn3
              have H_15_5_14_ := Lib.hid (And.intro n_hb (And.intro n_r3 (n_o8)))
              clear n_hb n_r3 n_o8
              refine hK.out _ _ (HTW.out _ H_15_5_14_.out.1 _) ?_
              clear hK K
              try simp only [Act.put, List.setIfInBounds_toArray, List.set_cons_succ, List.set_cons_zero]
              refine wpLate.ready (rs := [16]) (by as_aux_lemma => kernel_rfl) (by simp) (eachLate.cons (i := 16) rfl (fun K hK => ?_) eachLate.nil)
              refine step_of rfl (wp_appendE (base := N0) (rs := x5.feedback.map fun s => [Value.string s]) (r := [Value.string ⟨#[120]⟩]) (v := v3) (g := g8) (c := 1) (.tmp 140) (.tmp 141) rfl Tryz.underlying23 infoStr9 rfl (Nat.zero_lt_succ _) (by go_simp; (try with_reducible rfl)) H_15_5_14_.out.2.1 (by go_simp; (try with_reducible rfl)) H_15_5_14_.out.2.2 rfl (fun u hu => by simp at hu; subst hu; rfl) (by rw [HRB.out.1]; omega) (by rw [HRB.out.1]; omega) (HBS.out _ H_15_5_14_.out.1) ?_)
              intro v9 w_15_5_14_16_ ho9 hg9 hn9
              obtain ⟨AZ, kZ, hv9, -⟩ := Own.form ho9
              generalize List.length _ = l9 at hv9
              subst hv9
              have n_hb := H_15_5_14_.out.1.grown hg9 (HBS.out _ H_15_5_14_.out.1) (fun j hj => (Own.lt H_15_5_14_.out.2.1 hj).1)
              have n_r9 := ho9
              clear ho9 hg9 hn9
              have H_15_5_14_16_ := Lib.hid (And.intro n_hb (n_r9))
              clear n_hb n_r9
              refine hK.out _ _ (HTW.out _ H_15_5_14_16_.out.1 _) ?_
              clear hK K
              try simp only [Act.put, List.setIfInBounds_toArray, List.set_cons_succ, List.set_cons_zero]
              have c9 := ((HJU.out _ H_15_5_14_16_.out.1).codAt rfl HRK.out).1 5 (by decide)
              have f9 := ((HJU.out _ H_15_5_14_16_.out.1).codAt rfl HRK.out).2 (k * 6 + 5)
              simp only [ccell, List.getElem?_cons_zero, List.getElem?_cons_succ] at c9
              refine wpLate.ready (rs := [17]) (by as_aux_lemma => kernel_rfl) (by simp) (eachLate.cons rfl (fun K hK => ?_) eachLate.nil)
              go_simp
              refine hK.out _ _ (HTW.out _ H_15_5_14_16_.out.1 _) ?_
              clear hK K
              try simp only [Act.put, List.setIfInBounds_toArray, List.set_cons_succ, List.set_cons_zero]
              refine wpLate.take (i := 18) (q := 19) (oi := _) (v := ?_) rfl (by as_aux_lemma => kernel_rfl) (by as_aux_lemma => kernel_rfl) (by as_aux_lemma => kernel_rfl) (by as_aux_lemma => kernel_rfl) (by rfl) (fun _ _ _ h => h) (TillOne.set (by decide)) (HTW.out _ H_15_5_14_16_.out.1 _) (Or.inl ⟨by rfl, ?_⟩) ?_
              case refine_2 => intro W hw; have e0 := HQ0.out W hw; have e1 := HQ1.out W hw; clear hw; go_simp; (try with_reducible rfl)
              simp only [Act.put, List.getElem_toArray, List.getElem_cons_succ, List.getElem_cons_zero, List.setIfInBounds_toArray, List.set_cons_succ, List.set_cons_zero]
              refine wpLate.ready (rs := [19]) (by as_aux_lemma => kernel_rfl) (by simp) (eachLate.cons (i := 19) rfl (fun K hK => ?_) eachLate.nil)
              go_simp
              refine hK.out _ _ (TillOne.past trivial rfl) ?_
              clear hK K
              try simp only [Act.put]
              refine wpLate.done (by as_aux_lemma => kernel_rfl) ?_ _
              have HP := Lib.hid ((HJU.out _ H_15_5_14_16_.out.1).putF rfl HRK.out (L := x5.feedback ++ [⟨#[120]⟩]) (lim' := 1000 + (k + 1)) (by rw [List.map_append]; exact H_15_5_14_16_.out.2) (by rw [List.length_append]; have := HFN.out.2.2; show x5.feedback.length + 1 ≤ _; omega) (fun x hx => by rcases List.mem_append.1 hx with hx | hx; exact HFN.out.2.1 x hx; obtain rfl := List.mem_singleton.1 hx; show 1 ≤ _; omega) (by omega))
              go_wp2
              go_roundw
              case rel => exact ⟨k + 1, _, by omega, by go_num, by rw [List.length_set]; exact HL'.out, HP.out⟩
              case measure => simp [intOf]; omega
          · have hk1 : ¬ (k : Int) < (nC : Int) := by omega
            go_wp2
            go_meet
            exact HJ.out.endC HJ'.out.low HJ'.out.box HJ'.out.own HJ'.out.cod (fun r hr => by obtain ⟨x, vf, e, ht, hn, hl2⟩ := HJ'.out.held r hr wr (Only.refl _ _); exact ⟨x, vf, e, ht, hn, by omega⟩) (by rw [HL'.out]; omega) HVER.out
      · clear hm1 hm2 hm3
        as_aux_lemma =>
         have kc := HCELL.out.1 4 (by decide)
         simp only [List.getElem?_cons_zero, List.getElem?_cons_succ, Nat.add_zero] at kc
         go_wp2
         clear kc
         go_loopw [153] (fun s153 wr => ∃ (k : Nat) (cs' : List (List Value)), k ≤ nC ∧ s153 = .int .i64 (k : Int) ∧ cs'.length = nC ∧ JS wB wr gd gd gm rs.length i c4 ver (.slice AB nB cB) name pass rows m (.slice A8 nC c8) vE vR vS vY cs') (fun s153 _ => nC - (intOf s153).toNat)
         case atStart => exact ⟨0, cs, Nat.zero_le _, rfl, HCS.out.1, HJ.out⟩
         case round =>
          obtain ⟨k, cs', hk, rfl, hl', hj'⟩ := hrel
          have HJ' := Lib.hid hj'
          have HL' := Lib.hid hl'
          clear hj' hl'
          by_cases hkt : k < nC
          · have hk1 : (k : Int) < (nC : Int) := by omega
            have hk0 : (0 : Int) ≤ (k : Int) := by omega
            have e1 : IntKind.i64.wrap ((k : Int) + 1) = (k : Int) + 1 := IntWalk.i64_in _ (by omega)
            have kc := HJ'.out.at_.1 4 (by decide)
            have hrk := List.getElem?_eq_getElem (l := cs') (i := k) (by rw [HL'.out]; omega)
            obtain ⟨gc, hgc⟩ : ∃ gc, A8 = some ⟨gc, 0, none⟩ := by
             obtain ⟨g', c', e, -⟩ := HJ'.out.cod.at_ hrk
             injection e with e1 _ _
             exact ⟨g', e1⟩
            subst hgc
            have hca := HJ'.out.codAt rfl hrk
            have c4' := hca.1 4 (by decide)
            have f4' := hca.2 (k * 6 + 4)
            have HP := Lib.hid (HJ'.out.codPut (s := ⟨#[121]⟩) rfl hrk (by show 1 ≤ _; omega))
            obtain ⟨x4, vf4, hx4, -⟩ := HJ'.out.codr _ (List.mem_of_getElem? hrk)
            rw [hx4] at c4'
            simp only [ccell, List.getElem?_cons_zero, List.getElem?_cons_succ, Nat.add_zero] at kc c4'
            clear hca hrk hx4
            go_wp2
            go_roundw
            case rel => exact ⟨k + 1, _, by omega, by go_num, by rw [List.length_set]; exact HL'.out, HP.out⟩
            case measure => simp [intOf]; omega
          · have hk1 : ¬ (k : Int) < (nC : Int) := by omega
            go_wp2
            go_meet
            exact HJ'.out.same HVER.out
      · clear hm1 hm2 hm3
        as_aux_lemma =>
         have kc := HCELL.out.1 4 (by decide)
         simp only [List.getElem?_cons_zero, List.getElem?_cons_succ, Nat.add_zero] at kc
         by_cases hn1' : 1 < nC
         · have hr0 := List.getElem?_eq_getElem (l := cs) (i := 0) (by rw [HCS.out.1]; omega)
           have hr1 := List.getElem?_eq_getElem (l := cs) (i := 1) (by rw [HCS.out.1]; omega)
           obtain ⟨gc, hgc⟩ : ∃ gc, A8 = some ⟨gc, 0, none⟩ := by
            obtain ⟨g', c', e, -⟩ := HJ.out.cod.at_ hr0
            injection e with e1 _ _
            exact ⟨g', e1⟩
           subst hgc
           obtain ⟨xa, va, ha, hxa⟩ := HJ.out.codr _ (List.mem_of_getElem? hr0)
           obtain ⟨xb, vb, hb', hxb⟩ := HJ.out.codr _ (List.mem_of_getElem? hr1)
           rw [ha] at hr0
           rw [hb'] at hr1
           have hca : CRow wB gd (ccell xa va) := ⟨xa, va, rfl, hxa⟩
           have hcb : CRow wB gd (ccell xb vb) := ⟨xb, vb, rfl, hxb⟩
           have HR := Lib.hid (And.intro hr0 (And.intro hr1 (And.intro hca hcb)))
           obtain ⟨CA, hCA'⟩ : ∃ C, (ccell xa va).toArray = C := ⟨_, rfl⟩
           obtain ⟨CB, hCB'⟩ : ∃ C, (ccell xb vb).toArray = C := ⟨_, rfl⟩
           have HhCA := Lib.hid hCA'
           have HhCB := Lib.hid hCB'
           have HCAZ : Hid (CA.all (·.oneCell') = true ∧ CA.size = 6) := Lib.hid (by rw [← hCA']; exact crow_one hca)
           have HCBZ : Hid (CB.all (·.oneCell') = true ∧ CB.size = 6) := Lib.hid (by rw [← hCB']; exact crow_one hcb)
           have hp1 : (1 : Int) < (nC : Int) := by omega
           have hp0 : (0 : Int) < (nC : Int) := by omega
           have hp2 : 0 < nC := by omega
           have HJd := Lib.hid (HJ.out.under (Below.refl _ W).drew)
           clear ha hb' hxa hxb hca hcb hCA' hCB' hr0 hr1
           go_upto_region 35 with fail
           clear kc
           obtain ⟨W0, hW0⟩ : ∃ X, W.drew = X := ⟨_, rfl⟩
           have hJ0 := HJd.out
           rw [hW0] at hJ0
           have HJ0 := Lib.hid hJ0
           have HT0 : Hid (∀ L, (TillTwo (fun W => W.cell? ⟨gm, i * 11 + 4, none⟩ = some (.slice (some ⟨gc, 0, none⟩) nC c8)) (fun W => (∀ (j : Nat) (v : Value), CA.toList[j]? = some v → W.cell? ((⟨gc, 0, none⟩ : Addr).add j) = some v) ∧ ∀ (j : Nat) (v : Value), CB.toList[j]? = some v → W.cell? ((⟨gc, 6, none⟩ : Addr).add j) = some v) (fun _ => True) 21 23) L W0) := Lib.hid fun L => TillTwo.mk (hJ0.at_.1 4 (by decide)) (.inr ⟨fun j v hv => by have h1 := (hJ0.codAt rfl HR.out.1).1 j (by have := (List.getElem?_eq_some_iff.1 hv).1; rw [Array.length_toList, HCAZ.out.2] at this; exact this); rw [Addr.add_lit]; rw [← HhCA.out] at hv; exact h1.trans hv, fun j v hv => by have h1 := (hJ0.codAt rfl HR.out.2.1).1 j (by have := (List.getElem?_eq_some_iff.1 hv).1; rw [Array.length_toList, HCBZ.out.2] at this; exact this); rw [Addr.add_lit]; rw [← HhCB.out] at hv; exact h1.trans hv⟩) (.inr trivial)
           clear hJ0
           refine wp_region_late (TillTwo (fun W => W.cell? ⟨gm, i * 11 + 4, none⟩ = some (.slice (some ⟨gc, 0, none⟩) nC c8)) (fun W => (∀ (j : Nat) (v : Value), CA.toList[j]? = some v → W.cell? ((⟨gc, 0, none⟩ : Addr).add j) = some v) ∧ ∀ (j : Nat) (v : Value), CB.toList[j]? = some v → W.cell? ((⟨gc, 6, none⟩ : Addr).add j) = some v) (fun _ => True) 21 23) (by as_aux_lemma => kernel_rfl) ?_
           change wpLate Tryz.prog .any _ _ _ 24 #[false, false, false, false, false, false, false, false, false, false, false, false, false, false, false, false, false, false, false, false, false, false, false, false] _ _
           rw [hW0]
           clear hW0
           refine wpLate.take (i := 0) (q := 21) (oi := _) (v := ?_) rfl (by as_aux_lemma => kernel_rfl) (by as_aux_lemma => kernel_rfl) (by as_aux_lemma => kernel_rfl) (by as_aux_lemma => kernel_rfl) (by rfl) (fun _ _ _ h => h) (TillTwo.set (by decide) (by decide)) (HT0.out _) (Or.inl ⟨by rfl, ?_⟩) ?_
           case refine_2 => intro W hw; have e0 := (TillTwo.one hw).1; clear hw; go_simp; (try with_reducible rfl)
           simp only [Act.put, List.getElem_toArray, List.getElem_cons_succ, List.getElem_cons_zero, List.setIfInBounds_toArray, List.set_cons_succ, List.set_cons_zero]
           refine wpLate.take (i := 1) (q := 21) (oi := _) (v := ?_) rfl (by as_aux_lemma => kernel_rfl) (by as_aux_lemma => kernel_rfl) (by as_aux_lemma => kernel_rfl) (by as_aux_lemma => kernel_rfl) (by rfl) (fun _ _ _ h => h) (TillTwo.set (by decide) (by decide)) (HT0.out _) (Or.inl ⟨by rfl, ?_⟩) ?_
           case refine_2 => intro W hw; have e0 := (TillTwo.one hw).1; clear hw; go_simp; (try with_reducible rfl)
           simp only [Act.put, List.getElem_toArray, List.getElem_cons_succ, List.getElem_cons_zero, List.setIfInBounds_toArray, List.set_cons_succ, List.set_cons_zero]
           refine wpLate.take (i := 2) (q := 21) (oi := _) (v := ?_) rfl (by as_aux_lemma => kernel_rfl) (by as_aux_lemma => kernel_rfl) (by as_aux_lemma => kernel_rfl) (by as_aux_lemma => kernel_rfl) (by rfl) (fun _ _ _ h => h) (TillTwo.set (by decide) (by decide)) (HT0.out _) (Or.inl ⟨by rfl, ?_⟩) ?_
           case refine_2 => intro W hw; have e0 := (TillTwo.one hw).1; clear hw; go_simp; (try with_reducible rfl)
           simp only [Act.put, List.getElem_toArray, List.getElem_cons_succ, List.getElem_cons_zero, List.setIfInBounds_toArray, List.set_cons_succ, List.set_cons_zero]
           refine wpLate.take (i := 3) (q := 21) (oi := _) (v := ?_) rfl (by as_aux_lemma => kernel_rfl) (by as_aux_lemma => kernel_rfl) (by as_aux_lemma => kernel_rfl) (by as_aux_lemma => kernel_rfl) (by rfl) (fun _ _ _ h => h) (TillTwo.set (by decide) (by decide)) (HT0.out _) (Or.inl ⟨by rfl, ?_⟩) ?_
           case refine_2 => intro W hw; have e0 := (TillTwo.one hw).1; clear hw; go_simp; (try with_reducible rfl)
           simp only [Act.put, List.getElem_toArray, List.getElem_cons_succ, List.getElem_cons_zero, List.setIfInBounds_toArray, List.set_cons_succ, List.set_cons_zero]
           refine wpLate.take (i := 4) (q := 23) (oi := _) (v := ?_) rfl (by as_aux_lemma => kernel_rfl) (by as_aux_lemma => kernel_rfl) (by as_aux_lemma => kernel_rfl) (by as_aux_lemma => kernel_rfl) (by rfl) (fun _ _ _ h => h) (TillTwo.set (by decide) (by decide)) (HT0.out _) (Or.inl ⟨by rfl, ?_⟩) ?_
           case refine_2 => intro W hw; have e0 := (TillTwo.two hw).1; clear hw; go_simp; (try with_reducible rfl)
           simp only [Act.put, List.getElem_toArray, List.getElem_cons_succ, List.getElem_cons_zero, List.setIfInBounds_toArray, List.set_cons_succ, List.set_cons_zero]
           refine wpLate.take (i := 5) (q := 23) (oi := _) (v := ?_) rfl (by as_aux_lemma => kernel_rfl) (by as_aux_lemma => kernel_rfl) (by as_aux_lemma => kernel_rfl) (by as_aux_lemma => kernel_rfl) (by rfl) (fun _ _ _ h => h) (TillTwo.set (by decide) (by decide)) (HT0.out _) (Or.inl ⟨by rfl, ?_⟩) ?_
           case refine_2 => intro W hw; have e0 := (TillTwo.two hw).1; clear hw; go_simp; (try with_reducible rfl)
           simp only [Act.put, List.getElem_toArray, List.getElem_cons_succ, List.getElem_cons_zero, List.setIfInBounds_toArray, List.set_cons_succ, List.set_cons_zero]
           refine wpLate.take (i := 6) (q := 23) (oi := _) (v := ?_) rfl (by as_aux_lemma => kernel_rfl) (by as_aux_lemma => kernel_rfl) (by as_aux_lemma => kernel_rfl) (by as_aux_lemma => kernel_rfl) (by rfl) (fun _ _ _ h => h) (TillTwo.set (by decide) (by decide)) (HT0.out _) (Or.inl ⟨by rfl, ?_⟩) ?_
           case refine_2 => intro W hw; have e0 := (TillTwo.two hw).1; clear hw; go_simp; (try with_reducible rfl)
           simp only [Act.put, List.getElem_toArray, List.getElem_cons_succ, List.getElem_cons_zero, List.setIfInBounds_toArray, List.set_cons_succ, List.set_cons_zero]
           refine wpLate.take (i := 7) (q := 21) (oi := _) (v := ?_) rfl (by as_aux_lemma => kernel_rfl) (by as_aux_lemma => kernel_rfl) (by as_aux_lemma => kernel_rfl) (by as_aux_lemma => kernel_rfl) (by rfl) (fun _ _ _ h => h) (TillTwo.set (by decide) (by decide)) (HT0.out _) (Or.inl ⟨by rfl, ?_⟩) ?_
           case refine_2 => intro W hw; have e0 := (TillTwo.one hw).1; clear hw; go_simp; (try with_reducible rfl)
           simp only [Act.put, List.getElem_toArray, List.getElem_cons_succ, List.getElem_cons_zero, List.setIfInBounds_toArray, List.set_cons_succ, List.set_cons_zero]
           refine wpLate.take (i := 8) (q := 21) (oi := _) (v := ?_) rfl (by as_aux_lemma => kernel_rfl) (by as_aux_lemma => kernel_rfl) (by as_aux_lemma => kernel_rfl) (by as_aux_lemma => kernel_rfl) (by rfl) (fun _ _ _ h => h) (TillTwo.set (by decide) (by decide)) (HT0.out _) (Or.inl ⟨by rfl, ?_⟩) ?_
           case refine_2 => intro W hw; have e0 := (TillTwo.one hw).1; clear hw; go_simp; (try with_reducible rfl)
           simp only [Act.put, List.getElem_toArray, List.getElem_cons_succ, List.getElem_cons_zero, List.setIfInBounds_toArray, List.set_cons_succ, List.set_cons_zero]
           refine wpLate.take (i := 9) (q := 21) (oi := _) (v := ?_) rfl (by as_aux_lemma => kernel_rfl) (by as_aux_lemma => kernel_rfl) (by as_aux_lemma => kernel_rfl) (by as_aux_lemma => kernel_rfl) (by rfl) (fun _ _ _ h => h) (TillTwo.set (by decide) (by decide)) (HT0.out _) (Or.inl ⟨by rfl, ?_⟩) ?_
           case refine_2 => intro W hw; have e0 := (TillTwo.one hw).1; clear hw; go_simp; (try with_reducible rfl)
           simp only [Act.put, List.getElem_toArray, List.getElem_cons_succ, List.getElem_cons_zero, List.setIfInBounds_toArray, List.set_cons_succ, List.set_cons_zero]
           refine wpLate.take (i := 10) (q := 21) (oi := _) (v := ?_) rfl (by as_aux_lemma => kernel_rfl) (by as_aux_lemma => kernel_rfl) (by as_aux_lemma => kernel_rfl) (by as_aux_lemma => kernel_rfl) (by rfl) (fun _ _ _ h => h) (TillTwo.set (by decide) (by decide)) (HT0.out _) (Or.inl ⟨by rfl, ?_⟩) ?_
           case refine_2 => intro W hw; have e0 := (TillTwo.one hw).1; clear hw; go_simp; (try with_reducible rfl)
           simp only [Act.put, List.getElem_toArray, List.getElem_cons_succ, List.getElem_cons_zero, List.setIfInBounds_toArray, List.set_cons_succ, List.set_cons_zero]
           refine wpLate.take (i := 11) (q := 21) (oi := _) (v := ?_) rfl (by as_aux_lemma => kernel_rfl) (by as_aux_lemma => kernel_rfl) (by as_aux_lemma => kernel_rfl) (by as_aux_lemma => kernel_rfl) (by rfl) (fun _ _ _ h => h) (TillTwo.set (by decide) (by decide)) (HT0.out _) (Or.inl ⟨by rfl, ?_⟩) ?_
           case refine_2 => intro W hw; have e0 := (TillTwo.one hw).1; clear hw; go_simp; (try with_reducible rfl)
           simp only [Act.put, List.getElem_toArray, List.getElem_cons_succ, List.getElem_cons_zero, List.setIfInBounds_toArray, List.set_cons_succ, List.set_cons_zero]
           refine wpLate.take (i := 12) (q := 21) (oi := _) (v := ?_) rfl (by as_aux_lemma => kernel_rfl) (by as_aux_lemma => kernel_rfl) (by as_aux_lemma => kernel_rfl) (by as_aux_lemma => kernel_rfl) (by rfl) (fun _ _ _ h => h) (TillTwo.set (by decide) (by decide)) (HT0.out _) (Or.inl ⟨by rfl, ?_⟩) ?_
           case refine_2 => intro W hw; have e0 := (TillTwo.one hw).1; clear hw; go_simp; (try with_reducible rfl)
           simp only [Act.put, List.getElem_toArray, List.getElem_cons_succ, List.getElem_cons_zero, List.setIfInBounds_toArray, List.set_cons_succ, List.set_cons_zero]
           refine wpLate.take (i := 13) (q := 21) (oi := _) (v := _) rfl (by as_aux_lemma => kernel_rfl) (by as_aux_lemma => kernel_rfl) (by as_aux_lemma => kernel_rfl) (by as_aux_lemma => kernel_rfl) (by rfl) (fun _ _ _ h => h) (TillTwo.set (by decide) (by decide)) (HT0.out _) (yieldsIf_load_at (by rfl) 47 (.tmp 184) rfl ⟨gc, 6, none⟩ (by go_simp; (try with_reducible rfl)) CB.toList _ (fun w h => (TillTwo.one h).2.2) Tryz.underlying47 rfl (by rw [Array.length_toList, HCBZ.out.2]; exact Tryz.sizeCodec)) ?_
           simp only [Act.put, List.getElem_toArray, List.getElem_cons_succ, List.getElem_cons_zero, List.setIfInBounds_toArray, List.set_cons_succ, List.set_cons_zero]
           refine wpLate.take (i := 14) (q := 23) (oi := _) (v := ?_) rfl (by as_aux_lemma => kernel_rfl) (by as_aux_lemma => kernel_rfl) (by as_aux_lemma => kernel_rfl) (by as_aux_lemma => kernel_rfl) (by rfl) (fun _ _ _ h => h) (TillTwo.set (by decide) (by decide)) (HT0.out _) (Or.inl ⟨by rfl, ?_⟩) ?_
           case refine_2 => intro W hw; have e0 := (TillTwo.two hw).1; clear hw; go_simp; (try with_reducible rfl)
           simp only [Act.put, List.getElem_toArray, List.getElem_cons_succ, List.getElem_cons_zero, List.setIfInBounds_toArray, List.set_cons_succ, List.set_cons_zero]
           refine wpLate.take (i := 15) (q := 23) (oi := _) (v := ?_) rfl (by as_aux_lemma => kernel_rfl) (by as_aux_lemma => kernel_rfl) (by as_aux_lemma => kernel_rfl) (by as_aux_lemma => kernel_rfl) (by rfl) (fun _ _ _ h => h) (TillTwo.set (by decide) (by decide)) (HT0.out _) (Or.inl ⟨by rfl, ?_⟩) ?_
           case refine_2 => intro W hw; have e0 := (TillTwo.two hw).1; clear hw; go_simp; (try with_reducible rfl)
           simp only [Act.put, List.getElem_toArray, List.getElem_cons_succ, List.getElem_cons_zero, List.setIfInBounds_toArray, List.set_cons_succ, List.set_cons_zero]
           refine wpLate.take (i := 16) (q := 23) (oi := _) (v := ?_) rfl (by as_aux_lemma => kernel_rfl) (by as_aux_lemma => kernel_rfl) (by as_aux_lemma => kernel_rfl) (by as_aux_lemma => kernel_rfl) (by rfl) (fun _ _ _ h => h) (TillTwo.set (by decide) (by decide)) (HT0.out _) (Or.inl ⟨by rfl, ?_⟩) ?_
           case refine_2 => intro W hw; have e0 := (TillTwo.two hw).1; clear hw; go_simp; (try with_reducible rfl)
           simp only [Act.put, List.getElem_toArray, List.getElem_cons_succ, List.getElem_cons_zero, List.setIfInBounds_toArray, List.set_cons_succ, List.set_cons_zero]
           refine wpLate.take (i := 17) (q := 21) (oi := _) (v := ?_) rfl (by as_aux_lemma => kernel_rfl) (by as_aux_lemma => kernel_rfl) (by as_aux_lemma => kernel_rfl) (by as_aux_lemma => kernel_rfl) (by rfl) (fun _ _ _ h => h) (TillTwo.set (by decide) (by decide)) (HT0.out _) (Or.inl ⟨by rfl, ?_⟩) ?_
           case refine_2 => intro W hw; have e0 := (TillTwo.one hw).1; clear hw; go_simp; (try with_reducible rfl)
           simp only [Act.put, List.getElem_toArray, List.getElem_cons_succ, List.getElem_cons_zero, List.setIfInBounds_toArray, List.set_cons_succ, List.set_cons_zero]
           refine wpLate.take (i := 18) (q := 23) (oi := _) (v := ?_) rfl (by as_aux_lemma => kernel_rfl) (by as_aux_lemma => kernel_rfl) (by as_aux_lemma => kernel_rfl) (by as_aux_lemma => kernel_rfl) (by rfl) (fun _ _ _ h => h) (TillTwo.set (by decide) (by decide)) (HT0.out _) (Or.inl ⟨by rfl, ?_⟩) ?_
           case refine_2 => intro W hw; have e0 := (TillTwo.two hw).1; clear hw; go_simp; (try with_reducible rfl)
           simp only [Act.put, List.getElem_toArray, List.getElem_cons_succ, List.getElem_cons_zero, List.setIfInBounds_toArray, List.set_cons_succ, List.set_cons_zero]
           refine wpLate.take (i := 19) (q := 21) (oi := _) (v := _) rfl (by as_aux_lemma => kernel_rfl) (by as_aux_lemma => kernel_rfl) (by as_aux_lemma => kernel_rfl) (by as_aux_lemma => kernel_rfl) (by rfl) (fun _ _ _ h => h) (TillTwo.set (by decide) (by decide)) (HT0.out _) (yieldsIf_load_at (by rfl) 47 (.tmp 190) rfl ⟨gc, 0, none⟩ (by go_simp; (try with_reducible rfl)) CA.toList _ (fun w h => (TillTwo.one h).2.1) Tryz.underlying47 rfl (by rw [Array.length_toList, HCAZ.out.2]; exact Tryz.sizeCodec)) ?_
           simp only [Act.put, List.getElem_toArray, List.getElem_cons_succ, List.getElem_cons_zero, List.setIfInBounds_toArray, List.set_cons_succ, List.set_cons_zero]
           refine wpLate.take (i := 20) (q := 21) (oi := _) (v := ?_) rfl (by as_aux_lemma => kernel_rfl) (by as_aux_lemma => kernel_rfl) (by as_aux_lemma => kernel_rfl) (by as_aux_lemma => kernel_rfl) (by rfl) (fun _ _ _ h => h) (TillTwo.set (by decide) (by decide)) (HT0.out _) (Or.inl ⟨by rfl, ?_⟩) ?_
           case refine_2 => intro W hw; have e0 := (TillTwo.one hw).1; clear hw; go_simp; (try with_reducible rfl)
           simp only [Act.put, List.getElem_toArray, List.getElem_cons_succ, List.getElem_cons_zero, List.setIfInBounds_toArray, List.set_cons_succ, List.set_cons_zero]
           refine wpLate.ready (rs := [21]) (by as_aux_lemma => kernel_rfl) (by simp) (eachLate.cons rfl (fun K hK => ?_) eachLate.nil)
           refine step_of rfl (wp_store_mid 47 (.tmp 192) (.tmp 185) rfl gc 0 CB (by go_simp; (try with_reducible rfl)) (by go_simp; (try with_reducible rfl)) (HJ0.out.there (k := 0) rfl HR.out.1 HCBZ.out.2) (by rw [Tryz.sizeCodec, HCBZ.out.2]) HCBZ.out.1 ?_)
           have h7 : JS wB (W0.setCells gc 0 CB.toList) gd gd gm rs.length i c4 ver (.slice AB nB cB) name pass rows m (.slice (some ⟨gc, 0, none⟩) nC c8) vE vR vS vY (cs.set 0 (ccell xb vb)) := by rw [← HhCB.out]; exact HJ0.out.rowPut (k := 0) rfl HR.out.1 HR.out.2.2.2
           generalize W0.setCells gc 0 CB.toList = W1 at *
           have HJ1 := Lib.hid h7
           clear h7
           refine hK.out _ _ (TillTwo.mk (HJ1.out.at_.1 4 (by decide)) (.inl rfl) (.inr trivial)) ?_
           clear hK K
           try simp only [Act.put, List.getElem_toArray, List.getElem_cons_succ, List.getElem_cons_zero, List.setIfInBounds_toArray, List.set_cons_succ, List.set_cons_zero]
           have HR1 : Hid ((cs.set 0 (ccell xb vb))[1]? = some (ccell xb vb)) := Lib.hid (by rw [List.getElem?_set, if_neg (by decide)]; exact HR.out.2.1)
           refine wpLate.take (i := 22) (q := 23) (oi := _) (v := ?_) rfl (by as_aux_lemma => kernel_rfl) (by as_aux_lemma => kernel_rfl) (by as_aux_lemma => kernel_rfl) (by as_aux_lemma => kernel_rfl) (by rfl) (fun _ _ _ h => h) (TillTwo.set (by decide) (by decide)) (TillTwo.mk (HJ1.out.at_.1 4 (by decide)) (.inl rfl) (.inr trivial)) (Or.inl ⟨by rfl, ?_⟩) ?_
           case refine_2 => intro W hw; have e0 := (TillTwo.two hw).1; clear hw; go_simp; (try with_reducible rfl)
           simp only [Act.put, List.getElem_toArray, List.getElem_cons_succ, List.getElem_cons_zero, List.setIfInBounds_toArray, List.set_cons_succ, List.set_cons_zero]
           refine wpLate.ready (rs := [23]) (by as_aux_lemma => kernel_rfl) (by simp) (eachLate.cons rfl (fun K hK => ?_) eachLate.nil)
           refine step_of rfl (wp_store_mid 47 (.tmp 193) (.tmp 191) rfl gc 6 CA (by go_simp; (try with_reducible rfl)) (by go_simp; (try with_reducible rfl)) (HJ1.out.there (k := 1) rfl HR1.out HCAZ.out.2) (by rw [Tryz.sizeCodec, HCAZ.out.2]) HCAZ.out.1 ?_)
           have h7 : JS wB (W1.setCells gc 6 CA.toList) gd gd gm rs.length i c4 ver (.slice AB nB cB) name pass rows m (.slice (some ⟨gc, 0, none⟩) nC c8) vE vR vS vY ((cs.set 0 (ccell xb vb)).set 1 (ccell xa va)) := by rw [← HhCA.out]; exact HJ1.out.rowPut (k := 1) rfl HR1.out HR.out.2.2.1
           generalize W1.setCells gc 6 CA.toList = W2 at *
           have HJ2 := Lib.hid h7
           clear h7
           refine hK.out _ _ (TillTwo.mk (HJ2.out.at_.1 4 (by decide)) (.inl rfl) (.inl rfl)) ?_
           clear hK K
           try simp only [Act.put, List.getElem_toArray, List.getElem_cons_succ, List.getElem_cons_zero, List.setIfInBounds_toArray, List.set_cons_succ, List.set_cons_zero]
           refine wpLate.done (by as_aux_lemma => kernel_rfl) ?_ _
           go_wp2
           go_meet
           exact HJ2.out.same HVER.out
         · have hp1 : ¬ (1 : Int) < (nC : Int) := by omega
           go_wp2
           go_meet
           exact HSAME.out
      · clear hm1 hm2 hm3
        as_aux_lemma =>
         obtain ⟨AR, cR, hvR, hnR, hmR, hzR⟩ := Rows.form HJ.out.exts
         obtain ⟨lR, hlR⟩ : ∃ k, m.exts.length = k := ⟨_, rfl⟩
         rw [hlR] at hvR hnR
         subst hvR
         have hlR16 : lR ≤ 1000 := by rw [← hlR]; exact HJ.out.sml.exts
         have HLR := Lib.hid (And.intro hlR (And.intro hnR hzR))
         obtain ⟨hql, hq1, hqo, hqc⟩ := ExtsV.rows2 (HJ.out.exts.below (HJ.out.low.alloc HJ.out.le.2.2.2 (.cells #[] 49))) hlR
         have HRT := Lib.hid (And.intro hql (And.intro hq1 (And.intro hqo hqc)))
         have HE8 : Hid (Own (W.alloc (.cells #[] 49)) W.heap.size 49 2 (.slice (some ⟨W.heap.size, 0, none⟩) 0 0) []) := Lib.hid ⟨World.ownsRow_made W #[] 0 (Nat.le_refl _) (Nat.zero_le _) rfl, fun r hr => by cases hr⟩
         have HNB : Hid (W.heap.size ≤ (W.alloc (.cells #[] 49)).heap.size) := Lib.hid (by rw [World.size_alloc]; omega)
         have HA8 := Lib.hid (HJ.out.under ((Below.refl _ W).alloc (Nat.le_refl _) (.cells #[] 49)))
         have kc := HA8.out.at_.1 5 (by decide)
         simp only [List.getElem?_cons_zero, List.getElem?_cons_succ, Nat.add_zero] at kc
         clear hql hq1 hqo hqc hlR hnR hmR hzR
         go_wp2_with (at_builtin; go_loud (first | (refine wpList_appendRows (ks := []) (rs := m.exts.map ecell) (base := W.heap.size) rfl (.tmp 197) (.tmp 201) rfl Tryz.underlying40 infoExt9 rfl (Nat.zero_lt_succ _) rfl HE8.out rfl HLR.out.2.2 HLR.out.2.1 HRT.out.1 HRT.out.2.1 HRT.out.2.2.1 HRT.out.2.2.2 (by simp only [List.length_nil]; omega) (by simp only [List.length_nil]; omega) HNB.out ?_; intro v8 w8 ho8 hg8 hn8; rw [List.nil_append] at ho8; have H8 : Hid (Below W.heap.size W w8 ∧ Own w8 W.heap.size 49 2 v8 (m.exts.map ecell)) := Lib.hid ⟨((Below.refl _ W).alloc (Nat.le_refl _) _).grown hg8 HNB.out (fun j hj => (Own.lt HE8.out hj).1), ho8⟩; have HN8 : Hid (W.heap.size ≤ (w8.alloc (.cells #[Value.int .i64 14, Value.string ⟨#[122]⟩] 49)).heap.size) := Lib.hid (by rw [World.size_alloc]; have := H8.out.1.size; omega); clear ho8 hg8 hn8) | (refine wpList_appendE (base := W.heap.size) (rs := m.exts.map ecell) (r := [Value.int .i64 14, Value.string ⟨#[122]⟩]) rfl (.tmp 202) (.tmp 204) rfl Tryz.underlying40 infoExt9 rfl (Nat.zero_lt_succ _) rfl (H8.out.2.alloc (.cells #[Value.int .i64 14, Value.string ⟨#[122]⟩] 49)) rfl (Whole.new w8 49 #[Value.int .i64 14, Value.string ⟨#[122]⟩]) rfl (fun u hu => by simp at hu; rcases hu with rfl | rfl <;> rfl) (by rw [HRT.out.1]; omega) (by rw [HRT.out.1]; omega) HN8.out ?_; intro v9 w9 ho9 hg9 hn9; have hb9 : Below W.heap.size W w9 := (H8.out.1.alloc H8.out.1.size _).grown hg9 HN8.out (fun j hj => (Own.lt H8.out.2 hj).1); obtain ⟨AZ, kZ, hv9, -⟩ := Own.form ho9; rw [List.length_append, HRT.out.1] at hv9; change v9 = .slice AZ (lR + 1) kZ at hv9; subst hv9; have H9 := Lib.hid (And.intro (HJ.out.under hb9) (ho9.base_le HJ.out.le.2.2.2)); have x9 : w9.cell? ⟨gm, i * 11 + 5, none⟩ = some (.slice AR lR cR) := H9.out.1.at_.1 5 (by decide); have y9 := H9.out.1.at_.2 (i * 11 + 5); clear ho9 hg9 hn9 hb9)))
         go_meet
         exact H9.out.1.exts' (L := m.exts ++ [⟨14, ⟨#[122]⟩⟩]) (by rw [List.map_append]; exact H9.out.2) (by rw [List.length_append, HLR.out.1]; show lR + 1 ≤ _; omega) (fun x hx => by rcases List.mem_append.1 hx with hx | hx; exact HJ.out.sml.siz.uris x hx; obtain rfl := List.mem_singleton.1 hx; show 1 ≤ _; omega) HVER.out
      · clear hm1 hm2 hm3
        as_aux_lemma =>
         obtain ⟨AR, cR, hvR, hnR, hmR, hzR⟩ := Rows.form HJ.out.rids
         obtain ⟨lR, hlR⟩ : ∃ k, m.rids.length = k := ⟨_, rfl⟩
         rw [hlR] at hvR hnR
         subst hvR
         have hlR16 : lR ≤ 1000 := by rw [← hlR]; exact HJ.out.sml.rids
         have HLR := Lib.hid (And.intro hlR (And.intro hnR hzR))
         obtain ⟨hql, hq1, hqo, hqc⟩ := TextsV.rows1 (HJ.out.rids.below (HJ.out.low.alloc HJ.out.le.2.2.2 (.cells #[] 9))) hlR
         have HRT := Lib.hid (And.intro hql (And.intro hq1 (And.intro hqo hqc)))
         have HE8 : Hid (Own (W.alloc (.cells #[] 9)) W.heap.size 9 1 (.slice (some ⟨W.heap.size, 0, none⟩) 0 0) []) := Lib.hid ⟨World.ownsRow_made W #[] 0 (Nat.le_refl _) (Nat.zero_le _) rfl, fun r hr => by cases hr⟩
         have HNB : Hid (W.heap.size ≤ (W.alloc (.cells #[] 9)).heap.size) := Lib.hid (by rw [World.size_alloc]; omega)
         have HA8 := Lib.hid (HJ.out.under ((Below.refl _ W).alloc (Nat.le_refl _) (.cells #[] 9)))
         have kc := HA8.out.at_.1 6 (by decide)
         simp only [List.getElem?_cons_zero, List.getElem?_cons_succ, Nat.add_zero] at kc
         clear hql hq1 hqo hqc hlR hnR hmR hzR
         go_wp2_with (at_builtin; go_loud (first | (refine wpList_appendRows (ks := []) (rs := m.rids.map fun s => [Value.string s]) (base := W.heap.size) rfl (.tmp 211) (.tmp 215) rfl Tryz.underlying23 infoStr9 rfl (Nat.zero_lt_succ _) rfl HE8.out rfl HLR.out.2.2 HLR.out.2.1 HRT.out.1 HRT.out.2.1 HRT.out.2.2.1 HRT.out.2.2.2 (by simp only [List.length_nil]; omega) (by simp only [List.length_nil]; omega) HNB.out ?_; intro v8 w8 ho8 hg8 hn8; rw [List.nil_append] at ho8; have H8 : Hid (Below W.heap.size W w8 ∧ Own w8 W.heap.size 9 1 v8 (m.rids.map fun s => [Value.string s])) := Lib.hid ⟨((Below.refl _ W).alloc (Nat.le_refl _) _).grown hg8 HNB.out (fun j hj => (Own.lt HE8.out hj).1), ho8⟩; have HN8 : Hid (W.heap.size ≤ (w8.alloc (.cells #[Value.string ⟨#[113]⟩] 9)).heap.size) := Lib.hid (by rw [World.size_alloc]; have := H8.out.1.size; omega); clear ho8 hg8 hn8) | (refine wpList_appendE (base := W.heap.size) (rs := m.rids.map fun s => [Value.string s]) (r := [Value.string ⟨#[113]⟩]) rfl (.tmp 216) (.tmp 217) rfl Tryz.underlying23 infoStr9 rfl (Nat.zero_lt_succ _) rfl (H8.out.2.alloc (.cells #[Value.string ⟨#[113]⟩] 9)) rfl (Whole.new w8 9 #[Value.string ⟨#[113]⟩]) rfl (fun u hu => by simp at hu; rcases hu with rfl | rfl <;> rfl) (by rw [HRT.out.1]; omega) (by rw [HRT.out.1]; omega) HN8.out ?_; intro v9 w9 ho9 hg9 hn9; have hb9 : Below W.heap.size W w9 := (H8.out.1.alloc H8.out.1.size _).grown hg9 HN8.out (fun j hj => (Own.lt H8.out.2 hj).1); obtain ⟨AZ, kZ, hv9, -⟩ := Own.form ho9; rw [List.length_append, HRT.out.1] at hv9; change v9 = .slice AZ (lR + 1) kZ at hv9; subst hv9; have H9 := Lib.hid (And.intro (HJ.out.under hb9) (ho9.base_le HJ.out.le.2.2.2)); have x9 : w9.cell? ⟨gm, i * 11 + 6, none⟩ = some (.slice AR lR cR) := H9.out.1.at_.1 6 (by decide); have y9 := H9.out.1.at_.2 (i * 11 + 6); clear ho9 hg9 hn9 hb9)))
         go_meet
         exact H9.out.1.rids' (L := m.rids ++ [⟨#[113]⟩]) (by rw [List.map_append]; exact H9.out.2) (by rw [List.length_append, HLR.out.1]; show lR + 1 ≤ _; omega) (fun x hx => by rcases List.mem_append.1 hx with hx | hx; exact HJ.out.sml.siz.rids x hx; obtain rfl := List.mem_singleton.1 hx; show 1 ≤ _; omega) HVER.out
      · clear hm1 hm2 hm3
        have kc := HCELL.out.1 7 (by decide)
        have fc := HCELL.out.2 (i * 11 + 7)
        simp only [List.getElem?_cons_zero, List.getElem?_cons_succ, Nat.add_zero] at kc fc
        go_wp2
        go_meet
        exact HJ.out.scal (j := 7) (by decide) _ rfl HVER.out HJ.out.sml.siz.mid
      · clear hm1 hm2 hm3
        have kc := HCELL.out.1 9 (by decide)
        have fc := HCELL.out.2 (i * 11 + 9)
        simp only [List.getElem?_cons_zero, List.getElem?_cons_succ, Nat.add_zero] at kc fc
        go_wp2
        go_meet
        exact HJ.out.cry0 HVER.out
      · clear hm1 hm2 hm3
        as_aux_lemma =>
         obtain ⟨AY, cY, hvY, hnY, hmY, hzY⟩ := Rows.form HJ.out.cry
         obtain ⟨lY, hlY⟩ : ∃ k, m.crypto.length = k := ⟨_, rfl⟩
         rw [hlY] at hvY hnY
         subst hvY
         have kc := HCELL.out.1 9 (by decide)
         have fc := HCELL.out.2 (i * 11 + 9)
         simp only [List.getElem?_cons_zero, List.getElem?_cons_succ, Nat.add_zero] at kc fc
         have HLY := Lib.hid hlY
         clear hlY hnY hmY hzY
         by_cases hl0 : lY = 0
         · subst hl0
           go_wp2
           go_meet
           exact HSAME.out
         · have hy := List.getElem?_eq_getElem (l := m.crypto) (i := 0) (by rw [HLY.out]; omega)
           obtain ⟨y, hye⟩ : ∃ y, m.crypto[0]'(by rw [HLY.out]; omega) = y := ⟨_, rfl⟩
           rw [hye] at hy
           obtain ⟨ad, cY', e, hadB, hc1, hc2, hR⟩ := Rows.at_ HJ.out.cry hy
           injection e with e1 e2 e3
           subst e1
           clear e2 e3
           have k0 : W.cell? (ad.add (0 * 31 + 0)) = some (.int .i64 y.tag) := (HJ.out.low.cell (p := ad.add (0 * 31 + 0)) (by rw [add_block]; exact hadB)).trans (hR.2 0 (by decide))
           rw [Nat.zero_mul, Nat.add_zero] at k0
           have k1 : W.cell? ad = some (.int .i64 y.tag) := by rw [Go.Addr.add_zero'] at k0; exact k0
           have hp1 : (0 : Int) < (lY : Int) := by omega
           have hp2 : ¬ lY = 0 := hl0
           have hp3 : 0 < lY := by omega
           clear hy hye hc1 hc2 hR hadB
           obtain ⟨z, hz⟩ : ∃ z, IntKind.i64.wrap (10 - y.tag) = z := ⟨_, rfl⟩
           obtain ⟨CX, hCX⟩ : ∃ C, (cryC (⟨z, zeros30⟩ : CryptoS)).toArray = C := ⟨_, rfl⟩
           have hbd : ∀ W, (Instr.build 51 #[(0, .int .i64 z)]).run Tryz.prog W = .ok (.agg CX) W := fun W => by rw [← hCX]; exact build_cryJ z W
           have hsl : ∀ W : World, (Instr.buildSlice 42 1 #[(0, .agg CX)]).run Tryz.prog W = .ok (.slice (some ⟨W.heap.size, 0, none⟩) 1 1) (W.alloc (.cells CX 51)) := fun W => by rw [← hCX]; exact slice_cry9 z zeros30 rfl W
           have HCX := Lib.hid hCX
           clear hCX
           have HBD := Lib.hid hbd
           have HSL := Lib.hid hsl
           clear hbd hsl
           have HJ9 := Lib.hid (HJ.out.under ((Below.refl _ W).alloc (Nat.le_refl _) (.cells CX 51)))
           have kd := HJ9.out.at_.1 9 (by decide)
           have fd := HJ9.out.at_.2 (i * 11 + 9)
           simp only [List.getElem?_cons_zero, List.getElem?_cons_succ, Nat.add_zero] at kd
           go_wp2_with (first | (refine wpList_buildJ rfl 51 0 (.tmp 252) rfl (u := .int .i64 z) (v := .agg CX) rfl (HBD.out _) ?_) | (refine wpList_sliceJ rfl 42 1 0 (.tmp 253) rfl (u := .agg CX) rfl (HSL.out _) ?_))
           go_meet
           exact HJ9.out.crys (L := [⟨z, zeros30⟩]) (fun W' hon => crys_one HCX.out ((Whole.new W 51 CX).only hon (fun e => by have h1 := HJ.out.le.2.1; have h2 : W.heap.size = gm := e; omega))) (by show 1 ≤ _; omega) (fun x hx => by obtain rfl := List.mem_singleton.1 hx; rfl) HVER.out
      · clear hm1 hm2 hm3
        as_aux_lemma =>
         obtain ⟨B, hB, hBl, hBs⟩ := HJ.out.bun
         obtain ⟨AB', cB', eB, hB1, hB2, hB3⟩ := Rows.form hB
         injection eB with eB1 eB2 eB3
         subst eB1 eB3
         have HBn := Lib.hid eB2.symm
         have HLB : Hid (True ∧ nB ≤ cB ∧ (AB = none → cB = 0)) := Lib.hid ⟨trivial, by omega, hB3⟩
         have hnB : nB ≤ 100 := by omega
         go_upto_region 48 with fail
         obtain ⟨W0, hW0⟩ : ∃ X, W.drew = X := ⟨_, rfl⟩
         have hJ0 := HJ.out.under (Below.refl _ W).drew
         rw [hW0] at hJ0
         obtain ⟨N0, hN0⟩ : ∃ k, W0.heap.size = k := ⟨_, rfl⟩
         have HJU := Lib.hid (fun w (hw : Below N0 W0 w) => hJ0.under (by rw [hN0]; exact hw))
         have HBS : Hid (∀ w, Below N0 W0 w → N0 ≤ w.heap.size) := Lib.hid fun w hw => by have := hw.size; omega
         have HB0 : Hid (Below N0 W0 W0) := Lib.hid (Below.refl _ _)
         have HTW : Hid (∀ w, Below N0 W0 w → ∀ L, (TillOne (fun _ => True) (fun W => W.cell? ⟨gd, 2, none⟩ = some (.slice AB nB cB) ∧ W.cell? ⟨gm, i * 11 + 2, none⟩ = some (.string m.mid)) 11) L w) := Lib.hid fun w hw L => TillOne.mk trivial ⟨(HJU.out w hw).box.cell 2, (HJU.out w hw).at_.1 2 (by decide)⟩
         have HQ0 : Hid (∀ W, Ahead (TillOne (fun _ => True) (fun W => W.cell? ⟨gd, 2, none⟩ = some (.slice AB nB cB) ∧ W.cell? ⟨gm, i * 11 + 2, none⟩ = some (.string m.mid)) 11) 11 W → W.cell? ⟨gd, 2, none⟩ = some (.slice AB nB cB)) := Lib.hid fun W hW => (TillOne.get hW).2.1
         have HQ1 : Hid (∀ W, Ahead (TillOne (fun _ => True) (fun W => W.cell? ⟨gd, 2, none⟩ = some (.slice AB nB cB) ∧ W.cell? ⟨gm, i * 11 + 2, none⟩ = some (.string m.mid)) 11) 11 W → W.cell? ⟨gm, i * 11 + 2, none⟩ = some (.string m.mid)) := Lib.hid fun W hW => (TillOne.get hW).2.2
         have HRB : Hid ((B.map fun s => [Value.string s]).length = nB ∧ (∀ r ∈ B.map fun s => [Value.string s], r.length = 1) ∧ ∀ r ∈ B.map fun s => [Value.string s], ∀ u ∈ r, u.oneCell' = true) := Lib.hid (by have h := TextsV.rows1 hB HBn.out; exact ⟨h.1, h.2.1, h.2.2.1⟩)
         have HRW : Hid (∀ w, Below N0 W0 w → ∀ ad, AB = some ad → ∀ (i : Nat) (r : List Value), (B.map fun s => [Value.string s])[i]? = some r → ∀ j, j < 1 → w.cell? (ad.add (i * 1 + j)) = r[j]?) := Lib.hid fun w hw => (TextsV.rows1 (hB.below (HJU.out w hw).low) HBn.out).2.2.2
         have HBL := Lib.hid (And.intro hBl hBs)
         clear hB hBl hBs hB1 hB2 hB3 eB2 hJ0 hN0
         refine wp_region_late (TillOne (fun _ => True) (fun W => W.cell? ⟨gd, 2, none⟩ = some (.slice AB nB cB) ∧ W.cell? ⟨gm, i * 11 + 2, none⟩ = some (.string m.mid)) 11) (by as_aux_lemma => kernel_rfl) ?_
         change wpLate Tryz.prog .any _ _ _ 12 #[false, false, false, false, false, false, false, false, false, false, false, false] _ _
         rw [hW0]
         clear hW0
         refine wpLate.take (i := 1) (q := 11) (oi := _) (v := ?_) rfl (by as_aux_lemma => kernel_rfl) (by as_aux_lemma => kernel_rfl) (by as_aux_lemma => kernel_rfl) (by as_aux_lemma => kernel_rfl) (by rfl) (fun _ _ _ h => h) (TillOne.set (by decide)) (HTW.out _ HB0.out _) (Or.inl ⟨by rfl, ?_⟩) ?_
         case refine_2 => intro W hw; have e0 := HQ0.out W hw; have e1 := HQ1.out W hw; clear hw; go_simp; (try with_reducible rfl)
         simp only [Act.put, List.getElem_toArray, List.getElem_cons_succ, List.getElem_cons_zero, List.setIfInBounds_toArray, List.set_cons_succ, List.set_cons_zero]
         refine wpLate.take (i := 2) (q := 11) (oi := _) (v := ?_) rfl (by as_aux_lemma => kernel_rfl) (by as_aux_lemma => kernel_rfl) (by as_aux_lemma => kernel_rfl) (by as_aux_lemma => kernel_rfl) (by rfl) (fun _ _ _ h => h) (TillOne.set (by decide)) (HTW.out _ HB0.out _) (Or.inl ⟨by rfl, ?_⟩) ?_
         case refine_2 => intro W hw; have e0 := HQ0.out W hw; have e1 := HQ1.out W hw; clear hw; go_simp; (try with_reducible rfl)
         simp only [Act.put, List.getElem_toArray, List.getElem_cons_succ, List.getElem_cons_zero, List.setIfInBounds_toArray, List.set_cons_succ, List.set_cons_zero]
         refine wpLate.take (i := 4) (q := 11) (oi := _) (v := ?_) rfl (by as_aux_lemma => kernel_rfl) (by as_aux_lemma => kernel_rfl) (by as_aux_lemma => kernel_rfl) (by as_aux_lemma => kernel_rfl) (by rfl) (fun _ _ _ h => h) (TillOne.set (by decide)) (HTW.out _ HB0.out _) (Or.inl ⟨by rfl, ?_⟩) ?_
         case refine_2 => intro W hw; have e0 := HQ0.out W hw; have e1 := HQ1.out W hw; clear hw; go_simp; (try with_reducible rfl)
         simp only [Act.put, List.getElem_toArray, List.getElem_cons_succ, List.getElem_cons_zero, List.setIfInBounds_toArray, List.set_cons_succ, List.set_cons_zero]
         refine wpLate.take (i := 5) (q := 11) (oi := _) (v := ?_) rfl (by as_aux_lemma => kernel_rfl) (by as_aux_lemma => kernel_rfl) (by as_aux_lemma => kernel_rfl) (by as_aux_lemma => kernel_rfl) (by rfl) (fun _ _ _ h => h) (TillOne.set (by decide)) (HTW.out _ HB0.out _) (Or.inl ⟨by rfl, ?_⟩) ?_
         case refine_2 => intro W hw; have e0 := HQ0.out W hw; have e1 := HQ1.out W hw; clear hw; go_simp; (try with_reducible rfl)
         simp only [Act.put, List.getElem_toArray, List.getElem_cons_succ, List.getElem_cons_zero, List.setIfInBounds_toArray, List.set_cons_succ, List.set_cons_zero]
         refine wpLate.take (i := 6) (q := 11) (oi := _) (v := ?_) rfl (by as_aux_lemma => kernel_rfl) (by as_aux_lemma => kernel_rfl) (by as_aux_lemma => kernel_rfl) (by as_aux_lemma => kernel_rfl) (by rfl) (fun _ _ _ h => h) (TillOne.set (by decide)) (HTW.out _ HB0.out _) (Or.inl ⟨by rfl, ?_⟩) ?_
         case refine_2 => intro W hw; have e0 := HQ0.out W hw; have e1 := HQ1.out W hw; clear hw; go_simp; (try with_reducible rfl)
         simp only [Act.put, List.getElem_toArray, List.getElem_cons_succ, List.getElem_cons_zero, List.setIfInBounds_toArray, List.set_cons_succ, List.set_cons_zero]
         refine wpLate.take (i := 7) (q := 11) (oi := _) (v := ?_) rfl (by as_aux_lemma => kernel_rfl) (by as_aux_lemma => kernel_rfl) (by as_aux_lemma => kernel_rfl) (by as_aux_lemma => kernel_rfl) (by rfl) (fun _ _ _ h => h) (TillOne.set (by decide)) (HTW.out _ HB0.out _) (Or.inl ⟨by rfl, ?_⟩) ?_
         case refine_2 => intro W hw; have e0 := HQ0.out W hw; have e1 := HQ1.out W hw; clear hw; go_simp; (try with_reducible rfl)
         simp only [Act.put, List.getElem_toArray, List.getElem_cons_succ, List.getElem_cons_zero, List.setIfInBounds_toArray, List.set_cons_succ, List.set_cons_zero]
         refine wpLate.ready (rs := [0, 8]) (by as_aux_lemma => kernel_rfl) (by simp) (eachLate.cons (i := 0) rfl (fun K hK => ?_) (eachLate.cons (i := 8) rfl (fun K hK => ?_) eachLate.nil))
         · go_simp
           have n_hb := HB0.out.alloc (HBS.out _ HB0.out) (Obj.cells #[] 9)
           have n_r0 := own0J (w := W0) (HBS.out _ HB0.out)
           generalize W0.alloc (Obj.cells #[] 9) = w_0_ at *
           generalize W0.heap.size = g0 at *
           have H_0_ := Lib.hid (And.intro n_hb (n_r0))
           clear n_hb n_r0
           refine hK.out _ _ (HTW.out _ H_0_.out.1 _) ?_
           clear hK K
           try simp only [Act.put, List.setIfInBounds_toArray, List.set_cons_succ, List.set_cons_zero]
           refine wpLate.ready (rs := [3, 8]) (by as_aux_lemma => kernel_rfl) (by simp) (eachLate.cons (i := 3) rfl (fun K hK => ?_) (eachLate.cons (i := 8) rfl (fun K hK => ?_) eachLate.nil))
           · refine step_of rfl (wp_appendRows (ks := []) (rs := B.map fun s => [Value.string s]) (base := N0) (v := .slice (some ⟨g0, 0, none⟩) 0 0) (A := AB) (n := nB) (c := cB) (.tmp 259) (.tmp 261) rfl Tryz.underlying23 infoStr9 rfl (Nat.zero_lt_succ _) (by go_simp; (try with_reducible rfl)) H_0_.out.2 (by go_simp; (try with_reducible rfl)) HLB.out.2.2 HLB.out.2.1 HRB.out.1 HRB.out.2.1 HRB.out.2.2 (HRW.out _ H_0_.out.1) (by simp only [List.length_nil]; omega) (by simp only [List.length_nil]; omega) (HBS.out _ H_0_.out.1) ?_)
             intro v3 w_0_3_ ho3 hg3 hn3
             rw [List.nil_append] at ho3
             have n_hb := H_0_.out.1.grown hg3 (HBS.out _ H_0_.out.1) (fun j hj => (Own.lt H_0_.out.2 hj).1)
             have n_r3 := ho3
             clear ho3 hg3 hn3
             have H_0_3_ := Lib.hid (And.intro n_hb (n_r3))
             clear n_hb n_r3
             refine hK.out _ _ (HTW.out _ H_0_3_.out.1 _) ?_
             clear hK K
             try simp only [Act.put, List.setIfInBounds_toArray, List.set_cons_succ, List.set_cons_zero]
             refine wpLate.ready (rs := [8]) (by as_aux_lemma => kernel_rfl) (by simp) (eachLate.cons (i := 8) rfl (fun K hK => ?_) eachLate.nil)
             go_simp
             have n_hb := H_0_3_.out.1.alloc (HBS.out _ H_0_3_.out.1) (Obj.cells #[Value.string m.mid] 9)
             have n_r3 := H_0_3_.out.2.alloc (Obj.cells #[Value.string m.mid] 9)
             have n_o8 := Whole.new w_0_3_ 9 #[Value.string m.mid]
             generalize w_0_3_.alloc (Obj.cells #[Value.string m.mid] 9) = w_0_3_8_ at *
             generalize w_0_3_.heap.size = g8 at *
             have H_0_3_8_ := Lib.hid (And.intro n_hb (And.intro n_r3 (n_o8)))
             clear n_hb n_r3 n_o8
             refine hK.out _ _ (HTW.out _ H_0_3_8_.out.1 _) ?_
             clear hK K
             try simp only [Act.put, List.setIfInBounds_toArray, List.set_cons_succ, List.set_cons_zero]
             refine wpLate.ready (rs := [9]) (by as_aux_lemma => kernel_rfl) (by simp) (eachLate.cons (i := 9) rfl (fun K hK => ?_) eachLate.nil)
             refine step_of rfl (wp_appendE (base := N0) (rs := B.map fun s => [Value.string s]) (r := [Value.string m.mid]) (v := v3) (g := g8) (c := 1) (.tmp 262) (.tmp 267) rfl Tryz.underlying23 infoStr9 rfl (Nat.zero_lt_succ _) (by go_simp; (try with_reducible rfl)) H_0_3_8_.out.2.1 (by go_simp; (try with_reducible rfl)) H_0_3_8_.out.2.2 rfl (fun u hu => by simp at hu; subst hu; rfl) (by rw [HRB.out.1]; omega) (by rw [HRB.out.1]; omega) (HBS.out _ H_0_3_8_.out.1) ?_)
             intro v9 w_0_3_8_9_ ho9 hg9 hn9
             obtain ⟨AZ, kZ, hv9, -⟩ := Own.form ho9
             generalize List.length _ = l9 at hv9
             subst hv9
             have n_hb := H_0_3_8_.out.1.grown hg9 (HBS.out _ H_0_3_8_.out.1) (fun j hj => (Own.lt H_0_3_8_.out.2.1 hj).1)
             have n_r9 := ho9
             clear ho9 hg9 hn9
             have H_0_3_8_9_ := Lib.hid (And.intro n_hb (n_r9))
             clear n_hb n_r9
             refine hK.out _ _ (HTW.out _ H_0_3_8_9_.out.1 _) ?_
             clear hK K
             try simp only [Act.put, List.setIfInBounds_toArray, List.set_cons_succ, List.set_cons_zero]
             have c9 := (HJU.out _ H_0_3_8_9_.out.1).box.cell 2
             have f9 := (HJU.out _ H_0_3_8_9_.out.1).box.frz 2
             simp only [List.getElem?_toArray, List.getElem?_cons_zero, List.getElem?_cons_succ] at c9
             refine wpLate.take (i := 10) (q := 11) (oi := _) (v := ?_) rfl (by as_aux_lemma => kernel_rfl) (by as_aux_lemma => kernel_rfl) (by as_aux_lemma => kernel_rfl) (by as_aux_lemma => kernel_rfl) (by rfl) (fun _ _ _ h => h) (TillOne.set (by decide)) (HTW.out _ H_0_3_8_9_.out.1 _) (Or.inl ⟨by rfl, ?_⟩) ?_
             case refine_2 => intro W hw; have e0 := HQ0.out W hw; have e1 := HQ1.out W hw; clear hw; go_simp; (try with_reducible rfl)
             simp only [Act.put, List.getElem_toArray, List.getElem_cons_succ, List.getElem_cons_zero, List.setIfInBounds_toArray, List.set_cons_succ, List.set_cons_zero]
             refine wpLate.ready (rs := [11]) (by as_aux_lemma => kernel_rfl) (by simp) (eachLate.cons (i := 11) rfl (fun K hK => ?_) eachLate.nil)
             go_simp
             refine hK.out _ _ (TillOne.past trivial rfl) ?_
             clear hK K
             try simp only [Act.put]
             refine wpLate.done (by as_aux_lemma => kernel_rfl) ?_ _
             go_wp2
             go_meet
             exact (HJU.out _ H_0_3_8_9_.out.1).bunV (L := B ++ [m.mid]) (by rw [List.map_append]; exact H_0_3_8_9_.out.2) (by rw [List.length_append]; have := HBL.out.1; show B.length + 1 ≤ _; omega) (fun x hx => by rcases List.mem_append.1 hx with hx | hx; exact Nat.le_trans (HBL.out.2 x hx) (by decide); obtain rfl := List.mem_singleton.1 hx; exact HJ.out.sml.siz.mid) HVER.out
           · go_simp
             have n_hb := H_0_.out.1.alloc (HBS.out _ H_0_.out.1) (Obj.cells #[Value.string m.mid] 9)
             have n_r0 := H_0_.out.2.alloc (Obj.cells #[Value.string m.mid] 9)
             have n_o8 := Whole.new w_0_ 9 #[Value.string m.mid]
             have n_n08 := Nat.ne_of_lt (H_0_.out.2.lt (k := g0) rfl).2
             generalize w_0_.alloc (Obj.cells #[Value.string m.mid] 9) = w_0_8_ at *
             generalize w_0_.heap.size = g8 at *
             have H_0_8_ := Lib.hid (And.intro n_hb (And.intro n_r0 (And.intro n_o8 (n_n08))))
             clear n_hb n_r0 n_o8 n_n08
             refine hK.out _ _ (HTW.out _ H_0_8_.out.1 _) ?_
             clear hK K
             try simp only [Act.put, List.setIfInBounds_toArray, List.set_cons_succ, List.set_cons_zero]
             refine wpLate.ready (rs := [3]) (by as_aux_lemma => kernel_rfl) (by simp) (eachLate.cons (i := 3) rfl (fun K hK => ?_) eachLate.nil)
             refine step_of rfl (wp_appendRows (ks := []) (rs := B.map fun s => [Value.string s]) (base := N0) (v := .slice (some ⟨g0, 0, none⟩) 0 0) (A := AB) (n := nB) (c := cB) (.tmp 259) (.tmp 261) rfl Tryz.underlying23 infoStr9 rfl (Nat.zero_lt_succ _) (by go_simp; (try with_reducible rfl)) H_0_8_.out.2.1 (by go_simp; (try with_reducible rfl)) HLB.out.2.2 HLB.out.2.1 HRB.out.1 HRB.out.2.1 HRB.out.2.2 (HRW.out _ H_0_8_.out.1) (by simp only [List.length_nil]; omega) (by simp only [List.length_nil]; omega) (HBS.out _ H_0_8_.out.1) ?_)
             intro v3 w_0_8_3_ ho3 hg3 hn3
             rw [List.nil_append] at ho3
             have n_hb := H_0_8_.out.1.grown hg3 (HBS.out _ H_0_8_.out.1) (fun j hj => (Own.lt H_0_8_.out.2.1 hj).1)
             have n_r3 := ho3
             have n_o8 := H_0_8_.out.2.2.1.grown hg3 (fun e => H_0_8_.out.2.2.2 (Option.some.inj (e : some g8 = some g0)).symm)
             clear ho3 hg3 hn3
             have H_0_8_3_ := Lib.hid (And.intro n_hb (And.intro n_r3 (n_o8)))
             clear n_hb n_r3 n_o8
             refine hK.out _ _ (HTW.out _ H_0_8_3_.out.1 _) ?_
             clear hK K
             try simp only [Act.put, List.setIfInBounds_toArray, List.set_cons_succ, List.set_cons_zero]
             refine wpLate.ready (rs := [9]) (by as_aux_lemma => kernel_rfl) (by simp) (eachLate.cons (i := 9) rfl (fun K hK => ?_) eachLate.nil)
             refine step_of rfl (wp_appendE (base := N0) (rs := B.map fun s => [Value.string s]) (r := [Value.string m.mid]) (v := v3) (g := g8) (c := 1) (.tmp 262) (.tmp 267) rfl Tryz.underlying23 infoStr9 rfl (Nat.zero_lt_succ _) (by go_simp; (try with_reducible rfl)) H_0_8_3_.out.2.1 (by go_simp; (try with_reducible rfl)) H_0_8_3_.out.2.2 rfl (fun u hu => by simp at hu; subst hu; rfl) (by rw [HRB.out.1]; omega) (by rw [HRB.out.1]; omega) (HBS.out _ H_0_8_3_.out.1) ?_)
             intro v9 w_0_8_3_9_ ho9 hg9 hn9
             obtain ⟨AZ, kZ, hv9, -⟩ := Own.form ho9
             generalize List.length _ = l9 at hv9
             subst hv9
             have n_hb := H_0_8_3_.out.1.grown hg9 (HBS.out _ H_0_8_3_.out.1) (fun j hj => (Own.lt H_0_8_3_.out.2.1 hj).1)
             have n_r9 := ho9
             clear ho9 hg9 hn9
             have H_0_8_3_9_ := Lib.hid (And.intro n_hb (n_r9))
             clear n_hb n_r9
             refine hK.out _ _ (HTW.out _ H_0_8_3_9_.out.1 _) ?_
             clear hK K
             try simp only [Act.put, List.setIfInBounds_toArray, List.set_cons_succ, List.set_cons_zero]
             have c9 := (HJU.out _ H_0_8_3_9_.out.1).box.cell 2
             have f9 := (HJU.out _ H_0_8_3_9_.out.1).box.frz 2
             simp only [List.getElem?_toArray, List.getElem?_cons_zero, List.getElem?_cons_succ] at c9
             refine wpLate.take (i := 10) (q := 11) (oi := _) (v := ?_) rfl (by as_aux_lemma => kernel_rfl) (by as_aux_lemma => kernel_rfl) (by as_aux_lemma => kernel_rfl) (by as_aux_lemma => kernel_rfl) (by rfl) (fun _ _ _ h => h) (TillOne.set (by decide)) (HTW.out _ H_0_8_3_9_.out.1 _) (Or.inl ⟨by rfl, ?_⟩) ?_
             case refine_2 => intro W hw; have e0 := HQ0.out W hw; have e1 := HQ1.out W hw; clear hw; go_simp; (try with_reducible rfl)
             simp only [Act.put, List.getElem_toArray, List.getElem_cons_succ, List.getElem_cons_zero, List.setIfInBounds_toArray, List.set_cons_succ, List.set_cons_zero]
             refine wpLate.ready (rs := [11]) (by as_aux_lemma => kernel_rfl) (by simp) (eachLate.cons (i := 11) rfl (fun K hK => ?_) eachLate.nil)
             go_simp
             refine hK.out _ _ (TillOne.past trivial rfl) ?_
             clear hK K
             try simp only [Act.put]
             refine wpLate.done (by as_aux_lemma => kernel_rfl) ?_ _
             go_wp2
             go_meet
             exact (HJU.out _ H_0_8_3_9_.out.1).bunV (L := B ++ [m.mid]) (by rw [List.map_append]; exact H_0_8_3_9_.out.2) (by rw [List.length_append]; have := HBL.out.1; show B.length + 1 ≤ _; omega) (fun x hx => by rcases List.mem_append.1 hx with hx | hx; exact Nat.le_trans (HBL.out.2 x hx) (by decide); obtain rfl := List.mem_singleton.1 hx; exact HJ.out.sml.siz.mid) HVER.out
         · go_simp
           have n_hb := HB0.out.alloc (HBS.out _ HB0.out) (Obj.cells #[Value.string m.mid] 9)
           have n_o8 := Whole.new W0 9 #[Value.string m.mid]
           generalize W0.alloc (Obj.cells #[Value.string m.mid] 9) = w_8_ at *
           generalize W0.heap.size = g8 at *
           have H_8_ := Lib.hid (And.intro n_hb (n_o8))
           clear n_hb n_o8
           refine hK.out _ _ (HTW.out _ H_8_.out.1 _) ?_
           clear hK K
           try simp only [Act.put, List.setIfInBounds_toArray, List.set_cons_succ, List.set_cons_zero]
           refine wpLate.ready (rs := [0]) (by as_aux_lemma => kernel_rfl) (by simp) (eachLate.cons (i := 0) rfl (fun K hK => ?_) eachLate.nil)
           go_simp
           have n_hb := H_8_.out.1.alloc (HBS.out _ H_8_.out.1) (Obj.cells #[] 9)
           have n_r0 := own0J (w := w_8_) (HBS.out _ H_8_.out.1)
           have n_o8 := H_8_.out.2.alloc (Obj.cells #[] 9)
           have n_n08 := Nat.ne_of_gt H_8_.out.2.lt
           generalize w_8_.alloc (Obj.cells #[] 9) = w_8_0_ at *
           generalize w_8_.heap.size = g0 at *
           have H_8_0_ := Lib.hid (And.intro n_hb (And.intro n_r0 (And.intro n_o8 (n_n08))))
           clear n_hb n_r0 n_o8 n_n08
           refine hK.out _ _ (HTW.out _ H_8_0_.out.1 _) ?_
           clear hK K
           try simp only [Act.put, List.setIfInBounds_toArray, List.set_cons_succ, List.set_cons_zero]
           refine wpLate.ready (rs := [3]) (by as_aux_lemma => kernel_rfl) (by simp) (eachLate.cons (i := 3) rfl (fun K hK => ?_) eachLate.nil)
           refine step_of rfl (wp_appendRows (ks := []) (rs := B.map fun s => [Value.string s]) (base := N0) (v := .slice (some ⟨g0, 0, none⟩) 0 0) (A := AB) (n := nB) (c := cB) (.tmp 259) (.tmp 261) rfl Tryz.underlying23 infoStr9 rfl (Nat.zero_lt_succ _) (by go_simp; (try with_reducible rfl)) H_8_0_.out.2.1 (by go_simp; (try with_reducible rfl)) HLB.out.2.2 HLB.out.2.1 HRB.out.1 HRB.out.2.1 HRB.out.2.2 (HRW.out _ H_8_0_.out.1) (by simp only [List.length_nil]; omega) (by simp only [List.length_nil]; omega) (HBS.out _ H_8_0_.out.1) ?_)
           intro v3 w_8_0_3_ ho3 hg3 hn3
           rw [List.nil_append] at ho3
           have n_hb := H_8_0_.out.1.grown hg3 (HBS.out _ H_8_0_.out.1) (fun j hj => (Own.lt H_8_0_.out.2.1 hj).1)
           have n_r3 := ho3
           have n_o8 := H_8_0_.out.2.2.1.grown hg3 (fun e => H_8_0_.out.2.2.2 (Option.some.inj (e : some g8 = some g0)).symm)
           clear ho3 hg3 hn3
           have H_8_0_3_ := Lib.hid (And.intro n_hb (And.intro n_r3 (n_o8)))
           clear n_hb n_r3 n_o8
           refine hK.out _ _ (HTW.out _ H_8_0_3_.out.1 _) ?_
           clear hK K
           try simp only [Act.put, List.setIfInBounds_toArray, List.set_cons_succ, List.set_cons_zero]
           refine wpLate.ready (rs := [9]) (by as_aux_lemma => kernel_rfl) (by simp) (eachLate.cons (i := 9) rfl (fun K hK => ?_) eachLate.nil)
           refine step_of rfl (wp_appendE (base := N0) (rs := B.map fun s => [Value.string s]) (r := [Value.string m.mid]) (v := v3) (g := g8) (c := 1) (.tmp 262) (.tmp 267) rfl Tryz.underlying23 infoStr9 rfl (Nat.zero_lt_succ _) (by go_simp; (try with_reducible rfl)) H_8_0_3_.out.2.1 (by go_simp; (try with_reducible rfl)) H_8_0_3_.out.2.2 rfl (fun u hu => by simp at hu; subst hu; rfl) (by rw [HRB.out.1]; omega) (by rw [HRB.out.1]; omega) (HBS.out _ H_8_0_3_.out.1) ?_)
           intro v9 w_8_0_3_9_ ho9 hg9 hn9
           obtain ⟨AZ, kZ, hv9, -⟩ := Own.form ho9
           generalize List.length _ = l9 at hv9
           subst hv9
           have n_hb := H_8_0_3_.out.1.grown hg9 (HBS.out _ H_8_0_3_.out.1) (fun j hj => (Own.lt H_8_0_3_.out.2.1 hj).1)
           have n_r9 := ho9
           clear ho9 hg9 hn9
           have H_8_0_3_9_ := Lib.hid (And.intro n_hb (n_r9))
           clear n_hb n_r9
           refine hK.out _ _ (HTW.out _ H_8_0_3_9_.out.1 _) ?_
           clear hK K
           try simp only [Act.put, List.setIfInBounds_toArray, List.set_cons_succ, List.set_cons_zero]
           have c9 := (HJU.out _ H_8_0_3_9_.out.1).box.cell 2
           have f9 := (HJU.out _ H_8_0_3_9_.out.1).box.frz 2
           simp only [List.getElem?_toArray, List.getElem?_cons_zero, List.getElem?_cons_succ] at c9
           refine wpLate.take (i := 10) (q := 11) (oi := _) (v := ?_) rfl (by as_aux_lemma => kernel_rfl) (by as_aux_lemma => kernel_rfl) (by as_aux_lemma => kernel_rfl) (by as_aux_lemma => kernel_rfl) (by rfl) (fun _ _ _ h => h) (TillOne.set (by decide)) (HTW.out _ H_8_0_3_9_.out.1 _) (Or.inl ⟨by rfl, ?_⟩) ?_
           case refine_2 => intro W hw; have e0 := HQ0.out W hw; have e1 := HQ1.out W hw; clear hw; go_simp; (try with_reducible rfl)
           simp only [Act.put, List.getElem_toArray, List.getElem_cons_succ, List.getElem_cons_zero, List.setIfInBounds_toArray, List.set_cons_succ, List.set_cons_zero]
           refine wpLate.ready (rs := [11]) (by as_aux_lemma => kernel_rfl) (by simp) (eachLate.cons (i := 11) rfl (fun K hK => ?_) eachLate.nil)
           go_simp
           refine hK.out _ _ (TillOne.past trivial rfl) ?_
           clear hK K
           try simp only [Act.put]
           refine wpLate.done (by as_aux_lemma => kernel_rfl) ?_ _
           go_wp2
           go_meet
           exact (HJU.out _ H_8_0_3_9_.out.1).bunV (L := B ++ [m.mid]) (by rw [List.map_append]; exact H_8_0_3_9_.out.2) (by rw [List.length_append]; have := HBL.out.1; show B.length + 1 ≤ _; omega) (fun x hx => by rcases List.mem_append.1 hx with hx | hx; exact Nat.le_trans (HBL.out.2 x hx) (by decide); obtain rfl := List.mem_singleton.1 hx; exact HJ.out.sml.siz.mid) HVER.out
      · clear hm1 hm2 hm3
        by_cases hb0 : nB = 0
        · have kc : W.cell? ⟨gd, 2, none⟩ = some (.slice AB 0 cB) := by have := HJ.out.box.cell 2; rw [hb0] at this; exact this
          go_wp2
          go_meet
          exact HSAME.out
        · obtain ⟨ad, hAB⟩ : ∃ ad, AB = some ad := by
           cases hA : AB with
           | none => have h1 := HNB.out.2.2 hA; have h2 := HNB.out.1; omega
           | some ad => exact ⟨ad, rfl⟩
          subst hAB
          have kc : W.cell? ⟨gd, 2, none⟩ = some (.slice (some ad) nB cB) := HJ.out.box.cell 2
          have fc := HJ.out.box.frz 2
          have hb1 : (0 : Int) < (nB : Int) := by omega
          have hb2 : 1 ≤ nB := by omega
          have hb3 := HNB.out.1
          have HDROP : Hid (∀ A' c', (1 < nB → A' = some (ad.add 1)) → nB - 1 ≤ c' → c' ≤ maxLen → (A' = none → c' = 0) → EndO gd (W.setCell ⟨gd, 2, none⟩ (.slice A' (nB - 1) c')) ∧ Below gd wB (W.setCell ⟨gd, 2, none⟩ (.slice A' (nB - 1) c'))) := Lib.hid fun A' c' q1 q2 q3 q4 => HJ.out.drop1 HVER.out q1 q2 q3 q4
          by_cases hc1 : cB = 1
          · subst hc1
            obtain rfl : nB = 1 := by omega
            go_wp2
            go_meet
            exact HDROP.out (some ad) 0 (fun e => by omega) (Nat.le_refl _) (Nat.zero_le _) (fun e => by cases e)
          · go_wp2
            go_meet
            exact HDROP.out _ _ (fun e => by simp [Addr.add]) (by omega) (by have := HNB.out.2.1; omega) (fun e => by cases e)
      · clear hm1 hm2 hm3
        have kc : W.cell? ⟨gd, 1, none⟩ = some (.int .u64 ver) := HJ.out.box.cell 1
        have fc := HJ.out.box.frz 1
        go_wp2
        go_meet
        exact HJ.out.verU _
     case rest =>
      obtain ⟨hend, hlow⟩ := hcut
      obtain ⟨R, d, uB', uM', hR, hdv, hsd⟩ := hend
      have hxb := HXB.out wc hlow
      obtain ⟨r1, hr1⟩ : ∃ n, checkA a.o d = n := ⟨_, rfl⟩
      have hbl : b ≤ wc.heap.size := Nat.le_of_lt hxb.1.lt
      have HD1 : Hid (∀ W, Below wc.heap.size wc W → Calls Tryz.prog 7 #[.agg D, .agg R] W fun e w' => e = .returned (.int .i64 (r1 : Nat)) ∧ Below W.heap.size W w') := Lib.hid fun W hW => by rw [← hr1]; exact HC1.out W R d _ _ (hxb.2.trans (hW.mono hbl)) (hdv.under hW) hsd
      have HD2 : Hid (∀ W, Below wc.heap.size wc W → Calls Tryz.prog 8 #[.agg D, .agg R] W fun e w' => e = .returned (.int .i64 (r1 : Nat)) ∧ Below W.heap.size W w') := Lib.hid fun W hW => by rw [← hr1]; exact HC2.out W R d _ _ (hxb.2.trans (hW.mono hbl)) (hdv.under hW) hsd
      have HXL : Hid (∀ W, Below wc.heap.size wc W → ∀ j u, D.toList[j]? = some u → W.cell? ((⟨b, 0, none⟩ : Addr).add j) = some u) := Lib.hid fun W hW j u hu => by
       rw [Addr.add_lit]
       exact (HPT.out W (hxb.1.under hW)).1 j u hu
      have HYL : Hid (∀ W, Below wc.heap.size wc W → ∀ j u, R.toList[j]? = some u → W.cell? ((⟨gd, 0, none⟩ : Addr).add j) = some u) := Lib.hid fun W hW j u hu => by
       rw [Addr.add_lit, Nat.zero_add, (hR.under hW).cell j, ← Array.getElem?_toList]
       exact hu
      have HXS : Hid ((Tryz.prog.info? 26).map (·.size) = some D.toList.length) := Lib.hid (by rw [Tryz.sizeDesc, Array.length_toList, HS.out.1])
      have HYS : Hid ((Tryz.prog.info? 26).map (·.size) = some R.toList.length) := Lib.hid (by rw [Tryz.sizeDesc, Array.length_toList, hdv.form]; rfl)
      have HKB : Hid (∀ W W', Below wc.heap.size wc W → Below W.heap.size W W' → Below wc.heap.size wc W') := Lib.hid fun W W' h1 h2 => h1.trans (h2.mono h1.size)
      have HFB : Hid (∀ W, Below wc.heap.size wc W → Below b w W) := Lib.hid fun W hW => hxb.2.trans (hW.mono hbl)
      have hq1 : ((r1 : Int) == (r1 : Int)) = true := by simp
      have HDR : Hid (Below wc.heap.size wc wc.drew) := Lib.hid (Below.refl _ _).drew
      clear hR hdv hsd hxb hr1 hbl hlow
      go_upto_region 52 with fail
      refine wp_region_held_drew (S := fun W => Below wc.heap.size wc W) (by kernel_rfl) HDR.out (fun hHeld => ?_)
      refine wpAnyH_take (i := 0) (v := _) rfl (by as_aux_lemma => kernel_rfl) (by as_aux_lemma => kernel_rfl) (by as_aux_lemma => kernel_rfl) (fun _ _ _ h => h) (Or.inl ⟨by rfl, fun w h => by clear h; go_simp; (try with_reducible rfl)⟩) (by assumption) ?_
      simp only [Act.put, List.getElem_toArray, List.getElem_cons_succ, List.getElem_cons_zero, List.setIfInBounds_toArray, List.set_cons_succ, List.set_cons_zero]
      refine wpAnyH_take (i := 1) (v := _) rfl (by as_aux_lemma => kernel_rfl) (by as_aux_lemma => kernel_rfl) (by as_aux_lemma => kernel_rfl) (fun _ _ _ h => h) (yieldsIf_load_at (by rfl) 26 (.tmp 280) rfl ⟨b, 0, none⟩ rfl D.toList _ (fun w h => HXL.out w h) Tryz.underlying26 rfl HXS.out) (by assumption) ?_
      simp only [Act.put, List.getElem_toArray, List.getElem_cons_succ, List.getElem_cons_zero, List.setIfInBounds_toArray, List.set_cons_succ, List.set_cons_zero]
      refine wpAnyH_take (i := 2) (v := _) rfl (by as_aux_lemma => kernel_rfl) (by as_aux_lemma => kernel_rfl) (by as_aux_lemma => kernel_rfl) (fun _ _ _ h => h) (yieldsIf_load_at (by rfl) 26 (.tmp 7) rfl ⟨gd, 0, none⟩ rfl R.toList _ (fun w h => HYL.out w h) Tryz.underlying26 rfl HYS.out) (by assumption) ?_
      simp only [Act.put, List.getElem_toArray, List.getElem_cons_succ, List.getElem_cons_zero, List.setIfInBounds_toArray, List.set_cons_succ, List.set_cons_zero]
      refine wpAnyH_take (i := 4) (v := _) rfl (by as_aux_lemma => kernel_rfl) (by as_aux_lemma => kernel_rfl) (by as_aux_lemma => kernel_rfl) (fun _ _ _ h => h) (Or.inl ⟨by rfl, fun w h => by clear h; go_simp; (try with_reducible rfl)⟩) (by assumption) ?_
      simp only [Act.put, List.getElem_toArray, List.getElem_cons_succ, List.getElem_cons_zero, List.setIfInBounds_toArray, List.set_cons_succ, List.set_cons_zero]
      refine wpAnyH_take (i := 5) (v := _) rfl (by as_aux_lemma => kernel_rfl) (by as_aux_lemma => kernel_rfl) (by as_aux_lemma => kernel_rfl) (fun _ _ _ h => h) (yieldsIf_load_at (by rfl) 26 (.tmp 284) rfl ⟨b, 0, none⟩ rfl D.toList _ (fun w h => HXL.out w h) Tryz.underlying26 rfl HXS.out) (by assumption) ?_
      simp only [Act.put, List.getElem_toArray, List.getElem_cons_succ, List.getElem_cons_zero, List.setIfInBounds_toArray, List.set_cons_succ, List.set_cons_zero]
      refine wpAnyH_take (i := 6) (v := _) rfl (by as_aux_lemma => kernel_rfl) (by as_aux_lemma => kernel_rfl) (by as_aux_lemma => kernel_rfl) (fun _ _ _ h => h) (yieldsIf_load_at (by rfl) 26 (.tmp 7) rfl ⟨gd, 0, none⟩ rfl R.toList _ (fun w h => HYL.out w h) Tryz.underlying26 rfl HYS.out) (by assumption) ?_
      simp only [Act.put, List.getElem_toArray, List.getElem_cons_succ, List.getElem_cons_zero, List.setIfInBounds_toArray, List.set_cons_succ, List.set_cons_zero]
      refine wpAnyH_ready (rs := [3]) (by as_aux_lemma => kernel_rfl) (by simp) ?_
      refine AllReadyH.cons (i := 3) rfl (fun K hK => ?_) AllReadyH.nil
      go_simp
      refine (HD1.out _ hHeld).mono ?_
      rintro e wq3 ⟨rfl, hb3⟩
      refine hK.out _ _ (HKB.out _ _ hHeld hb3) (fun hHeld4 => ?_)
      clear hK K hHeld hb3
      have hHeld := hHeld4
      clear hHeld4
      try simp only [Act.put]
      refine wpAnyH_ready (rs := [7]) (by as_aux_lemma => kernel_rfl) (by simp) ?_
      refine AllReadyH.cons (i := 7) rfl (fun K hK => ?_) AllReadyH.nil
      go_simp
      refine (HD2.out _ hHeld).mono ?_
      rintro e wq4 ⟨rfl, hb3⟩
      refine hK.out _ _ (HKB.out _ _ hHeld hb3) (fun hHeld4 => ?_)
      clear hK K hHeld hb3
      have hHeld := hHeld4
      clear hHeld4
      try simp only [Act.put]
      refine wpAnyH_take (i := 8) (v := _) rfl (by as_aux_lemma => kernel_rfl) (by as_aux_lemma => kernel_rfl) (by as_aux_lemma => kernel_rfl) (fun _ _ _ h => h) (Or.inl ⟨by rfl, fun w h => by clear h; go_simp; (try with_reducible rfl)⟩) (by assumption) ?_
      simp only [Act.put, List.getElem_toArray, List.getElem_cons_succ, List.getElem_cons_zero, List.setIfInBounds_toArray, List.set_cons_succ, List.set_cons_zero]
      refine wpAnyH_take (i := 9) (v := _) rfl (by as_aux_lemma => kernel_rfl) (by as_aux_lemma => kernel_rfl) (by as_aux_lemma => kernel_rfl) (fun _ _ _ h => h) (Or.inl ⟨by rfl, fun w h => by clear h; go_simp; (try with_reducible rfl)⟩) (by assumption) ?_
      simp only [Act.put, List.getElem_toArray, List.getElem_cons_succ, List.getElem_cons_zero, List.setIfInBounds_toArray, List.set_cons_succ, List.set_cons_zero]
      refine wpAnyH_done (by as_aux_lemma => kernel_rfl) ?_ _
      have HFIN := Lib.hid hHeld
      clear hHeld
      go_wp2
      go_ret
      exact ⟨rfl, by rw [HB.out]; exact HFB.out _ HFIN.out⟩
 · subst hq
   go_wp2
   go_ret
   exact ⟨rfl, by rw [HB.out]; exact H3.out.1⟩
end Go.Proofs.YtibpnjakimobmaaGreat
