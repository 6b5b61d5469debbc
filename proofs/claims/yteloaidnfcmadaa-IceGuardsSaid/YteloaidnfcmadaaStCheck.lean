/- Check, of the program. -/
import Derived.Test.YteloaidnfcmadaaStCheckP
namespace Go.Proofs.Yteloaidnfcmadaa
open Go.RowKit
set_option linter.unusedVariables false

/-- What a later world keeps: rows of a type, rows of bytes. -/
structure Kp (e : TypeId) (X X' : World) : Prop where
  rows : ∀ g cs, Whole X g e cs → Whole X' g e cs
  bytes : Kept8 X X'
  size : X.heap.size ≤ X'.heap.size
section
variable {e t : TypeId} {X X' X'' : World} {g : Nat} {cs : Array Value}
theorem Kp.refl (e : TypeId) (X : World) : Kp e X X := ⟨fun _ _ h => h, Kept8.refl X, Nat.le_refl _⟩
theorem Kp.under (h : Kp e X X') (hb : Below X'.heap.size X' X'') : Kp e X X'' := ⟨fun g cs k => (h.rows g cs k).under hb, h.bytes.trans (Kept8.under hb), Nat.le_trans h.size hb.size⟩
theorem Kp.row (h : Kp e X X') (hw : Whole X' g t cs) (h1 : e ≠ t) (h2 : t ≠ 5) (cs2 : Array Value) : Kp e X (X'.setRow g cs2) := ⟨fun g' cs' k => (h.rows g' cs' k).farRow (fun e2 => (h.rows g' cs' k).ne hw h1 e2) cs2, h.bytes.trans (Kept8.row hw h2 cs2), by simpa [World.setRow] using h.size⟩
theorem Kp.cell (h : Kp e X X') (hw : Whole X' g t cs) (h1 : e ≠ t) (h2 : t ≠ 5) (i : Nat) (u : Value) : Kp e X (X'.setCell ⟨g, i, none⟩ u) := ⟨fun g' cs' k => (h.rows g' cs' k).far (p := ⟨g, i, none⟩) (fun e2 => (h.rows g' cs' k).ne hw h1 e2) u, h.bytes.trans (Kept8.put hw h2 i u), by simpa [World.setCell] using h.size⟩
end
theorem Try.size2Attr (w : World) : (sizeOf 92).run Try.prog w = .ok 2 w := by kernel_rfl
set_option maxHeartbeats 6400000 in
set_option maxRecDepth 100000 in
theorem check_any (vb vk : Value) (xs ks : List Int) (w : World) (hb : V8 w w.heap.size vb xs) (hx : In256 xs) (hl : xs.length ≤ 140737488355328) (hk : V8 w w.heap.size vk ks) (hkx : In256 ks) (hkl : ks.length ≤ 140737488355328) :
    Calls Try.prog 44 #[vb, vk] w fun e w' => ∃ M x, e = .returned (.tuple #[.agg M, .int .i64 x]) ∧ CheckV w' xs ks M x ∧ Below w.heap.size w w' := by
  have hz := Try.zeroMsg
  have hbz := build_zero
  have HZS : Hid (zM.size = 15 ∧ zM.all (·.oneCell') = true) := Lib.hid ⟨zM_size, mv_one rfl⟩
  obtain ⟨Z, hZ⟩ : ∃ Z, zM = Z := ⟨_, rfl⟩
  have HZ := Lib.hid hZ
  simp only [hZ] at hz HZS hbz
  have HBZ := Lib.hid hbz
  have g0 := Whole.new w 69 Z
  have b0 : Below w.heap.size w (w.alloc (.cells Z 69)) := (Below.refl _ w).alloc (Nat.le_refl _) _
  have s0 : (w.alloc (.cells Z 69)).heap.size = w.heap.size + 1 := by simp
  have H0 := Lib.hid (And.intro g0 (And.intro b0 s0))
  have HV := Lib.hid (And.intro hb (And.intro hx (And.intro hl (And.intro hk (And.intro hkx hkl)))))
  clear hZ hbz g0 b0 s0 hb hx hl hk hkx hkl
  obtain ⟨N, hN⟩ : ∃ N, w.heap.size = N := ⟨_, rfl⟩
  have HN := Lib.hid hN
  rw [hN] at H0 HV ⊢
  go_enter Try.func44, Try.ntmps44
  go_upto_region 1 with fail
  generalize w.alloc (.cells Z 69) = W0 at *
  clear hN
  have hvb : ∀ W, Below N w W → N ≤ W.heap.size → V8 W W.heap.size vb xs ∧ V8 W W.heap.size vk ks := fun W hb hs => ⟨(HV.out.1.below hb).more hs, (HV.out.2.2.2.1.below hb).more hs⟩
  have HVB := Lib.hid hvb
  have HPA := Lib.hid (parse_firm vb xs W0 (hvb W0 H0.out.2.1 (by have := H0.out.2.2; omega)).1 HV.out.2.1 HV.out.2.2.1)
  clear hvb
  go_upto_region 2 with (first
    | (go_at_call 22; (with_reducible refine HPA.out.mono ?_); rintro e w1 ⟨M1, x1, rfl, hp1, hb1⟩; have hs1 := parsed_size hp1.v)
    | (refine wpList_store_whole rfl 69 (.tmp 6) (.tmp 13) rfl rfl rfl (Whole.new w1 69 Z) Try.sizeMsg hs1.1 HZS.out.1 (hs1.2) ?_))
  have hNw : N < w1.heap.size := Nat.lt_of_lt_of_le H0.out.1.lt hb1.size
  have hbw : Below w1.heap.size w1 ((w1.alloc (.cells Z 69)).setRow w1.heap.size M1) := below_row ((Below.refl _ w1).alloc (Nat.le_refl _) _) (Nat.le_refl _) _
  have hg6 : Whole ((w1.alloc (.cells Z 69)).setRow w1.heap.size M1) w1.heap.size 69 M1 := (Whole.new w1 69 Z).row _
  have hr6 : Whole ((w1.alloc (.cells Z 69)).setRow w1.heap.size M1) N 69 Z := (H0.out.1.under hb1).under hbw
  have hb6 : Below N w ((w1.alloc (.cells Z 69)).setRow w1.heap.size M1) := (H0.out.2.1.trans (hb1.mono (Nat.le_of_lt H0.out.1.lt))).trans (hbw.mono (Nat.le_of_lt hNw))
  rcases hp1 with ⟨m, A, c, ps, his, rfl, hm, hrw, hel⟩ | ⟨hno, rfl, hz1⟩
  · have HFI := Lib.hid (And.intro hm (And.intro hrw hel))
    have HSZ0 := Lib.hid hb1.size
    have hk6 : Kp 92 w1 ((w1.alloc (.cells Z 69)).setRow w1.heap.size M1) := (Kp.refl 92 w1).under hbw
    have HK6 := Lib.hid hk6
    clear hk6
    have H1 := Lib.hid (And.intro his (And.intro hm (And.intro hbw (And.intro hg6 (And.intro hr6 (And.intro hb6 (And.intro hs1 hNw)))))))
    clear hrw hel his hm hbw hg6 hr6 hb6 hs1 hNw hb1
    have HMF := Lib.hid (And.intro H1.out.2.1.form H1.out.2.1.id12)
    generalize (w1.alloc (.cells Z 69)).setRow w1.heap.size M1 = W6 at *
    obtain ⟨g6, hg6⟩ : ∃ g, w1.heap.size = g := ⟨_, rfl⟩
    rw [hg6] at H1 ⊢
    clear hg6
    have hm14 : M1[14]? = some (.slice A m.at_.length c) := by rw [HMF.out.1]; exact mv_14 _ _ _ _ HMF.out.2
    obtain ⟨n, hn⟩ : ∃ n, m.at_.length = n := ⟨_, rfl⟩
    have HE := Lib.hid hn
    rw [hn] at hm14
    have HM14 := Lib.hid hm14
    clear hn hm14
    go_upto_region 5 with (first
      | (refine wpList_load_all rfl 69 (.tmp 6) rfl H1.out.2.2.2.1 rfl Try.sizeMsg H1.out.2.2.2.2.2.2.1.1 Try.underlying69 rfl ?_)
      | (refine wpList_store_whole rfl 69 (.tmp 8) (.tmp 19) rfl rfl rfl (Whole.new W6 69 Z) Try.sizeMsg H1.out.2.2.2.2.2.2.1.1 HZS.out.1 H1.out.2.2.2.2.2.2.1.2 ?_))
    have hbw : Below W6.heap.size W6 ((W6.alloc (.cells Z 69)).setRow W6.heap.size M1) := below_row ((Below.refl _ W6).alloc (Nat.le_refl _) _) (Nat.le_refl _) _
    have hg8 : Whole ((W6.alloc (.cells Z 69)).setRow W6.heap.size M1) W6.heap.size 69 M1 := (Whole.new W6 69 Z).row _
    have h6l : g6 < W6.heap.size := H1.out.2.2.2.1.lt
    have hg6' := H1.out.2.2.2.1.under hbw
    have e14 : ((W6.alloc (.cells Z 69)).setRow W6.heap.size M1).cell? ⟨g6, 14, none⟩ = some (.slice A n c) := (hg6'.cell 14).trans HM14.out
    have f14 : ((W6.alloc (.cells Z 69)).setRow W6.heap.size M1).cell? ⟨W6.heap.size, 14, none⟩ = some (.slice A n c) := (hg8.cell 14).trans HM14.out
    have ff14 : ((W6.alloc (.cells Z 69)).setRow W6.heap.size M1).frozen? ⟨W6.heap.size, 14, none⟩ = false := hg8.frz 14
    have H8 := Lib.hid (And.intro hbw (And.intro hg8 (And.intro h6l hg6')))
    clear hbw hg8 h6l hg6'
    generalize (W6.alloc (.cells Z 69)).setRow W6.heap.size M1 = W8 at *
    obtain ⟨g8, hg8⟩ : ∃ g, W6.heap.size = g := ⟨_, rfl⟩
    rw [hg8] at H8 f14 ff14 ⊢
    have HG8 := Lib.hid hg8
    clear hg8
    have hn16 : n ≤ 16 := by have := H1.out.1.1.most; have := HE.out; omega
    obtain ⟨k, hk⟩ : ∃ k, n - 2 = k := ⟨_, rfl⟩
    have hmx : (if (n : Int) - 2 < 0 then (0 : Int) else (n : Int) - 2) = (k : Int) := by split <;> omega
    have hkc : k ≤ c := by have := H1.out.2.1.fits; have := HE.out; omega
    have hcut : ∀ W, (Instr.slice 67 (.slice A n c) none (some (.int .i64 (k : Int))) none).run Try.prog W = .ok (.slice A k c) W := fun W => cutA Try.underlying67 Try.size2Attr rfl hkc H1.out.2.1.nil W
    have HK := Lib.hid (And.intro hk hn16)
    clear hk hkc
    have hbK : Below g6 w1 W8 := by
      have h1 := H1.out.2.2.1
      exact h1.trans (H8.out.1.mono (Nat.le_of_lt (by have := H8.out.2.2.1; exact this)))
    have hbb := bare_box (t := 69) (by decide) H1.out.2.1 hbK (Nat.le_of_lt H8.out.2.2.1) H8.out.2.1 k (by rw [HE.out]; exact HK.out.1.symm)
    have HBB := Lib.hid hbb
    clear hbb hbK
    go_upto_region 6 with fail
    clear e14 f14 ff14 hmx hcut
    have hrN : Whole (W8.setCell ⟨g8, 14, none⟩ (.slice A k c)) N 69 Z := (H1.out.2.2.2.2.1.under (by have := H8.out.1; rw [← HG8.out] at this; exact this)).far (p := ⟨g8, 14, none⟩) (by have := H1.out.2.2.2.2.1.lt; have := HG8.out; show N ≠ g8; omega) _
    have hg6M : Whole (W8.setCell ⟨g8, 14, none⟩ (.slice A k c)) g6 69 M1 := H8.out.2.2.2.far (p := ⟨g8, 14, none⟩) (by have := H8.out.2.2.1; show g6 ≠ g8; omega) _
    have hbN8 : Below N w (W8.setCell ⟨g8, 14, none⟩ (.slice A k c)) := H1.out.2.2.2.2.2.1.trans ((H8.out.1.mono (by have := H1.out.2.2.2.2.2.2.2; have := H8.out.2.2.1; omega)).trans (HBB.out.2.2.mono (by have := H1.out.2.2.2.2.2.2.2; have := H8.out.2.2.1; omega)))
    have hkp : Kp 92 w1 (W8.setCell ⟨g8, 14, none⟩ (.slice A k c)) := ((HK6.out.under (by have := H8.out.1; rw [← HG8.out] at this; exact this)).cell H8.out.2.1 (by decide) (by decide) 14 _)
    have hm9 := HBB.out.2.1
    have hw9 := HBB.out.1
    obtain ⟨M9, hM9⟩ : ∃ x, mv m.cl m.me m.id (.slice A k c) = x := ⟨_, rfl⟩
    rw [hM9] at hm9 hw9
    have hN9 : N ≤ (W8.setCell ⟨g8, 14, none⟩ (.slice A k c)).heap.size := Nat.le_of_lt hrN.lt
    have hsg := sign_any M9 (bare m) A c vk ks _ hm9 (bare_fine H1.out.1.2.1) (by simp [bare]; have := HE.out; have := HK.out.2; omega) (HVB.out _ hbN8 hN9).2 HV.out.2.2.2.2.1 HV.out.2.2.2.2.2
    have H9 := Lib.hid (And.intro hw9 (And.intro hm9.size (And.intro hrN (And.intro hg6M (And.intro hbN8 hkp)))))
    have HSG := Lib.hid hsg
    clear hrN hg6M hbN8 hkp hm9 hw9 hM9 hsg hN9
    generalize W8.setCell ⟨g8, 14, none⟩ (.slice A k c) = W9 at *
    go_upto_region 7 with (first
      | (refine wpList_load_all rfl 69 (.tmp 8) rfl H9.out.1 rfl Try.sizeMsg H9.out.2.1 Try.underlying69 rfl ?_)
      | (go_at_call 48; (with_reducible refine HSG.out.mono ?_); rintro e w10 ⟨v10, x10, rfl, hs10, hb10⟩))
    have HB10 := Lib.hid (And.intro (H9.out.2.2.1.under hb10) (H9.out.2.2.2.2.1.trans (hb10.mono (Nat.le_of_lt H9.out.2.2.1.lt))))
    have HG10 := Lib.hid (And.intro (H9.out.2.2.2.1.under hb10) (H9.out.2.2.2.2.2.under hb10))
    have HVX := Lib.hid ((HVB.out w10 HB10.out.2 (Nat.le_of_lt HB10.out.1.lt)).1)
    clear hb10
    rcases hs10 with ⟨hcs, rfl, ho10⟩ | ⟨hcs, rfl, rfl⟩
    · have HEQ := Lib.hid (bEqual_any v10 vb (signB (bare m) ks) xs w10.heap.size w10 ho10.v8 HVX.out (in256_msg (signed_fine (bare_fine H1.out.1.2.1))) HV.out.2.1)
      by_cases he : signB (bare m) ks = xs
      · have hd : decide (signB (bare m) ks = xs) = true := decide_eq_true he
        have HSB : Hid (SignedBy m ks) := Lib.hid ⟨hcs, he.trans H1.out.1.2.2.symm⟩
        rw [hd] at HEQ
        clear hd hcs ho10
        go_wp2_with (first
          | (go_at_call 64; (with_reducible refine HEQ.out.mono ?_); rintro e w11 ⟨rfl, rfl⟩)
          | (refine wpList_load_all rfl 69 (.tmp 6) rfl HG10.out.1 rfl Try.sizeMsg H1.out.2.2.2.2.2.2.1.1 Try.underlying69 rfl ?_)
          | (refine wpList_store_whole rfl 69 (.tmp 4) (.tmp 44) rfl rfl rfl HB10.out.1 Try.sizeMsg H1.out.2.2.2.2.2.2.1.1 HZS.out.1 H1.out.2.2.2.2.2.2.1.2 ?_))
        have f1 : Whole (w10.setRow N M1) N 69 M1 := HB10.out.1.row _
        have hkf := HG10.out.2.row HB10.out.1 (by decide) (by decide) M1
        have hfm := (firm_keep HFI.out.1 HFI.out.2.1 HFI.out.2.2 hkf.rows hkf.bytes hkf.size HSZ0.out).1
        refine bodyPost_ret (v := .tuple #[.agg M1, .int .i64 0]) ?_ rfl ?_
        · exact ret_struct2 (p := 4) (s := 5) rfl rfl f1 Try.underlying69 rfl Try.sizeMsg H1.out.2.2.2.2.2.2.1.1
        · exact ⟨M1, 0, rfl, .inl ⟨m, A, c, H1.out.1, HSB.out, rfl, hfm⟩, below_row HB10.out.2 (Nat.le_refl _) _⟩
      · have hd : decide (signB (bare m) ks = xs) = false := decide_eq_false he
        have HNS : Hid (¬ SignedBy m ks) := Lib.hid (fun h => he (h.2.trans H1.out.1.2.2))
        rw [hd] at HEQ
        clear hd hcs ho10 he
        go_wp2_with (first
          | (go_at_call 64; (with_reducible refine HEQ.out.mono ?_); rintro e w11 ⟨rfl, rfl⟩)
          | (refine wpList_build0 rfl 69 rfl (v := .agg Z) (HBZ.out _) ?_)
          | (refine wpList_store_whole rfl 69 (.tmp 4) (.tmp 43) rfl rfl rfl HB10.out.1 Try.sizeMsg HZS.out.1 HZS.out.1 HZS.out.2 ?_))
        have f1 : Whole (w10.setRow N Z) N 69 Z := HB10.out.1.row _
        refine bodyPost_ret (v := .tuple #[.agg Z, .int .i64 4]) ?_ rfl ?_
        · exact ret_struct2 (p := 4) (s := 5) rfl rfl f1 Try.underlying69 rfl Try.sizeMsg HZS.out.1
        · exact ⟨Z, 4, rfl, .inr (.inr ⟨⟨m, H1.out.1, HNS.out⟩, rfl, HZ.out.symm⟩), below_row HB10.out.2 (Nat.le_refl _) _⟩
    · have HNS : Hid (¬ SignedBy m ks) := Lib.hid (fun h => hcs h.1)
      clear hcs
      go_wp2_with (first
        | (refine wpList_build0 rfl 69 rfl (v := .agg Z) (HBZ.out _) ?_)
        | (refine wpList_store_whole rfl 69 (.tmp 4) (.tmp 43) rfl rfl rfl HB10.out.1 Try.sizeMsg HZS.out.1 HZS.out.1 HZS.out.2 ?_))
      have f1 : Whole (w10.setRow N Z) N 69 Z := HB10.out.1.row _
      refine bodyPost_ret (v := .tuple #[.agg Z, .int .i64 4]) ?_ rfl ?_
      · exact ret_struct2 (p := 4) (s := 5) rfl rfl f1 Try.underlying69 rfl Try.sizeMsg HZS.out.1
      · exact ⟨Z, 4, rfl, .inr (.inr ⟨⟨m, H1.out.1, HNS.out⟩, rfl, HZ.out.symm⟩), below_row HB10.out.2 (Nat.le_refl _) _⟩
  · have HNO := Lib.hid hno
    have H6 := Lib.hid (And.intro hr6 hb6)
    clear hno hr6 hb6 hbw hg6 hb1 hs1 hNw hz1
    generalize (w1.alloc (.cells Z 69)).setRow w1.heap.size M1 = W6 at *
    go_wp2_with (first
      | (refine wpList_build0 rfl 69 rfl (v := .agg Z) (HBZ.out _) ?_)
      | (refine wpList_store_whole rfl 69 (.tmp 4) (.tmp 17) rfl rfl rfl H6.out.1 Try.sizeMsg HZS.out.1 HZS.out.1 HZS.out.2 ?_))
    have f1 : Whole (W6.setRow N Z) N 69 Z := H6.out.1.row _
    refine bodyPost_ret (v := .tuple #[.agg Z, .int .i64 2]) ?_ rfl ?_
    · exact ret_struct2 (p := 4) (s := 5) rfl rfl f1 Try.underlying69 rfl Try.sizeMsg HZS.out.1
    · exact ⟨Z, 2, rfl, .inr (.inl ⟨HNO.out, rfl, HZ.out.symm⟩), below_row H6.out.2 (Nat.le_refl _) _⟩
end Go.Proofs.Yteloaidnfcmadaa
