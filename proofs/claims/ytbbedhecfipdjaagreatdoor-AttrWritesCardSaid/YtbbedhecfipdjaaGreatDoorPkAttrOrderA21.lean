import Derived.Test.YtbbedhecfipdjaaGreatDoorPkAttrOrderB
import Derived.Test.YtbbedhecfipdjaaGreatDoorPkAttrOrderA08
import Derived.Deep.CutBlock
namespace Go.Proofs.YtbbedhecfipdjaaGreatDoor
open Go.RowKit
set_option linter.unusedVariables false
set_option linter.unusedSimpArgs false
set_option maxHeartbeats 12800000 in
set_option maxRecDepth 100000 in
theorem rwrite1_any (M : Array Value) (m : MediaS) (vC vE vR vS vY : Value) (w : World) (h : MediaV w w.heap.size M m vC vE vR vS vY) (hz : SizM m) (hg : goodM m = true) :
 Calls Tryz.prog 37 #[.agg M] w fun e w' => ∃ s v, e = .returned (.agg #[.string s, .string connB, v]) ∧ s = bs (lineM m) ∧ AtR w' w.heap.size v (attrsM m) ∧ Below w.heap.size w w' := by
 obtain ⟨AC, kC, AE, kE, AR, kR, AS, kS, AY, kY, rfl, rfl, rfl, rfl, rfl⟩ := h.forms
 obtain ⟨hform, hvC, hvE, hvR, hvS, hvY⟩ := h
 subst hform
 obtain ⟨nC, hnC⟩ : ∃ n, m.codecs.length = n := ⟨_, rfl⟩
 obtain ⟨nE, hnE⟩ : ∃ n, m.exts.length = n := ⟨_, rfl⟩
 obtain ⟨nR, hnR⟩ : ∃ n, m.rids.length = n := ⟨_, rfl⟩
 obtain ⟨nS, hnS⟩ : ∃ n, m.sources.length = n := ⟨_, rfl⟩
 obtain ⟨nY, hnY⟩ : ∃ n, m.crypto.length = n := ⟨_, rfl⟩
 obtain ⟨hc1, hc2, hc3, hc4, hc5⟩ := hz.counts
 rw [hnC] at hvC hc1
 rw [hnE] at hvE hc2
 rw [hnR] at hvR hc3
 rw [hnS] at hvS hc4
 rw [hnY] at hvY hc5
 rw [hnC, hnE, hnR, hnS, hnY]
 have hb0 : Below w.heap.size w (w.alloc (.cells #[.int .i64 m.kind, .int .i64 m.port, .string m.mid, .int .i64 m.dir, .slice AC nC kC, .slice AE nE kE, .slice AR nR kR, .bool m.sending, .slice AS nS kS, .slice AY nY kY, .int .i64 m.sctp] 28)) := (Below.refl _ w).alloc (Nat.le_refl _) _
 have hw := Whole.new w 28 #[.int .i64 m.kind, .int .i64 m.port, .string m.mid, .int .i64 m.dir, .slice AC nC kC, .slice AE nE kE, .slice AR nR kR, .bool m.sending, .slice AS nS kS, .slice AY nY kY, .int .i64 m.sctp]
 obtain ⟨hp, hmd, ⟨hd0, hd3⟩, hk, hs⟩ := goodM_parts hg
 have HGC : Hid (∀ c ∈ m.codecs, goodC c = true) := Lib.hid hs.codecs
 have HGE : Hid (∀ x ∈ m.exts, goodE x = true) := Lib.hid hs.exts
 have HGR : Hid (∀ r ∈ m.rids, r.size ≤ 8) := Lib.hid fun r hr => by rw [← tx_length]; exact (wordP_len (hs.rids r hr)).2
 have HGY : Hid (∀ c ∈ m.crypto, goodY c = true) := Lib.hid hs.crypto
 have HTS : Hid (∀ n ∈ m.sources, n < 4294967296) := Lib.hid hz.typed.1
 have HSC : Hid (0 ≤ m.sctp ∧ m.sctp ≤ 65535) := Lib.hid ⟨hs.low, hs.port⟩
 have HP : Hid (0 ≤ m.port ∧ m.port ≤ 9) := Lib.hid (by omega)
 have HCN := Lib.hid hs.counts
 have HF : Hid (attrsM m = ⟨bs nMid, m.mid⟩ :: ⟨bs (dirW m.dir), bs []⟩ :: (m.codecs.flatMap attrsC ++ (m.exts.map attrE ++ (attrsR m.sending m.rids ++ (m.sources.map attrO ++ (m.crypto.map attrY ++ (if m.kind = 3 then [⟨bs nSctp, bs (decI m.sctp)⟩] else []))))))) := Lib.hid rfl
 have HFL : Hid (lineM m = (kindW m.kind ++ 32 :: (decI m.port ++ 32 :: (if m.kind = 3 then wChannel else wStreams))) ++ typesT m.codecs) := Lib.hid (by
  unfold lineM
  by_cases h3 : m.kind = 3
  · rw [if_pos h3, if_pos h3, (goodM_channel hg h3).1]
    simp [typesT]
  · rw [if_neg h3, if_neg h3]
    simp)
 obtain ⟨T, hT⟩ : ∃ T, attrsM m = T := ⟨_, rfl⟩
 rw [hT] at HF ⊢
 clear hT
 obtain ⟨TL, hTL⟩ : ∃ T, lineM m = T := ⟨_, rfl⟩
 rw [hTL] at HFL ⊢
 clear hTL
 have HV := Lib.hid (And.intro hvC (And.intro hvE (And.intro hvR (And.intro hvS hvY))))
 have HNN := Lib.hid (And.intro hnC (And.intro hnE (And.intro hnR (And.intro hnS hnY))))
 have HKD := Lib.hid hk
 obtain ⟨dj, hdj⟩ : ∃ j : Nat, m.dir = j := ⟨m.dir.toNat, by omega⟩
 replace hw := hw.alloc (.cells #[.string ⟨#[]⟩, .string ⟨#[]⟩, .slice none 0 0] 32)
 rw [hdj] at HF hw ⊢
 have hj1 : (dj : Int) ≤ 3 := by omega
 clear hd0 hd3 hdj hp hmd hs hg hvC hvE hvR hvS hvY hz hb0 hnC hnE hnR hnS hnY hk
 generalize m.codecs = LC at *
 generalize m.exts = LE at *
 generalize m.rids = LR at *
 generalize m.sources = LS at *
 generalize m.crypto = LY at *
 generalize m.kind = kd at *
 generalize m.port = p at *
 generalize m.mid = md at *
 generalize m.sctp = sc at *
 generalize m.sending = sd at *
 clear m
 have hb0 : Below w.heap.size w ((w.alloc (.cells #[.int .i64 kd, .int .i64 p, .string md, .int .i64 (dj : Int), .slice AC nC kC, .slice AE nE kE, .slice AR nR kR, .bool sd, .slice AS nS kS, .slice AY nY kY, .int .i64 sc] 28)).alloc (.cells #[.string ⟨#[]⟩, .string ⟨#[]⟩, .slice none 0 0] 32)) := two_new _ _ _ _
 have hr := Whole.new2 w (.cells #[.int .i64 kd, .int .i64 p, .string md, .int .i64 (dj : Int), .slice AC nC kC, .slice AE nE kE, .slice AR nR kR, .bool sd, .slice AS nS kS, .slice AY nY kY, .int .i64 sc] 28) 32 #[.string ⟨#[]⟩, .string ⟨#[]⟩, .slice none 0 0]
 obtain ⟨N, hN⟩ : ∃ N, w.heap.size = N := ⟨_, rfl⟩
 have HNW : Hid (w.heap.size = N) := Lib.hid hN
 have H0 := Lib.hid (And.intro hb0 (And.intro hw hr))
 rw [hN] at H0
 clear hN hb0 hw hr
 go_enter Tryz.func37, Tryz.ntmps37
 go_upto_region 1 with fail
 simp only [HNW.out]
 generalize (w.alloc (.cells #[.int .i64 kd, .int .i64 p, .string md, .int .i64 (dj : Int), .slice AC nC kC, .slice AE nE kE, .slice AR nR kR, .bool sd, .slice AS nS kS, .slice AY nY kY, .int .i64 sc] 28)).alloc (.cells #[.string ⟨#[]⟩, .string ⟨#[]⟩, .slice none 0 0] 32) = W0 at *
 obtain ⟨GM, hGM⟩ : ∃ A : Array Value, #[.int .i64 kd, .int .i64 p, .string md, .int .i64 (dj : Int), .slice AC nC kC, .slice AE nE kE, .slice AR nR kR, .bool sd, .slice AS nS kS, .slice AY nY kY, .int .i64 sc] = A := ⟨_, rfl⟩
 rw [hGM] at H0
 have HGM : Hid (GM = #[.int .i64 kd, .int .i64 p, .string md, .int .i64 (dj : Int), .slice AC nC kC, .slice AE nE kE, .slice AR nR kR, .bool sd, .slice AS nS kS, .slice AY nY kY, .int .i64 sc]) := Lib.hid hGM.symm
 clear hGM
 have HCE : Hid (∀ (W : World) i, Whole W N 28 GM → W.cell? ⟨N, i, none⟩ = (#[.int .i64 kd, .int .i64 p, .string md, .int .i64 (dj : Int), .slice AC nC kC, .slice AE nE kE, .slice AR nR kR, .bool sd, .slice AS nS kS, .slice AY nY kY, .int .i64 sc] : Array Value)[i]?) := Lib.hid fun W i hW => by rw [hW.cell i, HGM.out]
 have HNEW : Hid (Whole (W0.alloc (.cells #[.string ⟨#[]⟩, .string ⟨#[]⟩, .slice none 0 0] 32)) W0.heap.size 32 #[.string ⟨#[]⟩, .string ⟨#[]⟩, .slice none 0 0]) := Lib.hid (Whole.new _ _ _)
 have HW1 : Hid (WB w GM W0.heap.size ⟨#[]⟩ ((W0.alloc (.cells #[.string ⟨#[]⟩, .string ⟨#[]⟩, .slice none 0 0] 32)).setRow W0.heap.size #[.string ⟨#[]⟩, .string ⟨#[73, 78, 32, 73, 80, 52, 32, 48, 46, 48, 46, 48, 46, 48]⟩, .slice none 0 0])) := Lib.hid (by
  have h1 := H0.out.1.size
  have h2 := H0.out.2.2.lt
  have hbb := below_row ((Below.refl _ W0).alloc (Nat.le_refl _) (.cells #[.string ⟨#[]⟩, .string ⟨#[]⟩, .slice none 0 0] 32)) (Nat.le_refl _) #[.string ⟨#[]⟩, .string ⟨#[73, 78, 32, 73, 80, 52, 32, 48, 46, 48, 46, 48, 46, 48]⟩, .slice none 0 0]
  refine ⟨?_, ?_, ?_, HNEW.out.row _, h1, ?_⟩
  · rw [HNW.out]
    exact H0.out.1.trans (hbb.mono (by rw [HNW.out] at h1; exact h1))
  · rw [HNW.out]
    exact H0.out.2.1.under hbb
  · rw [HNW.out]
    exact H0.out.2.2.under hbb
  · rw [HNW.out]
    omega)
 go_upto_region 2 with ((with_reducible refine wpList_storeS #[.string ⟨#[]⟩, .string ⟨#[73, 78, 32, 73, 80, 52, 32, 48, 46, 48, 46, 48, 46, 48]⟩, .slice none 0 0] ?_ 32 (.tmp 3) (.tmp 15) ?_ ?_ ?_ HNEW.out Tryz.sizeRsPart ?_ ?_ ?_ ?_); (with_reducible rfl); (with_reducible rfl); rfl; rfl; rfl; rfl; rfl)
 generalize ((W0.alloc (.cells #[.string ⟨#[]⟩, .string ⟨#[]⟩, .slice none 0 0] 32)).setRow W0.heap.size #[.string ⟨#[]⟩, .string ⟨#[73, 78, 32, 73, 80, 52, 32, 48, 46, 48, 46, 48, 46, 48]⟩, .slice none 0 0]) = w1 at *
 generalize W0.heap.size = pb at *
 clear HNEW H0
 have k0 : w1.cell? ⟨N, 0, none⟩ = some (.int .i64 kd) := HCE.out w1 0 (by rw [← HNW.out]; exact HW1.out.box)
 have k1 : w1.cell? ⟨N, 1, none⟩ = some (.int .i64 p) := HCE.out w1 1 (by rw [← HNW.out]; exact HW1.out.box)
 obtain ⟨dp, hdp⟩ : ∃ a, bs (decI p) = a := ⟨_, rfl⟩
 have hpl := decI_len (n := p) (by have := HP.out; omega)
 have HDG : Hid (Calls Tryz.prog 73 #[.int .i64 p] w1 fun e w' => e = .returned (.string dp) ∧ Below w1.heap.size w1 w') := Lib.hid (by rw [← hdp]; exact rdigits_any p w1 HP.out.1 (by have := HP.out; omega))
 rw [hdp] at hpl
 have HDP : Hid (tx dp = decI p) := Lib.hid (by rw [← hdp, tx_bs])
 clear hdp
 have q1 : ¬ 9223372036854775807 < 6 + dp.size := by omega
 have q2 : ¬ 9223372036854775807 < 6 + dp.size + 10 := by omega
 have q3 : ¬ 9223372036854775807 < 12 + dp.size := by omega
 have q4 : ¬ 9223372036854775807 < 12 + dp.size + 28 := by omega
 go_upto_block 0 with fail
 go_cut [] (fun wc => ∃ ln : ByteArray, WB w GM pb ln wc ∧ tx ln = kindW kd ++ 32 :: (decI p ++ 32 :: (if kd = 3 then wChannel else wStreams)) ∧ ln.size ≤ 100)
 case first =>
  rcases HKD.out with h1 | h2 | h3
  · subst h1
    have HL : Hid (∀ a : ByteArray, a = (⟨#[97, 117, 100, 105, 111, 32]⟩ : ByteArray) ++ dp ++ (⟨#[32, 82, 84, 80, 47, 83, 65, 86, 80, 70]⟩ : ByteArray) → tx a = kindW 1 ++ 32 :: (decI p ++ 32 :: (if (1 : Int) = 3 then wChannel else wStreams))) := Lib.hid (fun a e => by rw [e, tx_append, tx_append, HDP.out]; simp [tx, kindW, wAudio, wVideo, wApplication, wStreams, wChannel])
    go_wp2_with (go_at_call 73; (with_reducible refine HDG.out.mono ?_); rintro e w2 ⟨rfl, hb9⟩; have HBw2 := Lib.hid (HW1.out.under hb9); clear hb9; have e0 : w2.cell? ⟨pb, 0, none⟩ = some (.string ⟨#[]⟩) := HBw2.out.prt.cell 0; have q0 := HBw2.out.prt.frz; dsimp only)
    go_meet
    exact ⟨_, HBw2.out.line _, HL.out _ rfl, by rw [← tx_length, tx_append, tx_append, List.length_append, List.length_append, tx_length, tx_length, tx_length]; show 6 + dp.size + 10 ≤ 100; omega⟩
  · subst h2
    have HL : Hid (∀ a : ByteArray, a = (⟨#[118, 105, 100, 101, 111, 32]⟩ : ByteArray) ++ dp ++ (⟨#[32, 82, 84, 80, 47, 83, 65, 86, 80, 70]⟩ : ByteArray) → tx a = kindW 2 ++ 32 :: (decI p ++ 32 :: (if (2 : Int) = 3 then wChannel else wStreams))) := Lib.hid (fun a e => by rw [e, tx_append, tx_append, HDP.out]; simp [tx, kindW, wAudio, wVideo, wApplication, wStreams, wChannel])
    go_wp2_with (go_at_call 73; (with_reducible refine HDG.out.mono ?_); rintro e w2 ⟨rfl, hb9⟩; have HBw2 := Lib.hid (HW1.out.under hb9); clear hb9; have e0 : w2.cell? ⟨pb, 0, none⟩ = some (.string ⟨#[]⟩) := HBw2.out.prt.cell 0; have q0 := HBw2.out.prt.frz; dsimp only)
    go_meet
    exact ⟨_, HBw2.out.line _, HL.out _ rfl, by rw [← tx_length, tx_append, tx_append, List.length_append, List.length_append, tx_length, tx_length, tx_length]; show 6 + dp.size + 10 ≤ 100; omega⟩
  · subst h3
    have HL : Hid (∀ a : ByteArray, a = (⟨#[97, 112, 112, 108, 105, 99, 97, 116, 105, 111, 110, 32]⟩ : ByteArray) ++ dp ++ (⟨#[32, 85, 68, 80, 47, 83, 67, 84, 80, 32, 119, 101, 98, 114, 116, 99, 45, 100, 97, 116, 97, 99, 104, 97, 110, 110, 101, 108]⟩ : ByteArray) → tx a = kindW 3 ++ 32 :: (decI p ++ 32 :: (if (3 : Int) = 3 then wChannel else wStreams))) := Lib.hid (fun a e => by rw [e, tx_append, tx_append, HDP.out]; simp [tx, kindW, wAudio, wVideo, wApplication, wStreams, wChannel])
    go_wp2_with (go_at_call 73; (with_reducible refine HDG.out.mono ?_); rintro e w2 ⟨rfl, hb9⟩; have HBw2 := Lib.hid (HW1.out.under hb9); clear hb9; have e0 : w2.cell? ⟨pb, 0, none⟩ = some (.string ⟨#[]⟩) := HBw2.out.prt.cell 0; have q0 := HBw2.out.prt.frz; dsimp only)
    go_meet
    exact ⟨_, HBw2.out.line _, HL.out _ rfl, by rw [← tx_length, tx_append, tx_append, List.length_append, List.length_append, tx_length, tx_length, tx_length]; show 12 + dp.size + 28 ≤ 100; omega⟩
 case rest =>
  obtain ⟨l0, hwl, hln, hlz⟩ := hcut
  have HW2 := Lib.hid hwl
  have HLN := Lib.hid hln
  have HLZ := Lib.hid hlz
  clear k0 k1 q1 q2 q3 q4 hpl hwl hln hlz HDG HDP HW1
  generalize wc = W8 at *
  obtain ⟨dw, hdw⟩ : ∃ a, bs (dirW (dj : Int)) = a := ⟨_, rfl⟩
  have HDI : Hid (∀ W, Calls Tryz.prog 74 #[.int .i64 (dj : Int)] W fun e w' => e = .returned (.string dw) ∧ W = w') := Lib.hid fun W => by rw [← hdw]; exact rdirection_any dj W (by omega) hj1
  rw [hdw] at HF
  clear hdw hj1
  have HG2 : Hid (∀ W, WB w GM pb l0 W → W.cell? ⟨N, 2, none⟩ = some (.string md)) := Lib.hid fun W hW => HCE.out W 2 (by rw [← HNW.out]; exact hW.box)
  have HG3 : Hid (∀ W, WB w GM pb l0 W → W.cell? ⟨N, 3, none⟩ = some (.int .i64 (dj : Int))) := Lib.hid fun W hW => HCE.out W 3 (by rw [← HNW.out]; exact hW.box)
  have HIN : Hid (∀ W, WB w GM pb l0 W → AtR (W.alloc (.cells #[.string ⟨#[109, 105, 100]⟩, .string md, .string dw, .string ⟨#[]⟩] 55)) w.heap.size (.slice (some ⟨W.heap.size, 0, none⟩) 2 2) [⟨bs nMid, md⟩, ⟨dw, bs []⟩] ∧ WB w GM pb l0 (W.alloc (.cells #[.string ⟨#[109, 105, 100]⟩, .string md, .string dw, .string ⟨#[]⟩] 55))) := Lib.hid fun W hW => ⟨AtR.two hW.low.size _ _ _ _, hW.alloc _⟩
  have HR0 : Hid (WB w GM pb l0 W8.drew) := Lib.hid HW2.out.drew
  go_upto_region 8 with fail
  refine wp_region_held_drew (S := fun W => WB w GM pb l0 W) (by kernel_rfl) HR0.out (fun hHeld => ?_)
  refine wpAnyH_take (i := 0) (v := _) rfl (by as_aux_lemma => kernel_rfl) (by as_aux_lemma => kernel_rfl) (by as_aux_lemma => kernel_rfl) (fun _ _ _ h => h) (Or.inl ⟨by rfl, fun w h => by have e0 := HG2.out w h; have e1 := HG3.out w h; clear h; go_simp; (try with_reducible rfl)⟩) (by assumption) ?_
  simp only [Act.put, La, Lb, Lc, Ld, Le, Lf]
  refine wpAnyH_take (i := 1) (v := _) rfl (by as_aux_lemma => kernel_rfl) (by as_aux_lemma => kernel_rfl) (by as_aux_lemma => kernel_rfl) (fun _ _ _ h => h) (Or.inl ⟨by rfl, fun w h => by have e0 := HG2.out w h; have e1 := HG3.out w h; clear h; go_simp; (try with_reducible rfl)⟩) (by assumption) ?_
  simp only [Act.put, La, Lb, Lc, Ld, Le, Lf]
  refine wpAnyH_take (i := 2) (v := _) rfl (by as_aux_lemma => kernel_rfl) (by as_aux_lemma => kernel_rfl) (by as_aux_lemma => kernel_rfl) (fun _ _ _ h => h) (Or.inl ⟨by rfl, fun w h => by have e0 := HG2.out w h; have e1 := HG3.out w h; clear h; go_simp; (try with_reducible rfl)⟩) (by assumption) ?_
  simp only [Act.put, La, Lb, Lc, Ld, Le, Lf]
  refine wpAnyH_take (i := 3) (v := _) rfl (by as_aux_lemma => kernel_rfl) (by as_aux_lemma => kernel_rfl) (by as_aux_lemma => kernel_rfl) (fun _ _ _ h => h) (Or.inl ⟨by rfl, fun w h => by have e0 := HG2.out w h; have e1 := HG3.out w h; clear h; go_simp; (try with_reducible rfl)⟩) (by assumption) ?_
  simp only [Act.put, La, Lb, Lc, Ld, Le, Lf]
  refine wpAnyH_take (i := 4) (v := _) rfl (by as_aux_lemma => kernel_rfl) (by as_aux_lemma => kernel_rfl) (by as_aux_lemma => kernel_rfl) (fun _ _ _ h => h) (Or.inl ⟨by rfl, fun w h => by have e0 := HG2.out w h; have e1 := HG3.out w h; clear h; go_simp; (try with_reducible rfl)⟩) (by assumption) ?_
  simp only [Act.put, La, Lb, Lc, Ld, Le, Lf]
  refine wpAnyH_ready (rs := [5]) (by as_aux_lemma => kernel_rfl) (by simp) ?_
  refine AllReadyH.cons (i := 5) rfl (fun K hK => ?_) AllReadyH.nil
  go_simp
  refine (HDI.out W8.drew).mono ?_
  rintro e w5 ⟨rfl, rfl⟩
  refine hK.out _ _ hHeld (fun hHeld4 => ?_)
  clear hK K hHeld
  have hHeld := hHeld4
  clear hHeld4
  refine wpAnyH_take (i := 6) (v := _) rfl (by as_aux_lemma => kernel_rfl) (by as_aux_lemma => kernel_rfl) (by as_aux_lemma => kernel_rfl) (fun _ _ _ h => h) (Or.inl ⟨by rfl, fun w h => by have e0 := HG2.out w h; have e1 := HG3.out w h; clear h; go_simp; (try with_reducible rfl)⟩) (by assumption) ?_
  simp only [Act.put, La, Lb, Lc, Ld, Le, Lf]
  refine wpAnyH_ready (rs := [7]) (by as_aux_lemma => kernel_rfl) (by simp) ?_
  refine AllReadyH.cons (i := 7) rfl (fun K hK => ?_) AllReadyH.nil
  go_simp
  have HA1 : Hid (AtR (W8.alloc (.cells #[.string ⟨#[109, 105, 100]⟩, .string md, .string dw, .string ⟨#[]⟩] 55)).drew w.heap.size (.slice (some ⟨W8.heap.size, 0, none⟩) 2 2) [⟨bs nMid, md⟩, ⟨dw, bs []⟩] ∧ WB w GM pb l0 (W8.alloc (.cells #[.string ⟨#[109, 105, 100]⟩, .string md, .string dw, .string ⟨#[]⟩] 55)).drew) := Lib.hid ⟨(HIN.out W8 HW2.out).1, (HIN.out W8 HW2.out).2.drew⟩
  refine hK.out _ _ HA1.out.2 (fun hHeld4 => ?_)
  clear hK K hHeld
  try simp only [Act.put]
  generalize (W8.alloc (.cells #[.string ⟨#[109, 105, 100]⟩, .string md, .string dw, .string ⟨#[]⟩] 55)).drew = w1 at *
  generalize W8.heap.size = g1 at *
  have hHeld := hHeld4
  clear hHeld4
  refine wpAnyH_take (i := 8) (v := _) rfl (by as_aux_lemma => kernel_rfl) (by as_aux_lemma => kernel_rfl) (by as_aux_lemma => kernel_rfl) (fun _ _ _ h => h) (Or.inl ⟨by rfl, fun w h => by have e0 := HG2.out w h; have e1 := HG3.out w h; clear h; go_simp; (try with_reducible rfl)⟩) (by assumption) ?_
  simp only [Act.put, La, Lb, Lc, Ld, Le, Lf]
  refine wpAnyH_done (by as_aux_lemma => kernel_rfl) ?_ _
  clear hHeld HG2 HG3 HIN HDI HR0 HW2
  have k4 : w1.cell? ⟨N, 4, none⟩ = some (.slice AC nC kC) := HCE.out w1 4 (by rw [← HNW.out]; exact HA1.out.2.box)
  obtain ⟨P0, hP0⟩ : ∃ P, [(⟨bs nMid, md⟩ : AttrS), ⟨dw, bs []⟩] = P := ⟨_, rfl⟩
  obtain ⟨TT, hTT⟩ : ∃ P : List AttrS, (if kd = 3 then [(⟨bs nSctp, bs (decI sc)⟩ : AttrS)] else []) = P := ⟨_, rfl⟩
  have HF : Hid (T = P0 ++ LC.flatMap attrsC ++ LE.map attrE ++ attrsR sd LR ++ LS.map attrO ++ LY.map attrY ++ TT) := Lib.hid (by rw [HF.out, ← hP0, ← hTT]; simp)
  have HTT := Lib.hid hTT
  have HL0 : Hid (P0.length = 2) := Lib.hid (by rw [← hP0]; rfl)
  rw [hP0] at HA1
  clear hP0 hTT
  go_wp2
  go_loopw [51, 4, 5, 6, 7, 8, 9] (fun s51 s4 _ _ _ _ _ wr => ∃ (k : Nat) (ln : ByteArray), k ≤ nC ∧ s51 = .int .i64 k ∧ (AtR wr w.heap.size s4 (P0 ++ (LC.take k).flatMap attrsC) ∧ WB w GM pb ln wr ∧ tx ln = tx l0 ++ typesT (LC.take k) ∧ ln.size ≤ 100 + 20 * k)) (fun s51 _ _ _ _ _ _ _ => nC - (intOf s51).toNat)
  case atStart => exact ⟨0, l0, by omega, rfl, by simpa using HA1.out.1, HA1.out.2, by simp [typesT], by have := HLZ.out; omega⟩
  case round => as_aux_lemma =>
   clear k4
   obtain ⟨k, ln, hk', rfl, hst⟩ := hrel
   have HS := Lib.hid hst
   clear hst
   obtain ⟨Aw, nw, cw, hvw⟩ := HS.out.1.form
   subst hvw
   have hlz : ln.size ≤ 100 + 20 * k := HS.out.2.2.2
   by_cases hlt : k < nC
   · as_aux_lemma =>
     have hlt' : k < LC.length := by rw [HNN.out.1]; exact hlt
     have hk16 : k < 16 := by have := HCN.out.1; omega
     obtain ⟨ad, c', vf, e1, had, d0, d1, d2, d3, d4, d5, cf⟩ := HV.out.1.at_ hlt'
     injection e1 with e1 e1n e1c
     clear e1n e1c
     subst e1
     obtain ⟨Af, kf, hvf, -⟩ := Rows.form cf
     obtain ⟨lf, hlf⟩ : ∃ lf, (LC.getD k default).feedback.length = lf := ⟨_, rfl⟩
     rw [hlf] at hvf
     subst hvf
     have hgx := HGC.out _ (getD_mem hlt')
     have HTK : Hid ((LC.take (k + 1)).flatMap attrsC = (LC.take k).flatMap attrsC ++ attrsC (LC.getD k default)) := Lib.hid (by rw [List.take_add_one, getD_of hlt']; simp)
     have HTS2 : Hid (typesT (LC.take (k + 1)) = typesT (LC.take k) ++ 32 :: decI (LC.getD k default).type) := Lib.hid (typesT_snoc LC k hlt')
     have HFB := Lib.hid cf
     obtain ⟨x, hx⟩ : ∃ x, LC.getD k default = x := ⟨_, rfl⟩
     rw [hx] at d0 d1 d2 d3 d4 hgx HTK HFB HTS2 hlf
     obtain ⟨ty, nm, ck, ch, fm, fb⟩ := x
     have d0 : w.cell? (ad.add (k * 6)) = some (.int .i64 ty) := d0
     have d1 : w.cell? ⟨(ad.add (k * 6)).block, (ad.add (k * 6)).off + 1, none⟩ = some (.string nm) := d1
     have d2 : w.cell? ⟨(ad.add (k * 6)).block, (ad.add (k * 6)).off + 2, none⟩ = some (.int .i64 ck) := d2
     have d3 : w.cell? ⟨(ad.add (k * 6)).block, (ad.add (k * 6)).off + 3, none⟩ = some (.int .i64 ch) := d3
     have d4 : w.cell? ⟨(ad.add (k * 6)).block, (ad.add (k * 6)).off + 4, none⟩ = some (.string fm) := d4
     have hlow := HS.out.2.1.low
     have d0 := (hlow.cell (p := ad.add (k * 6)) (by rw [add_block]; exact had)).trans d0
     have d1 := (hlow.cell (p := ⟨(ad.add (k * 6)).block, (ad.add (k * 6)).off + 1, none⟩) (by show (ad.add (k * 6)).block < _; rw [add_block]; exact had)).trans d1
     have d2 := (hlow.cell (p := ⟨(ad.add (k * 6)).block, (ad.add (k * 6)).off + 2, none⟩) (by show (ad.add (k * 6)).block < _; rw [add_block]; exact had)).trans d2
     have d3 := (hlow.cell (p := ⟨(ad.add (k * 6)).block, (ad.add (k * 6)).off + 3, none⟩) (by show (ad.add (k * 6)).block < _; rw [add_block]; exact had)).trans d3
     have d4 := (hlow.cell (p := ⟨(ad.add (k * 6)).block, (ad.add (k * 6)).off + 4, none⟩) (by show (ad.add (k * 6)).block < _; rw [add_block]; exact had)).trans d4
     have d5 := (hlow.cell (p := ⟨(ad.add (k * 6)).block, (ad.add (k * 6)).off + 5, none⟩) (by show (ad.add (k * 6)).block < _; rw [add_block]; exact had)).trans d5
     have k4 : wr.cell? ⟨N, 4, none⟩ = some (.slice (some ad) nC kC) := HCE.out wr 4 (by rw [← HNW.out]; exact HS.out.2.1.box)
     obtain ⟨⟨ht0, ht1⟩, hnm, ⟨hk0, hk1⟩, hch, hf, hfl, hfe⟩ := goodC_parts hgx
     have ht0 : 0 ≤ ty := ht0
     have ht1 : ty ≤ 127 := ht1
     have hk0 : 1 ≤ ck := hk0
     have hk1 : ck ≤ 1000000 := hk1
     have hch : ch = 1 ∨ ch = 2 := hch
     have hfl : fb.length ≤ 8 := hfl
     have hnm : wordP 1 32 (tx nm) = true := hnm
     have hlf : fb.length = lf := hlf
     have hf : (tx fm).isEmpty = true ∨ plainP (tx fm) = true := hf
     have hfe : ∀ f ∈ fb, plainP (tx f) = true := hfe
     have hnl := (wordP_len hnm).2
     rw [tx_length] at hnl
     have hfml : fm.size ≤ 100 := by
      rcases hf with hf | hf
      · rw [← tx_length]
        have : tx fm = [] := List.isEmpty_iff.1 hf
        rw [this]
        simp
      · rw [← tx_length]
        exact plain_len hf
     have HFE : Hid (∀ f ∈ fb, f.size ≤ 100) := Lib.hid fun f hf => by
      rw [← tx_length]
      exact plain_len (hfe f hf)
     have HFL8 : Hid (fb.length = lf ∧ lf ≤ 8) := Lib.hid ⟨hlf, by omega⟩
     have HFB : Hid (TextsV w w.heap.size (.slice Af lf kf) fb) := HFB
     have HAC : Hid (attrsC ⟨ty, nm, ck, ch, fm, fb⟩ = ⟨bs nCodec, bs (decI ty ++ 32 :: (tx nm ++ 47 :: (decI ck ++ (if ch = 2 then [47, 50] else []))))⟩ :: ((if (tx fm).isEmpty then [] else [⟨bs nFormat, bs (headT ty (tx fm))⟩]) ++ fb.map fun f => ⟨bs nFeedback, bs (headT ty (tx f))⟩)) := Lib.hid rfl
     obtain ⟨q, hq⟩ : ∃ q, (tx fm).isEmpty = q := ⟨_, rfl⟩
     have hmt : fm.toList.isEmpty = q := by rw [toList_tx]; exact hq
     rw [hq] at HAC
     obtain ⟨L1, hL1⟩ : ∃ L, P0 ++ (LC.take k).flatMap attrsC = L := ⟨_, rfl⟩
     have HLN1 : Hid (L1.length ≤ 162) := Lib.hid (by
      rw [← hL1]
      have := flat_len (LC.take k) (fun c hc => HGC.out c (List.mem_of_mem_take hc))
      rw [List.length_take] at this
      rw [List.length_append, HL0.out]
      have := HCN.out.1
      omega)
     have HTK : Hid (P0 ++ (LC.take (k + 1)).flatMap attrsC = L1 ++ attrsC ⟨ty, nm, ck, ch, fm, fb⟩) := Lib.hid (by rw [HTK.out, ← hL1, List.append_assoc])
     rw [hL1] at HS
     have hki0 : (0 : Int) ≤ (k : Int) := by omega
     have hki1 : (k : Int) < (nC : Int) := by omega
     have HNEW : Hid (Whole (wr.alloc (.cells #[.int .i64 0, .string ⟨#[]⟩, .int .i64 0, .int .i64 0, .string ⟨#[]⟩, .slice none 0 0] 58)) wr.heap.size 58 #[.int .i64 0, .string ⟨#[]⟩, .int .i64 0, .int .i64 0, .string ⟨#[]⟩, .slice none 0 0]) := Lib.hid (Whole.new _ _ _)
     have HW : Hid (AtR ((wr.alloc (.cells #[.int .i64 0, .string ⟨#[]⟩, .int .i64 0, .int .i64 0, .string ⟨#[]⟩, .slice none 0 0] 58)).setRow wr.heap.size #[.int .i64 ty, .string nm, .int .i64 ck, .int .i64 ch, .string fm, .slice Af lf kf]) w.heap.size (.slice Aw nw cw) L1 ∧ ItR w GM pb ln wr.heap.size 58 #[.int .i64 ty, .string nm, .int .i64 ck, .int .i64 ch, .string fm, .slice Af lf kf] ((wr.alloc (.cells #[.int .i64 0, .string ⟨#[]⟩, .int .i64 0, .int .i64 0, .string ⟨#[]⟩, .slice none 0 0] 58)).setRow wr.heap.size #[.int .i64 ty, .string nm, .int .i64 ck, .int .i64 ch, .string fm, .slice Af lf kf])) := Lib.hid ⟨HS.out.1.under (below_row ((Below.refl _ wr).alloc (Nat.le_refl _) _) (Nat.le_refl _) _), HS.out.2.1.under (below_row ((Below.refl _ wr).alloc (Nat.le_refl _) _) (Nat.le_refl _) _), HNEW.out.row _⟩
     clear hx had hlt' cf hgx hnm hfl hlf hf hfe hq hL1 hlow
     go_upto_region 13 with ((with_reducible refine wpList_storeS #[.int .i64 ty, .string nm, .int .i64 ck, .int .i64 ch, .string fm, .slice Af lf kf] ?_ 58 (.tmp 6) (.tmp 58) ?_ ?_ ?_ HNEW.out Tryz.sizeCodec ?_ ?_ ?_ ?_); (with_reducible rfl); (with_reducible rfl); rfl; rfl; rfl; rfl; rfl)
     generalize ((wr.alloc (.cells #[.int .i64 0, .string ⟨#[]⟩, .int .i64 0, .int .i64 0, .string ⟨#[]⟩, .slice none 0 0] 58)).setRow wr.heap.size #[.int .i64 ty, .string nm, .int .i64 ck, .int .i64 ch, .string fm, .slice Af lf kf]) = w2 at *
     generalize wr.heap.size = g at *
     clear d0 d1 d2 d3 d4 d5 HNEW k4
     have g0 : w2.cell? ⟨g, 0, none⟩ = some (.int .i64 ty) := HW.out.2.2.cell 0
     obtain ⟨dt, hdt⟩ : ∃ a, bs (decI ty) = a := ⟨_, rfl⟩
     obtain ⟨dk, hdk⟩ : ∃ a, bs (decI ck) = a := ⟨_, rfl⟩
     have htl := decI_len (n := ty) (by omega)
     have hckl := decI_len (n := ck) (by omega)
     rw [hdt] at htl
     rw [hdk] at hckl
     have HD1 : Hid (Calls Tryz.prog 73 #[.int .i64 ty] w2 fun e w' => e = .returned (.string dt) ∧ Below w2.heap.size w2 w') := Lib.hid (by rw [← hdt]; exact rdigits_any ty w2 ht0 (by omega))
     have HCK : Hid (∀ W, ItR w GM pb (ln ++ ⟨#[32]⟩ ++ dt) g 58 #[.int .i64 ty, .string nm, .int .i64 ck, .int .i64 ch, .string fm, .slice Af lf kf] W → Calls Tryz.prog 73 #[.int .i64 ck] W fun e w' => e = .returned (.string dk) ∧ Below W.heap.size W w') := Lib.hid fun W _ => by rw [← hdk]; exact rdigits_any ck W (by omega) (by omega)
     have HDT : Hid (tx dt = decI ty) := Lib.hid (by rw [← hdt, tx_bs])
     have HDK : Hid (tx dk = decI ck) := Lib.hid (by rw [← hdk, tx_bs])
     clear hdt hdk
     go_upto_region 14 with (go_at_call 73; (with_reducible refine HD1.out.mono ?_); rintro e w3 ⟨rfl, hb3⟩; have H3 := Lib.hid (And.intro (HW.out.1.under hb3) (HW.out.2.under hb3)); clear hb3; dsimp only)
     have e0 : w3.cell? ⟨pb, 0, none⟩ = some (.string ln) := H3.out.2.1.prt.cell 0
     have q0 := H3.out.2.1.prt.frz
     have q1 : ¬ 9223372036854775807 < ln.size + 1 := by omega
     have q2 : ¬ 9223372036854775807 < ln.size + 1 + dt.size := by omega
     clear g0
     go_upto_region 15 with fail
     have H4 : Hid (AtR (w3.setCell ⟨pb, 0, none⟩ (.string (ln ++ ⟨#[32]⟩ ++ dt))) w.heap.size (.slice Aw nw cw) L1 ∧ ItR w GM pb (ln ++ ⟨#[32]⟩ ++ dt) g 58 #[.int .i64 ty, .string nm, .int .i64 ck, .int .i64 ch, .string fm, .slice Af lf kf] (w3.setCell ⟨pb, 0, none⟩ (.string (ln ++ ⟨#[32]⟩ ++ dt)))) := Lib.hid ⟨AtR.line H3.out.2.1 H3.out.1 _ _, H3.out.2.line (by decide) _⟩
     have HL2 : Hid (tx (ln ++ ⟨#[32]⟩ ++ dt) = tx l0 ++ typesT (LC.take (k + 1))) := Lib.hid (by
      rw [tx_append, tx_append, HS.out.2.2.1, HDT.out, HTS2.out]
      simp [tx])
     have HLZ2 : Hid ((ln ++ ⟨#[32]⟩ ++ dt : ByteArray).size ≤ 100 + 20 * (k + 1)) := Lib.hid (by
      rw [← tx_length, tx_append, tx_append, List.length_append, List.length_append, tx_length, tx_length, tx_length]
      show ln.size + 1 + dt.size ≤ _
      omega)
     generalize (w3.setCell ⟨pb, 0, none⟩ (.string (ln ++ ⟨#[32]⟩ ++ dt))) = w4 at *
     generalize (ln ++ ⟨#[32]⟩ ++ dt : ByteArray) = l2 at *
     clear e0 q0 q1 q2 H3 HW HD1 hlz
     have HF1 : Hid (∀ W, ItR w GM pb l2 g 58 #[.int .i64 ty, .string nm, .int .i64 ck, .int .i64 ch, .string fm, .slice Af lf kf] W → W.cell? ⟨g, 1, none⟩ = some (.string nm)) := Lib.hid fun W hW => hW.2.cell 1
     have HF2 : Hid (∀ W, ItR w GM pb l2 g 58 #[.int .i64 ty, .string nm, .int .i64 ck, .int .i64 ch, .string fm, .slice Af lf kf] W → W.cell? ⟨g, 2, none⟩ = some (.int .i64 ck)) := Lib.hid fun W hW => hW.2.cell 2
     have HO4 : Hid (AtR w4.drew w.heap.size (.slice Aw nw cw) L1) := Lib.hid H4.out.1
     have HR0 : Hid (ItR w GM pb l2 g 58 #[.int .i64 ty, .string nm, .int .i64 ck, .int .i64 ch, .string fm, .slice Af lf kf] w4.drew) := Lib.hid H4.out.2.drew
     have HKD : Hid (tx (dt ++ ⟨#[32]⟩) = decI ty ++ [32]) := Lib.hid (by rw [tx_append, HDT.out]; rfl)
     have q1 : ¬ 9223372036854775807 < dt.size + 1 := by omega
     have q2 : ¬ 9223372036854775807 < dt.size + 1 + nm.size := by omega
     have q3 : ¬ 9223372036854775807 < dt.size + 1 + nm.size + 1 := by omega
     have q4 : ¬ 9223372036854775807 < dt.size + 1 + nm.size + 1 + dk.size := by omega
     refine wp_region_held_drew (S := fun W => ItR w GM pb l2 g 58 #[.int .i64 ty, .string nm, .int .i64 ck, .int .i64 ch, .string fm, .slice Af lf kf] W) (by kernel_rfl) HR0.out (fun hHeld => ?_)
     refine wpAnyH_take (i := 0) (v := _) rfl (by as_aux_lemma => kernel_rfl) (by as_aux_lemma => kernel_rfl) (by as_aux_lemma => kernel_rfl) (fun _ _ _ h => h) (Or.inl ⟨by rfl, fun w h => by have e0 := HF1.out w h; have e1 := HF2.out w h; clear h; go_simp; (try with_reducible rfl)⟩) (by assumption) ?_
     simp only [Act.put, La, Lb, Lc, Ld, Le, Lf]
     refine wpAnyH_take (i := 1) (v := _) rfl (by as_aux_lemma => kernel_rfl) (by as_aux_lemma => kernel_rfl) (by as_aux_lemma => kernel_rfl) (fun _ _ _ h => h) (Or.inl ⟨by rfl, fun w h => by have e0 := HF1.out w h; have e1 := HF2.out w h; clear h; go_simp; (try with_reducible rfl)⟩) (by assumption) ?_
     simp only [Act.put, La, Lb, Lc, Ld, Le, Lf]
     refine wpAnyH_take (i := 2) (v := _) rfl (by as_aux_lemma => kernel_rfl) (by as_aux_lemma => kernel_rfl) (by as_aux_lemma => kernel_rfl) (fun _ _ _ h => h) (Or.inl ⟨by rfl, fun w h => by have e0 := HF1.out w h; have e1 := HF2.out w h; clear h; go_simp; (try with_reducible rfl)⟩) (by assumption) ?_
     simp only [Act.put, La, Lb, Lc, Ld, Le, Lf]
     refine wpAnyH_take (i := 3) (v := _) rfl (by as_aux_lemma => kernel_rfl) (by as_aux_lemma => kernel_rfl) (by as_aux_lemma => kernel_rfl) (fun _ _ _ h => h) (Or.inl ⟨by rfl, fun w h => by have e0 := HF1.out w h; have e1 := HF2.out w h; clear h; go_simp; (try with_reducible rfl)⟩) (by assumption) ?_
     simp only [Act.put, La, Lb, Lc, Ld, Le, Lf]
     refine wpAnyH_take (i := 4) (v := _) rfl (by as_aux_lemma => kernel_rfl) (by as_aux_lemma => kernel_rfl) (by as_aux_lemma => kernel_rfl) (fun _ _ _ h => h) (Or.inl ⟨by rfl, fun w h => by have e0 := HF1.out w h; have e1 := HF2.out w h; clear h; go_simp; (try with_reducible rfl)⟩) (by assumption) ?_
     simp only [Act.put, La, Lb, Lc, Ld, Le, Lf]
     refine wpAnyH_take (i := 5) (v := _) rfl (by as_aux_lemma => kernel_rfl) (by as_aux_lemma => kernel_rfl) (by as_aux_lemma => kernel_rfl) (fun _ _ _ h => h) (Or.inl ⟨by rfl, fun w h => by have e0 := HF1.out w h; have e1 := HF2.out w h; clear h; go_simp; (try with_reducible rfl)⟩) (by assumption) ?_
     simp only [Act.put, La, Lb, Lc, Ld, Le, Lf]
     refine wpAnyH_take (i := 6) (v := _) rfl (by as_aux_lemma => kernel_rfl) (by as_aux_lemma => kernel_rfl) (by as_aux_lemma => kernel_rfl) (fun _ _ _ h => h) (Or.inl ⟨by rfl, fun w h => by have e0 := HF1.out w h; have e1 := HF2.out w h; clear h; go_simp; (try with_reducible rfl)⟩) (by assumption) ?_
     simp only [Act.put, La, Lb, Lc, Ld, Le, Lf]
     refine wpAnyH_take (i := 7) (v := _) rfl (by as_aux_lemma => kernel_rfl) (by as_aux_lemma => kernel_rfl) (by as_aux_lemma => kernel_rfl) (fun _ _ _ h => h) (Or.inl ⟨by rfl, fun w h => by have e0 := HF1.out w h; have e1 := HF2.out w h; clear h; go_simp; (try with_reducible rfl)⟩) (by assumption) ?_
     simp only [Act.put, La, Lb, Lc, Ld, Le, Lf]
     refine wpAnyH_ready (rs := [8]) (by as_aux_lemma => kernel_rfl) (by simp) ?_
     refine AllReadyH.cons (i := 8) rfl (fun K hK => ?_) AllReadyH.nil
     go_simp
     refine (HCK.out _ hHeld).mono ?_
     rintro e w5 ⟨rfl, hb5⟩
     refine hK.out _ _ (hHeld.under hb5) (fun hHeld4 => ?_)
     have HO5 : Hid (AtR w5 w.heap.size (.slice Aw nw cw) L1) := Lib.hid (AtR.under HO4.out hb5)
     clear hb5
     clear hK K hHeld
     have hHeld := hHeld4
     clear hHeld4
     refine wpAnyH_take (i := 9) (v := _) rfl (by as_aux_lemma => kernel_rfl) (by as_aux_lemma => kernel_rfl) (by as_aux_lemma => kernel_rfl) (fun _ _ _ h => h) (Or.inl ⟨by rfl, fun w h => by have e0 := HF1.out w h; have e1 := HF2.out w h; clear h; go_simp; (try with_reducible rfl)⟩) (by assumption) ?_
     simp only [Act.put, La, Lb, Lc, Ld, Le, Lf]
     refine wpAnyH_take (i := 10) (v := _) rfl (by as_aux_lemma => kernel_rfl) (by as_aux_lemma => kernel_rfl) (by as_aux_lemma => kernel_rfl) (fun _ _ _ h => h) (Or.inl ⟨by rfl, fun w h => by have e0 := HF1.out w h; have e1 := HF2.out w h; clear h; go_simp; (try with_reducible rfl)⟩) (by assumption) ?_
     simp only [Act.put, La, Lb, Lc, Ld, Le, Lf]
     refine wpAnyH_done (by as_aux_lemma => kernel_rfl) ?_ _
     have H5 := Lib.hid hHeld
     have HS1 : Hid (tx (dt ++ ⟨#[32]⟩ ++ nm ++ ⟨#[47]⟩ ++ dk) = decI ty ++ 32 :: (tx nm ++ 47 :: decI ck)) := Lib.hid (by rw [tx_append, tx_append, tx_append, HKD.out, HDK.out]; simp [tx])
     have hs1 : (dt ++ ⟨#[32]⟩ ++ nm ++ ⟨#[47]⟩ ++ dk : ByteArray).size ≤ 100 := by rw [← tx_length, tx_append, tx_append, tx_append, tx_append, List.length_append, List.length_append, List.length_append, List.length_append, tx_length, tx_length, tx_length, tx_length, tx_length]; show dt.size + 1 + nm.size + 1 + dk.size ≤ 100; omega
     generalize (dt ++ ⟨#[32]⟩ ++ nm ++ ⟨#[47]⟩ ++ dk : ByteArray) = s1 at *
     clear hHeld q1 q2 q3 q4 HF1 HF2 HO4 HR0 HCK H4 hckl
     have g3 : w5.cell? ⟨g, 3, none⟩ = some (.int .i64 ch) := H5.out.2.cell 3
     go_upto_if 80 with fail
     go_cut [8] (fun s8 wc => ∃ s : ByteArray, s8 = .string s ∧ s = bs (decI ty ++ 32 :: (tx nm ++ 47 :: (decI ck ++ (if ch = 2 then [47, 50] else [])))) ∧ s.size ≤ 110 ∧ w5 = wc)
     case first =>
      rcases hch with rfl | rfl
      · go_wp2
        go_meet
        exact ⟨s1, rfl, tx_inj (by rw [HS1.out, tx_bs]; simp), by omega, rfl⟩
      · have q5 : ¬ 9223372036854775807 < s1.size + 2 := by omega
        go_wp2
        go_meet
        exact ⟨_, rfl, tx_inj (by rw [tx_append, HS1.out, tx_bs]; simp [tx]), by rw [← tx_length, tx_append, List.length_append, tx_length]; show s1.size + 2 ≤ 110; omega, rfl⟩
     case rest =>
      obtain ⟨s2, rfl, hs2, hs2l, rfl⟩ := hcut
      have HS2 := Lib.hid hs2
      clear g3 hs2 hch hs1 HS1
      go_upto_region 19 with (at_builtin; refine wpList_addR rfl (.tmp 83) (.tmp 86) rfl rfl rfl HO5.out (by have := HLN1.out; omega) H5.out.1.low.size ?_; intro v6 w6 ho6 hg6; have H6 : Hid (AtR w6 w.heap.size v6 (L1 ++ [(⟨bs nCodec, s2⟩ : AttrS)]) ∧ ItR w GM pb l2 g 58 #[.int .i64 ty, .string nm, .int .i64 ck, .int .i64 ch, .string fm, .slice Af lf kf] w6) := Lib.hid ⟨ho6, H5.out.add HO5.out (by decide) hg6⟩; clear ho6 hg6)
      obtain ⟨Ax, nx, cx, hvx⟩ := H6.out.1.form
      subst hvx
      obtain ⟨L2, hL2⟩ : ∃ L, L1 ++ [(⟨bs nCodec, s2⟩ : AttrS)] = L := ⟨_, rfl⟩
      have HLN2 : Hid (L2.length ≤ 163) := Lib.hid (by rw [← hL2, List.length_append]; have := HLN1.out; simp; omega)
      rw [hL2] at H6
      have HL2E := Lib.hid hL2
      clear hL2
      have k4 : w6.cell? ⟨g, 4, none⟩ = some (.string fm) := H6.out.2.2.cell 4
      have q7 : ¬ 9223372036854775807 < dt.size + 1 + fm.size := by omega
      have q6 : ¬ 9223372036854775807 < dt.size + 1 := by omega
      have HTF : Hid (dt ++ ⟨#[32]⟩ ++ fm = bs (headT ty (tx fm))) := Lib.hid (tx_inj (by rw [tx_append, HKD.out, tx_bs]; simp [headT]))
      go_upto_if 90 with fail
      go_cut [4] (fun s4 wc => AtR wc w.heap.size s4 (L2 ++ (if q = true then [] else [(⟨bs nFormat, bs (headT ty (tx fm))⟩ : AttrS)])) ∧ ItR w GM pb l2 g 58 #[.int .i64 ty, .string nm, .int .i64 ck, .int .i64 ch, .string fm, .slice Af lf kf] wc)
      case first =>
       cases q with
       | true =>
         have HQ : Hid (L2 ++ (if true = true then [] else [(⟨bs nFormat, bs (headT ty (tx fm))⟩ : AttrS)]) = L2) := Lib.hid (by simp)
         go_wp2
         go_meet
         exact ⟨by rw [HQ.out]; exact H6.out.1, H6.out.2⟩
       | false =>
         have HQ : Hid (L2 ++ (if false = true then [] else [(⟨bs nFormat, bs (headT ty (tx fm))⟩ : AttrS)]) = L2 ++ [⟨bs nFormat, dt ++ ⟨#[32]⟩ ++ fm⟩]) := Lib.hid (by rw [HTF.out]; rfl)
         go_wp2_with (at_builtin; refine wpList_addR rfl (.tmp 91) (.tmp 98) rfl rfl rfl H6.out.1 (by have := HLN2.out; omega) H6.out.2.1.low.size ?_; intro v7 w7 ho7 hg7; have H7 : Hid (AtR w7 w.heap.size v7 (L2 ++ [(⟨bs nFormat, dt ++ ⟨#[32]⟩ ++ fm⟩ : AttrS)]) ∧ ItR w GM pb l2 g 58 #[.int .i64 ty, .string nm, .int .i64 ck, .int .i64 ch, .string fm, .slice Af lf kf] w7) := Lib.hid ⟨ho7, H6.out.2.add H6.out.1 (by decide) hg7⟩; clear ho7 hg7)
         go_meet
         exact ⟨by rw [HQ.out]; exact H7.out.1, H7.out.2⟩
      case rest =>
       have H7 := Lib.hid hcut
       clear hcut k4 q7
       obtain ⟨L3, hL3⟩ : ∃ L, L2 ++ (if q = true then [] else [(⟨bs nFormat, bs (headT ty (tx fm))⟩ : AttrS)]) = L := ⟨_, rfl⟩
       have HLN3 : Hid (L3.length ≤ 164) := Lib.hid (by
        rw [← hL3, List.length_append]
        have := HLN2.out
        have : (if q = true then [] else [(⟨bs nFormat, bs (headT ty (tx fm))⟩ : AttrS)]).length ≤ 1 := by split <;> simp
        omega)
       rw [hL3] at H7
       have HEND : Hid (P0 ++ (LC.take (k + 1)).flatMap attrsC = L3 ++ fb.map fun f => ⟨bs nFeedback, bs (headT ty (tx f))⟩) := Lib.hid (by rw [HTK.out, HAC.out, ← hL3, ← HL2E.out, HS2.out]; simp)
       clear hL3
       generalize wc = w7 at *
       obtain ⟨Ay, ny, cy, hvy⟩ := H7.out.1.form
       subst hvy
       have k5 : w7.cell? ⟨g, 5, none⟩ = some (.slice Af lf kf) := H7.out.2.2.cell 5
       clear hmt
       go_wp2
       go_loopw [103, 4, 9] (fun s103 s4 _ wq => ∃ j : Nat, j ≤ lf ∧ s103 = .int .i64 j ∧ (AtR wq w.heap.size s4 (L3 ++ (fb.take j).map fun f => ⟨bs nFeedback, bs (headT ty (tx f))⟩) ∧ ItR w GM pb l2 g 58 #[.int .i64 ty, .string nm, .int .i64 ck, .int .i64 ch, .string fm, .slice Af lf kf] wq)) (fun s103 _ _ _ => lf - (intOf s103).toNat)
       case atStart => exact ⟨0, by omega, rfl, by simpa using H7.out.1, H7.out.2⟩
       case round => as_aux_lemma =>
        clear k5
        obtain ⟨j, hj, rfl, hst⟩ := hrel
        have HI := Lib.hid hst
        clear hst
        obtain ⟨Az, nz, cz, hvz⟩ := HI.out.1.form
        subst hvz
        generalize wr = wq at *
        by_cases hlj : j < lf
        · have hlt' : j < fb.length := by rw [HFL8.out.1]; exact hlj
          obtain ⟨af, c', e1, haf, d0⟩ := (HFB.out.below HI.out.2.1.low).at_ hlt'
          injection e1 with e1 e1n e1c
          clear e1n e1c
          subst e1
          have hfs := HFE.out _ (getD_mem hlt')
          have HTJ : Hid (((fb.take (j + 1)).map fun f => (⟨bs nFeedback, bs (headT ty (tx f))⟩ : AttrS)) = ((fb.take j).map fun f => ⟨bs nFeedback, bs (headT ty (tx f))⟩) ++ [⟨bs nFeedback, bs (headT ty (tx (fb.getD j default)))⟩]) := Lib.hid (by rw [List.take_add_one, getD_of hlt']; simp)
          obtain ⟨f, hf⟩ : ∃ f, fb.getD j default = f := ⟨_, rfl⟩
          rw [hf] at d0 hfs HTJ
          have k5 : wq.cell? ⟨g, 5, none⟩ = some (.slice (some af) lf kf) := HI.out.2.2.cell 5
          have hj0 : (0 : Int) ≤ (j : Int) := by omega
          have hj1 : (j : Int) < (lf : Int) := by omega
          have q9 : ¬ 9223372036854775807 < dt.size + 1 + f.size := by omega
          have HTX : Hid (dt ++ ⟨#[32]⟩ ++ f = bs (headT ty (tx f))) := Lib.hid (tx_inj (by rw [tx_append, HKD.out, tx_bs]; simp [headT]))
          have HLL : Hid ((L3 ++ (fb.take j).map fun f => (⟨bs nFeedback, bs (headT ty (tx f))⟩ : AttrS)).length ≤ 1000000) := Lib.hid (by
           rw [List.length_append, List.length_map, List.length_take]
           have := HLN3.out
           have := HFL8.out
           omega)
          clear hf haf hlt'
          go_wp2_with (at_builtin; refine wpList_addR rfl (.tmp 106) (.tmp 116) rfl rfl rfl HI.out.1 HLL.out HI.out.2.1.low.size ?_; intro v9 w9 ho9 hg9; have HA9 : Hid (AtR w9 w.heap.size v9 (L3 ++ (fb.take (j + 1)).map fun f => ⟨bs nFeedback, bs (headT ty (tx f))⟩) ∧ ItR w GM pb l2 g 58 #[.int .i64 ty, .string nm, .int .i64 ck, .int .i64 ch, .string fm, .slice (some af) lf kf] w9) := Lib.hid ⟨by rw [HTJ.out, ← List.append_assoc, ← HTX.out]; exact ho9, HI.out.2.add HI.out.1 (by decide) hg9⟩; clear ho9 hg9)
          go_roundw
          case rel => exact ⟨j + 1, by omega, by go_num, HA9.out⟩
          case measure => simp [intOf]; omega
        · have e : j = lf := by omega
          subst e
          have HQ : Hid (AtR wq w.heap.size (.slice Az nz cz) (P0 ++ (LC.take (k + 1)).flatMap attrsC)) := Lib.hid (by
           have := HI.out.1
           rw [List.take_of_length_le (by rw [HFL8.out.1]; exact Nat.le_refl _), ← HEND.out] at this
           exact this)
          go_wp2
          go_roundw
          case rel => exact ⟨k + 1, l2, by omega, by go_num, HQ.out, HI.out.2.1, HL2.out, HLZ2.out⟩
          case measure => simp [intOf]; omega
   · have e : k = nC := by omega
     subst e
     have HQ : Hid (AtR wr w.heap.size (.slice Aw nw cw) (P0 ++ LC.flatMap attrsC) ∧ WB w GM pb ln wr ∧ tx ln = TL) := Lib.hid (by
      have := HS.out
      rw [List.take_of_length_le (by rw [HNN.out.1]; exact Nat.le_refl _)] at this
      exact ⟨this.1, this.2.1, by rw [this.2.2.1, HLN.out, HFL.out]⟩)
     have HL1 : Hid ((P0 ++ LC.flatMap attrsC).length ≤ 162) := Lib.hid (by
      have := flat_len LC HGC.out
      rw [List.length_append, HL0.out]
      have := HCN.out.1
      omega)
     obtain ⟨P1, hP1⟩ : ∃ P, P0 ++ LC.flatMap attrsC = P := ⟨_, rfl⟩
     rw [hP1] at HQ HL1 HF
     clear hP1 HS HL0 hlz HLN HFL HLZ
     have HLT : Hid (tx ln = TL) := Lib.hid HQ.out.2.2
     generalize wr = wa at *
     have k5 : wa.cell? ⟨N, 5, none⟩ = some (.slice AE nE kE) := HCE.out wa 5 (by rw [← HNW.out]; exact HQ.out.2.1.box)
     clear hlt hk'
     have HBC : Hid (∀ (a : Addr) W, a.block < w.heap.size → WB w GM pb ln W → W.cell? a = w.cell? a) := Lib.hid fun a W ha hW => hW.low.cell ha
     go_wp2
     go_loopw [123, 4, 10] (fun s123 s4 _ wr => ∃ k : Nat, k ≤ nE ∧ s123 = .int .i64 k ∧ (AtR wr w.heap.size s4 (P1 ++ (LE.take k).map attrE) ∧ WB w GM pb ln wr)) (fun s123 _ _ _ => nE - (intOf s123).toNat)
     case atStart => exact ⟨0, by omega, rfl, by simpa using HQ.out.1, HQ.out.2.1⟩
     case round => as_aux_lemma =>
      clear k5
      obtain ⟨k, hk', rfl, hst⟩ := hrel
      have HS := Lib.hid hst
      clear hst
      obtain ⟨Ax, nx, cx, hvx⟩ := HS.out.1.form
      subst hvx
      by_cases hlt : k < nE
      · as_aux_lemma =>
        have hlt' : k < LE.length := by rw [HNN.out.2.1]; exact hlt
        obtain ⟨ad, c', e1, had, d0, d1⟩ := HV.out.2.1.at_ hlt'
        injection e1 with e1 e1n e1c
        clear e1n e1c
        subst e1
        have HGX := Lib.hid (HGE.out _ (getD_mem hlt'))
        have HTK : Hid ((LE.take (k + 1)).map attrE = (LE.take k).map attrE ++ [attrE (LE.getD k default)]) := Lib.hid (by rw [List.take_add_one, getD_of hlt']; simp)
        obtain ⟨x, hx⟩ : ∃ x, LE.getD k default = x := ⟨_, rfl⟩
        rw [hx] at d0 d1 HGX HTK
        have hk0 : (0 : Int) ≤ (k : Int) := by omega
        have hk1 : (k : Int) < (nE : Int) := by omega
        have HLK : Hid (∀ k, (P1 ++ (LE.take k).map attrE).length ≤ 1000000) := Lib.hid fun k => by
         rw [List.length_append, List.length_map, List.length_take]
         have := HCN.out.2.1
         have := HL1.out
         omega
        have hxi : 1 ≤ x.id ∧ x.id ≤ 14 ∧ x.uri.size ≤ 100 := by
         have h := HGX.out
         unfold goodE uriP at h
         simp only [Bool.and_eq_true, decide_eq_true_eq] at h
         rw [← tx_length]
         exact ⟨h.1.1, h.1.2, h.2.1.2⟩
        obtain ⟨hx1, hx2, hx3⟩ := hxi
        have hdl := decI_len (n := x.id) (by omega)
        obtain ⟨dt, hdt⟩ : ∃ dt, bs (decI x.id) = dt := ⟨_, rfl⟩
        have HIT : Hid (∀ W, WB w GM pb ln W → Calls Tryz.prog 73 #[.int .i64 x.id] W fun e w' => e = .returned (.string dt) ∧ Below W.heap.size W w') := Lib.hid fun W hW => by
         rw [← hdt]
         exact rdigits_any x.id W (by omega) (by omega)
        have HTX : Hid (attrE x = ⟨bs nExt, dt ++ ⟨#[32]⟩ ++ x.uri⟩) := Lib.hid (by
         unfold attrE
         congr 1
         exact (tx_inj (by rw [tx_append, tx_append, ← hdt, tx_bs, tx_bs]; simp [tx, headT])).symm)
        rw [hdt] at hdl
        clear hdt
        have HG5 : Hid (∀ W, WB w GM pb ln W → W.cell? ⟨N, 5, none⟩ = some (.slice (some ad) nE kE)) := Lib.hid fun W hW => HCE.out W 5 (by rw [← HNW.out]; exact hW.box)
        have HF1 : Hid (∀ W, WB w GM pb ln W → W.cell? (ad.add (k * 2)) = some (.int .i64 x.id)) := Lib.hid fun W hW => (HBC.out (ad.add (k * 2)) W (by rw [add_block]; exact had) hW).trans d0
        have HF2 : Hid (∀ W, WB w GM pb ln W → W.cell? ⟨(ad.add (k * 2)).block, (ad.add (k * 2)).off + 1, none⟩ = some (.string x.uri)) := Lib.hid fun W hW => (HBC.out ⟨(ad.add (k * 2)).block, (ad.add (k * 2)).off + 1, none⟩ W (by show (ad.add (k * 2)).block < _; rw [add_block]; exact had) hW).trans d1
        have HO : Hid (AtR wr.drew w.heap.size (.slice Ax nx cx) (P1 ++ (LE.take k).map attrE)) := Lib.hid HS.out.1
        have HR0 : Hid (WB w GM pb ln wr.drew) := Lib.hid HS.out.2.drew
        have q1 : ¬ 9223372036854775807 < dt.size + 1 := by omega
        have q2 : ¬ 9223372036854775807 < dt.size + 1 + x.uri.size := by omega
        clear hx1 hx2 hx3 hdl hx had hlt' d0 d1
        go_upto_region 30 with fail
        refine wp_region_held_drew (S := fun W => WB w GM pb ln W) (by kernel_rfl) HR0.out (fun hHeld => ?_)
        refine wpAnyH_take (i := 0) (v := _) rfl (by as_aux_lemma => kernel_rfl) (by as_aux_lemma => kernel_rfl) (by as_aux_lemma => kernel_rfl) (fun _ _ _ h => h) (Or.inl ⟨by rfl, fun w h => by have e0 := HG5.out w h; have e1 := HF1.out w h; have e2 := HF2.out w h; clear h; go_simp; (try with_reducible rfl)⟩) (by assumption) ?_
        simp only [Act.put, La, Lb, Lc, Ld, Le, Lf]
        refine wpAnyH_take (i := 1) (v := _) rfl (by as_aux_lemma => kernel_rfl) (by as_aux_lemma => kernel_rfl) (by as_aux_lemma => kernel_rfl) (fun _ _ _ h => h) (Or.inl ⟨by rfl, fun w h => by have e0 := HG5.out w h; have e1 := HF1.out w h; have e2 := HF2.out w h; clear h; go_simp; (try with_reducible rfl)⟩) (by assumption) ?_
        simp only [Act.put, La, Lb, Lc, Ld, Le, Lf]
        refine wpAnyH_take (i := 2) (v := _) rfl (by as_aux_lemma => kernel_rfl) (by as_aux_lemma => kernel_rfl) (by as_aux_lemma => kernel_rfl) (fun _ _ _ h => h) (Or.inl ⟨by rfl, fun w h => by have e0 := HG5.out w h; have e1 := HF1.out w h; have e2 := HF2.out w h; clear h; go_simp; (try with_reducible rfl)⟩) (by assumption) ?_
        simp only [Act.put, La, Lb, Lc, Ld, Le, Lf]
        refine wpAnyH_take (i := 3) (v := _) rfl (by as_aux_lemma => kernel_rfl) (by as_aux_lemma => kernel_rfl) (by as_aux_lemma => kernel_rfl) (fun _ _ _ h => h) (Or.inl ⟨by rfl, fun w h => by have e0 := HG5.out w h; have e1 := HF1.out w h; have e2 := HF2.out w h; clear h; go_simp; (try with_reducible rfl)⟩) (by assumption) ?_
        simp only [Act.put, La, Lb, Lc, Ld, Le, Lf]
        refine wpAnyH_take (i := 4) (v := _) rfl (by as_aux_lemma => kernel_rfl) (by as_aux_lemma => kernel_rfl) (by as_aux_lemma => kernel_rfl) (fun _ _ _ h => h) (Or.inl ⟨by rfl, fun w h => by have e0 := HG5.out w h; have e1 := HF1.out w h; have e2 := HF2.out w h; clear h; go_simp; (try with_reducible rfl)⟩) (by assumption) ?_
        simp only [Act.put, La, Lb, Lc, Ld, Le, Lf]
        refine wpAnyH_take (i := 5) (v := _) rfl (by as_aux_lemma => kernel_rfl) (by as_aux_lemma => kernel_rfl) (by as_aux_lemma => kernel_rfl) (fun _ _ _ h => h) (Or.inl ⟨by rfl, fun w h => by have e0 := HG5.out w h; have e1 := HF1.out w h; have e2 := HF2.out w h; clear h; go_simp; (try with_reducible rfl)⟩) (by assumption) ?_
        simp only [Act.put, La, Lb, Lc, Ld, Le, Lf]
        refine wpAnyH_take (i := 6) (v := _) rfl (by as_aux_lemma => kernel_rfl) (by as_aux_lemma => kernel_rfl) (by as_aux_lemma => kernel_rfl) (fun _ _ _ h => h) (Or.inl ⟨by rfl, fun w h => by have e0 := HG5.out w h; have e1 := HF1.out w h; have e2 := HF2.out w h; clear h; go_simp; (try with_reducible rfl)⟩) (by assumption) ?_
        simp only [Act.put, La, Lb, Lc, Ld, Le, Lf]
        refine wpAnyH_take (i := 9) (v := _) rfl (by as_aux_lemma => kernel_rfl) (by as_aux_lemma => kernel_rfl) (by as_aux_lemma => kernel_rfl) (fun _ _ _ h => h) (Or.inl ⟨by rfl, fun w h => by have e0 := HG5.out w h; have e1 := HF1.out w h; have e2 := HF2.out w h; clear h; go_simp; (try with_reducible rfl)⟩) (by assumption) ?_
        simp only [Act.put, La, Lb, Lc, Ld, Le, Lf]
        refine wpAnyH_take (i := 10) (v := _) rfl (by as_aux_lemma => kernel_rfl) (by as_aux_lemma => kernel_rfl) (by as_aux_lemma => kernel_rfl) (fun _ _ _ h => h) (Or.inl ⟨by rfl, fun w h => by have e0 := HG5.out w h; have e1 := HF1.out w h; have e2 := HF2.out w h; clear h; go_simp; (try with_reducible rfl)⟩) (by assumption) ?_
        simp only [Act.put, La, Lb, Lc, Ld, Le, Lf]
        refine wpAnyH_take (i := 11) (v := _) rfl (by as_aux_lemma => kernel_rfl) (by as_aux_lemma => kernel_rfl) (by as_aux_lemma => kernel_rfl) (fun _ _ _ h => h) (Or.inl ⟨by rfl, fun w h => by have e0 := HG5.out w h; have e1 := HF1.out w h; have e2 := HF2.out w h; clear h; go_simp; (try with_reducible rfl)⟩) (by assumption) ?_
        simp only [Act.put, La, Lb, Lc, Ld, Le, Lf]
        refine wpAnyH_take (i := 12) (v := _) rfl (by as_aux_lemma => kernel_rfl) (by as_aux_lemma => kernel_rfl) (by as_aux_lemma => kernel_rfl) (fun _ _ _ h => h) (Or.inl ⟨by rfl, fun w h => by have e0 := HG5.out w h; have e1 := HF1.out w h; have e2 := HF2.out w h; clear h; go_simp; (try with_reducible rfl)⟩) (by assumption) ?_
        simp only [Act.put, La, Lb, Lc, Ld, Le, Lf]
        refine wpAnyH_take (i := 13) (v := _) rfl (by as_aux_lemma => kernel_rfl) (by as_aux_lemma => kernel_rfl) (by as_aux_lemma => kernel_rfl) (fun _ _ _ h => h) (Or.inl ⟨by rfl, fun w h => by have e0 := HG5.out w h; have e1 := HF1.out w h; have e2 := HF2.out w h; clear h; go_simp; (try with_reducible rfl)⟩) (by assumption) ?_
        simp only [Act.put, La, Lb, Lc, Ld, Le, Lf]
        refine wpAnyH_take (i := 14) (v := _) rfl (by as_aux_lemma => kernel_rfl) (by as_aux_lemma => kernel_rfl) (by as_aux_lemma => kernel_rfl) (fun _ _ _ h => h) (Or.inl ⟨by rfl, fun w h => by have e0 := HG5.out w h; have e1 := HF1.out w h; have e2 := HF2.out w h; clear h; go_simp; (try with_reducible rfl)⟩) (by assumption) ?_
        simp only [Act.put, La, Lb, Lc, Ld, Le, Lf]
        refine wpAnyH_ready (rs := [7]) (by as_aux_lemma => kernel_rfl) (by simp) ?_
        refine AllReadyH.cons (i := 7) rfl (fun K hK => ?_) AllReadyH.nil
        go_simp
        refine (HIT.out _ hHeld).mono ?_
        rintro e w4 ⟨rfl, hb4⟩
        have HO4 := Lib.hid (And.intro (AtR.under HO.out hb4) (hHeld.under hb4))
        refine hK.out _ _ (hHeld.under hb4) (fun hHeld4 => ?_)
        clear hb4
        clear hK K hHeld
        have hHeld := hHeld4
        clear hHeld4
        refine wpAnyH_take (i := 8) (v := _) rfl (by as_aux_lemma => kernel_rfl) (by as_aux_lemma => kernel_rfl) (by as_aux_lemma => kernel_rfl) (fun _ _ _ h => h) (Or.inl ⟨by rfl, fun w h => by have e0 := HG5.out w h; have e1 := HF1.out w h; have e2 := HF2.out w h; clear h; go_simp; (try with_reducible rfl)⟩) (by assumption) ?_
        simp only [Act.put, La, Lb, Lc, Ld, Le, Lf]
        refine wpAnyH_take (i := 15) (v := _) rfl (by as_aux_lemma => kernel_rfl) (by as_aux_lemma => kernel_rfl) (by as_aux_lemma => kernel_rfl) (fun _ _ _ h => h) (Or.inl ⟨by rfl, fun w h => by have e0 := HG5.out w h; have e1 := HF1.out w h; have e2 := HF2.out w h; clear h; go_simp; (try with_reducible rfl)⟩) (by assumption) ?_
        simp only [Act.put, La, Lb, Lc, Ld, Le, Lf]
        refine wpAnyH_take (i := 16) (v := _) rfl (by as_aux_lemma => kernel_rfl) (by as_aux_lemma => kernel_rfl) (by as_aux_lemma => kernel_rfl) (fun _ _ _ h => h) (Or.inl ⟨by rfl, fun w h => by have e0 := HG5.out w h; have e1 := HF1.out w h; have e2 := HF2.out w h; clear h; go_simp; (try with_reducible rfl)⟩) (by assumption) ?_
        simp only [Act.put, La, Lb, Lc, Ld, Le, Lf]
        refine wpAnyH_ready (rs := [17]) (by as_aux_lemma => kernel_rfl) (by simp) ?_
        refine AllReadyH.cons (i := 17) rfl (fun K hK => ?_) AllReadyH.nil
        go_simp
        refine hK.out _ _ (hHeld.alloc _) (fun hHeld4 => ?_)
        clear hK K hHeld
        have hHeld := hHeld4
        clear hHeld4
        refine wpAnyH_ready (rs := [18]) (by as_aux_lemma => kernel_rfl) (by simp) ?_
        refine AllReadyH.cons (i := 18) rfl (fun K hK => ?_) AllReadyH.nil
        refine step_of rfl (wp_addR (.tmp 126) (.tmp 143) rfl rfl rfl HO4.out.1 (HLK.out k) HO4.out.2.low.size ?_)
        intro v9 w9 ho9 hg9
        have HA9 : Hid (AtR w9 w.heap.size v9 (P1 ++ (LE.take (k + 1)).map attrE) ∧ WB w GM pb ln w9) := Lib.hid ⟨by rw [HTK.out, ← List.append_assoc, HTX.out]; exact ho9, HO4.out.2.add HO4.out.1 hg9⟩
        refine hK.out _ _ (HO4.out.2.add HO4.out.1 hg9) (fun hHeld4 => ?_)
        clear ho9 hg9
        clear hK K hHeld
        have hHeld := hHeld4
        clear hHeld4
        refine wpAnyH_take (i := 19) (v := _) rfl (by as_aux_lemma => kernel_rfl) (by as_aux_lemma => kernel_rfl) (by as_aux_lemma => kernel_rfl) (fun _ _ _ h => h) (Or.inl ⟨by rfl, fun w h => by have e0 := HG5.out w h; have e1 := HF1.out w h; have e2 := HF2.out w h; clear h; go_simp; (try with_reducible rfl)⟩) (by assumption) ?_
        simp only [Act.put, La, Lb, Lc, Ld, Le, Lf]
        refine wpAnyH_done (by as_aux_lemma => kernel_rfl) ?_ _
        clear hHeld q1 q2
        go_wp2
        go_roundw
        case rel => exact ⟨k + 1, by omega, by go_num, HA9.out⟩
        case measure => simp [intOf]; omega
      · have e : k = nE := by omega
        subst e
        have HQ : Hid (AtR wr w.heap.size (.slice Ax nx cx) (P1 ++ LE.map attrE) ∧ WB w GM pb ln wr) := Lib.hid (by
         have := HS.out
         rw [List.take_of_length_le (by rw [HNN.out.2.1]; exact Nat.le_refl _)] at this
         exact this)
        have HL2 : Hid ((P1 ++ LE.map attrE).length ≤ 180) := Lib.hid (by
         rw [List.length_append, List.length_map]
         have := HCN.out.2.1
         have := HL1.out
         omega)
        obtain ⟨P2, hP2⟩ : ∃ P, P1 ++ LE.map attrE = P := ⟨_, rfl⟩
        rw [hP2] at HQ HL2 HF
        clear hP2 HS HL1
        generalize wr = wb at *
        have k6 : wb.cell? ⟨N, 6, none⟩ = some (.slice AR nR kR) := HCE.out wb 6 (by rw [← HNW.out]; exact HQ.out.2.box)
        obtain ⟨wy, hwy⟩ : ∃ a : ByteArray, bs (wayW sd) = a := ⟨_, rfl⟩
        have HWY : Hid (∀ W, Calls Tryz.prog 75 #[.bool sd] W fun e w' => e = .returned (.string wy) ∧ W = w') := Lib.hid fun W => by rw [← hwy]; exact rway_any sd W
        have HWT : Hid (tx wy = wayW sd) := Lib.hid (by rw [← hwy, tx_bs])
        have hws : wy.size ≤ 4 := by rw [← hwy, bs_size]; cases sd <;> decide
        clear hlt hk' hwy
        go_wp2
        go_loopw [149, 4, 11, 12] (fun s149 s4 s11 _ wr => ∃ (k : Nat) (al : ByteArray), k ≤ nR ∧ s149 = .int .i64 k ∧ s11 = .string al ∧ (AtR wr w.heap.size s4 (P2 ++ (LR.take k).map (attrR sd)) ∧ WB w GM pb ln wr ∧ tx al = semi (LR.take k) ∧ al.size ≤ 9 * k)) (fun s149 _ _ _ _ => nR - (intOf s149).toNat)
        case atStart => exact ⟨0, _, by omega, rfl, rfl, by simpa using HQ.out.1, HQ.out.2, rfl, by decide⟩
        case round => as_aux_lemma =>
         clear k6
         obtain ⟨k, al, hk', rfl, rfl, hst⟩ := hrel
         have HS := Lib.hid hst
         clear hst
         obtain ⟨Ay, ny, cy, hvy⟩ := HS.out.1.form
         subst hvy
         have hk3 : nR ≤ 3 := by have := HCN.out.2.2.1; have := HNN.out.2.2.1; omega
         have hal : al.size ≤ 9 * k := HS.out.2.2.2
         generalize wr = w2 at *
         by_cases hlt : k < nR
         · as_aux_lemma =>
           have hlt' : k < LR.length := by rw [HNN.out.2.2.1]; exact hlt
           obtain ⟨ad, c', e1, had, d0⟩ := HV.out.2.2.1.at_ hlt'
           injection e1 with e1 e1n e1c
           clear e1n e1c
           subst e1
           have hfs := HGR.out _ (getD_mem hlt')
           have HTK : Hid ((LR.take (k + 1)).map (attrR sd) = (LR.take k).map (attrR sd) ++ [attrR sd (LR.getD k default)]) := Lib.hid (by rw [List.take_add_one, getD_of hlt']; simp)
           have HSM : Hid (semi (LR.take (k + 1)) = if LR.take k = [] then tx (LR.getD k default) else semi (LR.take k) ++ 59 :: tx (LR.getD k default)) := Lib.hid (by rw [List.take_add_one, getD_of hlt']; exact semi_snoc _ _)
           have HTN : Hid (LR.take k = [] ↔ k = 0) := Lib.hid (by
            rw [← List.length_eq_zero_iff, List.length_take]
            omega)
           obtain ⟨x, hx⟩ : ∃ x, LR.getD k default = x := ⟨_, rfl⟩
           rw [hx] at d0 HTK HSM hfs
           have hk0 : (0 : Int) ≤ (k : Int) := by omega
           have hk1 : (k : Int) < (nR : Int) := by omega
           have HLK : Hid (∀ k, (P2 ++ (LR.take k).map (attrR sd)).length ≤ 1000000) := Lib.hid fun k => by
            rw [List.length_append, List.length_map, List.length_take]
            have := HCN.out.2.2.1
            have := HL2.out
            omega
           have HTX : Hid (attrR sd x = ⟨bs nRid, x ++ ⟨#[32]⟩ ++ wy⟩) := Lib.hid (by
            unfold attrR
            congr 1
            exact (tx_inj (by rw [tx_append, tx_append, HWT.out, tx_bs]; simp [tx])).symm)
           have HG6 : Hid (∀ W, WB w GM pb ln W → W.cell? ⟨N, 6, none⟩ = some (.slice (some ad) nR kR)) := Lib.hid fun W hW => HCE.out W 6 (by rw [← HNW.out]; exact hW.box)
           have HG7 : Hid (∀ W, WB w GM pb ln W → W.cell? ⟨N, 7, none⟩ = some (.bool sd)) := Lib.hid fun W hW => HCE.out W 7 (by rw [← HNW.out]; exact hW.box)
           have HF1 : Hid (∀ W, WB w GM pb ln W → W.cell? (ad.add k) = some (.string x)) := Lib.hid fun W hW => (HBC.out (ad.add k) W (by rw [add_block]; exact had) hW).trans d0
           have HO : Hid (AtR w2.drew w.heap.size (.slice Ay ny cy) (P2 ++ (LR.take k).map (attrR sd))) := Lib.hid HS.out.1
           have HR0 : Hid (WB w GM pb ln w2.drew) := Lib.hid HS.out.2.1.drew
           have q1 : ¬ 9223372036854775807 < x.size + 1 := by omega
           have q2 : ¬ 9223372036854775807 < x.size + 1 + wy.size := by omega
           clear hx had hlt' d0
           go_upto_region 36 with fail
           refine wp_region_held_drew (S := fun W => WB w GM pb ln W) (by kernel_rfl) HR0.out (fun hHeld => ?_)
           refine wpAnyH_take (i := 0) (v := _) rfl (by as_aux_lemma => kernel_rfl) (by as_aux_lemma => kernel_rfl) (by as_aux_lemma => kernel_rfl) (fun _ _ _ h => h) (Or.inl ⟨by rfl, fun w h => by have e0 := HG6.out w h; have e1 := HF1.out w h; have e2 := HG7.out w h; clear h; go_simp; (try with_reducible rfl)⟩) (by assumption) ?_
           simp only [Act.put, La, Lb, Lc, Ld, Le, Lf]
           refine wpAnyH_take (i := 1) (v := _) rfl (by as_aux_lemma => kernel_rfl) (by as_aux_lemma => kernel_rfl) (by as_aux_lemma => kernel_rfl) (fun _ _ _ h => h) (Or.inl ⟨by rfl, fun w h => by have e0 := HG6.out w h; have e1 := HF1.out w h; have e2 := HG7.out w h; clear h; go_simp; (try with_reducible rfl)⟩) (by assumption) ?_
           simp only [Act.put, La, Lb, Lc, Ld, Le, Lf]
           refine wpAnyH_take (i := 2) (v := _) rfl (by as_aux_lemma => kernel_rfl) (by as_aux_lemma => kernel_rfl) (by as_aux_lemma => kernel_rfl) (fun _ _ _ h => h) (Or.inl ⟨by rfl, fun w h => by have e0 := HG6.out w h; have e1 := HF1.out w h; have e2 := HG7.out w h; clear h; go_simp; (try with_reducible rfl)⟩) (by assumption) ?_
           simp only [Act.put, La, Lb, Lc, Ld, Le, Lf]
           refine wpAnyH_take (i := 3) (v := _) rfl (by as_aux_lemma => kernel_rfl) (by as_aux_lemma => kernel_rfl) (by as_aux_lemma => kernel_rfl) (fun _ _ _ h => h) (Or.inl ⟨by rfl, fun w h => by have e0 := HG6.out w h; have e1 := HF1.out w h; have e2 := HG7.out w h; clear h; go_simp; (try with_reducible rfl)⟩) (by assumption) ?_
           simp only [Act.put, La, Lb, Lc, Ld, Le, Lf]
           refine wpAnyH_take (i := 4) (v := _) rfl (by as_aux_lemma => kernel_rfl) (by as_aux_lemma => kernel_rfl) (by as_aux_lemma => kernel_rfl) (fun _ _ _ h => h) (Or.inl ⟨by rfl, fun w h => by have e0 := HG6.out w h; have e1 := HF1.out w h; have e2 := HG7.out w h; clear h; go_simp; (try with_reducible rfl)⟩) (by assumption) ?_
           simp only [Act.put, La, Lb, Lc, Ld, Le, Lf]
           refine wpAnyH_take (i := 5) (v := _) rfl (by as_aux_lemma => kernel_rfl) (by as_aux_lemma => kernel_rfl) (by as_aux_lemma => kernel_rfl) (fun _ _ _ h => h) (Or.inl ⟨by rfl, fun w h => by have e0 := HG6.out w h; have e1 := HF1.out w h; have e2 := HG7.out w h; clear h; go_simp; (try with_reducible rfl)⟩) (by assumption) ?_
           simp only [Act.put, La, Lb, Lc, Ld, Le, Lf]
           refine wpAnyH_take (i := 6) (v := _) rfl (by as_aux_lemma => kernel_rfl) (by as_aux_lemma => kernel_rfl) (by as_aux_lemma => kernel_rfl) (fun _ _ _ h => h) (Or.inl ⟨by rfl, fun w h => by have e0 := HG6.out w h; have e1 := HF1.out w h; have e2 := HG7.out w h; clear h; go_simp; (try with_reducible rfl)⟩) (by assumption) ?_
           simp only [Act.put, La, Lb, Lc, Ld, Le, Lf]
           refine wpAnyH_take (i := 7) (v := _) rfl (by as_aux_lemma => kernel_rfl) (by as_aux_lemma => kernel_rfl) (by as_aux_lemma => kernel_rfl) (fun _ _ _ h => h) (Or.inl ⟨by rfl, fun w h => by have e0 := HG6.out w h; have e1 := HF1.out w h; have e2 := HG7.out w h; clear h; go_simp; (try with_reducible rfl)⟩) (by assumption) ?_
           simp only [Act.put, La, Lb, Lc, Ld, Le, Lf]
           refine wpAnyH_take (i := 8) (v := _) rfl (by as_aux_lemma => kernel_rfl) (by as_aux_lemma => kernel_rfl) (by as_aux_lemma => kernel_rfl) (fun _ _ _ h => h) (Or.inl ⟨by rfl, fun w h => by have e0 := HG6.out w h; have e1 := HF1.out w h; have e2 := HG7.out w h; clear h; go_simp; (try with_reducible rfl)⟩) (by assumption) ?_
           simp only [Act.put, La, Lb, Lc, Ld, Le, Lf]
           refine wpAnyH_ready (rs := [9]) (by as_aux_lemma => kernel_rfl) (by simp) ?_
           refine AllReadyH.cons (i := 9) rfl (fun K hK => ?_) AllReadyH.nil
           go_simp
           refine (HWY.out w2.drew).mono ?_
           rintro e w4 ⟨rfl, rfl⟩
           have HO4 := Lib.hid (And.intro HO.out hHeld)
           refine hK.out _ _ hHeld (fun hHeld4 => ?_)
           clear hK K hHeld
           have hHeld := hHeld4
           clear hHeld4
           refine wpAnyH_take (i := 10) (v := _) rfl (by as_aux_lemma => kernel_rfl) (by as_aux_lemma => kernel_rfl) (by as_aux_lemma => kernel_rfl) (fun _ _ _ h => h) (Or.inl ⟨by rfl, fun w h => by have e0 := HG6.out w h; have e1 := HF1.out w h; have e2 := HG7.out w h; clear h; go_simp; (try with_reducible rfl)⟩) (by assumption) ?_
           simp only [Act.put, La, Lb, Lc, Ld, Le, Lf]
           refine wpAnyH_take (i := 11) (v := _) rfl (by as_aux_lemma => kernel_rfl) (by as_aux_lemma => kernel_rfl) (by as_aux_lemma => kernel_rfl) (fun _ _ _ h => h) (Or.inl ⟨by rfl, fun w h => by have e0 := HG6.out w h; have e1 := HF1.out w h; have e2 := HG7.out w h; clear h; go_simp; (try with_reducible rfl)⟩) (by assumption) ?_
           simp only [Act.put, La, Lb, Lc, Ld, Le, Lf]
           refine wpAnyH_ready (rs := [12]) (by as_aux_lemma => kernel_rfl) (by simp) ?_
           refine AllReadyH.cons (i := 12) rfl (fun K hK => ?_) AllReadyH.nil
           go_simp
           refine hK.out _ _ (hHeld.alloc _) (fun hHeld4 => ?_)
           clear hK K hHeld
           have hHeld := hHeld4
           clear hHeld4
           refine wpAnyH_ready (rs := [13]) (by as_aux_lemma => kernel_rfl) (by simp) ?_
           refine AllReadyH.cons (i := 13) rfl (fun K hK => ?_) AllReadyH.nil
           refine step_of rfl (wp_addR (.tmp 152) (.tmp 164) rfl rfl rfl HO4.out.1 (HLK.out k) HO4.out.2.low.size ?_)
           intro v9 w9 ho9 hg9
           have HA9 : Hid (AtR w9 w.heap.size v9 (P2 ++ (LR.take (k + 1)).map (attrR sd)) ∧ WB w GM pb ln w9) := Lib.hid ⟨by rw [HTK.out, ← List.append_assoc, HTX.out]; exact ho9, HO4.out.2.add HO4.out.1 hg9⟩
           refine hK.out _ _ (HO4.out.2.add HO4.out.1 hg9) (fun hHeld4 => ?_)
           clear ho9 hg9
           clear hK K hHeld
           have hHeld := hHeld4
           clear hHeld4
           refine wpAnyH_take (i := 14) (v := _) rfl (by as_aux_lemma => kernel_rfl) (by as_aux_lemma => kernel_rfl) (by as_aux_lemma => kernel_rfl) (fun _ _ _ h => h) (Or.inl ⟨by rfl, fun w h => by have e0 := HG6.out w h; have e1 := HF1.out w h; have e2 := HG7.out w h; clear h; go_simp; (try with_reducible rfl)⟩) (by assumption) ?_
           simp only [Act.put, La, Lb, Lc, Ld, Le, Lf]
           refine wpAnyH_done (by as_aux_lemma => kernel_rfl) ?_ _
           clear hHeld q1 q2 HO HR0
           go_upto_if 167 with fail
           go_cut [11] (fun s11 wc => ∃ a : ByteArray, s11 = .string a ∧ tx a ++ tx x = semi (LR.take (k + 1)) ∧ a.size ≤ 9 * k + 1 ∧ w9 = wc)
           case first =>
            by_cases hk0 : k = 0
            · subst hk0
              have HQ2 : Hid (tx al ++ tx x = semi (LR.take (0 + 1))) := Lib.hid (by
               rw [HSM.out, if_pos (HTN.out.2 rfl), HS.out.2.2.1, HTN.out.2 rfl]
               rfl)
              go_wp2
              go_meet
              exact ⟨al, rfl, HQ2.out, by omega, rfl⟩
            · have hkp : 0 < (k : Int) := by omega
              have q1 : ¬ 9223372036854775807 < al.size + 1 := by omega
              have HQ2 : Hid (tx (al ++ ⟨#[59]⟩) ++ tx x = semi (LR.take (k + 1))) := Lib.hid (by
               rw [HSM.out, if_neg (fun e => hk0 (HTN.out.1 e)), tx_append, HS.out.2.2.1]
               simp [tx])
              go_wp2
              go_meet
              exact ⟨_, rfl, HQ2.out, by rw [← tx_length, tx_append, List.length_append, tx_length]; show al.size + 1 ≤ _; omega, rfl⟩
           case rest =>
            obtain ⟨a2, rfl, ha2, ha2l, rfl⟩ := hcut
            have HA2 := Lib.hid ha2
            clear ha2
            have k6 : w9.cell? ⟨N, 6, none⟩ = some (.slice (some ad) nR kR) := HG6.out w9 HA9.out.2
            have d0 : w9.cell? (ad.add k) = some (.string x) := HF1.out w9 HA9.out.2
            have q1 : ¬ 9223372036854775807 < a2.size + x.size := by omega
            go_wp2
            go_roundw
            case rel => exact ⟨k + 1, _, by omega, by go_num, rfl, HA9.out.1, HA9.out.2, by rw [tx_append]; exact HA2.out, by rw [← tx_length, tx_append, List.length_append, tx_length, tx_length]; omega⟩
            case measure => simp [intOf]; omega
         · have e : k = nR := by omega
           have HQ : Hid (AtR w2 w.heap.size (.slice Ay ny cy) (P2 ++ LR.map (attrR sd)) ∧ WB w GM pb ln w2 ∧ tx al = semi LR) := Lib.hid (by
            have := HS.out
            rw [List.take_of_length_le (by rw [HNN.out.2.2.1]; omega)] at this
            exact ⟨this.1, this.2.1, this.2.2.1⟩)
           subst e
           have HL3 : Hid ((P2 ++ LR.map (attrR sd)).length ≤ 183) := Lib.hid (by
            rw [List.length_append, List.length_map]
            have := HCN.out.2.2.1
            have := HL2.out
            omega)
           have k6 : w2.cell? ⟨N, 6, none⟩ = some (.slice AR k kR) := HCE.out w2 6 (by rw [← HNW.out]; exact HQ.out.2.1.box)
           have k7 : w2.cell? ⟨N, 7, none⟩ = some (.bool sd) := HCE.out w2 7 (by rw [← HNW.out]; exact HQ.out.2.1.box)
           clear hlt hk' HS
           go_upto_if 181 with fail
           go_cut [4] (fun s4 wc => AtR wc w.heap.size s4 (P2 ++ attrsR sd LR) ∧ WB w GM pb ln wc)
           case first =>
            by_cases hk0 : k = 0
            · have HE0 : Hid (P2 ++ LR.map (attrR sd) = P2 ++ attrsR sd LR) := Lib.hid (by
               have : LR = [] := List.eq_nil_of_length_eq_zero (by rw [HNN.out.2.2.1]; exact hk0)
               rw [this]
               rfl)
              subst hk0
              go_wp2
              go_meet
              exact ⟨by rw [← HE0.out]; exact HQ.out.1, HQ.out.2.1⟩
            · have hkp : 0 < (k : Int) := by omega
              have q1 : ¬ 9223372036854775807 < wy.size + 1 := by omega
              have q2 : ¬ 9223372036854775807 < wy.size + 1 + al.size := by omega
              have HE0 : Hid (P2 ++ attrsR sd LR = (P2 ++ LR.map (attrR sd)) ++ [⟨bs nSimulcast, wy ++ ⟨#[32]⟩ ++ al⟩]) := Lib.hid (by
               have hne : LR.isEmpty = false := by
                cases hL : LR with
                | nil => have := HNN.out.2.2.1; rw [hL] at this; simp at this; omega
                | cons a l => rfl
               unfold attrsR
               rw [hne, if_neg (by decide), ← List.append_assoc]
               congr 2
               congr 1
               exact tx_inj (by rw [tx_append, tx_append, HWT.out, HQ.out.2.2, tx_bs]; simp [tx]))
              go_wp2_with (first
               | (go_at_call 75; (with_reducible refine (HWY.out _).mono ?_); rintro e w4 ⟨rfl, rfl⟩; dsimp only)
               | (at_builtin; refine wpList_addR rfl (.tmp 182) (.tmp 190) rfl rfl rfl HQ.out.1 (by have := HL3.out; omega) HQ.out.2.1.low.size ?_; intro v9 w9 ho9 hg9; have HA9 : Hid (AtR w9 w.heap.size v9 ((P2 ++ LR.map (attrR sd)) ++ [(⟨bs nSimulcast, wy ++ ⟨#[32]⟩ ++ al⟩ : AttrS)]) ∧ WB w GM pb ln w9) := Lib.hid ⟨ho9, HQ.out.2.1.add HQ.out.1 hg9⟩; clear ho9 hg9))
              go_meet
              exact ⟨by rw [HE0.out]; exact HA9.out.1, HA9.out.2⟩
           case rest =>
            have HA3 := Lib.hid hcut
            have HLS3 : Hid ((P2 ++ attrsR sd LR).length ≤ 190) := Lib.hid (by
             have h3 := HCN.out.2.2.1
             have := HL2.out
             have h4 : (attrsR sd LR).length ≤ LR.length + 1 := by
              unfold attrsR
              split <;> simp
             rw [List.length_append]
             omega)
            obtain ⟨P3, hP3⟩ : ∃ P, P2 ++ attrsR sd LR = P := ⟨_, rfl⟩
            rw [hP3] at HA3 HLS3 HF
            clear hP3 HL2 HL3 HQ k6 k7 hcut hal hk3
            generalize wc = w3 at *
            obtain ⟨Az, nz, cz, hvz⟩ := HA3.out.1.form
            subst hvz
            have k8 : w3.cell? ⟨N, 8, none⟩ = some (.slice AS nS kS) := HCE.out w3 8 (by rw [← HNW.out]; exact HA3.out.2.box)
            go_wp2
            go_loopw [195, 4, 13] (fun s195 s4 _ wr => ∃ k : Nat, k ≤ nS ∧ s195 = .int .i64 k ∧ (AtR wr w.heap.size s4 (P3 ++ (LS.take k).map attrO) ∧ WB w GM pb ln wr)) (fun s195 _ _ _ => nS - (intOf s195).toNat)
            case atStart => exact ⟨0, by omega, rfl, by simpa using HA3.out.1, HA3.out.2⟩
            case round => as_aux_lemma =>
             clear k8
             obtain ⟨k, hk', rfl, hst⟩ := hrel
             have HS := Lib.hid hst
             clear hst
             obtain ⟨Ap, np, cp, hvp⟩ := HS.out.1.form
             subst hvp
             by_cases hlt : k < nS
             · as_aux_lemma =>
               have hlt' : k < LS.length := by rw [HNN.out.2.2.2.1]; exact hlt
               obtain ⟨ad, c', e1, had, d0⟩ := HV.out.2.2.2.1.at_ hlt'
               injection e1 with e1 e1n e1c
               clear e1n e1c
               subst e1
               have hn := HTS.out _ (getD_mem hlt')
               have HTK : Hid ((LS.take (k + 1)).map attrO = (LS.take k).map attrO ++ [attrO (LS.getD k default)]) := Lib.hid (by rw [List.take_add_one, getD_of hlt']; simp)
               obtain ⟨x, hx⟩ : ∃ x, LS.getD k default = x := ⟨_, rfl⟩
               rw [hx] at d0 HTK hn
               have d0 : wr.cell? (ad.add k) = some (.int .u32 (x : Int)) := (HBC.out (ad.add k) wr (by rw [add_block]; exact had) HS.out.2).trans d0
               have k8 : wr.cell? ⟨N, 8, none⟩ = some (.slice (some ad) nS kS) := HCE.out wr 8 (by rw [← HNW.out]; exact HS.out.2.box)
               have hk0 : (0 : Int) ≤ (k : Int) := by omega
               have hk1 : (k : Int) < (nS : Int) := by omega
               have hx0 : (0 : Int) ≤ (x : Int) := by omega
               have hx1 : (x : Int) < 18446744073709551616 := by omega
               have HLK : Hid ((P3 ++ (LS.take k).map attrO).length ≤ 1000000) := Lib.hid (by
                rw [List.length_append, List.length_map, List.length_take]
                have := HCN.out.2.2.2.1
                have := HLS3.out
                omega)
               have HFU : Hid (Calls Tryz.prog 76 #[.int .u64 x] wr fun e w' => e = .returned (.string (bs (dec x))) ∧ Below wr.heap.size wr w') := Lib.hid (rDigits_any x wr (by omega))
               clear hx had hlt' hn
               go_wp2_with (first
                | (go_at_call 76; (with_reducible refine HFU.out.mono ?_); rintro e w4 ⟨rfl, hb4⟩; have HA4 := Lib.hid (And.intro (HS.out.1.under hb4) (HS.out.2.under hb4)); clear hb4; dsimp only)
                | (at_builtin; refine wpList_addR rfl (.tmp 198) (.tmp 207) rfl rfl rfl HA4.out.1 HLK.out HA4.out.2.low.size ?_; intro v9 w9 ho9 hg9; have HA9 : Hid (AtR w9 w.heap.size v9 (P3 ++ (LS.take (k + 1)).map attrO) ∧ WB w GM pb ln w9) := Lib.hid ⟨by rw [HTK.out, ← List.append_assoc]; exact ho9, HA4.out.2.add HA4.out.1 hg9⟩; clear ho9 hg9))
               go_roundw
               case rel => exact ⟨k + 1, by omega, by go_num, HA9.out⟩
               case measure => simp [intOf]; omega
             · have e : k = nS := by omega
               subst e
               have HQ : Hid (AtR wr w.heap.size (.slice Ap np cp) (P3 ++ LS.map attrO) ∧ WB w GM pb ln wr) := Lib.hid (by
                have := HS.out
                rw [List.take_of_length_le (by rw [HNN.out.2.2.2.1]; exact Nat.le_refl _)] at this
                exact this)
               have HL4 : Hid ((P3 ++ LS.map attrO).length ≤ 210) := Lib.hid (by
                rw [List.length_append, List.length_map]
                have := HCN.out.2.2.2.1
                have := HLS3.out
                omega)
               obtain ⟨P4, hP4⟩ : ∃ P, P3 ++ LS.map attrO = P := ⟨_, rfl⟩
               rw [hP4] at HQ HL4 HF
               clear hP4 HS HLS3 HA3
               generalize wr = wd at *
               have k9 : wd.cell? ⟨N, 9, none⟩ = some (.slice AY nY kY) := HCE.out wd 9 (by rw [← HNW.out]; exact HQ.out.2.box)
               clear hlt hk'
               go_wp2
               go_loopw [213, 4, 14] (fun s213 s4 _ wr => ∃ k : Nat, k ≤ nY ∧ s213 = .int .i64 k ∧ (AtR wr w.heap.size s4 (P4 ++ (LY.take k).map attrY) ∧ WB w GM pb ln wr)) (fun s213 _ _ _ => nY - (intOf s213).toNat)
               case atStart => exact ⟨0, by omega, rfl, by simpa using HQ.out.1, HQ.out.2⟩
               case round => as_aux_lemma =>
                clear k9
                obtain ⟨k, hk', rfl, hst⟩ := hrel
                have HS := Lib.hid hst
                clear hst
                obtain ⟨Aq, nq, cq, hvq⟩ := HS.out.1.form
                subst hvq
                by_cases hlt : k < nY
                · as_aux_lemma =>
                  have hlt' : k < LY.length := by rw [HNN.out.2.2.2.2]; exact hlt
                  obtain ⟨ad, c', e1, had, c30, cj⟩ := HV.out.2.2.2.2.at_ hlt'
                  injection e1 with e1 e1n e1c
                  clear e1n e1c
                  subst e1
                  have HGX := Lib.hid (HGY.out _ (getD_mem hlt'))
                  have HTK : Hid ((LY.take (k + 1)).map attrY = (LY.take k).map attrY ++ [attrY (LY.getD k default)]) := Lib.hid (by rw [List.take_add_one, getD_of hlt']; simp)
                  obtain ⟨x, hx⟩ : ∃ x, LY.getD k default = x := ⟨_, rfl⟩
                  rw [hx] at c30 cj HGX HTK
                  have HJ := Lib.hid cj
                  have H30 := Lib.hid c30
                  have hk0 : (0 : Int) ≤ (k : Int) := by omega
                  have hk1 : (k : Int) < (nY : Int) := by omega
                  have HLK : Hid (∀ k, (P4 ++ (LY.take k).map attrY).length ≤ 1000000) := Lib.hid fun k => by
                   rw [List.length_append, List.length_map, List.length_take]
                   have := HCN.out.2.2.2.2
                   have := HL4.out
                   omega
                  have hxt : 1 ≤ x.tag ∧ x.tag ≤ 9 := by
                   have h := HGX.out
                   unfold goodY at h
                   simp only [Bool.and_eq_true, decide_eq_true_eq] at h
                   exact h
                  obtain ⟨hx1, hx2⟩ := hxt
                  have hdl := decI_len (n := x.tag) (by omega)
                  obtain ⟨dt, hdt⟩ : ∃ dt, bs (decI x.tag) = dt := ⟨_, rfl⟩
                  obtain ⟨dk, hdk⟩ : ∃ dt, bs (encK x.key) = dt := ⟨_, rfl⟩
                  obtain ⟨kx, hkx⟩ : ∃ kx, x.key = kx := ⟨_, rfl⟩
                  have hdkl : dk.size ≤ 40 := by rw [← hdk, bs_size, encK_len 10 _ H30.out]; exact Nat.le_refl _
                  have HIT : Hid (∀ W, WB w GM pb ln W → Calls Tryz.prog 73 #[.int .i64 x.tag] W fun e w' => e = .returned (.string dt) ∧ Below W.heap.size W w') := Lib.hid fun W hW => by
                   rw [← hdt]
                   exact rdigits_any x.tag W (by omega) (by omega)
                  have HWK : Hid (∀ W, WB w GM pb ln W → Calls Tryz.prog 77 #[.agg (keyC kx).toArray] W fun e w' => e = .returned (.string dk) ∧ Below W.heap.size W w') := Lib.hid fun W hW => by
                   rw [← hdk, hkx]
                   exact rbase64_any kx W (by rw [← hkx]; exact H30.out)
                  have HTX : Hid (attrY x = ⟨bs nCrypto, dt ++ ⟨#[32, 65, 69, 83, 95, 67, 77, 95, 49, 50, 56, 95, 72, 77, 65, 67, 95, 83, 72, 65, 49, 95, 56, 48, 32, 105, 110, 108, 105, 110, 101, 58]⟩ ++ dk⟩) := Lib.hid (by
                   unfold attrY
                   congr 1
                   exact (tx_inj (by rw [tx_append, tx_append, ← hdt, ← hdk, tx_bs, tx_bs, tx_bs]; simp [tx, cryptoT])).symm)
                  rw [hdt] at hdl
                  have HG9 : Hid (∀ W, WB w GM pb ln W → W.cell? ⟨N, 9, none⟩ = some (.slice (some ad) nY kY)) := Lib.hid fun W hW => HCE.out W 9 (by rw [← HNW.out]; exact hW.box)
                  have HC0 : Hid (∀ W, WB w GM pb ln W → ∀ j u, (cryC x)[j]? = some u → W.cell? ((ad.add (k * 31)).add j) = some u) := Lib.hid fun W hW j u hu => (HBC.out ((ad.add (k * 31)).add j) W (by rw [add_block, add_block]; exact had) hW).trans (HJ.out j u hu)
                  have HF1 : Hid (∀ W, WB w GM pb ln W → W.cell? (ad.add (k * 31)) = some (.int .i64 x.tag)) := Lib.hid fun W hW => HC0.out W hW 0 _ rfl
                  have HLD : Hid (∀ W, WB w GM pb ln W → ∀ j v, (keyC kx)[j]? = some v → W.cell? ((⟨(ad.add (k * 31)).block, (ad.add (k * 31)).off + 1, none⟩ : Addr).add j) = some v) := Lib.hid fun W hW j v hv => by
                   have e : (⟨(ad.add (k * 31)).block, (ad.add (k * 31)).off + 1, none⟩ : Addr).add j = (ad.add (k * 31)).add (j + 1) := by
                    have e2 := add_next (ad.add (k * 31)) 0 1 (by decide)
                    rw [show (ad.add (k * 31)).add 0 = ad.add (k * 31) from rfl, Nat.zero_add] at e2
                    rw [← e2, Go.Deep.add_add, Go.Deep.add_add, Go.Deep.add_add]
                    congr 1
                    omega
                   rw [e]
                   exact HC0.out W hW (j + 1) v (by unfold cryC; rw [List.getElem?_cons_succ, hkx]; exact hv)
                  have HK30 : Hid ((Tryz.prog.info? 86).map (·.size) = some (keyC kx).length) := Lib.hid (by
                   rw [Tryz.sizeKey]
                   unfold keyC
                   rw [List.length_map, ← hkx, H30.out])
                  clear hdt hdk hkx
                  have HO : Hid (AtR wr.drew w.heap.size (.slice Aq nq cq) (P4 ++ (LY.take k).map attrY)) := Lib.hid HS.out.1
                  have HR0 : Hid (WB w GM pb ln wr.drew) := Lib.hid HS.out.2.drew
                  have q1 : ¬ 9223372036854775807 < dt.size + 32 := by omega
                  have q2 : ¬ 9223372036854775807 < dt.size + 32 + dk.size := by omega
                  clear hx1 hx2 hdl hdkl hx had hlt' cj c30 HJ
                  go_upto_region 51 with fail
                  refine wp_region_held_drew (S := fun W => WB w GM pb ln W) (by kernel_rfl) HR0.out (fun hHeld => ?_)
                  refine wpAnyH_take (i := 0) (v := _) rfl (by as_aux_lemma => kernel_rfl) (by as_aux_lemma => kernel_rfl) (by as_aux_lemma => kernel_rfl) (fun _ _ _ h => h) (Or.inl ⟨by rfl, fun w h => by have e0 := HG9.out w h; have e1 := HF1.out w h; clear h; go_simp; (try with_reducible rfl)⟩) (by assumption) ?_
                  simp only [Act.put, La, Lb, Lc, Ld, Le, Lf]
                  refine wpAnyH_take (i := 1) (v := _) rfl (by as_aux_lemma => kernel_rfl) (by as_aux_lemma => kernel_rfl) (by as_aux_lemma => kernel_rfl) (fun _ _ _ h => h) (Or.inl ⟨by rfl, fun w h => by have e0 := HG9.out w h; have e1 := HF1.out w h; clear h; go_simp; (try with_reducible rfl)⟩) (by assumption) ?_
                  simp only [Act.put, La, Lb, Lc, Ld, Le, Lf]
                  refine wpAnyH_take (i := 2) (v := _) rfl (by as_aux_lemma => kernel_rfl) (by as_aux_lemma => kernel_rfl) (by as_aux_lemma => kernel_rfl) (fun _ _ _ h => h) (Or.inl ⟨by rfl, fun w h => by have e0 := HG9.out w h; have e1 := HF1.out w h; clear h; go_simp; (try with_reducible rfl)⟩) (by assumption) ?_
                  simp only [Act.put, La, Lb, Lc, Ld, Le, Lf]
                  refine wpAnyH_take (i := 3) (v := _) rfl (by as_aux_lemma => kernel_rfl) (by as_aux_lemma => kernel_rfl) (by as_aux_lemma => kernel_rfl) (fun _ _ _ h => h) (Or.inl ⟨by rfl, fun w h => by have e0 := HG9.out w h; have e1 := HF1.out w h; clear h; go_simp; (try with_reducible rfl)⟩) (by assumption) ?_
                  simp only [Act.put, La, Lb, Lc, Ld, Le, Lf]
                  refine wpAnyH_take (i := 4) (v := _) rfl (by as_aux_lemma => kernel_rfl) (by as_aux_lemma => kernel_rfl) (by as_aux_lemma => kernel_rfl) (fun _ _ _ h => h) (Or.inl ⟨by rfl, fun w h => by have e0 := HG9.out w h; have e1 := HF1.out w h; clear h; go_simp; (try with_reducible rfl)⟩) (by assumption) ?_
                  simp only [Act.put, La, Lb, Lc, Ld, Le, Lf]
                  refine wpAnyH_take (i := 5) (v := _) rfl (by as_aux_lemma => kernel_rfl) (by as_aux_lemma => kernel_rfl) (by as_aux_lemma => kernel_rfl) (fun _ _ _ h => h) (Or.inl ⟨by rfl, fun w h => by have e0 := HG9.out w h; have e1 := HF1.out w h; clear h; go_simp; (try with_reducible rfl)⟩) (by assumption) ?_
                  simp only [Act.put, La, Lb, Lc, Ld, Le, Lf]
                  refine wpAnyH_take (i := 6) (v := _) rfl (by as_aux_lemma => kernel_rfl) (by as_aux_lemma => kernel_rfl) (by as_aux_lemma => kernel_rfl) (fun _ _ _ h => h) (Or.inl ⟨by rfl, fun w h => by have e0 := HG9.out w h; have e1 := HF1.out w h; clear h; go_simp; (try with_reducible rfl)⟩) (by assumption) ?_
                  simp only [Act.put, La, Lb, Lc, Ld, Le, Lf]
                  refine wpAnyH_take (i := 9) (v := _) rfl (by as_aux_lemma => kernel_rfl) (by as_aux_lemma => kernel_rfl) (by as_aux_lemma => kernel_rfl) (fun _ _ _ h => h) (Or.inl ⟨by rfl, fun w h => by have e0 := HG9.out w h; have e1 := HF1.out w h; clear h; go_simp; (try with_reducible rfl)⟩) (by assumption) ?_
                  simp only [Act.put, La, Lb, Lc, Ld, Le, Lf]
                  refine wpAnyH_take (i := 10) (v := _) rfl (by as_aux_lemma => kernel_rfl) (by as_aux_lemma => kernel_rfl) (by as_aux_lemma => kernel_rfl) (fun _ _ _ h => h) (Or.inl ⟨by rfl, fun w h => by have e0 := HG9.out w h; have e1 := HF1.out w h; clear h; go_simp; (try with_reducible rfl)⟩) (by assumption) ?_
                  simp only [Act.put, La, Lb, Lc, Ld, Le, Lf]
                  refine wpAnyH_take (i := 11) (v := _) rfl (by as_aux_lemma => kernel_rfl) (by as_aux_lemma => kernel_rfl) (by as_aux_lemma => kernel_rfl) (fun _ _ _ h => h) (Or.inl ⟨by rfl, fun w h => by have e0 := HG9.out w h; have e1 := HF1.out w h; clear h; go_simp; (try with_reducible rfl)⟩) (by assumption) ?_
                  simp only [Act.put, La, Lb, Lc, Ld, Le, Lf]
                  refine wpAnyH_take (i := 12) (v := _) rfl (by as_aux_lemma => kernel_rfl) (by as_aux_lemma => kernel_rfl) (by as_aux_lemma => kernel_rfl) (fun _ _ _ h => h) (Or.inl ⟨by rfl, fun w h => by have e0 := HG9.out w h; have e1 := HF1.out w h; clear h; go_simp; (try with_reducible rfl)⟩) (by assumption) ?_
                  simp only [Act.put, La, Lb, Lc, Ld, Le, Lf]
                  refine wpAnyH_take (i := 13) (v := _) rfl (by as_aux_lemma => kernel_rfl) (by as_aux_lemma => kernel_rfl) (by as_aux_lemma => kernel_rfl) (fun _ _ _ h => h) (Or.inl ⟨by rfl, fun w h => by have e0 := HG9.out w h; have e1 := HF1.out w h; clear h; go_simp; (try with_reducible rfl)⟩) (by assumption) ?_
                  simp only [Act.put, La, Lb, Lc, Ld, Le, Lf]
                  refine wpAnyH_take (i := 14) (v := _) rfl (by as_aux_lemma => kernel_rfl) (by as_aux_lemma => kernel_rfl) (by as_aux_lemma => kernel_rfl) (fun _ _ _ h => h) (yieldsIf_load_at (by rfl) 86 (.tmp 229) rfl ⟨(ad.add (k * 31)).block, (ad.add (k * 31)).off + 1, none⟩ rfl (keyC kx) _ (fun w h => HLD.out w h) Tryz.underlying86 rfl HK30.out) (by assumption) ?_
                  simp only [Act.put, La, Lb, Lc, Ld, Le, Lf]
                  refine wpAnyH_ready (rs := [7]) (by as_aux_lemma => kernel_rfl) (by simp) ?_
                  refine AllReadyH.cons (i := 7) rfl (fun K hK => ?_) AllReadyH.nil
                  go_simp
                  refine (HIT.out _ hHeld).mono ?_
                  rintro e w4 ⟨rfl, hb4⟩
                  have HO4 := Lib.hid (And.intro (AtR.under HO.out hb4) (hHeld.under hb4))
                  refine hK.out _ _ (hHeld.under hb4) (fun hHeld4 => ?_)
                  clear hb4
                  clear hK K hHeld
                  have hHeld := hHeld4
                  clear hHeld4
                  refine wpAnyH_take (i := 8) (v := _) rfl (by as_aux_lemma => kernel_rfl) (by as_aux_lemma => kernel_rfl) (by as_aux_lemma => kernel_rfl) (fun _ _ _ h => h) (Or.inl ⟨by rfl, fun w h => by have e0 := HG9.out w h; have e1 := HF1.out w h; clear h; go_simp; (try with_reducible rfl)⟩) (by assumption) ?_
                  simp only [Act.put, La, Lb, Lc, Ld, Le, Lf]
                  refine wpAnyH_ready (rs := [15]) (by as_aux_lemma => kernel_rfl) (by simp) ?_
                  refine AllReadyH.cons (i := 15) rfl (fun K hK => ?_) AllReadyH.nil
                  go_simp
                  refine (HWK.out _ hHeld).mono ?_
                  rintro e w5 ⟨rfl, hb5⟩
                  have HO5 := Lib.hid (And.intro (AtR.under HO4.out.1 hb5) (hHeld.under hb5))
                  refine hK.out _ _ (hHeld.under hb5) (fun hHeld4 => ?_)
                  clear hb5
                  clear hK K hHeld
                  have hHeld := hHeld4
                  clear hHeld4
                  refine wpAnyH_take (i := 16) (v := _) rfl (by as_aux_lemma => kernel_rfl) (by as_aux_lemma => kernel_rfl) (by as_aux_lemma => kernel_rfl) (fun _ _ _ h => h) (Or.inl ⟨by rfl, fun w h => by have e0 := HG9.out w h; have e1 := HF1.out w h; clear h; go_simp; (try with_reducible rfl)⟩) (by assumption) ?_
                  simp only [Act.put, La, Lb, Lc, Ld, Le, Lf]
                  refine wpAnyH_take (i := 17) (v := _) rfl (by as_aux_lemma => kernel_rfl) (by as_aux_lemma => kernel_rfl) (by as_aux_lemma => kernel_rfl) (fun _ _ _ h => h) (Or.inl ⟨by rfl, fun w h => by have e0 := HG9.out w h; have e1 := HF1.out w h; clear h; go_simp; (try with_reducible rfl)⟩) (by assumption) ?_
                  simp only [Act.put, La, Lb, Lc, Ld, Le, Lf]
                  refine wpAnyH_ready (rs := [18]) (by as_aux_lemma => kernel_rfl) (by simp) ?_
                  refine AllReadyH.cons (i := 18) rfl (fun K hK => ?_) AllReadyH.nil
                  go_simp
                  refine hK.out _ _ (hHeld.alloc _) (fun hHeld4 => ?_)
                  clear hK K hHeld
                  have hHeld := hHeld4
                  clear hHeld4
                  refine wpAnyH_ready (rs := [19]) (by as_aux_lemma => kernel_rfl) (by simp) ?_
                  refine AllReadyH.cons (i := 19) rfl (fun K hK => ?_) AllReadyH.nil
                  refine step_of rfl (wp_addR (.tmp 216) (.tmp 234) rfl rfl rfl HO5.out.1 (HLK.out k) HO5.out.2.low.size ?_)
                  intro v9 w9 ho9 hg9
                  have HA9 : Hid (AtR w9 w.heap.size v9 (P4 ++ (LY.take (k + 1)).map attrY) ∧ WB w GM pb ln w9) := Lib.hid ⟨by rw [HTK.out, ← List.append_assoc, HTX.out]; exact ho9, HO5.out.2.add HO5.out.1 hg9⟩
                  refine hK.out _ _ (HO5.out.2.add HO5.out.1 hg9) (fun hHeld4 => ?_)
                  clear ho9 hg9
                  clear hK K hHeld
                  have hHeld := hHeld4
                  clear hHeld4
                  refine wpAnyH_take (i := 20) (v := _) rfl (by as_aux_lemma => kernel_rfl) (by as_aux_lemma => kernel_rfl) (by as_aux_lemma => kernel_rfl) (fun _ _ _ h => h) (Or.inl ⟨by rfl, fun w h => by have e0 := HG9.out w h; have e1 := HF1.out w h; clear h; go_simp; (try with_reducible rfl)⟩) (by assumption) ?_
                  simp only [Act.put, La, Lb, Lc, Ld, Le, Lf]
                  refine wpAnyH_done (by as_aux_lemma => kernel_rfl) ?_ _
                  clear hHeld q1 q2
                  go_wp2
                  go_roundw
                  case rel => exact ⟨k + 1, by omega, by go_num, HA9.out⟩
                  case measure => simp [intOf]; omega
                · have e : k = nY := by omega
                  subst e
                  have HQ : Hid (AtR wr w.heap.size (.slice Aq nq cq) (P4 ++ LY.map attrY) ∧ WB w GM pb ln wr) := Lib.hid (by
                   have := HS.out
                   rw [List.take_of_length_le (by rw [HNN.out.2.2.2.2]; exact Nat.le_refl _)] at this
                   exact this)
                  have HL5 : Hid ((P4 ++ LY.map attrY).length ≤ 220) := Lib.hid (by
                   rw [List.length_append, List.length_map]
                   have := HCN.out.2.2.2.2
                   have := HL4.out
                   omega)
                  obtain ⟨P5, hP5⟩ : ∃ P, P4 ++ LY.map attrY = P := ⟨_, rfl⟩
                  rw [hP5] at HQ HL5 HF
                  clear hP5 HS HL4
                  generalize wr = we at *
                  have k0 : we.cell? ⟨N, 0, none⟩ = some (.int .i64 kd) := HCE.out we 0 (by rw [← HNW.out]; exact HQ.out.2.box)
                  have k10 : we.cell? ⟨N, 10, none⟩ = some (.int .i64 sc) := HCE.out we 10 (by rw [← HNW.out]; exact HQ.out.2.box)
                  clear hlt hk'
                  go_upto_if 239 with fail
                  go_cut [4] (fun s4 wc => AtR wc w.heap.size s4 (P5 ++ TT) ∧ WB w GM pb ln wc)
                  case first =>
                   by_cases hk3 : kd = 3
                   · have HE : Hid (P5 ++ TT = P5 ++ [⟨bs nSctp, bs (decI sc)⟩]) := Lib.hid (by rw [← HTT.out, if_pos hk3])
                     have HIT : Hid (Calls Tryz.prog 73 #[.int .i64 sc] we fun e w' => e = .returned (.string (bs (decI sc))) ∧ Below we.heap.size we w') := Lib.hid (rdigits_any sc we HSC.out.1 (by have := HSC.out.2; omega))
                     subst hk3
                     go_wp2_with (first
                      | (go_at_call 73; (with_reducible refine HIT.out.mono ?_); rintro e w4 ⟨rfl, hb4⟩; have HA4 := Lib.hid (And.intro (HQ.out.1.under hb4) (HQ.out.2.under hb4)); clear hb4; dsimp only)
                      | (at_builtin; refine wpList_addR rfl (.tmp 240) (.tmp 245) rfl rfl rfl HA4.out.1 (by have := HL5.out; omega) HA4.out.2.low.size ?_; intro v9 w9 ho9 hg9; have HA9 := Lib.hid (And.intro ho9 (HA4.out.2.add HA4.out.1 hg9)); clear ho9 hg9))
                     go_meet
                     exact ⟨by rw [HE.out]; exact HA9.out.1, HA9.out.2⟩
                   · have HE : Hid (P5 ++ TT = P5) := Lib.hid (by rw [← HTT.out, if_neg hk3, List.append_nil])
                     go_wp2
                     go_meet
                     exact ⟨by rw [HE.out]; exact HQ.out.1, HQ.out.2⟩
                  case rest =>
                   have HA6 : Hid (AtR wc w.heap.size u4 T ∧ WB w GM pb ln wc) := Lib.hid ⟨by rw [HF.out]; exact hcut.1, hcut.2⟩
                   clear hcut k0 k10 HQ HL5
                   generalize wc = w6 at *
                   obtain ⟨Ar, nr, cr, hvr⟩ := HA6.out.1.form
                   subst hvr
                   have HP6 : Hid (Whole (w6.setCell ⟨pb, 2, none⟩ (.slice Ar nr cr)) pb 32 #[.string ln, .string connB, .slice Ar nr cr]) := Lib.hid (HA6.out.2.prt.set 2 _)
                   have HR6 : Hid (Whole (w6.setCell ⟨pb, 2, none⟩ (.slice Ar nr cr)) (N + 1) 32 zPart) := Lib.hid (by rw [← HNW.out]; exact HA6.out.2.res.far (p := ⟨pb, 2, none⟩) HA6.out.2.hne _)
                   have HO6 : Hid (AtR (w6.setCell ⟨pb, 2, none⟩ (.slice Ar nr cr)) w.heap.size (.slice Ar nr cr) T) := Lib.hid (AtR.line HA6.out.2 HA6.out.1 _ 2)
                   have HB6 : Hid (Below w.heap.size w (w6.setCell ⟨pb, 2, none⟩ (.slice Ar nr cr))) := Lib.hid (HA6.out.2.low.setCell (p := ⟨pb, 2, none⟩) HA6.out.2.hpb _)
                   have e2 : w6.cell? ⟨pb, 2, none⟩ = some (.slice none 0 0) := HA6.out.2.prt.cell 2
                   have q0 := HA6.out.2.prt.frz
                   go_upto_region 56 with fail
                   generalize w6.setCell ⟨pb, 2, none⟩ (.slice Ar nr cr) = w7 at *
                   clear e2 q0
                   have HR7 : Hid (Whole (w7.setRow (N + 1) #[.string ln, .string connB, .slice Ar nr cr]) (N + 1) 32 #[.string ln, .string connB, .slice Ar nr cr]) := Lib.hid (HR6.out.row _)
                   have HO7 : Hid (AtR (w7.setRow (N + 1) #[.string ln, .string connB, .slice Ar nr cr]) w.heap.size (.slice Ar nr cr) T) := Lib.hid (Own.farRow HO6.out (Own.apart HO6.out HR6.out (by decide)) _)
                   have HB7 : Hid (Below w.heap.size w (w7.setRow (N + 1) #[.string ln, .string connB, .slice Ar nr cr])) := Lib.hid (below_row HB6.out (by have := HNW.out; omega) _)
                   have HFIN : Hid (∃ s v, Ending.returned (.agg #[.string ln, .string connB, .slice Ar nr cr]) = .returned (.agg #[.string s, .string connB, v]) ∧ s = bs TL ∧ AtR (w7.setRow (N + 1) #[.string ln, .string connB, .slice Ar nr cr]) w.heap.size v T ∧ Below w.heap.size w (w7.setRow (N + 1) #[.string ln, .string connB, .slice Ar nr cr])) := Lib.hid ⟨_, _, rfl, tx_inj (by rw [HLT.out, tx_bs]), HO7.out, HB7.out⟩
                   go_wp2_with (first
                    | ((with_reducible refine wpList_load_all ?_ 32 (.tmp 3) ?_ HP6.out ?_ Tryz.sizeRsPart ?_ Tryz.underlying32 ?_ ?_); (with_reducible rfl); (with_reducible rfl); rfl; rfl; rfl)
                    | ((with_reducible refine wpList_storeS #[.string ln, .string connB, .slice Ar nr cr] ?_ 32 (.tmp 2) (.tmp 249) ?_ ?_ ?_ HR6.out Tryz.sizeRsPart ?_ ?_ ?_ ?_); (with_reducible rfl); (with_reducible rfl); rfl; rfl; rfl; rfl; rfl; generalize w7.setRow (N + 1) #[.string ln, .string connB, .slice Ar nr cr] = w8 at *)
                    | ((with_reducible show bodyPost _ _ _ _ _ _); exact bodyPost_ret (ret_struct rfl rfl HR7.out Tryz.underlying32 rfl Tryz.sizeRsPart rfl) rfl HFIN.out))
end Go.Proofs.YtbbedhecfipdjaaGreatDoor
