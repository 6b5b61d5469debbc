/- The program's line of a section. -/
import Derived.Test.YtmlapbadgjhhdaaGreatDoorAtRLeaf
namespace Go.Proofs.YtmlapbadgjhhdaaGreatDoor
open Go.RowKit
set_option linter.unusedVariables false
set_option linter.unusedSimpArgs false

theorem str_eq {a b : ByteArray} (h : tx a = tx b) : Ending.returned (.string a) = Ending.returned (.string b) := by rw [tx_inj h]
theorem tx_bytes (l : Tx) : tx ⟨l.toArray⟩ = l := tx_bs l
theorem kindW_nat {j : Nat} (h1 : 1 ≤ j) (h3 : j ≤ 3) : (if ((j : Nat) : Int) = 3 then wChannel else wStreams) = (if j = 3 then wChannel else wStreams) := by
  by_cases h : j = 3
  · subst h; rfl
  · rw [if_neg h, if_neg (by omega)]
theorem typesT_snoc (L : List CodecS) (k : Nat) (hk : k < L.length) : typesT (L.take (k + 1)) = typesT (L.take k) ++ 32 :: decI (L.getD k default).type := by
  unfold typesT
  rw [List.take_add_one, getD_of hk]
  simp
theorem dec_len : ∀ (k n : Nat), n < 10 ^ (k + 1) → (dec n).length ≤ k + 1
  | 0, n, h => by
    unfold dec
    rw [dif_pos (by omega)]
    simp
  | k + 1, n, h => by
    unfold dec
    split
    · simp
    · rw [List.length_append, List.length_singleton]
      have := dec_len k (n / 10) (by rw [Nat.pow_succ] at h; omega)
      omega
theorem decI_len {n : Int} (h : n ≤ 9223372036854775807) : (bs (decI n)).size ≤ 19 := by
  rw [bs_size]
  exact dec_len 18 _ (by rw [show (10 : Nat) ^ (18 + 1) = 10000000000000000000 by decide]; omega)
theorem kindW_len (k : Int) : (bs (kindW k)).size ≤ 11 := by
  rw [bs_size]
  unfold kindW
  split
  · decide
  · split <;> decide
set_option maxHeartbeats 6400000 in
set_option maxRecDepth 100000 in
theorem line_any (M : Array Value) (m : MediaS) (vC vE vR vS vY : Value) (w : World) (h : MediaV w w.heap.size M m vC vE vR vS vY) (hz : SizM m) (hE : Env w) (hk : 1 ≤ m.kind ∧ m.kind ≤ 3) (hp : 0 ≤ m.port ∧ m.port ≤ 9) (ht : ∀ c ∈ m.codecs, 0 ≤ c.type ∧ c.type ≤ 127) :
    Calls Tryz.prog 24 #[.agg M] w fun e w' => e = .returned (.string (bs (lineM m))) ∧ Below w.heap.size w w' := by
  obtain ⟨AC, kC, AE, kE, AR, kR, AS, kS, AY, kY, rfl, rfl, rfl, rfl, rfl⟩ := h.forms
  obtain ⟨hform, hvC, hvE, hvR, hvS, hvY⟩ := h
  subst hform
  obtain ⟨nC, hnC⟩ : ∃ n, m.codecs.length = n := ⟨_, rfl⟩
  obtain ⟨nE, hnE⟩ : ∃ n, m.exts.length = n := ⟨_, rfl⟩
  obtain ⟨nR, hnR⟩ : ∃ n, m.rids.length = n := ⟨_, rfl⟩
  obtain ⟨nS, hnS⟩ : ∃ n, m.sources.length = n := ⟨_, rfl⟩
  obtain ⟨nY, hnY⟩ : ∃ n, m.crypto.length = n := ⟨_, rfl⟩
  obtain ⟨hc1, hc2, hc3, hc4, hc5⟩ := hz.counts
  rw [hnC] at hvC hc1
  rw [hnE] at hvE hc2
  rw [hnR] at hvR hc3
  rw [hnS] at hvS hc4
  rw [hnY] at hvY hc5
  rw [hnC, hnE, hnR, hnS, hnY]
  have hb0 : Below w.heap.size w (w.alloc (.cells #[.int .i64 m.kind, .int .i64 m.port, .string m.mid, .int .i64 m.dir, .slice AC nC kC, .slice AE nE kE, .slice AR nR kR, .bool m.sending, .slice AS nS kS, .slice AY nY kY, .int .i64 m.sctp] 28)) := (Below.refl _ w).alloc (Nat.le_refl _) _
  have hw := Whole.new w 28 #[.int .i64 m.kind, .int .i64 m.port, .string m.mid, .int .i64 m.dir, .slice AC nC kC, .slice AE nE kE, .slice AR nR kR, .bool m.sending, .slice AS nS kS, .slice AY nY kY, .int .i64 m.sctp]
  have HV := Lib.hid (And.intro (hvC.below hb0) hnC)
  have HEN := Lib.hid (hE.under hb0)
  have HB := Lib.hid hb0
  have HBX := Lib.hid hw
  have HT := Lib.hid ht
  have c0 := hw.cell 0
  have c4 := hw.cell 4
  simp only [List.getElem?_toArray, List.getElem?_cons_zero, List.getElem?_cons_succ] at c0 c4
  obtain ⟨j, hj⟩ : ∃ j : Nat, m.kind = j := ⟨m.kind.toNat, by omega⟩
  have HLN : Hid (lineM m = kindW (j : Int) ++ 32 :: (decI m.port ++ 32 :: (if j = 3 then wChannel else wStreams ++ typesT m.codecs))) := Lib.hid (by
    unfold lineM
    rw [hj]
    congr 4
    by_cases h3 : j = 3
    · subst h3; rfl
    · rw [if_neg h3, if_neg (by omega)])
  simp only [hj] at hk c0 c4 HV HEN HB HBX ⊢
  rw [HLN.out]
  clear HLN hj
  generalize m.codecs = LC at *
  generalize m.port = p at *
  generalize m.mid = md at *
  generalize m.dir = d at *
  generalize m.sctp = sc at *
  generalize m.sending = sd at *
  clear hz hE ht hb0 hw hvC hvE hvR hvS hvY hnC hnE hnR hnS hnY
  obtain ⟨N, hN⟩ : ∃ N, w.heap.size = N := ⟨_, rfl⟩
  rw [hN] at c0 c4 HB HBX HV ⊢
  go_enter Tryz.func24, Tryz.ntmps24
  go_upto_region 1 with fail
  generalize w.alloc (.cells #[.int .i64 (j : Int), .int .i64 p, .string md, .int .i64 d, .slice AC nC kC, .slice AE nE kE, .slice AR nR kR, .bool sd, .slice AS nS kS, .slice AY nY kY, .int .i64 sc] 28) = W0 at *
  have HN : Hid (N ≤ W0.heap.size) := Lib.hid (Nat.le_of_lt HBX.out.lt)
  clear hN
  have hj0 : (0 : Int) ≤ (j : Int) := by omega
  have hj1 : (j : Int) < 4 := by omega
  have HG0 : Hid (∀ W, Below W0.heap.size W0 W → W.cell? ⟨N, 0, none⟩ = some (.int .i64 (j : Int))) := Lib.hid fun W hW => (HBX.out.under hW).cell 0
  have HG1 : Hid (∀ W, Below W0.heap.size W0 W → W.cell? ⟨N, 1, none⟩ = some (.int .i64 p)) := Lib.hid fun W hW => (HBX.out.under hW).cell 1
  have HGK : Hid (∀ W, Below W0.heap.size W0 W → W.cell? ⟨1, j, none⟩ = some (.string (bs (kindW j)))) := Lib.hid fun W hW => (HEN.out.under hW).kinds j (by omega) (by omega)
  have HIT : Hid (∀ W, Below W0.heap.size W0 W → Calls Tryz.prog 47 #[.int .i64 p] W fun e w' => e = .returned (.string (bs (decI p))) ∧ Below W.heap.size W w') := Lib.hid fun W hW => itoa_any p W (HEN.out.under hW) hp.1 (by omega)
  have HKB : Hid (∀ W W', Below W0.heap.size W0 W → Below W.heap.size W W' → Below W0.heap.size W0 W') := Lib.hid fun W W' h1 h2 => below_chain (Nat.le_refl _) h1 h2
  have HR0 : Hid (Below W0.heap.size W0 W0.drew) := Lib.hid (Below.refl _ _).drew
  have HTT : Hid (∀ a : ByteArray, tx a = kindW j ++ [32] ++ decI p ++ [32] → tx a = kindW j ++ 32 :: (decI p ++ [32])) := Lib.hid (fun a e => by rw [e]; simp)
  have hkl := kindW_len j
  have hpl := decI_len (n := p) (by omega)
  obtain ⟨kw, hkw⟩ : ∃ a, bs (kindW j) = a := ⟨_, rfl⟩
  obtain ⟨dp, hdp⟩ : ∃ a, bs (decI p) = a := ⟨_, rfl⟩
  rw [hkw] at hkl HGK
  rw [hdp] at hpl HIT
  have HKW : Hid (tx kw = tx (bs (kindW j))) := Lib.hid (by rw [hkw])
  have HDP : Hid (tx dp = tx (bs (decI p))) := Lib.hid (by rw [hdp])
  clear hkw hdp
  have hs1 : ¬ 9223372036854775807 < kw.size + 1 := by omega
  have hs2 : ¬ 9223372036854775807 < kw.size + 1 + dp.size := by omega
  have hs3 : ¬ 9223372036854775807 < kw.size + 1 + dp.size + 1 := by omega
  refine wp_region_held_drew (S := fun W => Below W0.heap.size W0 W) (by kernel_rfl) HR0.out (fun hHeld => ?_)
  refine wpAnyH_take (i := 0) (v := _) rfl (by as_aux_lemma => kernel_rfl) (by as_aux_lemma => kernel_rfl) (by as_aux_lemma => kernel_rfl) (fun _ _ _ h => h) (Or.inl ⟨by rfl, fun w h => by have e0 := HG0.out w h; have e1 := HG1.out w h; have e2 := HGK.out w h; clear h; go_simp; (try with_reducible rfl)⟩) (by assumption) ?_
  simp only [Act.put, List.getElem_toArray, List.getElem_cons_succ, List.getElem_cons_zero, List.setIfInBounds_toArray, List.set_cons_succ, List.set_cons_zero]
  refine wpAnyH_take (i := 1) (v := _) rfl (by as_aux_lemma => kernel_rfl) (by as_aux_lemma => kernel_rfl) (by as_aux_lemma => kernel_rfl) (fun _ _ _ h => h) (Or.inl ⟨by rfl, fun w h => by have e0 := HG0.out w h; have e1 := HG1.out w h; have e2 := HGK.out w h; clear h; go_simp; (try with_reducible rfl)⟩) (by assumption) ?_
  simp only [Act.put, List.getElem_toArray, List.getElem_cons_succ, List.getElem_cons_zero, List.setIfInBounds_toArray, List.set_cons_succ, List.set_cons_zero]
  refine wpAnyH_take (i := 2) (v := _) rfl (by as_aux_lemma => kernel_rfl) (by as_aux_lemma => kernel_rfl) (by as_aux_lemma => kernel_rfl) (fun _ _ _ h => h) (Or.inl ⟨by rfl, fun w h => by have e0 := HG0.out w h; have e1 := HG1.out w h; have e2 := HGK.out w h; clear h; go_simp; (try with_reducible rfl)⟩) (by assumption) ?_
  simp only [Act.put, List.getElem_toArray, List.getElem_cons_succ, List.getElem_cons_zero, List.setIfInBounds_toArray, List.set_cons_succ, List.set_cons_zero]
  refine wpAnyH_take (i := 3) (v := _) rfl (by as_aux_lemma => kernel_rfl) (by as_aux_lemma => kernel_rfl) (by as_aux_lemma => kernel_rfl) (fun _ _ _ h => h) (Or.inl ⟨by rfl, fun w h => by have e0 := HG0.out w h; have e1 := HG1.out w h; have e2 := HGK.out w h; clear h; go_simp; (try with_reducible rfl)⟩) (by assumption) ?_
  simp only [Act.put, List.getElem_toArray, List.getElem_cons_succ, List.getElem_cons_zero, List.setIfInBounds_toArray, List.set_cons_succ, List.set_cons_zero]
  refine wpAnyH_take (i := 4) (v := _) rfl (by as_aux_lemma => kernel_rfl) (by as_aux_lemma => kernel_rfl) (by as_aux_lemma => kernel_rfl) (fun _ _ _ h => h) (Or.inl ⟨by rfl, fun w h => by have e0 := HG0.out w h; have e1 := HG1.out w h; have e2 := HGK.out w h; clear h; go_simp; (try with_reducible rfl)⟩) (by assumption) ?_
  simp only [Act.put, List.getElem_toArray, List.getElem_cons_succ, List.getElem_cons_zero, List.setIfInBounds_toArray, List.set_cons_succ, List.set_cons_zero]
  refine wpAnyH_take (i := 5) (v := _) rfl (by as_aux_lemma => kernel_rfl) (by as_aux_lemma => kernel_rfl) (by as_aux_lemma => kernel_rfl) (fun _ _ _ h => h) (Or.inl ⟨by rfl, fun w h => by have e0 := HG0.out w h; have e1 := HG1.out w h; have e2 := HGK.out w h; clear h; go_simp; (try with_reducible rfl)⟩) (by assumption) ?_
  simp only [Act.put, List.getElem_toArray, List.getElem_cons_succ, List.getElem_cons_zero, List.setIfInBounds_toArray, List.set_cons_succ, List.set_cons_zero]
  refine wpAnyH_take (i := 6) (v := _) rfl (by as_aux_lemma => kernel_rfl) (by as_aux_lemma => kernel_rfl) (by as_aux_lemma => kernel_rfl) (fun _ _ _ h => h) (Or.inl ⟨by rfl, fun w h => by have e0 := HG0.out w h; have e1 := HG1.out w h; have e2 := HGK.out w h; clear h; go_simp; (try with_reducible rfl)⟩) (by assumption) ?_
  simp only [Act.put, List.getElem_toArray, List.getElem_cons_succ, List.getElem_cons_zero, List.setIfInBounds_toArray, List.set_cons_succ, List.set_cons_zero]
  refine wpAnyH_ready (rs := [7]) (by as_aux_lemma => kernel_rfl) (by simp) ?_
  refine AllReadyH.cons (i := 7) rfl (fun K hK => ?_) AllReadyH.nil
  go_simp
  refine (HIT.out _ hHeld).mono ?_
  rintro e w4 ⟨rfl, hb4⟩
  refine hK.out _ _ (HKB.out _ _ hHeld hb4) (fun hHeld4 => ?_)
  clear hK K hHeld
  have hHeld := hHeld4
  clear hHeld4
  refine wpAnyH_take (i := 8) (v := _) rfl (by as_aux_lemma => kernel_rfl) (by as_aux_lemma => kernel_rfl) (by as_aux_lemma => kernel_rfl) (fun _ _ _ h => h) (Or.inl ⟨by rfl, fun w h => by have e0 := HG0.out w h; have e1 := HG1.out w h; have e2 := HGK.out w h; clear h; go_simp; (try with_reducible rfl)⟩) (by assumption) ?_
  simp only [Act.put, List.getElem_toArray, List.getElem_cons_succ, List.getElem_cons_zero, List.setIfInBounds_toArray, List.set_cons_succ, List.set_cons_zero]
  refine wpAnyH_take (i := 9) (v := _) rfl (by as_aux_lemma => kernel_rfl) (by as_aux_lemma => kernel_rfl) (by as_aux_lemma => kernel_rfl) (fun _ _ _ h => h) (Or.inl ⟨by rfl, fun w h => by have e0 := HG0.out w h; have e1 := HG1.out w h; have e2 := HGK.out w h; clear h; go_simp; (try with_reducible rfl)⟩) (by assumption) ?_
  simp only [Act.put, List.getElem_toArray, List.getElem_cons_succ, List.getElem_cons_zero, List.setIfInBounds_toArray, List.set_cons_succ, List.set_cons_zero]
  refine wpAnyH_take (i := 10) (v := _) rfl (by as_aux_lemma => kernel_rfl) (by as_aux_lemma => kernel_rfl) (by as_aux_lemma => kernel_rfl) (fun _ _ _ h => h) (Or.inl ⟨by rfl, fun w h => by have e0 := HG0.out w h; have e1 := HG1.out w h; have e2 := HGK.out w h; clear h; go_simp; (try with_reducible rfl)⟩) (by assumption) ?_
  simp only [Act.put, List.getElem_toArray, List.getElem_cons_succ, List.getElem_cons_zero, List.setIfInBounds_toArray, List.set_cons_succ, List.set_cons_zero]
  refine wpAnyH_done (by as_aux_lemma => kernel_rfl) ?_ _
  have HH := Lib.hid hHeld
  clear hHeld HG1 HGK HIT
  have HS0 : Hid (tx (kw ++ ⟨#[32]⟩ ++ dp ++ ⟨#[32]⟩) = kindW j ++ 32 :: (decI p ++ [32])) := Lib.hid (HTT.out _ (by rw [tx_append, tx_append, tx_append, HKW.out, HDP.out, tx_bs, tx_bs]; rfl))
  have hs0 : (kw ++ ⟨#[32]⟩ ++ dp ++ ⟨#[32]⟩ : ByteArray).size ≤ 40 := by
    rw [← tx_length, HS0.out, List.length_append, List.length_cons, List.length_append]
    have h1 := HKW.out
    have h2 := HDP.out
    have e1 : (kindW j).length = kw.size := by rw [← tx_length, h1, tx_bs]
    have e2 : (decI p).length = dp.size := by rw [← tx_length, h2, tx_bs]
    rw [e1, e2]
    simp
    omega
  generalize (kw ++ ⟨#[32]⟩ ++ dp ++ ⟨#[32]⟩ : ByteArray) = s0 at *
  generalize w4 = w5 at *
  have c0' : w5.cell? ⟨N, 0, none⟩ = some (.int .i64 (j : Int)) := (HBX.out.under HH.out).cell 0
  by_cases h3 : j = 3
  · subst h3
    have hs4 : ¬ 9223372036854775807 < s0.size + 27 := by omega
    go_wp2
    go_ret
    refine ⟨str_eq ?_, HB.out.trans (HH.out.mono HN.out)⟩
    rw [tx_append, HS0.out, tx_bs]
    simp [tx]
  · have h3' : ((j : Int) == 3) = false := by rw [beq_eq_false_iff_ne]; omega
    have hs4 : ¬ 9223372036854775807 < s0.size + 9 := by omega
    have c4' : w5.cell? ⟨N, 4, none⟩ = some (.slice AC nC kC) := (HBX.out.under HH.out).cell 4
    have HLC : Hid (LC.length = nC) := Lib.hid HV.out.2
    go_wp2
    go_loopw [26, 3] (fun s26 s3 wr => ∃ (k : Nat) (acc : ByteArray), k ≤ nC ∧ s26 = .int .i64 k ∧ s3 = .string acc ∧ (tx acc = tx s0 ++ (wStreams ++ typesT (LC.take k)) ∧ acc.size ≤ 60 + 20 * k ∧ Below W0.heap.size W0 wr)) (fun s26 _ _ => nC - (intOf s26).toNat)
    case atStart => exact ⟨0, _, Nat.zero_le _, rfl, rfl, by rw [tx_append]; simp [tx, typesT], by rw [← tx_length, tx_append, List.length_append, tx_length]; simp [tx]; omega, HH.out⟩
    case round =>
      obtain ⟨k, acc, hk', rfl, rfl, hst⟩ := hrel
      have HS := Lib.hid hst
      clear hst
      have hacc : acc.size ≤ 60 + 20 * k := HS.out.2.1
      by_cases hlt : k < nC
      · have hlt' : k < LC.length := by rw [HLC.out]; exact hlt
        obtain ⟨ad, c', vf, e1, had, d0, d1, d2, d3, d4, d5, cf⟩ := (HV.out.1.below (HS.out.2.2.mono HN.out)).at_ hlt'
        injection e1 with e1 e1n e1c
        clear e1n e1c
        subst e1
        obtain ⟨Af, kf, hvf, -⟩ := Rows.form cf
        obtain ⟨lf, hlf⟩ : ∃ lf, (LC.getD k default).feedback.length = lf := ⟨_, rfl⟩
        rw [hlf] at hvf
        subst hvf
        clear hlf cf
        have HTY := HT.out _ (getD_mem hlt')
        have HTS : Hid (typesT (LC.take (k + 1)) = typesT (LC.take k) ++ 32 :: decI (LC.getD k default).type) := Lib.hid (typesT_snoc LC k hlt')
        obtain ⟨x, hx⟩ : ∃ x, LC.getD k default = x := ⟨_, rfl⟩
        rw [hx] at d0 d1 d2 d3 d4 HTY HTS
        have hk0 : (0 : Int) ≤ (k : Int) := by omega
        have hk1 : (k : Int) < (nC : Int) := by omega
        have hN0 : W0.heap.size ≤ wr.heap.size := HS.out.2.2.size
        have HNEW : Hid (Whole (wr.alloc (.cells #[.int .i64 0, .string ⟨#[]⟩, .int .i64 0, .int .i64 0, .string ⟨#[]⟩, .slice none 0 0] 58)) wr.heap.size 58 #[.int .i64 0, .string ⟨#[]⟩, .int .i64 0, .int .i64 0, .string ⟨#[]⟩, .slice none 0 0]) := Lib.hid (Whole.new _ _ _)
        have HW : Hid (Below W0.heap.size W0 ((wr.alloc (.cells #[.int .i64 0, .string ⟨#[]⟩, .int .i64 0, .int .i64 0, .string ⟨#[]⟩, .slice none 0 0] 58)).setRow wr.heap.size #[.int .i64 x.type, .string x.name, .int .i64 x.clock, .int .i64 x.chans, .string x.format, .slice Af lf kf]) ∧ Whole ((wr.alloc (.cells #[.int .i64 0, .string ⟨#[]⟩, .int .i64 0, .int .i64 0, .string ⟨#[]⟩, .slice none 0 0] 58)).setRow wr.heap.size #[.int .i64 x.type, .string x.name, .int .i64 x.clock, .int .i64 x.chans, .string x.format, .slice Af lf kf]) wr.heap.size 58 #[.int .i64 x.type, .string x.name, .int .i64 x.clock, .int .i64 x.chans, .string x.format, .slice Af lf kf]) := Lib.hid ⟨below_row (HS.out.2.2.alloc hN0 _) hN0 _, (Whole.new wr 58 #[.int .i64 0, .string ⟨#[]⟩, .int .i64 0, .int .i64 0, .string ⟨#[]⟩, .slice none 0 0]).row #[.int .i64 x.type, .string x.name, .int .i64 x.clock, .int .i64 x.chans, .string x.format, .slice Af lf kf]⟩
        clear hx had hlt' hN0
        go_upto_region 8 with ((with_reducible refine wpList_storeS #[.int .i64 x.type, .string x.name, .int .i64 x.clock, .int .i64 x.chans, .string x.format, .slice Af lf kf] ?_ 58 (.tmp 5) (.tmp 29) ?_ ?_ ?_ HNEW.out Tryz.sizeCodec ?_ ?_ ?_ ?_); (with_reducible rfl); (with_reducible rfl); rfl; rfl; rfl; rfl; rfl)
        generalize ((wr.alloc (.cells #[.int .i64 0, .string ⟨#[]⟩, .int .i64 0, .int .i64 0, .string ⟨#[]⟩, .slice none 0 0] 58)).setRow wr.heap.size #[.int .i64 x.type, .string x.name, .int .i64 x.clock, .int .i64 x.chans, .string x.format, .slice Af lf kf]) = w2 at *
        generalize wr.heap.size = g at *
        clear d0 d1 d2 d3 d4 d5 HNEW
        have g0 : w2.cell? ⟨g, 0, none⟩ = some (.int .i64 x.type) := HW.out.2.cell 0
        have HIT : Hid (Calls Tryz.prog 47 #[.int .i64 x.type] w2 fun e w' => e = .returned (.string (bs (decI x.type))) ∧ Below w2.heap.size w2 w') := Lib.hid (itoa_any x.type w2 (HEN.out.under HW.out.1) HTY.1 (by omega))
        have hdl := decI_len (n := x.type) (by omega)
        obtain ⟨dt, hdt⟩ : ∃ dt, bs (decI x.type) = dt := ⟨_, rfl⟩
        rw [hdt] at HIT hdl
        have HDT := Lib.hid hdt
        clear hdt
        have q1 : ¬ 9223372036854775807 < 1 + dt.size := by omega
        have q2 : ¬ 9223372036854775807 < acc.size + (1 + dt.size) := by omega
        go_wp2_with (go_at_call 47; (with_reducible refine HIT.out.mono ?_); rintro e w3 ⟨rfl, hb3⟩)
        go_roundw
        case rel =>
          refine ⟨k + 1, _, by omega, by go_num, rfl, ?_, ?_, HW.out.1.trans (hb3.mono HW.out.1.size)⟩
          · rw [tx_append, tx_append, HS.out.1, HTS.out, ← HDT.out, tx_bs]
            simp [tx]
          · rw [← tx_length, tx_append, tx_append, List.length_append, List.length_append, tx_length, tx_length, tx_length]
            show acc.size + (1 + dt.size) ≤ _
            omega
        case measure => simp [intOf]; omega
      · have e : k = nC := by omega
        subst e
        have HQ : Hid (tx acc = tx s0 ++ (wStreams ++ typesT LC)) := Lib.hid (by rw [HS.out.1, List.take_of_length_le (by rw [HLC.out]; exact Nat.le_refl _)])
        go_wp2
        go_ret
        refine ⟨str_eq ?_, HB.out.trans (HS.out.2.2.mono HN.out)⟩
        rw [HQ.out, HS0.out, tx_bs]
        simp
end Go.Proofs.YtmlapbadgjhhdaaGreatDoor
