import Derived.Test.YtlekmakofkpcdaaGreatDoorPkAttrReadsA09
namespace Go.Proofs.YtlekmakofkpcdaaGreatDoor
open Go.RowKit
set_option linter.unusedVariables false
set_option linter.unusedSimpArgs false
theorem value_most (l : Tx) (m : Nat) (hm : m ≤ 200) : (l.all inVal && (decide (1 ≤ l.length) && decide ((l.length : Int) ≤ (m : Int)))) = (valP l && decide (l.length ≤ m)) := by
 unfold valP
 rw [Bool.eq_iff_iff]
 simp only [Bool.and_eq_true, decide_eq_true_eq]
 constructor
 · rintro ⟨h1, h2, h3⟩
   exact ⟨⟨h1, h2, by omega⟩, by omega⟩
 · rintro ⟨⟨h1, h2, h3⟩, h4⟩
   exact ⟨h1, h2, by omega⟩
theorem head_at (s : ByteArray) (h : 0 < s.size) : ((tx s).head? == some 32) = (((s[0]'h).toNat : Int) == 32) := by
 have hl : 0 < (tx s).length := by rw [tx_length]; exact h
 have e : (tx s).head? = some (s[0]'h) := by
  rw [List.head?_eq_getElem?]
  exact List.getElem?_eq_getElem hl
 rw [e, Bool.eq_iff_iff]
 simp only [beq_iff_eq, Option.some.injEq, ← UInt8.toNat_inj]
 rw [show (32 : UInt8).toNat = 32 from rfl]
 omega
theorem last_at (s : ByteArray) (h : s.size - 1 < s.size) : ((tx s).getLast? == some 32) = (((s[s.size - 1]'h).toNat : Int) == 32) := by
 have hl : s.size - 1 < (tx s).length := by rw [tx_length]; exact h
 have e : (tx s).getLast? = some (s[s.size - 1]'h) := by
  rw [List.getLast?_eq_getElem?, tx_length]
  exact List.getElem?_eq_getElem hl
 rw [e, Bool.eq_iff_iff]
 simp only [beq_iff_eq, Option.some.injEq, ← UInt8.toNat_inj]
 rw [show (32 : UInt8).toNat = 32 from rfl]
 omega
set_option maxHeartbeats 1600000 in
theorem rplain_any (s : ByteArray) (w : World) (hs : s.size ≤ maxLen) : Calls Tryz.prog 136 #[.string s, .int .i64 100] w fun e w' => e = .returned (.bool (plainP (tx s))) ∧ w = w' := by
 have HV : Hid (Calls Tryz.prog 93 #[.string s, .int .i64 100] w fun e w' => e = .returned (.bool (valP (tx s) && decide ((tx s).length ≤ 100))) ∧ w = w') := Lib.hid (by
  have := r6Value_any s 100 w hs
  have e := value_most (tx s) 100 (by decide)
  rw [tx_length] at e
  rw [show ((100 : Nat) : Int) = 100 from rfl] at e
  rw [e, ← tx_length] at this
  exact this)
 unfold maxLen at hs
 have HE : Hid (plainP (tx s) = ((valP (tx s) && decide ((tx s).length ≤ 100)) && (!((tx s).head? == some 32) && !((tx s).getLast? == some 32)))) := Lib.hid (by
  unfold plainP
  simp only [Bool.and_assoc])
 have HP : Hid ((valP (tx s) && decide ((tx s).length ≤ 100)) = true → 1 ≤ s.size) := Lib.hid (fun h => by
  simp only [Bool.and_eq_true] at h
  have := (valP_len h.1).1
  rwa [tx_length] at this)
 generalize (valP (tx s) && decide ((tx s).length ≤ 100)) = v at *
 cases v with
 | false =>
   have HR : Hid (false = plainP (tx s)) := Lib.hid (by rw [HE.out]; rfl)
   generalize plainP (tx s) = r at *
   go_enter Tryz.func136, Tryz.ntmps136
   go_wp2_with (go_at_call 93; (with_reducible refine HV.out.mono ?_); rintro e w' ⟨rfl, rfl⟩)
   go_ret
   exact ⟨ret_bool HR.out, rfl⟩
 | true =>
   have h1 : 1 ≤ s.size := HP.out rfl
   have h0 : 0 < s.size := by omega
   have hl : s.size - 1 < s.size := by omega
   have e1 : IntKind.i64.wrap ((s.size : Int) - 1) = ((s.size - 1 : Nat) : Int) := (IntWalk.i64_in _ (by omega)).trans (by omega)
   have hi0 : ((s.size - 1 : Nat) : Int) < (s.size : Int) := by omega
   have hi1 : (0 : Int) ≤ ((s.size - 1 : Nat) : Int) := by omega
   have hi2 : (0 : Int) < (s.size : Int) := by omega
   have hE := HE.out
   rw [head_at s h0, last_at s hl] at hE
   have HZ : Hid ((((s[0]'h0).toNat : Int) != 32 && ((s[s.size - 1]'hl).toNat : Int) != 32) = plainP (tx s)) := Lib.hid (by rw [hE]; rfl)
   clear hE HE HP
   generalize plainP (tx s) = r at *
   go_enter Tryz.func136, Tryz.ntmps136
   go_wp2_with (go_at_call 93; (with_reducible refine HV.out.mono ?_); rintro e w' ⟨rfl, rfl⟩)
   all_goals first
    | (go_ret; exact ⟨ret_bool HZ.out, rfl⟩)
    | (have hz := HZ.out; go_ret; exact ⟨ret_bool (by simp_all), rfl⟩)
set_option maxHeartbeats 1600000 in
theorem ruri_any (s : ByteArray) (w : World) (hs : s.size ≤ maxLen) : Calls Tryz.prog 74 #[.string s] w fun e w' => e = .returned (.bool (uriP (tx s))) ∧ w = w' := by
 have HV : Hid (Calls Tryz.prog 93 #[.string s, .int .i64 100] w fun e w' => e = .returned (.bool (valP (tx s) && decide ((tx s).length ≤ 100))) ∧ w = w') := Lib.hid (by
  have := r6Value_any s 100 w hs
  have e := value_most (tx s) 100 (by decide)
  rw [tx_length] at e
  rw [show ((100 : Nat) : Int) = 100 from rfl] at e
  rw [e, ← tx_length] at this
  exact this)
 unfold maxLen at hs
 have HE : Hid (uriP (tx s) = ((valP (tx s) && decide ((tx s).length ≤ 100)) && (tx s).all (fun c => c != 32))) := Lib.hid rfl
 have HT : Hid (∀ k, s.size ≤ k → (tx s).take k = tx s) := Lib.hid fun k hk => List.take_of_length_le (by rw [tx_length]; exact hk)
 have HBD : Hid (∀ c ∈ tx s, c.toNat < 33 → uriP (tx s) = false) := Lib.hid (fun c hc h33 => by
  rw [HE.out, Bool.eq_false_iff]
  intro h
  simp only [Bool.and_eq_true, List.all_eq_true, bne_iff_ne, decide_eq_true_eq] at h
  have h1 := valP_in h.1.1 c hc
  have h2 := h.2 c hc
  unfold inVal at h1
  simp only [Bool.and_eq_true, decide_eq_true_eq] at h1
  apply h2
  rw [← UInt8.toNat_inj]
  show c.toNat = 32
  omega)
 generalize (valP (tx s) && decide ((tx s).length ≤ 100)) = v at *
 generalize uriP (tx s) = r at *
 go_enter Tryz.func74, Tryz.ntmps74
 go_wp2
 go_loop [3] (fun i => ∃ k : Nat, k ≤ s.size ∧ i = .int .i64 k ∧ ((tx s).take k).all (fun c => c != 32) = true) (fun i => s.size - (intOf i).toNat)
 case atStart => exact ⟨0, Nat.zero_le _, rfl, rfl⟩
 case round =>
  obtain ⟨k, hk, rfl, hall⟩ := hrel
  have HA := Lib.hid hall
  clear hall
  by_cases hlt : k < s.size
  · have HN : Hid ((tx s).take (k + 1) = (tx s).take k ++ [s[k]]) := Lib.hid (by
     have hk' : k < (tx s).length := by rw [tx_length]; exact hlt
     rw [List.take_succ_eq_append_getElem hk']
     rfl)
    have HM : Hid (s[k] ∈ tx s) := Lib.hid (by
     have hk' : k < (tx s).length := by rw [tx_length]; exact hlt
     exact List.getElem_mem (l := tx s) hk')
    have hb := (s[k]).toNat_lt
    by_cases h1 : ((s[k]).toNat : Int) < 33
    · have HQ : Hid (r = false) := Lib.hid (HBD.out _ HM.out (by omega))
      go_wp2
      go_ret
      exact ⟨ret_bool HQ.out.symm, rfl⟩
    · have HV2 : Hid ((s[k] != 32) = true) := Lib.hid (by
       rw [bne_iff_ne]
       intro e
       apply h1
       rw [e]
       decide)
      have h1 : (33 : Int) ≤ ((s[k]).toNat : Int) := by omega
      go_wp2
      go_round
      case rel => exact ⟨k + 1, by omega, by go_num, by rw [HN.out, List.all_append, HA.out]; simp; simpa using HV2.out⟩
      case measure => simp [intOf]; omega
  · have HQ : Hid (v = r) := Lib.hid (by
     have := HA.out
     rw [HT.out k (by omega)] at this
     rw [HE.out, this, Bool.and_true])
    go_wp2_with (go_at_call 93; (with_reducible refine HV.out.mono ?_); rintro e w' ⟨rfl, rfl⟩)
    go_ret
    exact ⟨ret_bool HQ.out, rfl⟩
theorem str_eq {a b : ByteArray} (h : tx a = tx b) : Ending.returned (.string a) = Ending.returned (.string b) := by rw [tx_inj h]
theorem typesT_snoc (L : List CodecS) (k : Nat) (hk : k < L.length) : typesT (L.take (k + 1)) = typesT (L.take k) ++ 32 :: decI (L.getD k default).type := by
 unfold typesT
 rw [List.take_add_one, getD_of hk]
 simp
theorem dec_len : ∀ (k n : Nat), n < 10 ^ (k + 1) → (dec n).length ≤ k + 1
 | 0, n, h => by
   unfold dec
   rw [dif_pos (by omega)]
   simp
 | k + 1, n, h => by
   unfold dec
   split
   · simp
   · rw [List.length_append, List.length_singleton]
     have := dec_len k (n / 10) (by rw [Nat.pow_succ] at h; omega)
     omega
theorem decI_len {n : Int} (h : n ≤ 9223372036854775807) : (bs (decI n)).size ≤ 19 := by
 rw [bs_size]
 exact dec_len 18 _ (by rw [show (10 : Nat) ^ (18 + 1) = 10000000000000000000 by decide]; omega)
theorem kindW_len (k : Int) : (bs (kindW k)).size ≤ 11 := by
 rw [bs_size]
 unfold kindW
 split
 · decide
 · split <;> decide
set_option maxHeartbeats 6400000 in
set_option maxRecDepth 100000 in
theorem line_any (M : Array Value) (m : MediaS) (vC vE vR vS vY : Value) (w : World) (h : MediaV w w.heap.size M m vC vE vR vS vY) (hz : SizM m) (hE : Env w) (hk : 1 ≤ m.kind ∧ m.kind ≤ 3) (hp : 0 ≤ m.port ∧ m.port ≤ 9) (ht : ∀ c ∈ m.codecs, 0 ≤ c.type ∧ c.type ≤ 127) :
 Calls Tryz.prog 45 #[.agg M] w fun e w' => e = .returned (.string (bs (lineM m))) ∧ Below w.heap.size w w' := by
 obtain ⟨AC, kC, AE, kE, AR, kR, AS, kS, AY, kY, rfl, rfl, rfl, rfl, rfl⟩ := h.forms
 obtain ⟨hform, hvC, hvE, hvR, hvS, hvY⟩ := h
 subst hform
 obtain ⟨nC, hnC⟩ : ∃ n, m.codecs.length = n := ⟨_, rfl⟩
 obtain ⟨nE, hnE⟩ : ∃ n, m.exts.length = n := ⟨_, rfl⟩
 obtain ⟨nR, hnR⟩ : ∃ n, m.rids.length = n := ⟨_, rfl⟩
 obtain ⟨nS, hnS⟩ : ∃ n, m.sources.length = n := ⟨_, rfl⟩
 obtain ⟨nY, hnY⟩ : ∃ n, m.crypto.length = n := ⟨_, rfl⟩
 obtain ⟨hc1, hc2, hc3, hc4, hc5⟩ := hz.counts
 rw [hnC] at hvC hc1
 rw [hnE] at hvE hc2
 rw [hnR] at hvR hc3
 rw [hnS] at hvS hc4
 rw [hnY] at hvY hc5
 rw [hnC, hnE, hnR, hnS, hnY]
 have hb0 : Below w.heap.size w (w.alloc (.cells #[.int .i64 m.kind, .int .i64 m.port, .string m.mid, .int .i64 m.dir, .slice AC nC kC, .slice AE nE kE, .slice AR nR kR, .bool m.sending, .slice AS nS kS, .slice AY nY kY, .int .i64 m.sctp] 32)) := (Below.refl _ w).alloc (Nat.le_refl _) _
 have hw := Whole.new w 32 #[.int .i64 m.kind, .int .i64 m.port, .string m.mid, .int .i64 m.dir, .slice AC nC kC, .slice AE nE kE, .slice AR nR kR, .bool m.sending, .slice AS nS kS, .slice AY nY kY, .int .i64 m.sctp]
 have HV := Lib.hid (And.intro (hvC.below hb0) hnC)
 have HEN := Lib.hid (hE.under hb0)
 have HB := Lib.hid hb0
 have HBX := Lib.hid hw
 have HT := Lib.hid ht
 have c0 := hw.cell 0
 have c4 := hw.cell 4
 simp only [List.getElem?_toArray, List.getElem?_cons_zero, List.getElem?_cons_succ] at c0 c4
 obtain ⟨j, hj⟩ : ∃ j : Nat, m.kind = j := ⟨m.kind.toNat, by omega⟩
 have HLN : Hid (lineM m = kindW (j : Int) ++ 32 :: (decI m.port ++ 32 :: (if j = 3 then wChannel else wStreams ++ typesT m.codecs))) := Lib.hid (by
  unfold lineM
  rw [hj]
  congr 4
  by_cases h3 : j = 3
  · subst h3; rfl
  · rw [if_neg h3, if_neg (by omega)])
 simp only [hj] at hk c0 c4 HV HEN HB HBX ⊢
 rw [HLN.out]
 clear HLN hj
 generalize m.codecs = LC at *
 generalize m.port = p at *
 generalize m.mid = md at *
 generalize m.dir = d at *
 generalize m.sctp = sc at *
 generalize m.sending = sd at *
 clear hz hE ht hb0 hw hvC hvE hvR hvS hvY hnC hnE hnR hnS hnY
 obtain ⟨N, hN⟩ : ∃ N, w.heap.size = N := ⟨_, rfl⟩
 rw [hN] at c0 c4 HB HBX HV ⊢
 go_enter Tryz.func45, Tryz.ntmps45
 go_upto_region 1 with fail
 generalize w.alloc (.cells #[.int .i64 (j : Int), .int .i64 p, .string md, .int .i64 d, .slice AC nC kC, .slice AE nE kE, .slice AR nR kR, .bool sd, .slice AS nS kS, .slice AY nY kY, .int .i64 sc] 32) = W0 at *
 have HN : Hid (N ≤ W0.heap.size) := Lib.hid (Nat.le_of_lt HBX.out.lt)
 clear hN
 have hj0 : (0 : Int) ≤ (j : Int) := by omega
 have hj1 : (j : Int) < 4 := by omega
 have HG0 : Hid (∀ W, Below W0.heap.size W0 W → W.cell? ⟨N, 0, none⟩ = some (.int .i64 (j : Int))) := Lib.hid fun W hW => (HBX.out.under hW).cell 0
 have HG1 : Hid (∀ W, Below W0.heap.size W0 W → W.cell? ⟨N, 1, none⟩ = some (.int .i64 p)) := Lib.hid fun W hW => (HBX.out.under hW).cell 1
 have HGK : Hid (∀ W, Below W0.heap.size W0 W → W.cell? ⟨0, j, none⟩ = some (.string (bs (kindW j)))) := Lib.hid fun W hW => (HEN.out.under hW).kinds j (by omega) (by omega)
 have HIT : Hid (∀ W, Below W0.heap.size W0 W → Calls Tryz.prog 80 #[.int .i64 p] W fun e w' => e = .returned (.string (bs (decI p))) ∧ Below W.heap.size W w') := Lib.hid fun W hW => itoa_any p W (HEN.out.under hW) hp.1 (by omega)
 have HKB : Hid (∀ W W', Below W0.heap.size W0 W → Below W.heap.size W W' → Below W0.heap.size W0 W') := Lib.hid fun W W' h1 h2 => below_chain (Nat.le_refl _) h1 h2
 have HR0 : Hid (Below W0.heap.size W0 W0.drew) := Lib.hid (Below.refl _ _).drew
 have HTT : Hid (∀ a : ByteArray, tx a = kindW j ++ [32] ++ decI p ++ [32] → tx a = kindW j ++ 32 :: (decI p ++ [32])) := Lib.hid (fun a e => by rw [e]; simp)
 have hkl := kindW_len j
 have hpl := decI_len (n := p) (by omega)
 obtain ⟨kw, hkw⟩ : ∃ a, bs (kindW j) = a := ⟨_, rfl⟩
 obtain ⟨dp, hdp⟩ : ∃ a, bs (decI p) = a := ⟨_, rfl⟩
 rw [hkw] at hkl HGK
 rw [hdp] at hpl HIT
 have HKW : Hid (tx kw = tx (bs (kindW j))) := Lib.hid (by rw [hkw])
 have HDP : Hid (tx dp = tx (bs (decI p))) := Lib.hid (by rw [hdp])
 clear hkw hdp
 have hs1 : ¬ 9223372036854775807 < kw.size + 1 := by omega
 have hs2 : ¬ 9223372036854775807 < kw.size + 1 + dp.size := by omega
 have hs3 : ¬ 9223372036854775807 < kw.size + 1 + dp.size + 1 := by omega
 refine wp_region_held_drew (S := fun W => Below W0.heap.size W0 W) (by kernel_rfl) HR0.out (fun hHeld => ?_)
 refine wpAnyH_take (i := 0) (v := _) rfl (by as_aux_lemma => kernel_rfl) (by as_aux_lemma => kernel_rfl) (by as_aux_lemma => kernel_rfl) (fun _ _ _ h => h) (Or.inl ⟨by rfl, fun w h => by have e0 := HG0.out w h; have e1 := HG1.out w h; have e2 := HGK.out w h; clear h; go_simp; (try with_reducible rfl)⟩) (by assumption) ?_
 simp only [Act.put, List.getElem_toArray, List.getElem_cons_succ, List.getElem_cons_zero, List.setIfInBounds_toArray, List.set_cons_succ, List.set_cons_zero]
 refine wpAnyH_take (i := 1) (v := _) rfl (by as_aux_lemma => kernel_rfl) (by as_aux_lemma => kernel_rfl) (by as_aux_lemma => kernel_rfl) (fun _ _ _ h => h) (Or.inl ⟨by rfl, fun w h => by have e0 := HG0.out w h; have e1 := HG1.out w h; have e2 := HGK.out w h; clear h; go_simp; (try with_reducible rfl)⟩) (by assumption) ?_
 simp only [Act.put, List.getElem_toArray, List.getElem_cons_succ, List.getElem_cons_zero, List.setIfInBounds_toArray, List.set_cons_succ, List.set_cons_zero]
 refine wpAnyH_take (i := 2) (v := _) rfl (by as_aux_lemma => kernel_rfl) (by as_aux_lemma => kernel_rfl) (by as_aux_lemma => kernel_rfl) (fun _ _ _ h => h) (Or.inl ⟨by rfl, fun w h => by have e0 := HG0.out w h; have e1 := HG1.out w h; have e2 := HGK.out w h; clear h; go_simp; (try with_reducible rfl)⟩) (by assumption) ?_
 simp only [Act.put, List.getElem_toArray, List.getElem_cons_succ, List.getElem_cons_zero, List.setIfInBounds_toArray, List.set_cons_succ, List.set_cons_zero]
 refine wpAnyH_take (i := 3) (v := _) rfl (by as_aux_lemma => kernel_rfl) (by as_aux_lemma => kernel_rfl) (by as_aux_lemma => kernel_rfl) (fun _ _ _ h => h) (Or.inl ⟨by rfl, fun w h => by have e0 := HG0.out w h; have e1 := HG1.out w h; have e2 := HGK.out w h; clear h; go_simp; (try with_reducible rfl)⟩) (by assumption) ?_
 simp only [Act.put, List.getElem_toArray, List.getElem_cons_succ, List.getElem_cons_zero, List.setIfInBounds_toArray, List.set_cons_succ, List.set_cons_zero]
 refine wpAnyH_take (i := 4) (v := _) rfl (by as_aux_lemma => kernel_rfl) (by as_aux_lemma => kernel_rfl) (by as_aux_lemma => kernel_rfl) (fun _ _ _ h => h) (Or.inl ⟨by rfl, fun w h => by have e0 := HG0.out w h; have e1 := HG1.out w h; have e2 := HGK.out w h; clear h; go_simp; (try with_reducible rfl)⟩) (by assumption) ?_
 simp only [Act.put, List.getElem_toArray, List.getElem_cons_succ, List.getElem_cons_zero, List.setIfInBounds_toArray, List.set_cons_succ, List.set_cons_zero]
 refine wpAnyH_take (i := 5) (v := _) rfl (by as_aux_lemma => kernel_rfl) (by as_aux_lemma => kernel_rfl) (by as_aux_lemma => kernel_rfl) (fun _ _ _ h => h) (Or.inl ⟨by rfl, fun w h => by have e0 := HG0.out w h; have e1 := HG1.out w h; have e2 := HGK.out w h; clear h; go_simp; (try with_reducible rfl)⟩) (by assumption) ?_
 simp only [Act.put, List.getElem_toArray, List.getElem_cons_succ, List.getElem_cons_zero, List.setIfInBounds_toArray, List.set_cons_succ, List.set_cons_zero]
 refine wpAnyH_take (i := 6) (v := _) rfl (by as_aux_lemma => kernel_rfl) (by as_aux_lemma => kernel_rfl) (by as_aux_lemma => kernel_rfl) (fun _ _ _ h => h) (Or.inl ⟨by rfl, fun w h => by have e0 := HG0.out w h; have e1 := HG1.out w h; have e2 := HGK.out w h; clear h; go_simp; (try with_reducible rfl)⟩) (by assumption) ?_
 simp only [Act.put, List.getElem_toArray, List.getElem_cons_succ, List.getElem_cons_zero, List.setIfInBounds_toArray, List.set_cons_succ, List.set_cons_zero]
 refine wpAnyH_ready (rs := [7]) (by as_aux_lemma => kernel_rfl) (by simp) ?_
 refine AllReadyH.cons (i := 7) rfl (fun K hK => ?_) AllReadyH.nil
 go_simp
 refine (HIT.out _ hHeld).mono ?_
 rintro e w4 ⟨rfl, hb4⟩
 refine hK.out _ _ (HKB.out _ _ hHeld hb4) (fun hHeld4 => ?_)
 clear hK K hHeld
 have hHeld := hHeld4
 clear hHeld4
 refine wpAnyH_take (i := 8) (v := _) rfl (by as_aux_lemma => kernel_rfl) (by as_aux_lemma => kernel_rfl) (by as_aux_lemma => kernel_rfl) (fun _ _ _ h => h) (Or.inl ⟨by rfl, fun w h => by have e0 := HG0.out w h; have e1 := HG1.out w h; have e2 := HGK.out w h; clear h; go_simp; (try with_reducible rfl)⟩) (by assumption) ?_
 simp only [Act.put, List.getElem_toArray, List.getElem_cons_succ, List.getElem_cons_zero, List.setIfInBounds_toArray, List.set_cons_succ, List.set_cons_zero]
 refine wpAnyH_take (i := 9) (v := _) rfl (by as_aux_lemma => kernel_rfl) (by as_aux_lemma => kernel_rfl) (by as_aux_lemma => kernel_rfl) (fun _ _ _ h => h) (Or.inl ⟨by rfl, fun w h => by have e0 := HG0.out w h; have e1 := HG1.out w h; have e2 := HGK.out w h; clear h; go_simp; (try with_reducible rfl)⟩) (by assumption) ?_
 simp only [Act.put, List.getElem_toArray, List.getElem_cons_succ, List.getElem_cons_zero, List.setIfInBounds_toArray, List.set_cons_succ, List.set_cons_zero]
 refine wpAnyH_take (i := 10) (v := _) rfl (by as_aux_lemma => kernel_rfl) (by as_aux_lemma => kernel_rfl) (by as_aux_lemma => kernel_rfl) (fun _ _ _ h => h) (Or.inl ⟨by rfl, fun w h => by have e0 := HG0.out w h; have e1 := HG1.out w h; have e2 := HGK.out w h; clear h; go_simp; (try with_reducible rfl)⟩) (by assumption) ?_
 simp only [Act.put, List.getElem_toArray, List.getElem_cons_succ, List.getElem_cons_zero, List.setIfInBounds_toArray, List.set_cons_succ, List.set_cons_zero]
 refine wpAnyH_done (by as_aux_lemma => kernel_rfl) ?_ _
 have HH := Lib.hid hHeld
 clear hHeld HG1 HGK HIT
 have HS0 : Hid (tx (kw ++ ⟨#[32]⟩ ++ dp ++ ⟨#[32]⟩) = kindW j ++ 32 :: (decI p ++ [32])) := Lib.hid (HTT.out _ (by rw [tx_append, tx_append, tx_append, HKW.out, HDP.out, tx_bs, tx_bs]; rfl))
 have hs0 : (kw ++ ⟨#[32]⟩ ++ dp ++ ⟨#[32]⟩ : ByteArray).size ≤ 40 := by
  rw [← tx_length, HS0.out, List.length_append, List.length_cons, List.length_append]
  have h1 := HKW.out
  have h2 := HDP.out
  have e1 : (kindW j).length = kw.size := by rw [← tx_length, h1, tx_bs]
  have e2 : (decI p).length = dp.size := by rw [← tx_length, h2, tx_bs]
  rw [e1, e2]
  simp
  omega
 generalize (kw ++ ⟨#[32]⟩ ++ dp ++ ⟨#[32]⟩ : ByteArray) = s0 at *
 generalize w4 = w5 at *
 have c0' : w5.cell? ⟨N, 0, none⟩ = some (.int .i64 (j : Int)) := (HBX.out.under HH.out).cell 0
 by_cases h3 : j = 3
 · subst h3
   have hs4 : ¬ 9223372036854775807 < s0.size + 27 := by omega
   go_wp2
   go_ret
   refine ⟨str_eq ?_, HB.out.trans (HH.out.mono HN.out)⟩
   rw [tx_append, HS0.out, tx_bs]
   simp [tx]
 · have h3' : ((j : Int) == 3) = false := by rw [beq_eq_false_iff_ne]; omega
   have hs4 : ¬ 9223372036854775807 < s0.size + 9 := by omega
   have c4' : w5.cell? ⟨N, 4, none⟩ = some (.slice AC nC kC) := (HBX.out.under HH.out).cell 4
   have HLC : Hid (LC.length = nC) := Lib.hid HV.out.2
   go_wp2
   go_loopw [26, 3] (fun s26 s3 wr => ∃ (k : Nat) (acc : ByteArray), k ≤ nC ∧ s26 = .int .i64 k ∧ s3 = .string acc ∧ (tx acc = tx s0 ++ (wStreams ++ typesT (LC.take k)) ∧ acc.size ≤ 60 + 20 * k ∧ Below W0.heap.size W0 wr)) (fun s26 _ _ => nC - (intOf s26).toNat)
   case atStart => exact ⟨0, _, Nat.zero_le _, rfl, rfl, by rw [tx_append]; simp [tx, typesT], by rw [← tx_length, tx_append, List.length_append, tx_length]; simp [tx]; omega, HH.out⟩
   case round =>
    obtain ⟨k, acc, hk', rfl, rfl, hst⟩ := hrel
    have HS := Lib.hid hst
    clear hst
    have hacc : acc.size ≤ 60 + 20 * k := HS.out.2.1
    by_cases hlt : k < nC
    · have hlt' : k < LC.length := by rw [HLC.out]; exact hlt
      obtain ⟨ad, c', vf, e1, had, d0, d1, d2, d3, d4, d5, cf⟩ := (HV.out.1.below (HS.out.2.2.mono HN.out)).at_ hlt'
      injection e1 with e1 e1n e1c
      clear e1n e1c
      subst e1
      obtain ⟨Af, kf, hvf, -⟩ := Rows.form cf
      obtain ⟨lf, hlf⟩ : ∃ lf, (LC.getD k default).feedback.length = lf := ⟨_, rfl⟩
      rw [hlf] at hvf
      subst hvf
      clear hlf cf
      have HTY := HT.out _ (getD_mem hlt')
      have HTS : Hid (typesT (LC.take (k + 1)) = typesT (LC.take k) ++ 32 :: decI (LC.getD k default).type) := Lib.hid (typesT_snoc LC k hlt')
      obtain ⟨x, hx⟩ : ∃ x, LC.getD k default = x := ⟨_, rfl⟩
      rw [hx] at d0 d1 d2 d3 d4 HTY HTS
      have hk0 : (0 : Int) ≤ (k : Int) := by omega
      have hk1 : (k : Int) < (nC : Int) := by omega
      have hN0 : W0.heap.size ≤ wr.heap.size := HS.out.2.2.size
      have HNEW : Hid (Whole (wr.alloc (.cells #[.int .i64 0, .string ⟨#[]⟩, .int .i64 0, .int .i64 0, .string ⟨#[]⟩, .slice none 0 0] 50)) wr.heap.size 50 #[.int .i64 0, .string ⟨#[]⟩, .int .i64 0, .int .i64 0, .string ⟨#[]⟩, .slice none 0 0]) := Lib.hid (Whole.new _ _ _)
      have HW : Hid (Below W0.heap.size W0 ((wr.alloc (.cells #[.int .i64 0, .string ⟨#[]⟩, .int .i64 0, .int .i64 0, .string ⟨#[]⟩, .slice none 0 0] 50)).setRow wr.heap.size #[.int .i64 x.type, .string x.name, .int .i64 x.clock, .int .i64 x.chans, .string x.format, .slice Af lf kf]) ∧ Whole ((wr.alloc (.cells #[.int .i64 0, .string ⟨#[]⟩, .int .i64 0, .int .i64 0, .string ⟨#[]⟩, .slice none 0 0] 50)).setRow wr.heap.size #[.int .i64 x.type, .string x.name, .int .i64 x.clock, .int .i64 x.chans, .string x.format, .slice Af lf kf]) wr.heap.size 50 #[.int .i64 x.type, .string x.name, .int .i64 x.clock, .int .i64 x.chans, .string x.format, .slice Af lf kf]) := Lib.hid ⟨below_row (HS.out.2.2.alloc hN0 _) hN0 _, (Whole.new wr 50 #[.int .i64 0, .string ⟨#[]⟩, .int .i64 0, .int .i64 0, .string ⟨#[]⟩, .slice none 0 0]).row #[.int .i64 x.type, .string x.name, .int .i64 x.clock, .int .i64 x.chans, .string x.format, .slice Af lf kf]⟩
      clear hx had hlt' hN0
      go_upto_region 8 with ((with_reducible refine wpList_storeS #[.int .i64 x.type, .string x.name, .int .i64 x.clock, .int .i64 x.chans, .string x.format, .slice Af lf kf] ?_ 50 (.tmp 5) (.tmp 29) ?_ ?_ ?_ HNEW.out Tryz.sizeCodec ?_ ?_ ?_ ?_); (with_reducible rfl); (with_reducible rfl); rfl; rfl; rfl; rfl; rfl)
      generalize ((wr.alloc (.cells #[.int .i64 0, .string ⟨#[]⟩, .int .i64 0, .int .i64 0, .string ⟨#[]⟩, .slice none 0 0] 50)).setRow wr.heap.size #[.int .i64 x.type, .string x.name, .int .i64 x.clock, .int .i64 x.chans, .string x.format, .slice Af lf kf]) = w2 at *
      generalize wr.heap.size = g at *
      clear d0 d1 d2 d3 d4 d5 HNEW
      have g0 : w2.cell? ⟨g, 0, none⟩ = some (.int .i64 x.type) := HW.out.2.cell 0
      have HIT : Hid (Calls Tryz.prog 80 #[.int .i64 x.type] w2 fun e w' => e = .returned (.string (bs (decI x.type))) ∧ Below w2.heap.size w2 w') := Lib.hid (itoa_any x.type w2 (HEN.out.under HW.out.1) HTY.1 (by omega))
      have hdl := decI_len (n := x.type) (by omega)
      obtain ⟨dt, hdt⟩ : ∃ dt, bs (decI x.type) = dt := ⟨_, rfl⟩
      rw [hdt] at HIT hdl
      have HDT := Lib.hid hdt
      clear hdt
      have q1 : ¬ 9223372036854775807 < 1 + dt.size := by omega
      have q2 : ¬ 9223372036854775807 < acc.size + (1 + dt.size) := by omega
      go_wp2_with (go_at_call 80; (with_reducible refine HIT.out.mono ?_); rintro e w3 ⟨rfl, hb3⟩)
      go_roundw
      case rel =>
       refine ⟨k + 1, _, by omega, by go_num, rfl, ?_, ?_, HW.out.1.trans (hb3.mono HW.out.1.size)⟩
       · rw [tx_append, tx_append, HS.out.1, HTS.out, ← HDT.out, tx_bs]
         simp [tx]
       · rw [← tx_length, tx_append, tx_append, List.length_append, List.length_append, tx_length, tx_length, tx_length]
         show acc.size + (1 + dt.size) ≤ _
         omega
      case measure => simp [intOf]; omega
    · have e : k = nC := by omega
      subst e
      have HQ : Hid (tx acc = tx s0 ++ (wStreams ++ typesT LC)) := Lib.hid (by rw [HS.out.1, List.take_of_length_le (by rw [HLC.out]; exact Nat.le_refl _)])
      go_wp2
      go_ret
      refine ⟨str_eq ?_, HB.out.trans (HS.out.2.2.mono HN.out)⟩
      rw [HQ.out, HS0.out, tx_bs]
      simp
end Go.Proofs.YtlekmakofkpcdaaGreatDoor
namespace Go.Proofs.YtlekmakofkpcdaaGreatDoor
open Go.RowKit Go.Lib Go.Sort
set_option linter.unusedVariables false
set_option linter.unusedSimpArgs false
theorem Tryz.arr24 : Tryz.prog.arrayLen 212 = 24 := by kernel_rfl
theorem holds_zero0 (w : World) (T : TypeId) (nd : Nat) (hs : nd ≤ 24) : Holds (fun (b : UInt8) => Value.int .u8 (b.toNat : Int)) (w.alloc (.cells Lib.zeros24 T)) w.heap.size 0 (Array.replicate nd (0 : UInt8)) := fun j hj => by
 have hj' : j < nd := by simpa using hj
 refine ⟨?_, World.frozen?_alloc_new _ _ _ _⟩
 rw [World.cell?_alloc_new, Lib.zeros24_at _ (by omega), getElem!_pos _ j hj]
 simp
set_option maxHeartbeats 3200000 in
set_option maxRecDepth 100000 in
theorem iFormatUint_any (u : Nat) (w : World) (hE : Env w) (h1 : u < 18446744073709551616) : Calls Tryz.prog 138 #[.int .u64 u, .int .i64 10] w fun e w' => e = .returned (.string (bs (dec u))) ∧ Below w.heap.size w w' := by
 by_cases hs : u < 100
 · have HC := Lib.hid (Tryz.internal_strconv_small u hs w)
   have hs1 : (u : Int) < 100 := by omega
   have hs0 : (0 : Int) ≤ (u : Int) := by omega
   have e1 : IntKind.i64.wrap (u : Int) = (u : Int) := IntWalk.i64_in _ (by omega)
   have HD := Lib.hid (dec_eq u)
   go_enter Tryz.func138, Tryz.ntmps138
   go_wp2_with (go_at_call 177; (with_reducible refine HC.out.mono ?_); rintro e w1 ⟨rfl, rfl⟩)
   go_ret
   exact ⟨by rw [HD.out]; rfl, Below.refl _ _⟩
 · have hs1 : (100 : Int) ≤ (u : Int) := by omega
   have hu1 : 1 ≤ u := by omega
   have hnd20 : Lib.nDigits u ≤ 20 := by have := Lib.numDigits_eq u hu1 h1; split at this <;> omega
   have hsl1 : ∀ W, (Instr.sliceAt 212 (.pointer (some ⟨w.heap.size, 0, none⟩)) none (some (.int .i64 (Lib.nDigits u : Int))) none).run Tryz.prog W = .ok (.slice (some ⟨w.heap.size, 0, none⟩) (Lib.nDigits u) 24) W := fun W => by
    rw [run_sliceAt_array_h W 212 ⟨w.heap.size, 0, none⟩ (by simp [Program.arrayLen, Program.elem, Tryz.underlying212]) .i64 (Lib.nDigits u : Int) (by omega) (by rw [Tryz.arr24]; omega)]
    go_simp
    first | done | omega | (rw [Tryz.arr24]; simp)
   have hH0 := holds_zero0 w 212 (Lib.nDigits u) (by omega)
   have hfmt := Tryz.internal_strconv_formatBase10 w.heap.size 0 24 u (Array.replicate (Lib.nDigits u) 0) (w.alloc (.cells Lib.zeros24 212)) hH0 (by rw [Array.size_replicate]; exact Lib.lt_pow_nDigits u) h1 (by rw [Array.size_replicate]; omega)
   rw [Array.size_replicate] at hfmt
   have HH0 := Lib.hid hH0
   have HF := Lib.hid hfmt
   have HN := Lib.hid (Tryz.internal_strconv_numDigits u hu1 h1 (w.alloc (.cells Lib.zeros24 212)) (Lib.tabIs_alloc hE.tab _))
   have HD := Lib.hid (dec_eq u)
   clear hH0 hfmt
   go_enter Tryz.func138, Tryz.ntmps138
   go_upto_region 7 with (first
    | (go_at_call 178; (refine HN.out.mono ?_); rintro e w' ⟨rfl, rfl⟩)
    | (go_at_call 179; (refine HF.out.mono ?_); rintro e w' ⟨rfl, k, v', dk, rfl, hF⟩))
   have hcv : (convert 65 9 (.slice (some ⟨w.heap.size, 0, none⟩) (Lib.nDigits u) 24)).run Tryz.prog ((putRow (fun (b : UInt8) => Value.int .u8 (b.toNat : Int)) (w.alloc (.cells Lib.zeros24 212)) w.heap.size 0 dk).drewN k) = .ok (.string ⟨(Lib.decDigits u).toArray⟩) ((putRow (fun (b : UInt8) => Value.int .u8 (b.toNat : Int)) (w.alloc (.cells Lib.zeros24 212)) w.heap.size 0 dk).drewN k) := by
    have h := run_convert_bytes_back (P := Tryz.prog) ((putRow (fun (b : UInt8) => Value.int .u8 (b.toNat : Int)) (w.alloc (.cells Lib.zeros24 212)) w.heap.size 0 dk).drewN k) 65 9 5 ⟨w.heap.size, 0, none⟩ 24 (Lib.decDigits u) Tryz.underlying65 Tryz.underlying5 Tryz.underlying9 (fun j hj => by
     rw [Lib.row_is_numeral hF j hj, Lib.add_plain, World.cell?_drewN]
     exact cell?_putRow (fun (b : UInt8) => Value.int .u8 (b.toNat : Int)) _ w.heap.size 0 _ dk HH0.out (by rw [hF.size, Array.size_replicate]) j (by rw [hF.size]; rw [Lib.decDigits_length] at hj; exact hj))
    rw [Lib.decDigits_length] at h
    exact h
   have HBL : Hid (Below w.heap.size w ((putRow (fun (b : UInt8) => Value.int .u8 (b.toNat : Int)) (w.alloc (.cells Lib.zeros24 212)) w.heap.size 0 dk).drewN k)) := Lib.hid (by
    rw [alloc_eq_grow]
    obtain ⟨os', _, e⟩ := putRow_grow_new (fun (b : UInt8) => Value.int .u8 (b.toNat : Int)) w #[.cells Lib.zeros24 212] w.heap.size 0 dk (Nat.le_refl _)
    rw [e]
    exact Lib.below_grow _ w (Nat.le_refl _) k os')
   go_wp2
   go_ret
   exact ⟨by rw [HD.out]; rfl, HBL.out⟩
set_option maxHeartbeats 800000 in
theorem formatUint_any (u : Nat) (w : World) (hE : Env w) (h1 : u < 18446744073709551616) : Calls Tryz.prog 83 #[.int .u64 u, .int .i64 10] w fun e w' => e = .returned (.string (bs (dec u))) ∧ Below w.heap.size w w' := by
 have HC := Lib.hid (iFormatUint_any u w hE h1)
 go_enter Tryz.func83, Tryz.ntmps83
 go_wp2_with (go_at_call 138; (with_reducible refine HC.out.mono ?_); rintro e w1 ⟨rfl, hb1⟩)
 go_ret
 exact ⟨rfl, hb1⟩
end Go.Proofs.YtlekmakofkpcdaaGreatDoor
namespace Go.Proofs.YtlekmakofkpcdaaGreatDoor
open Go.RowKit
set_option linter.unusedVariables false
set_option linter.unusedSimpArgs false
theorem Tryz.sizeBuilder : ∃ j, Tryz.prog.info? 185 = some j ∧ j.size = 2 := by
 have h : (Tryz.prog.info? 185).map (·.size) = some 2 := by kernel_rfl
 exact Option.map_eq_some_iff.1 h
theorem Tryz.liesBuilder : liesAt Tryz.prog Tryz.prog.depth 185 (2 / Tryz.prog.cellsOf 185) 0 185 1 = true := by kernel_rfl
set_option maxHeartbeats 1000000 in
set_option maxRecDepth 100000 in
theorem copyCheck_used (b : Nat) (w : World) (h0 : w.cell? ⟨b, 0, none⟩ = some (.pointer (some ⟨b, 0, none⟩))) :
 Calls Tryz.prog 181 #[.pointer (some ⟨b, 0, none⟩)] w fun e w' => e = .returned (.tuple #[]) ∧ w' = w := by
 obtain ⟨j, hj, _⟩ := Tryz.sizeBuilder
 go_enter Tryz.func181, Tryz.ntmps181
 go_wp2
 rw [Lib.run_neq_ptr_same w _ Tryz.underlying183 hj]
 go_wp2
 go_end0
 exact ⟨rfl, rfl⟩
set_option maxHeartbeats 1000000 in
set_option maxRecDepth 100000 in
theorem copyCheck_fresh (b : Nat) (w : World) (h0 : w.cell? ⟨b, 0, none⟩ = some (.pointer none)) (hsh : w.shape? b = some (185, 2)) (hfz : w.frozen? ⟨b, 0, none⟩ = false) :
 Calls Tryz.prog 181 #[.pointer (some ⟨b, 0, none⟩)] w fun e w' => e = .returned (.tuple #[]) ∧ w' = w.setCell ⟨b, 0, none⟩ (.pointer (some ⟨b, 0, none⟩)) := by
 obtain ⟨j, hj, hjs⟩ := Tryz.sizeBuilder
 go_enter Tryz.func181, Tryz.ntmps181
 go_wp2
 rw [Lib.run_to_unsafe w ⟨b, 0, none⟩ Tryz.underlying183 Tryz.underlying238 hj (by rw [hjs]; decide) hsh (Nat.zero_lt_succ 1)]
 simp only [Result.andThen]
 rw [Oper.upon_value]
 go_wp2
 rw [run_callFunc_extern Tryz.func207 (by kernel_rfl) (by kernel_rfl) (by kernel_rfl) (e := Extern.AbiNoEscape.same) (by kernel_rfl)]
 rw [Lib.run_noEscape]
 simp only [Result.andThen]
 rw [Oper.upon_value]
 go_wp2
 rw [Lib.run_from_unsafe w ⟨b, 0, none⟩ Tryz.underlying238 Tryz.underlying183 hj hsh Tryz.liesBuilder]
 simp only [Result.andThen]
 rw [Oper.upon_value]
 go_wp2
 go_end0
 exact ⟨rfl, rfl⟩
theorem copyCheck_any (B b : Nat) (bs : List Value) (w : World) (h : Lib.IsBuilder 185 5 B b bs w) :
 Calls Tryz.prog 181 #[.pointer (some ⟨b, 0, none⟩)] w fun e w' => e = .returned (.tuple #[]) ∧ (Lib.BuilderAt 185 5 B b (.pointer (some ⟨b, 0, none⟩)) bs w' ∧ Below B w w') := by
 rcases h with h | h
 · refine (copyCheck_fresh b w h.cell0 h.shape h.frozen0).mono ?_
   rintro e w' ⟨rfl, rfl⟩
   exact ⟨rfl, h.used _, (Below.refl B w).setCell (p := ⟨b, 0, none⟩) h.1 _⟩
 · refine (copyCheck_used b w h.cell0).mono ?_
   rintro e w' ⟨rfl, rfl⟩
   exact ⟨rfl, h, Below.refl B _⟩
set_option maxHeartbeats 2000000 in
set_option maxRecDepth 100000 in
theorem writeByte_any (B b : Nat) (bs : List Value) (c : Int) (w : World) (h : Lib.IsBuilder 185 5 B b bs w) (hlen : bs.length + 1 ≤ 140737488355328) (hBw : B ≤ w.heap.size) :
 Calls Tryz.prog 139 #[.pointer (some ⟨b, 0, none⟩), .int .u8 c] w fun e w' => e = .returned .nilIface ∧ (Lib.IsBuilder 185 5 B b (bs ++ [.int .u8 c]) w' ∧ Below B w w') := by
 have hinfo : (Tryz.prog.info? 5).map (fun i => (i.zero, i.size, i.bytes)) = some (some (.int .u8 0), 1, 1) := by kernel_rfl
 obtain ⟨i0, hi, hz0, hz1, hz2⟩ := info_parts hinfo
 have HCC := Lib.hid (copyCheck_any B b bs w h)
 go_enter Tryz.func139, Tryz.ntmps139
 go_wp2_with (go_at_call 181; refine HCC.out.mono ?_)
 rintro e w1 ⟨rfl, h1, hb1⟩
 obtain ⟨hB, v, hbk, hown, hne⟩ := h1
 have c0 : w1.cell? ⟨b, 0, none⟩ = some (.pointer (some ⟨b, 0, none⟩)) := by rw [Lib.cell_of_heap hbk]; rfl
 have c1 : w1.cell? ⟨b, 1, none⟩ = some v := by rw [Lib.cell_of_heap hbk]; rfl
 go_wp2_with (at_builtin; refine wpList_append_own _ rfl _ _ 65 rfl B 5 i0 (.int .u8 0) 1 1 Tryz.underlying65 hi hz0 hz1 hz2 rfl (by decide) _ _ _ rfl (hown.alloc _) ⟨w1.heap.size, 0, none⟩ 1 1 [.int .u8 c] rfl rfl ?c1 ?c2 ?c3 ?c4 ?c5 ?_)
 case c1 =>
  intro j u hj
  match j, hj with
  | 0, hj => simp at hj; subst hj; simp [Addr.add]
 case c2 => intro u hu; simp at hu; subst hu; rfl
 case c3 => unfold maxLen; omega
 case c4 => omega
 case c5 => have := hb1.size; simp; omega
 intro v' w2 hown' hgrow _
 have hlt : b < w1.heap.size := by
  rcases Nat.lt_or_ge b w1.heap.size with h' | h'
  · exact h'
  · simp [Array.getElem?_eq_none h'] at hbk
 have hb2 : w2.heap[b]? = some (.cells #[.pointer (some ⟨b, 0, none⟩), v] 185 (0, 0)) := by
  rw [hgrow.block b (by simp; omega) (fun e => hne e.symm), Lib.alloc_old w1 _ b hlt]
  exact hbk
 have d0 : w2.cell? ⟨b, 0, none⟩ = some (.pointer (some ⟨b, 0, none⟩)) := by rw [Lib.cell_of_heap hb2]; rfl
 have d1 : w2.cell? ⟨b, 1, none⟩ = some v := by rw [Lib.cell_of_heap hb2]; rfl
 have f1 : w2.frozen? ⟨b, 1, none⟩ = false := Lib.frozen_of_heap hb2 1
 obtain ⟨g, cap, rfl⟩ : ∃ g cap, v' = .slice (some ⟨g, 0, none⟩) (bs.length + 1) cap := by
  rcases hown'.2 with ⟨_, h0⟩ | ⟨g, cap, cur, hv, _⟩
  · omega
  · exact ⟨g, cap, hv⟩
 go_wp2
 go_ret
 refine ⟨rfl, .inr ?_, ?_⟩
 · exact Lib.BuilderAt.put (T := 185) (e := 5) hB hb2 (bs' := bs ++ [.int .u8 c]) (by simpa using hown') (by decide)
 · exact ((hb1.alloc (by have := hb1.size; omega) _).grown hgrow (by have := hb1.size; simp; omega) (fun k hk => (hown.lt k hk).1)).setCell (p := ⟨b, 1, none⟩) hB _
theorem nat_or (x y k : Nat) (hy : y < 2 ^ k) : x * 2 ^ k ||| y = x * 2 ^ k + y := by rw [← Nat.shiftLeft_eq, Nat.shiftLeft_add_eq_or_of_lt hy]
theorem ofInt_i64 (a : Nat) (ha : a < 9223372036854775808) : (BitVec.ofInt 64 (a : Int)).toNat = a := by
 rw [BitVec.ofInt_natCast, BitVec.toNat_ofNat]; exact Nat.mod_eq_of_lt (by omega)
theorem i64_and_nat (a b : Nat) (ha : a < 9223372036854775808) (hb : b < 9223372036854775808) : bits .and .i64 (a : Int) (b : Int) = ((a &&& b : Nat) : Int) := by
 have hx : a &&& b < 2 ^ 63 := Nat.and_lt_two_pow _ (by omega)
 show IntKind.i64.wrap ((BitVec.ofInt 64 (a : Int) &&& BitVec.ofInt 64 (b : Int)).toNat : Int) = _
 rw [BitVec.toNat_and, ofInt_i64 a ha, ofInt_i64 b hb, IntKind.wrap_i64]
 omega
theorem i64_or_nat (a b : Nat) (ha : a < 9223372036854775808) (hb : b < 9223372036854775808) : bits .or .i64 (a : Int) (b : Int) = ((a ||| b : Nat) : Int) := by
 have hx : a ||| b < 2 ^ 63 := Nat.or_lt_two_pow (by omega) (by omega)
 show IntKind.i64.wrap ((BitVec.ofInt 64 (a : Int) ||| BitVec.ofInt 64 (b : Int)).toNat : Int) = _
 rw [BitVec.toNat_or, ofInt_i64 a ha, ofInt_i64 b hb, IntKind.wrap_i64]
 omega
theorem and63 (n : Nat) : n &&& 63 = n % 64 := Nat.and_two_pow_sub_one_eq_mod n 6
def num3 (a b c : UInt8) : Nat := a.toNat * 65536 + b.toNat * 256 + c.toNat
theorem num3_lt (a b c : UInt8) : num3 a b c < 16777216 := by
 have := a.toNat_lt
 have := b.toNat_lt
 have := c.toNat_lt
 unfold num3
 omega
set_option maxRecDepth 100000 in
theorem or3 (a b c : UInt8) : (a.toNat * 65536 ||| b.toNat * 256) ||| c.toNat = num3 a b c := by
 have h2 := b.toNat_lt
 have h3 := c.toNat_lt
 have e1 := nat_or a.toNat (b.toNat * 256) 16 (by omega)
 have e2 := nat_or (a.toNat * 256 + b.toNat) c.toNat 8 (by omega)
 rw [show (2 : Nat) ^ 16 = 65536 by decide] at e1
 rw [show (2 : Nat) ^ 8 = 256 by decide] at e2
 rw [e1]
 have e3 : a.toNat * 65536 + b.toNat * 256 = (a.toNat * 256 + b.toNat) * 256 := by omega
 rw [e3, e2]
 unfold num3
 omega
set_option maxRecDepth 100000 in
theorem or3_u32 (a b c : UInt8) : bits BinOp.or IntKind.u32 (bits BinOp.or IntKind.u32 ((a.toNat : Int) % 4294967296 * 65536 % 4294967296) ((b.toNat : Int) % 4294967296 * 256 % 4294967296)) ((c.toNat : Int) % 4294967296) = ((num3 a b c : Nat) : Int) := by
 have h1 := a.toNat_lt
 have h2 := b.toNat_lt
 have h3 := c.toNat_lt
 rw [show ((a.toNat : Int) % 4294967296 * 65536 % 4294967296) = ((a.toNat * 65536 : Nat) : Int) by omega, show ((b.toNat : Int) % 4294967296 * 256 % 4294967296) = ((b.toNat * 256 : Nat) : Int) by omega, show ((c.toNat : Int) % 4294967296) = ((c.toNat : Nat) : Int) by omega,
  u32_or_nat _ _ (by omega) (by omega), u32_or_nat _ _ (Nat.or_lt_two_pow (n := 32) (by omega) (by omega)) (by omega), or3]
set_option maxRecDepth 100000 in
theorem or3_i64 (a b c : UInt8) : bits BinOp.or IntKind.i64 (bits BinOp.or IntKind.i64 ((a.toNat * 65536 : Nat) : Int) ((b.toNat * 256 : Nat) : Int)) ((c.toNat : Nat) : Int) = ((num3 a b c : Nat) : Int) := by
 have h1 := a.toNat_lt
 have h2 := b.toNat_lt
 have h3 := c.toNat_lt
 rw [i64_or_nat _ _ (by omega) (by omega), i64_or_nat _ _ (Nat.or_lt_two_pow (n := 63) (by omega) (by omega)) (by omega), or3]
theorem encK_snoc (a b c : UInt8) : ∀ (t : Nat) (l : Tx), l.length = 3 * t → encK (l ++ [a, b, c]) = encK l ++ enc3 a b c
 | 0, l, h => by
   obtain rfl : l = [] := List.eq_nil_of_length_eq_zero (by omega)
   simp [encK]
 | t + 1, l, h => by
   match l, h with
   | x :: y :: z :: r, h =>
     have := encK_snoc a b c t r (by simp at h; omega)
     simp only [List.cons_append, encK, this, List.append_assoc]
theorem encK_step {k : Tx} (hk : k.length = 30) {t : Nat} (ht : t < 10) : ∃ a b c : UInt8, k[3 * t]? = some a ∧ k[3 * t + 1]? = some b ∧ k[3 * t + 2]? = some c ∧ encK (k.take (3 * (t + 1))) = encK (k.take (3 * t)) ++ enc3 a b c := by
 refine ⟨k[3 * t], k[3 * t + 1], k[3 * t + 2], List.getElem?_eq_getElem (by omega), List.getElem?_eq_getElem (by omega), List.getElem?_eq_getElem (by omega), ?_⟩
 have e : k.take (3 * (t + 1)) = k.take (3 * t) ++ [k[3 * t], k[3 * t + 1], k[3 * t + 2]] := by
  rw [show 3 * (t + 1) = 3 * t + 3 by omega, List.take_add, List.drop_eq_getElem_cons (by omega), List.drop_eq_getElem_cons (by omega), List.drop_eq_getElem_cons (by omega)]
  rfl
 rw [e, encK_snoc _ _ _ t _ (by rw [List.length_take]; omega)]
theorem encK_len : ∀ (t : Nat) (l : Tx), l.length = 3 * t → (encK l).length = 4 * t
 | 0, l, h => by
   obtain rfl : l = [] := List.eq_nil_of_length_eq_zero (by omega)
   rfl
 | t + 1, l, h => by
   match l, h with
   | x :: y :: z :: r, h =>
     have := encK_len t r (by simp at h; omega)
     simp only [encK, enc3, List.length_append, List.length_cons, List.length_nil, this]
     omega
abbrev letS : ByteArray := bs wLetters
theorem letS_size : letS.size = 64 := by rw [bs_size]; rfl
theorem letS_at (v : Nat) (h : v < letS.size) : letS[v]'h = letter v := by
 have hl : v < 64 := by rw [letS_size] at h; exact h
 have hw : wLetters.length = 64 := rfl
 unfold letter
 rw [List.getD_eq_getElem?_getD, List.getElem?_eq_getElem (by omega)]
 rfl
end Go.Proofs.YtlekmakofkpcdaaGreatDoor
