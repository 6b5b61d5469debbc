import Derived.Test.YtlekmakofkpcdaaGreatDoorPkAttrReadsA12
import Derived.Deep.CutBlock
namespace Go.Proofs.YtlekmakofkpcdaaGreatDoor
open Go.RowKit
set_option linter.unusedVariables false
set_option linter.unusedSimpArgs false
theorem Tryz.sizeFour : (Tryz.prog.info? 127).map (·.size) = some 4 := by kernel_rfl
set_option maxHeartbeats 800000 in
theorem readDir_any (base bm n gw : Nat) (k : Int) (s : ByteArray) (m : MediaS) (cs : List (CodecS × Value)) (vC vE vR vS vY : Value) (w : World) (h : MW base bm n w m cs vC vE vR vS vY) (hk : w.cell? ⟨gw, 0, none⟩ = some (.int .i64 k)) :
 Calls Tryz.prog 135 #[.pointer (some ⟨bm, 0, none⟩), .string s, .pointer (some ⟨gw, 0, none⟩)] w (RdO base bm n w { m with dir := k }) := by
 have e0 : w.cell? ⟨bm, 3, none⟩ = some (.int .i64 m.dir) := h.box.cell 3
 have q0 := h.box.frz
 have HF := Lib.hid (h.cell (m' := { m with dir := k }) 3 (.int .i64 k) rfl rfl rfl rfl rfl rfl h.siz.mid)
 have HR := Lib.hid ((Rdt.refl base bm w).cell h.hbm 3 (.int .i64 k))
 clear h
 go_enter Tryz.func135, Tryz.ntmps135
 go_wp2
 go_end0
 exact ⟨rfl, ⟨_, _, _, _, _, _, HF.out⟩, HR.out⟩
def kindAt (h : Tx) (k : Nat) : Int := if 2 ≤ k ∧ h = wAudio then 1 else if 3 ≤ k ∧ h = wVideo then 2 else if 4 ≤ k ∧ h = wApplication then 3 else 0
theorem kindAt_all (h : Tx) : kindAt h 4 = kindOf h := by
 unfold kindAt kindOf
 simp
abbrev tab4 : List Value := [.string ⟨#[]⟩, .string ⟨#[97, 117, 100, 105, 111]⟩, .string ⟨#[118, 105, 100, 101, 111]⟩, .string ⟨#[97, 112, 112, 108, 105, 99, 97, 116, 105, 111, 110]⟩]
theorem Env.tab4 {w : World} (h : Env w) : ∀ j v, tab4[j]? = some v → w.cell? ((⟨0, 0, Option.none⟩ : Addr).add j) = some v := fun j v hv => by
 have hj : j < 4 := (List.getElem?_eq_some_iff.1 hv).1
 rw [Addr.add_lit, Nat.zero_add]
 have : j = 0 ∨ j = 1 ∨ j = 2 ∨ j = 3 := by omega
 rcases this with rfl | rfl | rfl | rfl
 · rw [h.none, ← hv]; rfl
 · rw [h.kinds 1 (by decide) (by decide), ← hv]; rfl
 · rw [h.kinds 2 (by decide) (by decide), ← hv]; rfl
 · rw [h.kinds 3 (by decide) (by decide), ← hv]; rfl
theorem idx4_0 (W : World) : (Instr.index 127 (.agg #[.string ⟨#[]⟩, .string ⟨#[97, 117, 100, 105, 111]⟩, .string ⟨#[118, 105, 100, 101, 111]⟩, .string ⟨#[97, 112, 112, 108, 105, 99, 97, 116, 105, 111, 110]⟩]) (.int .i64 0)).run Tryz.prog W = .ok (.string ⟨#[]⟩) W := by
 simp [Instr.index, asIntOf, Sem.run_bind, run_underlying Tryz.underlying127, Tryz.sizeOf9, part, run_underlying Tryz.underlying9, isAgg]
theorem idx4_1 (W : World) : (Instr.index 127 (.agg #[.string ⟨#[]⟩, .string ⟨#[97, 117, 100, 105, 111]⟩, .string ⟨#[118, 105, 100, 101, 111]⟩, .string ⟨#[97, 112, 112, 108, 105, 99, 97, 116, 105, 111, 110]⟩]) (.int .i64 1)).run Tryz.prog W = .ok (.string ⟨#[97, 117, 100, 105, 111]⟩) W := by
 simp [Instr.index, asIntOf, Sem.run_bind, run_underlying Tryz.underlying127, Tryz.sizeOf9, part, run_underlying Tryz.underlying9, isAgg]
theorem idx4_2 (W : World) : (Instr.index 127 (.agg #[.string ⟨#[]⟩, .string ⟨#[97, 117, 100, 105, 111]⟩, .string ⟨#[118, 105, 100, 101, 111]⟩, .string ⟨#[97, 112, 112, 108, 105, 99, 97, 116, 105, 111, 110]⟩]) (.int .i64 2)).run Tryz.prog W = .ok (.string ⟨#[118, 105, 100, 101, 111]⟩) W := by
 simp [Instr.index, asIntOf, Sem.run_bind, run_underlying Tryz.underlying127, Tryz.sizeOf9, part, run_underlying Tryz.underlying9, isAgg]
theorem idx4_3 (W : World) : (Instr.index 127 (.agg #[.string ⟨#[]⟩, .string ⟨#[97, 117, 100, 105, 111]⟩, .string ⟨#[118, 105, 100, 101, 111]⟩, .string ⟨#[97, 112, 112, 108, 105, 99, 97, 116, 105, 111, 110]⟩]) (.int .i64 3)).run Tryz.prog W = .ok (.string ⟨#[97, 112, 112, 108, 105, 99, 97, 116, 105, 111, 110]⟩) W := by
 simp [Instr.index, asIntOf, Sem.run_bind, run_underlying Tryz.underlying127, Tryz.sizeOf9, part, run_underlying Tryz.underlying9, isAgg]
theorem kindAt_step (h : Tx) (k : Nat) (T : Tx) (hk : k = 0 ∧ T = [] ∨ k = 1 ∧ T = wAudio ∨ k = 2 ∧ T = wVideo ∨ k = 3 ∧ T = wApplication) : kindAt h (k + 1) = if h = T then (k : Int) else kindAt h k := by
 rcases hk with ⟨rfl, rfl⟩ | ⟨rfl, rfl⟩ | ⟨rfl, rfl⟩ | ⟨rfl, rfl⟩
 · unfold kindAt
   simp
 · unfold kindAt
   by_cases e : h = wAudio
   · simp [e]
   · simp [e]
 · unfold kindAt
   by_cases e : h = wVideo
   · subst e
     simp
   · simp [e]
 · unfold kindAt
   by_cases e : h = wApplication
   · subst e
     simp
   · simp [e]
set_option maxHeartbeats 3200000 in
set_option maxRecDepth 100000 in
theorem readLine_any (base bm n : Nat) (s : ByteArray) (m : MediaS) (cs : List (CodecS × Value)) (vC vE vR vS vY : Value) (w : World) (h : MW base bm n w m cs vC vE vR vS vY) (hE : EnvR w) (hs : s.size ≤ 281474976710656) (h0 : m.kind = 0) (h7 : 7 ≤ base) :
 Calls Tryz.prog 37 #[.pointer (some ⟨bm, 0, none⟩), .string s] w (RdO base bm n w { m with kind := kindOf (hd (tx s)), port := numP (hd (tl (tx s))) }) := by
 have HC1 := Lib.hid (cutc_any s w hs)
 have hbw : base ≤ w.heap.size := Nat.le_trans h.hbm (Nat.le_of_lt h.box.lt)
 obtain ⟨a, ha⟩ : ∃ a, bs (hd (tx s)) = a := ⟨_, rfl⟩
 obtain ⟨b, hb⟩ : ∃ a, bs (tl (tx s)) = a := ⟨_, rfl⟩
 rw [ha, hb] at HC1
 have hbz : b.size ≤ 281474976710656 := by
  rw [← hb, bs_size]
  have := (cutS_len [32] (tx s)).2
  rw [tx_length] at this
  exact Nat.le_trans this hs
 have HC2 : Hid (∀ W, Below w.heap.size w W → Calls Tryz.prog 68 #[.string b] W fun e w' => e = .returned (.tuple #[.string (bs (hd (tx b))), .string (bs (tl (tx b)))]) ∧ Below W.heap.size W w') := Lib.hid fun W _ => cutc_any b W hbz
 obtain ⟨c, hc⟩ : ∃ a, bs (hd (tx b)) = a := ⟨_, rfl⟩
 obtain ⟨d, hd'⟩ : ∃ a, bs (tl (tx b)) = a := ⟨_, rfl⟩
 rw [hc, hd'] at HC2
 have hcz : c.size ≤ 281474976710656 := by
  rw [← hc, bs_size]
  have := (cutS_len [32] (tx b)).1
  rw [tx_length] at this
  exact Nat.le_trans this hbz
 have HN : Hid (∀ W, Below w.heap.size w W → Calls Tryz.prog 69 #[.string c] W fun e w' => e = .returned (.int .i64 (numP (tx c))) ∧ Below W.heap.size W w') := Lib.hid fun W hW => number_any c W (hE.under hW) hcz
 have hkp : hd (tx s) = tx a := by rw [← ha, tx_bs]
 have hnp : hd (tl (tx s)) = tx c := by rw [← hc, tx_bs, ← hb, tx_bs]
 rw [hkp, hnp]
 obtain ⟨p, hp⟩ : ∃ p, numP (tx c) = p := ⟨_, rfl⟩
 rw [hp] at HN ⊢
 obtain ⟨kd, hkd⟩ : ∃ k, kindOf (tx a) = k := ⟨_, rfl⟩
 have HKD := Lib.hid hkd
 rw [hkd]
 have HM := Lib.hid h
 have HEN := Lib.hid hE
 have HB : Hid (base ≤ w.heap.size) := Lib.hid hbw
 have HPO : Hid (∀ W, Below w.heap.size w W → MW base bm n (W.setCell ⟨bm, 1, none⟩ (.int .i64 p)) { m with port := p, kind := kindAt (tx a) 0 } cs vC vE vR vS vY ∧ Rdt base bm w (W.setCell ⟨bm, 1, none⟩ (.int .i64 p))) := Lib.hid fun W hW =>
  ⟨(HM.out.under hW).cell (m' := { m with port := p, kind := kindAt (tx a) 0 }) 1 _ (by show _ = mcell _ _ _ _ _ _; unfold mcell; rw [h0]; rfl) rfl rfl rfl rfl rfl HM.out.siz.mid, ((Rdt.refl base bm w).under hW hbw).cell HM.out.hbm 1 _⟩
 clear h hE ha hb hbz hc hd' hcz hkp hnp hp hkd hbw h0 hs
 go_enter Tryz.func37, Tryz.ntmps37
 go_upto_region 1 with (go_at_call 68; (with_reducible refine HC1.out.mono ?_); rintro e w1 ⟨rfl, hb1⟩; have H1 := Lib.hid hb1; clear hb1; dsimp only)
 go_upto_region 2 with (go_at_call 68; (with_reducible refine (HC2.out _ H1.out).mono ?_); rintro e w2 ⟨rfl, hb2⟩; have H2 : Hid (Below w.heap.size w w2) := Lib.hid (below_chain (Nat.le_refl _) H1.out hb2); clear hb2; dsimp only)
 go_upto_region 3 with (go_at_call 69; (with_reducible refine (HN.out _ H2.out).mono ?_); rintro e w3 ⟨rfl, hb3⟩; have H3 : Hid (Below w.heap.size w w3) := Lib.hid (below_chain (Nat.le_refl _) H2.out hb3); clear hb3; have e0 : w3.cell? ⟨bm, 1, none⟩ = some (.int .i64 m.port) := (HM.out.under H3.out).box.cell 1; have q0 := (HM.out.under H3.out).box.frz; dsimp only)
 have HW := Lib.hid (HPO.out w3 H3.out)
 generalize w3.setCell ⟨bm, 1, none⟩ (.int .i64 p) = w4 at *
 have HTAB : Hid (∀ j v, tab4[j]? = some v → w4.cell? ((⟨0, 0, none⟩ : Addr).add j) = some v) := Lib.hid (HEN.out.env.low HW.out.2.low h7).tab4
 clear HC1 HC2 HN HPO H1 H2 H3
 go_wp2_with (refine wpList_load_at ?_ 127 (.global 0) ?_ _ ?_ [.string ⟨#[]⟩, .string ⟨#[97, 117, 100, 105, 111]⟩, .string ⟨#[118, 105, 100, 101, 111]⟩, .string ⟨#[97, 112, 112, 108, 105, 99, 97, 116, 105, 111, 110]⟩] _ HTAB.out Tryz.underlying127 ?_ Tryz.sizeFour ?_; rfl; rfl; rfl; rfl)
 go_loopw [26, 8, 9] (fun s26 _ _ wr => ∃ k : Nat, k ≤ 4 ∧ s26 = .int .i64 k ∧ (MW base bm n wr { m with port := p, kind := kindAt (tx a) k } cs vC vE vR vS vY ∧ Rdt base bm w wr)) (fun s26 _ _ _ => 4 - (intOf s26).toNat)
 case atStart => exact ⟨0, by omega, rfl, HW.out⟩
 case round =>
  obtain ⟨k, hk, rfl, hst⟩ := hrel
  have HS := Lib.hid hst
  clear hst
  have hk4 : k = 0 ∨ k = 1 ∨ k = 2 ∨ k = 3 ∨ k = 4 := by omega
  rcases hk4 with rfl | rfl | rfl | rfl | rfl
  · have hix := idx4_0
    have HST := Lib.hid (kindAt_step (tx a) 0 [] (.inl ⟨rfl, rfl⟩))
    have HQ : Hid (a.toList.isEmpty = true ↔ tx a = []) := Lib.hid (by rw [toList_tx, List.isEmpty_iff])
    obtain ⟨qb, hqb⟩ : ∃ q, a.toList.isEmpty = q := ⟨_, rfl⟩
    rw [hqb] at HQ
    go_upto_if 32 with fail
    clear hqb
    cases qb with
    | true =>
      have HST1 : Hid (kindAt (tx a) (0 + 1) = 0) := Lib.hid (by rw [HST.out, if_pos (HQ.out.1 rfl)]; rfl)
      have e0 : wr.cell? ⟨bm, 0, none⟩ = some (.int .i64 (kindAt (tx a) 0)) := HS.out.1.box.cell 0
      have q0 := HS.out.1.box.frz
      have HX : Hid (MW base bm n (wr.setCell ⟨bm, 0, none⟩ (.int .i64 0)) { m with port := p, kind := kindAt (tx a) (0 + 1) } cs vC vE vR vS vY ∧ Rdt base bm w (wr.setCell ⟨bm, 0, none⟩ (.int .i64 0))) := Lib.hid
       ⟨HS.out.1.cell (m' := { m with port := p, kind := kindAt (tx a) (0 + 1) }) 0 _ (by show _ = mcell _ _ _ _ _ _; unfold mcell; rw [HST1.out]; rfl) rfl rfl rfl rfl rfl HM.out.siz.mid, HS.out.2.cell HM.out.hbm 0 _⟩
      generalize kindAt (tx a) 0 = k0 at *
      go_wp2
      go_roundw
      case rel => exact ⟨0 + 1, by omega, by go_num, HX.out⟩
      case measure => simp [intOf]
    | false =>
      have hne : ¬ tx a = [] := fun h => by have := HQ.out.2 h; cases this
      have HX : Hid (MW base bm n wr { m with port := p, kind := kindAt (tx a) (0 + 1) } cs vC vE vR vS vY ∧ Rdt base bm w wr) := Lib.hid (by rw [HST.out, if_neg hne]; exact HS.out)
      clear hne
      go_wp2
      go_roundw
      case rel => exact ⟨0 + 1, by omega, by go_num, HX.out⟩
      case measure => simp [intOf]
  · have hix := idx4_1
    have HST := Lib.hid (kindAt_step (tx a) 1 wAudio (.inr (.inl ⟨rfl, rfl⟩)))
    have HQ : Hid ((a.toList == [97, 117, 100, 105, 111]) = true ↔ tx a = wAudio) := Lib.hid (by rw [beq_iff_eq, toList_tx])
    obtain ⟨qb, hqb⟩ : ∃ q, (a.toList == [97, 117, 100, 105, 111]) = q := ⟨_, rfl⟩
    rw [hqb] at HQ
    go_upto_if 32 with fail
    clear hqb
    cases qb with
    | true =>
      have HST1 : Hid (kindAt (tx a) (1 + 1) = 1) := Lib.hid (by rw [HST.out, if_pos (HQ.out.1 rfl)]; rfl)
      have e0 : wr.cell? ⟨bm, 0, none⟩ = some (.int .i64 (kindAt (tx a) 1)) := HS.out.1.box.cell 0
      have q0 := HS.out.1.box.frz
      have HX : Hid (MW base bm n (wr.setCell ⟨bm, 0, none⟩ (.int .i64 1)) { m with port := p, kind := kindAt (tx a) (1 + 1) } cs vC vE vR vS vY ∧ Rdt base bm w (wr.setCell ⟨bm, 0, none⟩ (.int .i64 1))) := Lib.hid
       ⟨HS.out.1.cell (m' := { m with port := p, kind := kindAt (tx a) (1 + 1) }) 0 _ (by show _ = mcell _ _ _ _ _ _; unfold mcell; rw [HST1.out]; rfl) rfl rfl rfl rfl rfl HM.out.siz.mid, HS.out.2.cell HM.out.hbm 0 _⟩
      generalize kindAt (tx a) 1 = k0 at *
      go_wp2
      go_roundw
      case rel => exact ⟨1 + 1, by omega, by go_num, HX.out⟩
      case measure => simp [intOf]
    | false =>
      have hne : ¬ tx a = wAudio := fun h => by have := HQ.out.2 h; cases this
      have HX : Hid (MW base bm n wr { m with port := p, kind := kindAt (tx a) (1 + 1) } cs vC vE vR vS vY ∧ Rdt base bm w wr) := Lib.hid (by rw [HST.out, if_neg hne]; exact HS.out)
      clear hne
      go_wp2
      go_roundw
      case rel => exact ⟨1 + 1, by omega, by go_num, HX.out⟩
      case measure => simp [intOf]
  · have hix := idx4_2
    have HST := Lib.hid (kindAt_step (tx a) 2 wVideo (.inr (.inr (.inl ⟨rfl, rfl⟩))))
    have HQ : Hid ((a.toList == [118, 105, 100, 101, 111]) = true ↔ tx a = wVideo) := Lib.hid (by rw [beq_iff_eq, toList_tx])
    obtain ⟨qb, hqb⟩ : ∃ q, (a.toList == [118, 105, 100, 101, 111]) = q := ⟨_, rfl⟩
    rw [hqb] at HQ
    go_upto_if 32 with fail
    clear hqb
    cases qb with
    | true =>
      have HST1 : Hid (kindAt (tx a) (2 + 1) = 2) := Lib.hid (by rw [HST.out, if_pos (HQ.out.1 rfl)]; rfl)
      have e0 : wr.cell? ⟨bm, 0, none⟩ = some (.int .i64 (kindAt (tx a) 2)) := HS.out.1.box.cell 0
      have q0 := HS.out.1.box.frz
      have HX : Hid (MW base bm n (wr.setCell ⟨bm, 0, none⟩ (.int .i64 2)) { m with port := p, kind := kindAt (tx a) (2 + 1) } cs vC vE vR vS vY ∧ Rdt base bm w (wr.setCell ⟨bm, 0, none⟩ (.int .i64 2))) := Lib.hid
       ⟨HS.out.1.cell (m' := { m with port := p, kind := kindAt (tx a) (2 + 1) }) 0 _ (by show _ = mcell _ _ _ _ _ _; unfold mcell; rw [HST1.out]; rfl) rfl rfl rfl rfl rfl HM.out.siz.mid, HS.out.2.cell HM.out.hbm 0 _⟩
      generalize kindAt (tx a) 2 = k0 at *
      go_wp2
      go_roundw
      case rel => exact ⟨2 + 1, by omega, by go_num, HX.out⟩
      case measure => simp [intOf]
    | false =>
      have hne : ¬ tx a = wVideo := fun h => by have := HQ.out.2 h; cases this
      have HX : Hid (MW base bm n wr { m with port := p, kind := kindAt (tx a) (2 + 1) } cs vC vE vR vS vY ∧ Rdt base bm w wr) := Lib.hid (by rw [HST.out, if_neg hne]; exact HS.out)
      clear hne
      go_wp2
      go_roundw
      case rel => exact ⟨2 + 1, by omega, by go_num, HX.out⟩
      case measure => simp [intOf]
  · have hix := idx4_3
    have HST := Lib.hid (kindAt_step (tx a) 3 wApplication (.inr (.inr (.inr ⟨rfl, rfl⟩))))
    have HQ : Hid ((a.toList == [97, 112, 112, 108, 105, 99, 97, 116, 105, 111, 110]) = true ↔ tx a = wApplication) := Lib.hid (by rw [beq_iff_eq, toList_tx])
    obtain ⟨qb, hqb⟩ : ∃ q, (a.toList == [97, 112, 112, 108, 105, 99, 97, 116, 105, 111, 110]) = q := ⟨_, rfl⟩
    rw [hqb] at HQ
    go_upto_if 32 with fail
    clear hqb
    cases qb with
    | true =>
      have HST1 : Hid (kindAt (tx a) (3 + 1) = 3) := Lib.hid (by rw [HST.out, if_pos (HQ.out.1 rfl)]; rfl)
      have e0 : wr.cell? ⟨bm, 0, none⟩ = some (.int .i64 (kindAt (tx a) 3)) := HS.out.1.box.cell 0
      have q0 := HS.out.1.box.frz
      have HX : Hid (MW base bm n (wr.setCell ⟨bm, 0, none⟩ (.int .i64 3)) { m with port := p, kind := kindAt (tx a) (3 + 1) } cs vC vE vR vS vY ∧ Rdt base bm w (wr.setCell ⟨bm, 0, none⟩ (.int .i64 3))) := Lib.hid
       ⟨HS.out.1.cell (m' := { m with port := p, kind := kindAt (tx a) (3 + 1) }) 0 _ (by show _ = mcell _ _ _ _ _ _; unfold mcell; rw [HST1.out]; rfl) rfl rfl rfl rfl rfl HM.out.siz.mid, HS.out.2.cell HM.out.hbm 0 _⟩
      generalize kindAt (tx a) 3 = k0 at *
      go_wp2
      go_roundw
      case rel => exact ⟨3 + 1, by omega, by go_num, HX.out⟩
      case measure => simp [intOf]
    | false =>
      have hne : ¬ tx a = wApplication := fun h => by have := HQ.out.2 h; cases this
      have HX : Hid (MW base bm n wr { m with port := p, kind := kindAt (tx a) (3 + 1) } cs vC vE vR vS vY ∧ Rdt base bm w wr) := Lib.hid (by rw [HST.out, if_neg hne]; exact HS.out)
      clear hne
      go_wp2
      go_roundw
      case rel => exact ⟨3 + 1, by omega, by go_num, HX.out⟩
      case measure => simp [intOf]
  · have HF : Hid (MW base bm n wr { m with kind := kd, port := p } cs vC vE vR vS vY ∧ Rdt base bm w wr) := Lib.hid (by
     have := HS.out
     rw [kindAt_all, HKD.out] at this
     exact this)
    go_wp2
    go_end0
    exact ⟨rfl, ⟨_, _, _, _, _, _, HF.out.1⟩, HF.out.2⟩
end Go.Proofs.YtlekmakofkpcdaaGreatDoor
