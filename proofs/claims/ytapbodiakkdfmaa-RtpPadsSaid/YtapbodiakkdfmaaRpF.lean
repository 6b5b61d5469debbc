/- A packet of no sources and no extensions is parsed. -/
import Derived.Test.YtapbodiakkdfmaaRpE
namespace Go.Proofs.Ytapbodiakkdfmaa
open Go.RowKit
set_option linter.unusedVariables false
set_option linter.unusedSimpArgs false

/-- What parsing comes to. -/
def ParO (mk : Bool) (ys : List Int) (pad : Nat) (w : World) (e : Ending) (w' : World) : Prop :=
  ∃ (ty sq ti so : Int) (P : Value), e = .returned (.tuple #[.agg (pk mk ty sq ti so (.slice none 0 0) (.slice none 0 0) P pad), .int .i64 0]) ∧ V8 w' w'.heap.size P ys ∧ Below w.heap.size w w'

theorem In256.append {xs ys : List Int} (h : In256 xs) (k : In256 ys) : In256 (xs ++ ys) := fun i => by
  simp only [List.getD]
  by_cases hi : i < xs.length
  · rw [List.getElem?_append_left hi]; exact h i
  · rw [List.getElem?_append_right (by omega)]; exact k _
theorem In256.of {xs : List Int} (h : ∀ x ∈ xs, 0 ≤ x ∧ x < 256) : In256 xs := fun i => by
  simp only [List.getD]
  by_cases hi : i < xs.length
  · rw [List.getElem?_eq_getElem hi]; exact h _ (List.getElem_mem hi)
  · rw [List.getElem?_eq_none (by omega)]; decide
theorem padB_256 {pad : Nat} (hp : pad ≤ 255) : In256 (padB pad) := In256.of fun x hx => by
  unfold padB at hx
  split at hx
  · cases hx
  · rcases List.mem_append.1 hx with h | h
    · rw [(List.mem_replicate.1 h).2]; decide
    · obtain rfl := List.mem_singleton.1 h; omega

theorem Only.rowAt (w : World) (g : Nat) (cs : Array Value) : Only (fun k => k = g) w (w.setRow g cs) := by
  have h := below_row (Below.refl 0 w) (Nat.zero_le g) cs
  exact ⟨h.os, h.tape, h.output, h.size, fun k _ hn => setRow_other w g k cs hn⟩

def flatR (ys : List Int) (pad : Nat) : List Int := be2 0 ++ be4 0 ++ be4 0 ++ (ys ++ padB pad)
theorem flatB_cons (mk : Bool) (ty : Int) (ys : List Int) (pad : Nat) : flatB mk ty ys pad = (if pad = 0 then 128 else 160) :: (if mk then ty + 128 else ty) :: flatR ys pad := by
  simp [flatB, flatR, List.append_assoc]
theorem flatR_length (ys : List Int) (pad : Nat) : (flatR ys pad).length = 10 + ys.length + pad := by
  simp [flatR, padB_length]; omega
theorem flatR_drop (ys : List Int) (pad : Nat) : (flatR ys pad).drop 10 = ys ++ padB pad := rfl

set_option maxHeartbeats 1600000 in
set_option maxRecDepth 100000 in
theorem parse_flat (mk : Bool) (ty : Int) (ys : List Int) (pad : Nat) (A : Option Addr) (c : Nat) (xs : List Int) (w : World) (hxs : xs = flatB mk ty ys pad) (h0 : 0 ≤ ty) (h1 : ty ≤ 127) (hn : ys.length ≤ 1200) (hy : In256 ys) (hp : pad ≤ 255)
    (hv : V8 w w.heap.size (.slice A xs.length c) xs) :
    Calls Try.prog 12 #[.slice A xs.length c] w fun e w' => ParO mk ys pad w e w' := by
  obtain ⟨b0, hb0⟩ : ∃ b, b = if pad = 0 then (128 : Int) else 160 := ⟨_, rfl⟩
  obtain ⟨b1, hb1⟩ : ∃ b, b = if mk then ty + 128 else ty := ⟨_, rfl⟩
  have hx2 : xs = b0 :: b1 :: flatR ys pad := by rw [hxs, flatB_cons, hb0, hb1]
  have b0in : 0 ≤ b0 ∧ b0 < 256 := by rw [hb0]; split <;> decide
  have b1in : 0 ≤ b1 ∧ b1 < 256 := by rw [hb1]; split <;> omega
  have hmk : mk = true ↔ 128 ≤ b1 := by cases mk <;> simp at hb1 ⊢ <;> omega
  have hR : In256 (flatR ys pad) := by
    unfold flatR
    exact ((In256.of (by decide)).append (In256.of (by decide)) |>.append (In256.of (by decide))).append (hy.append (padB_256 hp))
  have h1R : In256 (b1 :: flatR ys pad) := (In256.of (xs := [b1]) (by simpa using b1in)).append hR
  have h2R : In256 xs := by rw [hx2]; exact (In256.of (xs := [b0]) (by simpa using b0in)).append h1R
  have hlen : xs.length = 12 + ys.length + pad := by rw [hx2]; simp [flatR_length]; omega
  have hhd : hdV xs = (12, 0) := by
    unfold hdV
    have e0 : xs.getD 0 0 = b0 := by rw [hx2]; rfl
    have e1 : b0 / 64 = 2 ∧ b0 / 16 % 2 = 0 ∧ b0 % 16 = 0 := by rw [hb0]; split <;> decide
    rw [e0, if_neg (by omega), if_neg (by omega), if_pos e1.2.1, e1.2.2, if_neg (by omega)]
    rfl
  have e15 : bits .and .u8 b0 15 = 0 := by rw [hb0]; split <;> decide
  have e16 : bits .and .u8 b0 16 = 0 := by rw [hb0]; split <;> decide
  have e32 : (bits .and .u8 b0 32 != 0) = decide (pad ≠ 0) := by
    rw [hb0]
    by_cases h : pad = 0
    · rw [if_pos h, h]; decide
    · rw [if_neg h, decide_eq_true h]; decide
  obtain ⟨q, hq⟩ : ∃ q, q = decide (pad ≠ 0) := ⟨_, rfl⟩
  rw [← hq] at e32
  obtain ⟨y32, hy32⟩ : ∃ y, bits .and .u8 b0 32 = y := ⟨_, rfl⟩
  rw [hy32] at e32
  obtain ⟨n, hnn⟩ : ∃ n, xs.length = n := ⟨_, rfl⟩
  have hn1500 : ¬ (n : Int) > 1500 := by omega
  have HV := Lib.hid hv
  have hbs : Bs w w.heap.size A xs.length xs := by obtain ⟨A', c', e, _, _, _, h⟩ := hv; cases e; exact h
  have HHD : Hid (∀ W, Below w.heap.size w W → Calls Try.prog 6 #[.slice A n c] W fun e w' => e = .returned (.tuple #[.int .i64 12, .int .i64 0]) ∧ Below W.heap.size W w') := Lib.hid fun W hW => by
    have := head_any A c xs w.heap.size W (hbs.below hW) h2R (by omega)
    rwa [hhd, hnn] at this
  have HNR : Hid (∀ W, Below w.heap.size w W → Calls Try.prog 22 #[.slice A n c] W fun e w' => ∃ b v', e = .returned (.pointer (some ⟨b, 0, none⟩)) ∧ RdV w' b v' (b0 :: b1 :: flatR ys pad) false ∧ W.heap.size ≤ b ∧ Below W.heap.size W w') := Lib.hid fun W hW => by
    have := newReader_any (.slice A xs.length c) xs w.heap.size W (hv.below hW) (by omega)
    rw [hnn] at this
    rwa [hx2] at this
  have HU8 : Hid (∀ b v W, RdV W b v (b0 :: b1 :: flatR ys pad) false → Calls Try.prog 23 #[.pointer (some ⟨b, 0, none⟩)] W fun e w' => e = .returned (.int .u8 b0) ∧ (∃ v2, RdV w' b v2 (b1 :: flatR ys pad) false) ∧ Only (fun k => k = b) W w') := Lib.hid fun b v W h => u8_ok h (by rw [← hx2]; exact h2R)
  have HNU : Hid (∀ b v W, RdV W b v (b1 :: flatR ys pad) false → Calls Try.prog 24 #[.pointer (some ⟨b, 0, none⟩), .int .i64 0] W fun e w' => NumO b b1 (flatR ys pad) W e w') := Lib.hid fun b v W h => numbers_flat b v b1 _ W h h1R (by rw [flatR_length]; omega)
  have HRE : Hid (∀ b v W, RdV W b v (ys ++ padB pad) false → Calls Try.prog 26 #[.pointer (some ⟨b, 0, none⟩), .bool q] W fun e w' => RestO b ys pad W e w') := Lib.hid fun b v W h => rest_any b v ys pad W h (by omega) hp q hq
  have HMK := Lib.hid hmk
  have hz : ∀ W, (zeroValue 37).run Try.prog W = .ok (.agg (pk false 0 0 0 0 (.slice none 0 0) (.slice none 0 0) (.slice none 0 0) 0)) W := fun W => by kernel_rfl
  have hZ : (pk false 0 0 0 0 (.slice none 0 0) (.slice none 0 0) (.slice none 0 0) 0).size = 9 := rfl
  generalize pk false 0 0 0 0 (.slice none 0 0) (.slice none 0 0) (.slice none 0 0) 0 = Z at hz hZ
  rw [hnn]
  have hg0 := Whole.new w 37 Z
  have hbw := (Below.refl w.heap.size w).alloc (Nat.le_refl _) (.cells Z 37)
  have H0 := Lib.hid (And.intro hg0 hbw)
  have hne0 : ((0 : Int) != 0) = false := rfl
  clear hxs h0 h1 hn hy hp hv hb0 hb1 hx2 b0in b1in hmk hR h1R h2R hlen hhd hnn hbs hq hg0 hbw
  obtain ⟨N, hN⟩ : ∃ N, w.heap.size = N := ⟨_, rfl⟩
  have HN := Lib.hid hN
  rw [hN] at H0 HNR HHD
  go_enter Try.func12, Try.ntmps12
  go_upto_region 1 with fail
  generalize w.alloc (.cells Z 37) = W0 at *
  try rw [hN]
  clear hN
  go_upto_region 6 with (go_at_call 6; (with_reducible refine (HHD.out _ H0.out.2).mono ?_); rintro e w1 ⟨rfl, hb1⟩)
  have h1w : Below N w w1 := H0.out.2.trans (hb1.mono (Nat.le_of_lt H0.out.1.lt))
  have h1g := H0.out.1.under hb1
  have H1 := Lib.hid (And.intro h1w h1g)
  clear hb1 h1w h1g
  go_upto_region 7 with (go_at_call 22; (with_reducible refine (HNR.out _ H1.out.1).mono ?_); rintro e w2 ⟨b, v2, rfl, hr2, hbn, hb2⟩)
  have h2g := H1.out.2.under hb2
  have H2 := Lib.hid (And.intro hr2 (And.intro h2g (And.intro (show N < b by have := H1.out.2.lt; omega) (H1.out.1.trans (hb2.mono (Nat.le_of_lt H1.out.2.lt))))))
  clear hr2 hbn hb2 h2g
  go_upto_region 8 with (go_at_call 23; (with_reducible refine (HU8.out _ _ _ H2.out.1).mono ?_); rintro e w3 ⟨rfl, ⟨v3, hr3⟩, ho3⟩)
  have H3 := Lib.hid (And.intro hr3 ho3)
  clear hr3 ho3
  go_upto_region 9 with (first
    | (go_at_call 24; (with_reducible refine (HNU.out _ _ _ H3.out.1).mono ?_); rintro e w4 ⟨mk4, ty4, sq4, ti4, so4, rfl, hm4, ⟨v4, hr4⟩, ho4⟩)
    | (refine wpList_store_whole (cs := pk mk4 ty4 sq4 ti4 so4 (.slice none 0 0) (.slice none 0 0) (.slice none 0 0) 0) rfl 37 (.tmp 8) (.tmp 31) rfl rfl rfl (Whole.new w4 37 Z) Try.sizePk rfl hZ (pk_one rfl rfl rfl) ?_))
  obtain rfl : mk4 = mk := Bool.eq_iff_iff.2 (hm4.trans HMK.out.symm)
  try simp only [Act.put]
  have hg4 := (Whole.new w4 37 Z).row (pk mk4 ty4 sq4 ti4 so4 (.slice none 0 0) (.slice none 0 0) (.slice none 0 0) 0)
  have hb5 := below_row ((Below.refl w4.heap.size w4).alloc (Nat.le_refl _) (.cells Z 37)) (Nat.le_refl _) (pk mk4 ty4 sq4 ti4 so4 (.slice none 0 0) (.slice none 0 0) (.slice none 0 0) 0)
  have hon : Only (fun k => k = b) w2 w4 := H3.out.2.next ho4 (fun j h => .inl h)
  have h4N : Whole w4 N 37 Z := H2.out.2.1.only hon (by have := H2.out.2.2.1; omega)
  have hbw4 : Below N w w4 := H2.out.2.2.2.trans (hon.below (fun k e => by have := H2.out.2.2.1; omega) (by have := H2.out.2.1.lt; omega))
  have h5 := And.intro hg4 (And.intro (hr4.under hb5) (And.intro (h4N.under hb5) (And.intro (hbw4.trans (hb5.mono (Nat.le_of_lt h4N.lt))) (And.intro hr4.block.lt h4N.lt))))
  rw [flatR_drop] at h5
  generalize (w4.alloc (.cells Z 37)).setRow w4.heap.size (pk mk4 ty4 sq4 ti4 so4 (.slice none 0 0) (.slice none 0 0) (.slice none 0 0) 0) = w5 at *
  generalize w4.heap.size = N4 at *
  have H5 := Lib.hid h5
  clear h5 hg4 hb5 hon h4N hbw4 hr4 ho4
  obtain ⟨l, hl⟩ : ∃ l, ys.length = l := ⟨_, rfl⟩
  go_upto_region 14 with (go_at_call 26; (with_reducible refine (HRE.out _ _ _ H5.out.2.1).mono ?_); rintro e w6 ⟨P, rfl, hP, ho6, hnw⟩; obtain ⟨A6, c6, rfl, k1, k2, k3, k4⟩ := hP; have hg6 := H5.out.1.only ho6 (by have := H5.out.2.2.2.2.1; omega); have g7 : w6.cell? ⟨N4, 7, none⟩ = some (.slice none 0 0) := hg6.cell 7; have g8 : w6.cell? ⟨N4, 8, none⟩ = some (.int .i64 0) := hg6.cell 8; have f7 := hg6.frz 7; have f8 := hg6.frz 8)
  have hN4 : N < N4 := by have := H5.out.2.2.2.2.2; omega
  have hw7 : Whole ((w6.setCell ⟨N4, 7, none⟩ (.slice A6 l c6)).setCell ⟨N4, 8, none⟩ (.int .i64 pad)) N4 37 (pk mk4 ty4 sq4 ti4 so4 (.slice none 0 0) (.slice none 0 0) (.slice A6 l c6) pad) := (hg6.set 7 (.slice A6 l c6)).set 8 (.int .i64 pad)
  have hon7 : Only (fun k => k = N4) w6 ((w6.setCell ⟨N4, 7, none⟩ (.slice A6 l c6)).setCell ⟨N4, 8, none⟩ (.int .i64 pad)) := ((Only.refl (fun k => k = N4) w6).setCell (p := ⟨N4, 7, none⟩) (.inl rfl) _).setCell (p := ⟨N4, 8, none⟩) (.inl rfl) _
  have hbs7 := k4.only hon7 (Nat.le_refl _) (fun ad e => by
    have h1 := hnw ad ys.length c6 (by rw [hl, e])
    have h2 := H5.out.1.lt
    show ¬ ad.block = N4
    omega)
  have hN6 := (H5.out.2.2.1.only ho6 (show ¬ N = b by have := H2.out.2.2.1; omega)).only hon7 (show ¬ N = N4 by omega)
  have hb67 : Below N w5 w6 := ho6.below (fun k e => by have := H2.out.2.2.1; omega) (Nat.le_of_lt H5.out.2.2.1.lt)
  have hb7 : Below N w ((w6.setCell ⟨N4, 7, none⟩ (.slice A6 l c6)).setCell ⟨N4, 8, none⟩ (.int .i64 pad)) := (H5.out.2.2.2.1.trans hb67).trans (hon7.below (fun k e => by omega) (by have := hb67.size; have := H5.out.2.2.1.lt; omega))
  have hs7 := hon7.size
  generalize (w6.setCell ⟨N4, 7, none⟩ (.slice A6 l c6)).setCell ⟨N4, 8, none⟩ (.int .i64 pad) = w7 at *
  have hone : (pk mk4 ty4 sq4 ti4 so4 (.slice none 0 0) (.slice none 0 0) (.slice A6 l c6) pad).all (·.oneCell') = true := pk_one rfl rfl rfl
  have h9 : (pk mk4 ty4 sq4 ti4 so4 (.slice none 0 0) (.slice none 0 0) (.slice A6 l c6) pad).size = 9 := rfl
  have hnw2 : ∀ ad, A6 = some ad → N < ad.block := fun ad e => by
    have h1 := hnw ad ys.length c6 (by rw [hl, e])
    have h2 := H5.out.2.2.1.lt
    omega
  obtain ⟨M, hM⟩ : ∃ M, pk mk4 ty4 sq4 ti4 so4 (.slice none 0 0) (.slice none 0 0) (.slice A6 l c6) pad = M := ⟨_, rfl⟩
  simp only [hM] at hw7 hone h9
  have H7 := Lib.hid (And.intro hw7 (And.intro hN6 (And.intro hone (And.intro h9 (And.intro hb7 (And.intro hM (And.intro hbs7 (And.intro hs7 (And.intro k1 (And.intro k2 (And.intro k3 (And.intro hnw2 hl))))))))))))
  clear hw7 hN6 hone h9 hb7 hM hbs7 hs7 k1 k2 k3 k4 hnw hnw2 hb67 hon7 g7 g8 f7 f8 hg6 ho6 hl hN4
  go_wp2_with (first
    | (refine wpList_load_all rfl 37 (.tmp 8) rfl H7.out.1 rfl Try.sizePk H7.out.2.2.2.1 Try.underlying37 rfl ?_)
    | (refine wpList_store_whole rfl 37 (.tmp 2) (.tmp 56) rfl rfl rfl H7.out.2.1 Try.sizePk H7.out.2.2.2.1 hZ H7.out.2.2.1 ?_))
  have hN8 := H7.out.2.1.row M
  have hb8 : Below N w7 (w7.setRow N M) := below_row (Below.refl N w7) (Nat.le_refl _) M
  refine bodyPost_ret (ret_struct2 rfl rfl hN8 Try.underlying37 rfl Try.sizePk H7.out.2.2.2.1) rfl ⟨ty4, sq4, ti4, so4, .slice A6 l c6, ?_, ?_, by rw [HN.out]; exact H7.out.2.2.2.2.1.trans hb8⟩
  · rw [H7.out.2.2.2.2.2.1]; rfl
  · obtain ⟨-, -, -, -, -, -, hbs, hs7, k1, k2, k3, hnw2, hl⟩ := H7.out
    have hon := Only.rowAt w7 N M
    have hb := hbs.only hon hs7 (fun ad e => by have := hnw2 ad e; show ¬ ad.block = N; omega)
    exact ⟨A6, c6, by rw [hl], k1, k2, k3, hb.more (Nat.le_trans hs7 hon.size)⟩
end Go.Proofs.Ytapbodiakkdfmaa
