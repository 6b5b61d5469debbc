import Derived.Test.YtbbedhecfipdjaaGreatDoorPkAttrOrderA08
import Derived.Test.YtbbedhecfipdjaaGreatDoorPkAttrOrderA09
import Derived.Test.YtbbedhecfipdjaaGreatDoorPkAttrOrderA04
namespace Go.Proofs.YtbbedhecfipdjaaGreatDoor
open Go.RowKit
set_option linter.unusedVariables false
set_option linter.unusedSimpArgs false
def someM : MediaS := ⟨2, 9, bs [118], 3, [⟨96, bs [86, 80, 56], 90000, 1, bs [], []⟩], [], [], false, [], [], 0⟩
def partW (m : MediaS) : PartS := if mayM m = true then partM m else ⟨bs [], bs [], []⟩
def errW (m : MediaS) : Int := if mayM m = true then 0 else 1
theorem WriteO.part {E : TypeId} {w w' : World} {m : MediaS} {e : Ending} (h : WriteO E w m e w') : ∃ v, e = .returned (.tuple #[.agg #[.string (partW m).line, .string (partW m).conn, v], .int .i64 (errW m)]) ∧ Own w' w.heap.size E 2 v ((partW m).attrs.map acell) ∧ Below w.heap.size w w' := by
 obtain ⟨P, rfl, hb, hy, hn⟩ := h
 unfold partW errW
 by_cases hm : mayM m = true
 · obtain ⟨v, rfl, ho⟩ := hy hm
   rw [if_pos hm, if_pos hm]
   exact ⟨v, rfl, ho, hb⟩
 · have hm' : mayM m = false := by simpa using hm
   obtain rfl := hn hm'
   rw [if_neg hm, if_neg hm]
   exact ⟨.slice none 0 0, rfl, Own.nil _ _ _ _, hb⟩
theorem dec_9 : dec 9 = [57] := by
 unfold dec
 rfl
theorem dec_96 : dec 96 = [57, 54] := by
 unfold dec
 rw [dif_neg (by decide)]
 show dec 9 ++ _ = _
 rw [dec_9]
 rfl
theorem someM_good : goodM someM = true := by
 decide +kernel
theorem someM_line : lineM someM = [118, 105, 100, 101, 111, 32, 57, 32, 82, 84, 80, 47, 83, 65, 86, 80, 70, 32, 57, 54] := by
 show kindW 2 ++ 32 :: (dec 9 ++ 32 :: (wStreams ++ (32 :: dec 96 ++ []))) = _
 rw [dec_9, dec_96]
 rfl
theorem someM_attrs : (attrsM someM).length = 3 := rfl
theorem someM_may : mayM someM = true := by
 unfold mayM
 rw [someM_good, someM_attrs]
 rfl
theorem someM_siz : SizM someM := by
 refine ⟨by decide, ?_, ?_, ?_, ?_, ⟨?_, ?_⟩, by decide⟩
 · intro c hc
   simp [someM] at hc
   subst hc
   exact ⟨by decide, by decide, fun f hf => by cases hf⟩
 · intro c hc
   simp [someM] at hc
   subst hc
   decide
 · intro x hx; cases hx
 · intro x hx; cases hx
 · intro x hx; cases hx
 · intro x hx; cases hx
set_option maxHeartbeats 3200000 in
set_option maxRecDepth 100000 in
theorem some_any (w : World) : Calls Tryz.prog 36 #[] w fun e w' => ∃ M vC vE vR vS vY, e = .returned (.agg M) ∧ MediaV w' w'.heap.size M someM vC vE vR vS vY ∧ Below w.heap.size w w' := by
 have hz0 : Below w.heap.size w (w.alloc (.cells #[.int .i64 0, .int .i64 0, .string ⟨#[]⟩, .int .i64 0, .slice none 0 0, .slice none 0 0, .slice none 0 0, .bool false, .slice none 0 0, .slice none 0 0, .int .i64 0] 28)) := (Below.refl _ w).alloc (Nat.le_refl _) _
 have g0 := Whole.new w 28 #[.int .i64 0, .int .i64 0, .string ⟨#[]⟩, .int .i64 0, .slice none 0 0, .slice none 0 0, .slice none 0 0, .bool false, .slice none 0 0, .slice none 0 0, .int .i64 0]
 have H0 := Lib.hid (And.intro hz0 g0)
 clear hz0 g0
 obtain ⟨N, hN⟩ : ∃ N, w.heap.size = N := ⟨_, rfl⟩
 have HN := Lib.hid hN
 rw [hN] at H0
 clear hN
 go_enter Tryz.func36, Tryz.ntmps36
 go_upto_region 1 with fail
 simp only [HN.out]
 generalize w.alloc (.cells #[.int .i64 0, .int .i64 0, .string ⟨#[]⟩, .int .i64 0, .slice none 0 0, .slice none 0 0, .slice none 0 0, .bool false, .slice none 0 0, .slice none 0 0, .int .i64 0] 28) = W0 at *
 have HG : Hid (Whole (W0.alloc (.cells #[.int .i64 96, .string ⟨#[86, 80, 56]⟩, .int .i64 90000, .int .i64 1, .string ⟨#[]⟩, .slice none 0 0] 58)) N 28 #[.int .i64 0, .int .i64 0, .string ⟨#[]⟩, .int .i64 0, .slice none 0 0, .slice none 0 0, .slice none 0 0, .bool false, .slice none 0 0, .slice none 0 0, .int .i64 0]) := Lib.hid (H0.out.2.alloc _)
 have HC : Hid (Whole (W0.alloc (.cells #[.int .i64 96, .string ⟨#[86, 80, 56]⟩, .int .i64 90000, .int .i64 1, .string ⟨#[]⟩, .slice none 0 0] 58)) W0.heap.size 58 #[.int .i64 96, .string ⟨#[86, 80, 56]⟩, .int .i64 90000, .int .i64 1, .string ⟨#[]⟩, .slice none 0 0]) := Lib.hid (Whole.new _ _ _)
 have HB : Hid (Below N w (W0.alloc (.cells #[.int .i64 96, .string ⟨#[86, 80, 56]⟩, .int .i64 90000, .int .i64 1, .string ⟨#[]⟩, .slice none 0 0] 58))) := Lib.hid (H0.out.1.alloc (by have := H0.out.1.size; rw [HN.out] at this; exact this) _)
 have HFIN : Hid (∀ W, W = (W0.alloc (.cells #[.int .i64 96, .string ⟨#[86, 80, 56]⟩, .int .i64 90000, .int .i64 1, .string ⟨#[]⟩, .slice none 0 0] 58)).setRow N #[.int .i64 2, .int .i64 9, .string ⟨#[118]⟩, .int .i64 3, .slice (some ⟨W0.heap.size, 0, none⟩) 1 1, .slice none 0 0, .slice none 0 0, .bool false, .slice none 0 0, .slice none 0 0, .int .i64 0] →
  ∃ M vC vE vR vS vY, Ending.returned (.agg #[.int .i64 2, .int .i64 9, .string ⟨#[118]⟩, .int .i64 3, .slice (some ⟨W0.heap.size, 0, none⟩) 1 1, .slice none 0 0, .slice none 0 0, .bool false, .slice none 0 0, .slice none 0 0, .int .i64 0]) = .returned (.agg M) ∧ MediaV W W.heap.size M someM vC vE vR vS vY ∧ Below w.heap.size w W) := Lib.hid (by
  rintro W rfl
  have hc : Whole ((W0.alloc (.cells #[.int .i64 96, .string ⟨#[86, 80, 56]⟩, .int .i64 90000, .int .i64 1, .string ⟨#[]⟩, .slice none 0 0] 58)).setRow N #[.int .i64 2, .int .i64 9, .string ⟨#[118]⟩, .int .i64 3, .slice (some ⟨W0.heap.size, 0, none⟩) 1 1, .slice none 0 0, .slice none 0 0, .bool false, .slice none 0 0, .slice none 0 0, .int .i64 0]) W0.heap.size 58 #[.int .i64 96, .string ⟨#[86, 80, 56]⟩, .int .i64 90000, .int .i64 1, .string ⟨#[]⟩, .slice none 0 0] := HC.out.farRow (HC.out.ne HG.out (by decide)) _
  refine ⟨_, _, _, _, _, _, rfl, ⟨rfl, ?_, Rows.nil _ _ _ _, Rows.nil _ _ _ _, Rows.nil _ _ _ _, Rows.nil _ _ _ _⟩, by rw [HN.out]; exact below_row HB.out (Nat.le_refl _) _⟩
  refine ⟨some ⟨W0.heap.size, 0, none⟩, 1, rfl, by decide, by decide, (fun e => by cases e), fun _ => ⟨_, rfl, hc.lt, fun i x hx => ?_⟩⟩
  have hi : i = 0 := by
   have := (List.getElem?_eq_some_iff.1 hx).1
   simp [someM] at this
   exact this
  subst hi
  have hx : x = ⟨96, bs [86, 80, 56], 90000, 1, bs [], []⟩ := by
   simp [someM] at hx
   exact hx.symm
  subst hx
  refine ⟨hc.cell 0, hc.cell 1, hc.cell 2, hc.cell 3, hc.cell 4, _, hc.cell 5, Rows.nil _ _ _ _⟩)
 go_wp2_with (first
  | ((with_reducible refine wpList_storeS #[.int .i64 2, .int .i64 9, .string ⟨#[118]⟩, .int .i64 3, .slice (some ⟨W0.heap.size, 0, none⟩) 1 1, .slice none 0 0, .slice none 0 0, .bool false, .slice none 0 0, .slice none 0 0, .int .i64 0] ?_ 28 (.tmp 0) (.tmp 3) ?_ ?_ ?_ HG.out Tryz.sizeMedia ?_ ?_ ?_ ?_); (with_reducible rfl); (with_reducible rfl); rfl; rfl; rfl; rfl; rfl)
  | ((with_reducible show bodyPost _ _ _ _ _ _); exact bodyPost_ret (ret_struct rfl rfl (HG.out.row _) Tryz.underlying28 rfl Tryz.sizeMedia rfl) rfl (HFIN.out _ rfl)))
set_option maxHeartbeats 3200000 in
set_option maxRecDepth 100000 in
theorem awake_any (w : World) (hE : Env w) (h7 : 7 ≤ w.heap.size) : Calls Tryz.prog 14 #[] w fun e w' => e = .returned (.bool true) ∧ Below w.heap.size w w' := by
 have HS1 := Lib.hid (some_any w)
 have HWR : Hid (∀ W M vC vE vR vS vY, Below w.heap.size w W → MediaV W W.heap.size M someM vC vE vR vS vY → Calls Tryz.prog 16 #[.agg M] W fun e w' => ∃ A c, e = .returned (.tuple #[.agg #[.string ⟨#[118, 105, 100, 101, 111, 32, 57, 32, 82, 84, 80, 47, 83, 65, 86, 80, 70, 32, 57, 54]⟩, .string ⟨#[73, 78, 32, 73, 80, 52, 32, 48, 46, 48, 46, 48, 46, 48]⟩, .slice A 3 c], .int .i64 0]) ∧ Below W.heap.size W w') := Lib.hid fun W M vC vE vR vS vY hW hM =>
  (write_any M someM vC vE vR vS vY W hM someM_siz (hE.under hW) (Nat.le_trans h7 hW.size)).mono fun e w' h => by
   obtain ⟨P, rfl, hb, hy, -⟩ := h
   obtain ⟨v, rfl, ho⟩ := hy someM_may
   obtain ⟨A, c, hv, -⟩ := Own.form ho
   rw [List.length_map, someM_attrs] at hv
   subst hv
   rw [if_pos someM_may, someM_line]
   exact ⟨A, c, rfl, hb⟩
 have HGD : Hid (∀ W M vC vE vR vS vY, MediaV W W.heap.size M someM vC vE vR vS vY → Calls Tryz.prog 19 #[.agg M] W fun e w' => e = .returned (.bool true) ∧ Below W.heap.size W w') := Lib.hid fun W M vC vE vR vS vY hM =>
  (good_any M someM vC vE vR vS vY W hM someM_siz).mono fun e w' h => by
   rw [someM_good] at h
   exact h
 have HS2 : Hid (∀ W, Calls Tryz.prog 36 #[] W fun e w' => ∃ M vC vE vR vS vY, e = .returned (.agg M) ∧ MediaV w' w'.heap.size M someM vC vE vR vS vY ∧ Below W.heap.size W w') := Lib.hid fun W => some_any W
 clear hE h7
 go_enter Tryz.func14, Tryz.ntmps14
 go_upto_region 2 with (first
  | (go_at_call 36; (with_reducible refine HS1.out.mono ?_); rintro e w1 ⟨M1, C1, E1, R1, S1, Y1, rfl, hm1, hb1⟩; have H1 := Lib.hid (And.intro hm1 hb1); clear hm1 hb1; dsimp only)
  | (go_at_call 16; (with_reducible refine (HWR.out _ _ _ _ _ _ _ H1.out.2 H1.out.1).mono ?_); rintro e w2 ⟨A2, c2, rfl, hb2⟩; have H2 : Hid (Below w.heap.size w w2) := Lib.hid (H1.out.2.trans (hb2.mono H1.out.2.size)); clear hb2; have HNEW : Hid (Whole (w2.alloc (.cells #[.string ⟨#[]⟩, .string ⟨#[]⟩, .slice none 0 0] 38)) w2.heap.size 38 #[.string ⟨#[]⟩, .string ⟨#[]⟩, .slice none 0 0]) := Lib.hid (Whole.new _ _ _); dsimp only)
  | ((with_reducible refine wpList_storeS #[.string ⟨#[118, 105, 100, 101, 111, 32, 57, 32, 82, 84, 80, 47, 83, 65, 86, 80, 70, 32, 57, 54]⟩, .string ⟨#[73, 78, 32, 73, 80, 52, 32, 48, 46, 48, 46, 48, 46, 48]⟩, .slice A2 3 c2] ?_ 38 (.tmp 1) (.tmp 6) ?_ ?_ ?_ HNEW.out Tryz.sizeSPart ?_ ?_ ?_ ?_); (with_reducible rfl); (with_reducible rfl); rfl; rfl; rfl; rfl; rfl))
 have H3 : Hid (Below w.heap.size w ((w2.alloc (.cells #[.string ⟨#[]⟩, .string ⟨#[]⟩, .slice none 0 0] 38)).setRow w2.heap.size #[.string ⟨#[118, 105, 100, 101, 111, 32, 57, 32, 82, 84, 80, 47, 83, 65, 86, 80, 70, 32, 57, 54]⟩, .string ⟨#[73, 78, 32, 73, 80, 52, 32, 48, 46, 48, 46, 48, 46, 48]⟩, .slice A2 3 c2]) ∧ Whole ((w2.alloc (.cells #[.string ⟨#[]⟩, .string ⟨#[]⟩, .slice none 0 0] 38)).setRow w2.heap.size #[.string ⟨#[118, 105, 100, 101, 111, 32, 57, 32, 82, 84, 80, 47, 83, 65, 86, 80, 70, 32, 57, 54]⟩, .string ⟨#[73, 78, 32, 73, 80, 52, 32, 48, 46, 48, 46, 48, 46, 48]⟩, .slice A2 3 c2]) w2.heap.size 38 #[.string ⟨#[118, 105, 100, 101, 111, 32, 57, 32, 82, 84, 80, 47, 83, 65, 86, 80, 70, 32, 57, 54]⟩, .string ⟨#[73, 78, 32, 73, 80, 52, 32, 48, 46, 48, 46, 48, 46, 48]⟩, .slice A2 3 c2]) := Lib.hid ⟨H2.out.trans ((below_row ((Below.refl _ w2).alloc (Nat.le_refl _) _) (Nat.le_refl _) _).mono H2.out.size), HNEW.out.row _⟩
 generalize ((w2.alloc (.cells #[.string ⟨#[]⟩, .string ⟨#[]⟩, .slice none 0 0] 38)).setRow w2.heap.size #[.string ⟨#[118, 105, 100, 101, 111, 32, 57, 32, 82, 84, 80, 47, 83, 65, 86, 80, 70, 32, 57, 54]⟩, .string ⟨#[73, 78, 32, 73, 80, 52, 32, 48, 46, 48, 46, 48, 46, 48]⟩, .slice A2 3 c2]) = w3 at *
 generalize w2.heap.size = g at *
 have c0 : w3.cell? ⟨g, 0, none⟩ = some (.string ⟨#[118, 105, 100, 101, 111, 32, 57, 32, 82, 84, 80, 47, 83, 65, 86, 80, 70, 32, 57, 54]⟩) := H3.out.2.cell 0
 have c2' : w3.cell? ⟨g, 2, none⟩ = some (.slice A2 3 c2) := H3.out.2.cell 2
 clear HNEW H1
 go_wp2_with (first
  | (go_at_call 36; (with_reducible refine (HS2.out _).mono ?_); rintro e w4 ⟨M4, C4, E4, R4, S4, Y4, rfl, hm4, hb4⟩; have H4 := Lib.hid (And.intro hm4 (H3.out.1.trans (hb4.mono H3.out.1.size))); clear hm4 hb4; dsimp only)
  | (go_at_call 19; (with_reducible refine (HGD.out _ _ _ _ _ _ _ H4.out.1).mono ?_); rintro e w5 ⟨rfl, hb5⟩; have H5 := Lib.hid (H4.out.2.trans (hb5.mono H4.out.2.size)); clear hb5; dsimp only))
 go_ret
 exact ⟨rfl, H5.out⟩
theorem attrsM_few {m : MediaS} (h : mayM m = true) : (attrsM m).length ≤ 64 := by
 unfold mayM at h
 rw [Bool.and_eq_true, decide_eq_true_eq] at h
 exact h.2
theorem WriteO.reads {E : TypeId} {w w' : World} {m : MediaS} {e : Ending} (h : WriteO E w m e w') : ∃ A c, e = .returned (.tuple #[.agg #[.string (partW m).line, .string (partW m).conn, .slice A (partW m).attrs.length c], .int .i64 (errW m)]) ∧ AttrsV w' w'.heap.size (.slice A (partW m).attrs.length c) (partW m).attrs ∧ Below w.heap.size w w' := by
 obtain ⟨v, rfl, ho, hb⟩ := h.part
 obtain ⟨A, c, hv, -⟩ := Own.form ho
 rw [List.length_map] at hv
 subst hv
 exact ⟨A, c, rfl, ho.reads (Nat.le_refl _), hb⟩
end Go.Proofs.YtbbedhecfipdjaaGreatDoor
