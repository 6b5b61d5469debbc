/- What a table's Put does. -/
import Derived.Test.YtgcnocaibhiggaaTableOpsSX
namespace Go.Proofs.Ytgcnocaibhiggaa
open Go.RowKit Go.Shelf Go.Maps
set_option linter.unusedVariables false

section
variable {w : World} {tb : Nat} {most : Int} {mv : Option Nat} {L : List (Ent KeySX)}

theorem tab_setValSX (h : TabSX w tb most mv L) {k : KeySX} {i : Nat} {u : Int} {g : Nat} (hi : L[i]? = some (k, u, g)) (v : Int) : TabSX (w.setCell ⟨g, 1, none⟩ (.int .i32 v)) tb most mv (setVal L i v) := by
  have hx := h.ents i _ hi
  simp only at hx
  have ep : ∀ j, prevB (setVal L i v) j = prevB L j := by
    intro j
    unfold prevB blkAt
    by_cases e : j = 0
    · rw [if_pos e, if_pos e]
    · rw [if_neg e, if_neg e, setVal_get]
      cases L[j - 1]? with
      | none => rfl
      | some x => by_cases e2 : i = j - 1 <;> simp [e2]
  have eb : ∀ j, blkAt (setVal L i v) j = blkAt L j := by
    intro j
    unfold blkAt
    rw [setVal_get]
    cases L[j]? with
    | none => rfl
    | some x => by_cases e2 : i = j <;> simp [e2]
  have el : lastB (setVal L i v) = lastB L := by
    unfold lastB
    rw [setVal_length]
    exact ep _
  refine ⟨?_, ?_, ?_, by rw [setVal_keys]; exact h.keys, by rw [setVal_blks]; exact h.blks, ?_⟩
  · rw [eb, el]
    exact h.tab.far (p := ⟨g, 1, none⟩) (Ne.symm (hx.ne h.tab (by decide))) _
  · rcases h.map with ⟨h1, h2⟩ | ⟨mb, D, rfl, hm, hr⟩
    · rw [h2] at hi
      simp at hi
    · refine .inr ⟨mb, D, rfl, by rw [setVal_length]; exact hm.setCell (a := ⟨g, 1, none⟩) (map_not_cells hm hx) _, ⟨fun k hk => ?_, fun k hk => ?_, ?_⟩⟩
      · rw [blkOf_setVal]; exact hr.at_ k hk
      · rw [blkOf_setVal]; exact hr.has k hk
      · rw [setVal_length]; exact hr.size
  · intro j x hj
    rw [setVal_get] at hj
    unfold nextB
    rw [ep, eb]
    cases hy : L[j]? with
    | none => rw [hy] at hj; cases hj
    | some y =>
      rw [hy] at hj
      simp only [Option.map_some] at hj
      injection hj with hj
      by_cases e : i = j
      · subst e
        rw [if_pos rfl] at hj
        rw [hi] at hy
        cases hy
        subst hj
        exact hx.set 1 _
      · rw [if_neg e] at hj
        subst hj
        exact (h.ents j y hy).far (p := ⟨g, 1, none⟩) (fun e2 => e (blk_inj h.blks hi hy e2.symm)) _
  · intro x hx
    obtain ⟨j, hj⟩ := List.getElem?_of_mem hx
    rw [setVal_get] at hj
    cases hy : L[j]? with
    | none => rw [hy] at hj; cases hj
    | some y =>
      rw [hy] at hj
      simp only [Option.map_some] at hj
      injection hj with hj
      have := h.kok y (List.mem_of_getElem? hy)
      by_cases e : i = j
      · rw [if_pos e] at hj; subst hj; exact this
      · rw [if_neg e] at hj; subst hj; exact this

set_option maxHeartbeats 800000 in
theorem put_updSX (h : TabSX w tb most mv L) {k : KeySX} {i : Nat} {u : Int} {g : Nat} (hi : L[i]? = some (k, u, g)) (v : Int) :
    Calls Try.prog 20 #[.pointer (some ⟨tb, 0, none⟩), kvSX k, .int .i32 v] w fun e w' => e = .returned (.bool true) ∧ TabSX w' tb most mv (setVal L i v) ∧ Only (TabSSX tb mv L) w w' := by
  have hk : kokSX k := h.kok _ (List.mem_of_getElem? hi)
  have hF := find_atSX k w h hk
  have hb := blkOf_of_get h.keys hi
  simp only at hb
  rw [hb, ptr_some] at hF
  have hx := (h.ents i _ hi)
  simp only at hx
  have HF := Lib.hid hF
  have HX := Lib.hid (And.intro hx h)
  have HI := Lib.hid hi
  clear h hF hx hi
  go_enter Try.func20, Try.ntmps20
  go_wp2_with (go_at_call 45; refine HF.out.mono ?_; rintro e w1 ⟨rfl, hb⟩; have hc1 := (HX.out.1.under hb).cell 1; have hf1 := (HX.out.1.under hb).frz 1; simp at hc1)
  go_ret
  exact ⟨rfl, tab_setValSX (HX.out.2.below hb) HI.out v, ((Only.refl _ w).under hb).setCell (p := ⟨g, 1, none⟩) (.inl (.inr (.inr ⟨_, List.mem_of_getElem? HI.out, rfl⟩))) _⟩

set_option maxHeartbeats 1600000 in
set_option maxRecDepth 100000 in
theorem put_overSX (h : TabSX w tb most mv L) {k : KeySX} (hk : kokSX k) (hn : blkOf L k = none) (v : Int) (hge : max most 1 ≤ (L.length : Int)) :
    Calls Try.prog 20 #[.pointer (some ⟨tb, 0, none⟩), kvSX k, .int .i32 v] w fun e w' => e = .returned (.bool false) ∧ Below w.heap.size w w' := by
  have hF := find_atSX k w h hk
  rw [hn, ptr_none] at hF
  have HF := Lib.hid hF
  have HX := Lib.hid h
  clear h hF
  rcases (by omega : (1 ≤ most ∧ most ≤ (L.length : Int)) ∨ (most < 1 ∧ 1 ≤ L.length)) with ⟨hm, hl⟩ | ⟨hm, hl⟩
  all_goals
    clear hge
    go_enter Try.func20, Try.ntmps20
    go_wp2_with (go_at_call 45; refine HF.out.mono ?_; rintro e w1 ⟨rfl, hb⟩; have hT1 := HX.out.below hb; have hc0 := hT1.tab.cell 0; have hc1 := hT1.tab.cell 1; have hlen := tlen_runSX hT1.drew; simp at hc0 hc1; clear hT1)
    go_region
    go_wp2
    go_ret
    first
      | exact ⟨rfl, hb⟩
      | exact ⟨rfl, hb.drew⟩

set_option maxHeartbeats 1600000 in
set_option maxRecDepth 100000 in
theorem put_newSX (h : TabSX w tb most mv L) {k : KeySX} (hk : kokSX k) (hn : blkOf L k = none) (v : Int) (hlt : (L.length : Int) < max most 1) (hbig : L.length ≤ 1000000) :
    Calls Try.prog 20 #[.pointer (some ⟨tb, 0, none⟩), kvSX k, .int .i32 v] w fun e w' => e = .returned (.bool true) ∧
      ∃ mb g, TabSX w' tb most (some mb) (L ++ [(k, v, g)]) ∧ Only (TabSSX tb mv L) w w' ∧ (mv = some mb ∨ (mv = none ∧ w.heap.size ≤ mb)) ∧ w.heap.size ≤ g := by
  have hF := find_atSX k w h hk
  rw [hn, ptr_none] at hF
  have hJ : ∀ W g, TabSX W tb most mv L → Whole W g 87 #[kvSX k, .int .i32 v, .pointer none, .pointer none] → (∀ x ∈ L, x.2.2 ≠ g) →
      Calls Try.prog 46 #[.pointer (some ⟨tb, 0, none⟩), .pointer (some ⟨g, 0, none⟩)] W fun e w' => e = .returned (.tuple #[]) ∧ JoinedSX W w' tb most mv L k v g := by
    intro W g hT hW hf
    rcases h.map with ⟨rfl, rfl⟩ | ⟨mb, D, rfl, _, _⟩
    · exact join_nilSX tb most k v g W hT hW hk
    · exact join_someSX tb most mb L k v g W hT hW hk hf hn hbig
  simp only [kvSX] at hF hJ ⊢
  have HF := Lib.hid hF
  have HX := Lib.hid h
  have HJ := Lib.hid hJ
  clear h hF hJ
  rcases (by omega : (1 ≤ most ∧ (L.length : Int) < most) ∨ (most < 1 ∧ L.length < 1)) with ⟨hm, hl⟩ | ⟨hm, hl⟩
  all_goals
    clear hlt
    go_enter Try.func20, Try.ntmps20
    go_wp2_with (go_at_call 45; refine HF.out.mono ?_; rintro e w1 ⟨rfl, hb⟩; have hT1 := HX.out.below hb; have hc0 := hT1.tab.cell 0; have hc1 := hT1.tab.cell 1; have hlen := tlen_runSX hT1.drew; simp at hc0 hc1; clear hT1)
    go_region
    go_wp2_with fail
    have hT2 : TabSX (w1.alloc (.cells #[.string k, .int .i32 v, .pointer none, .pointer none] 87)).drew tb most mv L := ((HX.out.below hb).below ((Below.refl _ w1).alloc (Nat.le_refl _) _)).drew
    have hfr : ∀ x ∈ L, x.2.2 ≠ w1.heap.size := by
      intro x hx
      obtain ⟨i, hi⟩ := List.getElem?_of_mem hx
      have := ((HX.out.below hb).ents i x hi).lt
      omega
    have hgl := hb.size
    refine (HJ.out _ w1.heap.size hT2 (Whole.new w1 _ _) hfr).mono ?_
    rintro e w3 ⟨rfl, mb, hT3, hO3, hmb⟩
    clear hT2 hfr
    go_wp2_with fail
    go_ret
    refine ⟨rfl, mb, w1.heap.size, hT3, ?_, hmb.imp id (fun e => ⟨e.1, ?_⟩), hgl⟩
    · refine ((((Only.refl _ w).under hb).alloc _).drew).next (w := (w1.alloc (.cells #[.string k, .int .i32 v, .pointer none, .pointer none] 87)).drew) hO3 (fun j hj => ?_)
      rcases hj with hj | hj
      · exact .inl hj
      · exact .inr (by rw [hj]; exact hgl)
    · have e2 : (w1.alloc (.cells #[.string k, .int .i32 v, .pointer none, .pointer none] 87)).drew.heap.size = w1.heap.size + 1 := by simp
      have := e.2
      omega

end

end Go.Proofs.Ytgcnocaibhiggaa
