/- What a table's Put and Drop do, whatever the key; what is the same in memory. -/
import Derived.Test.YtgcnocaibhiggaaTableIterSX
namespace Go.Proofs.Ytgcnocaibhiggaa
open Go.RowKit Go.Shelf Go.Maps
set_option linter.unusedVariables false

section
variable {w w' W W' : World} {tb g : Nat} {most most' : Int} {mv mv' : Option Nat} {L L' : List (Ent KeySX)}

theorem setVal_tabSSX (tb : Nat) (mv : Option Nat) (L : List (Ent KeySX)) (i : Nat) (v : Int) (j : Nat) (h : TabSSX tb mv (setVal L i v) j) : TabSSX tb mv L j := by
  rcases h with h | h | ⟨x, hx, rfl⟩
  · exact .inl h
  · exact .inr (.inl h)
  · have : x.2.2 ∈ (setVal L i v).map (·.2.2) := List.mem_map.2 ⟨x, hx, rfl⟩
    rw [setVal_blks] at this
    obtain ⟨y, hy, e⟩ := List.mem_map.1 this
    exact .inr (.inr ⟨y, hy, e⟩)

theorem pairs_lengthSX (L : List (Ent KeySX)) : (pairsSX L).length = L.length := by simp [pairsSX]
theorem blkOf_pairsSX {k : KeySX} : blkOf L k = none ↔ ∀ q ∈ pairsSX L, q.1 ≠ k := by
  rw [blkOf_none]
  simp only [pairsSX, List.mem_map]
  constructor
  · rintro h q ⟨x, hx, rfl⟩
    exact h x hx
  · intro h x hx
    exact h _ ⟨x, hx, rfl⟩

theorem tput_anySX (h : TabSX w tb most mv L) {k : KeySX} (hk : kokSX k) (v : Int) (hbig : L.length ≤ 1000000) :
    Calls Try.prog 20 #[.pointer (some ⟨tb, 0, none⟩), kvSX k, .int .i32 v] w fun e w' => ∃ r mv' L', e = .returned (.bool r) ∧ TabSX w' tb most mv' L' ∧ Only (TabSSX tb mv L) w w' ∧
      (∀ j, TabSSX tb mv' L' j → TabSSX tb mv L j ∨ w.heap.size ≤ j) ∧ (∀ mb, mv = some mb → mv' = some mb) ∧ L'.length ≤ L.length + 1 ∧ (blkOf L k = none → (L.length : Int) < max most 1 → r = true ∧ pairsSX L' = pairsSX L ++ [(k, v)]) := by
  cases hb : blkOf L k with
  | some g =>
    obtain ⟨i, u, hi⟩ := blkOf_some hb
    refine (put_updSX h hi v).mono ?_
    rintro e w' ⟨rfl, hT, hO⟩
    exact ⟨true, mv, _, rfl, hT, hO, fun j hj => .inl (setVal_tabSSX _ _ _ _ _ _ hj), fun _ e => e, by rw [setVal_length]; omega, fun e => by cases e⟩
  | none =>
    by_cases hlt : (L.length : Int) < max most 1
    · refine (put_newSX h hk hb v hlt hbig).mono ?_
      rintro e w' ⟨rfl, mb, g, hT, hO, hmb, hg⟩
      refine ⟨true, some mb, _, rfl, hT, hO, fun j hj => ?_, fun mb' e => ?_, by simp, fun _ _ => ⟨rfl, by simp [pairsSX]⟩⟩
      · rcases hj with hj | hj | ⟨x, hx, rfl⟩
        · exact .inl (.inl hj)
        · cases hj
          rcases hmb with e | e
          · exact .inl (.inr (.inl e))
          · exact .inr e.2
        · rcases List.mem_append.1 hx with hx | hx
          · exact .inl (.inr (.inr ⟨x, hx, rfl⟩))
          · simp at hx; subst hx; exact .inr hg
      · rcases hmb with e2 | e2
        · rw [← e, ← e2]
        · rw [e2.1] at e; cases e
    · refine (put_overSX h hk hb v (by omega)).mono ?_
      rintro e w' ⟨rfl, hB⟩
      exact ⟨false, mv, L, rfl, h.below hB, (Only.refl _ w).under hB, fun j hj => .inl hj, fun _ e => e, by omega, fun _ e => absurd e hlt⟩

theorem tdrop_anySX (h : TabSX w tb most mv L) {k : KeySX} (hk : kokSX k) :
    Calls Try.prog 21 #[.pointer (some ⟨tb, 0, none⟩), kvSX k] w fun e w' => ∃ r L', e = .returned (.bool r) ∧ TabSX w' tb most mv L' ∧ Only (TabSSX tb mv L) w w' ∧
      (∀ j, TabSSX tb mv L' j → TabSSX tb mv L j) ∧ L'.length ≤ L.length ∧ (∀ i u g, L[i]? = some (k, u, g) → r = true ∧ pairsSX L' = (pairsSX L).eraseIdx i) := by
  cases hb : blkOf L k with
  | some g =>
    obtain ⟨i, u, hi⟩ := blkOf_some hb
    refine (drop_someSX h hi).mono ?_
    rintro e w' ⟨rfl, hT, hO⟩
    refine ⟨true, _, rfl, hT, hO, fun j hj => ?_, by rw [List.length_eraseIdx]; split <;> omega, fun i' u' g' hi' => ?_⟩
    · rcases hj with hj | hj | ⟨x, hx, rfl⟩
      · exact .inl hj
      · exact .inr (.inl hj)
      · exact .inr (.inr ⟨x, List.mem_of_mem_eraseIdx hx, rfl⟩)
    · have hg := blkOf_of_get h.keys hi'
      simp only at hg
      rw [hb] at hg
      injection hg with hg
      subst hg
      have : i = i' := blk_inj h.blks hi hi' rfl
      subst this
      exact ⟨rfl, by unfold pairsSX; rw [map_eraseSX]⟩
  | none =>
    refine (drop_noneSX h hk hb).mono ?_
    rintro e w' ⟨rfl, hB⟩
    exact ⟨false, L, rfl, h.below hB, (Only.refl _ w).under hB, fun j hj => hj, Nat.le_refl _, fun i u g hi => absurd rfl (blkOf_none.1 hb _ (List.mem_of_getElem? hi))⟩

/-- The entries that a table in memory has are the ones. -/
theorem tab_uniqSX (h : TabSX w tb most mv L) (h' : TabSX w tb most' mv' L') : ∀ x ∈ L, ∃ y ∈ L', y.2.2 = x.2.2 := by
  have hpi : ∀ a b : Option Nat, ptr a = ptr b → a = b := by
    intro a b e
    cases a <;> cases b <;> simp [ptr] at e ⊢
    exact e
  have key : ∀ i, blkAt L i = blkAt L' i := by
    intro i
    induction i with
    | zero =>
      have h1 := h.tab.cell 2
      have h2 := h'.tab.cell 2
      rw [h1] at h2
      simp at h2
      exact hpi _ _ h2
    | succ i ih =>
      cases hL : blkAt L i with
      | none =>
        rw [hL] at ih
        have e1 : L.length ≤ i := by
          rcases Nat.lt_or_ge i L.length with hl | hl
          · rw [blkAt_get (List.getElem?_eq_getElem hl)] at hL; cases hL
          · exact hl
        have e2 : L'.length ≤ i := by
          rcases Nat.lt_or_ge i L'.length with hl | hl
          · rw [blkAt_get (List.getElem?_eq_getElem hl)] at ih; cases ih
          · exact hl
        rw [blkAt_over (by omega), blkAt_over (by omega)]
      | some g =>
        rw [hL] at ih
        obtain ⟨_, x, hx, hxg⟩ := blkAt_lt hL
        obtain ⟨_, y, hy, hyg⟩ := blkAt_lt ih.symm
        have h1 := (h.ents i x hx).cell 3
        have h2 := (h'.ents i y hy).cell 3
        rw [hxg] at h1
        rw [hyg, h1] at h2
        simp at h2
        exact hpi _ _ h2
  intro x hx
  obtain ⟨i, hi⟩ := List.getElem?_of_mem hx
  have := key i
  rw [blkAt_get hi] at this
  obtain ⟨_, y, hy, hyg⟩ := blkAt_lt this.symm
  exact ⟨y, List.mem_of_getElem? hy, hyg⟩

theorem TabSX.offT (h : TabSX W tb most mv L) {t : TypeId} {cs : Array Value} (hg : Whole W g t cs) (h1 : t ≠ 83) (h2 : t ≠ 87) : ¬ TabSSX tb mv L g := by
  rintro (rfl | e | ⟨x, hx, rfl⟩)
  · exact hg.ne h.tab h1 rfl
  · rcases h.map with ⟨e2, _⟩ | ⟨mb, D, e2, hm, _⟩
    · rw [e2] at e; cases e
    · rw [e2] at e; cases e
      exact map_not_cells hm hg rfl
  · obtain ⟨i, hi⟩ := List.getElem?_of_mem hx
    exact hg.ne (h.ents i x hi) h2 rfl

theorem TabSX.notCells (h : TabSX W tb most mv L) {r : Nat} {o : Obj} (hr : W.heap[r]? = some o) (hc : o.isCells = false) (hm : mv ≠ some r) : ¬ TabSSX tb mv L r := by
  have off : ∀ t cs, Whole W r t cs → False := by
    intro t cs hw
    have hw' : W.heap[r]? = some (Obj.cells cs t (0, 0)) := hw
    rw [hr] at hw'
    cases hw'
    cases hc
  rintro (rfl | e | ⟨x, hx, rfl⟩)
  · exact off _ _ h.tab
  · exact hm e
  · obtain ⟨i, hi⟩ := List.getElem?_of_mem hx
    exact off _ _ (h.ents i x hi)

theorem TabSX.grownOther {row : Option Nat} (h : TabSX W tb most mv L) (hg : W.grownBy W' row) (hr : ∀ r, row = some r → (∃ o : Obj, W.heap[r]? = some o ∧ o.isCells = false) ∧ mv ≠ some r) : TabSX W' tb most mv L :=
  h.only (S := fun j => row = some j) ⟨hg.os, hg.tape, hg.output, hg.size, fun k hk hn => hg.block k hk (fun e => hn e.symm)⟩ (fun j hj e => by
    obtain ⟨⟨o, ho, hc⟩, hm⟩ := hr j e
    exact h.notCells ho hc hm hj)

/-- Safe: made since the loop began, and none of the table's entries. -/
def SafeTSX (B tb : Nat) (most : Int) (W : World) (g : Nat) : Prop := B ≤ g ∧ g < W.heap.size ∧ ∃ mv L, TabSX W tb most mv L ∧ (∀ mb, mv = some mb → mb < B) ∧ ∀ x ∈ L, x.2.2 ≠ g

theorem safeT_underSX {B : Nat} (h : SafeTSX B tb most W g) (hb : Below W.heap.size W W') : SafeTSX B tb most W' g := by
  obtain ⟨h1, h2, mv, L, h3, h4, h5⟩ := h
  exact ⟨h1, Nat.lt_of_lt_of_le h2 hb.size, mv, L, h3.below hb, h4, h5⟩

theorem kpT_stepSX {B : Nat} (hT : TabSX W tb most mv L) (hmv : ∀ mb, mv = some mb → mb < B) (htb : tb < B) (hO : Only (TabSSX tb mv L) W W') (hT1 : TabSX W' tb most mv' L') (hmv1 : ∀ mb, mv' = some mb → mb < B)
    (hin : ∀ j, TabSSX tb mv' L' j → TabSSX tb mv L j ∨ W.heap.size ≤ j) : KpS (SafeTSX B tb most) W W' := by
  intro g cs t fr hs hg
  obtain ⟨h1, h2, mv2, L2, h3, h4, h5⟩ := hs
  have hn : ¬ TabSSX tb mv L g := by
    rintro (e | e | ⟨x, hx, e⟩)
    · omega
    · have := hmv g e; omega
    · obtain ⟨y, hy, e2⟩ := tab_uniqSX hT h3 x hx
      exact h5 y hy (e2.trans e)
  refine ⟨hO.same hg hn, h1, Nat.lt_of_lt_of_le h2 hO.size, mv', L', hT1, hmv1, fun x hx e => ?_⟩
  rcases hin g (.inr (.inr ⟨x, hx, e⟩)) with e2 | e2
  · exact hn e2
  · omega

theorem kpT_farSX {B : Nat} (hT : TabSX W tb most mv L) (hmv : ∀ mb, mv = some mb → mb < B) {p : Addr} {cs : Array Value} {t : TypeId} (hp : Whole W p.block t cs) (h1 : t ≠ 83) (h2 : t ≠ 87) (hB : p.block < B) (u : Value) : KpS (SafeTSX B tb most) W (W.setCell p u) := by
  intro g cs2 t2 fr hs hg
  obtain ⟨e1, e2, mv2, L2, h3, h4, h5⟩ := hs
  refine ⟨(Below.heap_setCell W p u g (by omega)).trans hg, e1, by simpa [World.setCell] using e2, mv, L, ?_, hmv, fun x hx e => ?_⟩
  · exact hT.only ((Only.refl (fun j => j = p.block) W).setCell (p := p) (.inl rfl) u) (fun j hj e => hT.offT hp h1 h2 (by rw [← e]; exact hj))
  · obtain ⟨y, hy, e2⟩ := tab_uniqSX hT h3 x hx
    exact h5 y hy (e2.trans e)

theorem kpT_putSX {B : Nat} (htb : tb < B) (W : World) (l : Nat) (o o' : Obj) (hB : B ≤ l) (hl : W.heap[l]? = some o) (hc : o.isCells = false) : KpS (SafeTSX B tb most) W (W.putObj l o') := by
  intro g cs t fr hs hg
  obtain ⟨e1, e2, mv, L, h3, h4, h5⟩ := hs
  refine ⟨(World.putObj_heap_other (by
    intro e
    subst e
    rw [hg] at hl
    cases hl
    cases hc)).trans hg, e1, ?_, mv, L, ?_, h4, h5⟩
  · exact Nat.lt_of_lt_of_le e2 (grownBy_putObj' W l o').size
  · exact h3.grownOther (grownBy_putObj' W l o') (fun r e => by cases e; exact ⟨⟨o, hl, hc⟩, fun e2 => by have := h4 _ e2; omega⟩)

end

end Go.Proofs.Ytgcnocaibhiggaa
