/- What leave does. -/
import Derived.Test.YtgcnocaibhiggaaTableAddSX
namespace Go.Proofs.Ytgcnocaibhiggaa
open Go.RowKit Go.Shelf Go.Maps
set_option linter.unusedVariables false

section
variable {K : Type}
theorem blkAt_eraseSX (L : List (Ent K)) (i j : Nat) : blkAt (L.eraseIdx i) j = if j < i then blkAt L j else blkAt L (j + 1) := by
  unfold blkAt
  rw [List.getElem?_eraseIdx]
  split <;> rfl
theorem nodup_eraseSX {α : Type} {l : List α} (h : l.Nodup) (i : Nat) : (l.eraseIdx i).Nodup := List.Nodup.sublist (List.eraseIdx_sublist l i) h
theorem map_eraseSX {α β : Type} (f : α → β) (l : List α) (i : Nat) : (l.eraseIdx i).map f = (l.map f).eraseIdx i := by
  apply List.ext_getElem?
  intro j
  rw [List.getElem?_map, List.getElem?_eraseIdx, List.getElem?_eraseIdx]
  split <;> rw [List.getElem?_map]
end

/-- Where everything lies when the map has lost its key and the list hasn't. -/
structure CutSX (w : World) (tb : Nat) (most : Int) (mb : Nat) (L : List (Ent KeySX)) (i : Nat) : Prop where
  tab : Whole w tb 83 #[.int .i64 most, .map (some mb), ptr (blkAt L 0), ptr (lastB L)]
  map : ∃ D, w.ownsMap Try.prog 9 ptrElem mb (L.eraseIdx i).length D ∧ MapRelSX D (L.eraseIdx i)
  ents : ∀ (i : Nat) (x : Ent KeySX), L[i]? = some x → Whole w x.2.2 87 #[kvSX x.1, .int .i32 x.2.1, ptr (prevB L i), ptr (nextB L i)]
  keys : (L.map (·.1)).Nodup
  blks : (L.map (·.2.2)).Nodup
  kok : ∀ x ∈ L, kokSX x.1
  at_ : i < L.length

def paSX (tb : Nat) (L : List (Ent KeySX)) (i : Nat) : Addr := match prevB L i with | none => ⟨tb, 2, none⟩ | some p => ⟨p, 3, none⟩
def naSX (tb : Nat) (L : List (Ent KeySX)) (i : Nat) : Addr := match nextB L i with | none => ⟨tb, 3, none⟩ | some q => ⟨q, 2, none⟩

section
variable {w : World} {tb mb i : Nat} {most : Int} {L : List (Ent KeySX)}

theorem CutSX.prev (h : CutSX w tb most mb L i) : (i = 0 ∧ prevB L i = none) ∨ ∃ x, L[i - 1]? = some x ∧ prevB L i = some x.2.2 ∧ 0 < i := by
  have := h.at_
  by_cases e : i = 0
  · exact .inl ⟨e, by unfold prevB; rw [if_pos e]⟩
  · have hl : i - 1 < L.length := by omega
    exact .inr ⟨_, List.getElem?_eq_getElem hl, by unfold prevB; rw [if_neg e]; exact blkAt_get (List.getElem?_eq_getElem hl), by omega⟩
theorem CutSX.next (h : CutSX w tb most mb L i) : (i + 1 = L.length ∧ nextB L i = none) ∨ ∃ x, L[i + 1]? = some x ∧ nextB L i = some x.2.2 ∧ i + 1 < L.length := by
  have := h.at_
  by_cases e : i + 1 = L.length
  · exact .inl ⟨e, by unfold nextB; exact blkAt_over (by omega)⟩
  · have hl : i + 1 < L.length := by omega
    exact .inr ⟨_, List.getElem?_eq_getElem hl, by unfold nextB; exact blkAt_get (List.getElem?_eq_getElem hl), hl⟩

theorem CutSX.tab1 (h : CutSX w tb most mb L i) (u : Value) : Whole (w.setCell (paSX tb L i) u) tb 83 #[.int .i64 most, .map (some mb), if i = 0 then u else ptr (blkAt L 0), ptr (lastB L)] := by
  rcases h.prev with ⟨rfl, e⟩ | ⟨x, hx, e, hi⟩
  · unfold paSX
    rw [e, if_pos rfl]
    exact h.tab.set 2 u
  · unfold paSX
    rw [e, if_neg (by omega)]
    exact h.tab.far (p := ⟨x.2.2, 3, none⟩) (Ne.symm ((h.ents _ _ hx).ne h.tab (by decide))) u

theorem CutSX.ent1 (h : CutSX w tb most mb L i) (u : Value) {j : Nat} {x : Ent KeySX} (hj : L[j]? = some x) :
    Whole (w.setCell (paSX tb L i) u) x.2.2 87 #[kvSX x.1, .int .i32 x.2.1, ptr (prevB L j), if j + 1 = i then u else ptr (nextB L j)] := by
  have hx := h.ents j x hj
  rcases h.prev with ⟨rfl, e⟩ | ⟨y, hy, e, hi⟩
  · unfold paSX
    rw [e, if_neg (by omega)]
    exact hx.far (p := ⟨tb, 2, none⟩) (hx.ne h.tab (by decide)) u
  · unfold paSX
    rw [e]
    by_cases e2 : j + 1 = i
    · rw [if_pos e2]
      have : i - 1 = j := by omega
      rw [this, hj] at hy
      cases hy
      exact hx.set 3 u
    · rw [if_neg e2]
      exact hx.far (p := ⟨y.2.2, 3, none⟩) (fun e3 => by have := blk_inj h.blks hj hy e3; omega) u

theorem CutSX.tab2 (h : CutSX w tb most mb L i) {w1 : World} {c : Value} (h1 : Whole w1 tb 83 #[.int .i64 most, .map (some mb), c, ptr (lastB L)]) (u : Value) :
    Whole (w1.setCell (naSX tb L i) u) tb 83 #[.int .i64 most, .map (some mb), c, if i + 1 = L.length then u else ptr (lastB L)] := by
  rcases h.next with ⟨e0, e⟩ | ⟨x, hx, e, hi⟩
  · unfold naSX
    rw [e, if_pos e0]
    exact h1.set 3 u
  · unfold naSX
    rw [e, if_neg (by omega)]
    exact h1.far (p := ⟨x.2.2, 2, none⟩) (Ne.symm ((h.ents _ _ hx).ne h.tab (by decide))) u

theorem CutSX.ent2 (h : CutSX w tb most mb L i) {w1 : World} {c d : Value} {j : Nat} {x : Ent KeySX} (hj : L[j]? = some x) (h1 : Whole w1 x.2.2 87 #[kvSX x.1, .int .i32 x.2.1, c, d]) (u : Value) :
    Whole (w1.setCell (naSX tb L i) u) x.2.2 87 #[kvSX x.1, .int .i32 x.2.1, if j = i + 1 then u else c, d] := by
  have hx := h.ents j x hj
  have hjl : j < L.length := (List.getElem?_eq_some_iff.1 hj).1
  rcases h.next with ⟨e0, e⟩ | ⟨y, hy, e, hi⟩
  · unfold naSX
    rw [e, if_neg (by omega)]
    exact h1.far (p := ⟨tb, 3, none⟩) (hx.ne h.tab (by decide)) u
  · unfold naSX
    rw [e]
    by_cases e2 : j = i + 1
    · rw [if_pos e2]
      rw [← e2, hj] at hy
      cases hy
      exact h1.set 2 u
    · rw [if_neg e2]
      exact h1.far (p := ⟨y.2.2, 2, none⟩) (fun e3 => e2 (blk_inj h.blks hj hy e3)) u

theorem pa_neSX (h : CutSX w tb most mb L i) : mb ≠ (paSX tb L i).block := by
  obtain ⟨D, hm, _⟩ := h.map
  rcases h.prev with ⟨e0, e⟩ | ⟨x, hx, e, hi⟩
  · unfold paSX
    rw [e]
    exact map_not_cells hm h.tab
  · unfold paSX
    rw [e]
    exact map_not_cells hm (h.ents _ _ hx)
theorem na_neSX (h : CutSX w tb most mb L i) : mb ≠ (naSX tb L i).block := by
  obtain ⟨D, hm, _⟩ := h.map
  rcases h.next with ⟨e0, e⟩ | ⟨x, hx, e, hi⟩
  · unfold naSX
    rw [e]
    exact map_not_cells hm h.tab
  · unfold naSX
    rw [e]
    exact map_not_cells hm (h.ents _ _ hx)

theorem leftSX (h : CutSX w tb most mb L i) : TabSX ((w.setCell (paSX tb L i) (ptr (nextB L i))).setCell (naSX tb L i) (ptr (prevB L i))) tb most (some mb) (L.eraseIdx i) := by
  have hil := h.at_
  obtain ⟨D, hm, hr⟩ := h.map
  have hlen : (L.eraseIdx i).length = L.length - 1 := by rw [List.length_eraseIdx, if_pos hil]
  refine ⟨?_, .inr ⟨mb, D, rfl, (hm.setCell (pa_neSX h) _).setCell (na_neSX h) _, hr⟩, ?_, ?_, ?_, ?_⟩
  · have := h.tab2 (h.tab1 (ptr (nextB L i))) (ptr (prevB L i))
    have e1 : (if i = 0 then ptr (nextB L i) else ptr (blkAt L 0)) = ptr (blkAt (L.eraseIdx i) 0) := by
      rw [blkAt_eraseSX]
      by_cases e : i = 0
      · subst e
        simp [nextB]
      · rw [if_neg e, if_pos (by omega)]
    have e2 : (if i + 1 = L.length then ptr (prevB L i) else ptr (lastB L)) = ptr (lastB (L.eraseIdx i)) := by
      unfold lastB
      rw [hlen]
      by_cases e : i + 1 = L.length
      · have e' : L.length - 1 = i := by omega
        rw [if_pos e, e']
        unfold prevB
        by_cases e0 : i = 0
        · rw [if_pos e0, if_pos e0]
        · rw [if_neg e0, if_neg e0, blkAt_eraseSX, if_pos (by omega)]
      · rw [if_neg e]
        unfold prevB
        rw [if_neg (by omega), if_neg (by omega), blkAt_eraseSX, if_neg (by omega), show L.length - 1 - 1 + 1 = L.length - 1 by omega]
    rw [e1, e2] at this
    exact this
  · intro j x hj
    rw [List.getElem?_eraseIdx] at hj
    by_cases e : j < i
    · rw [if_pos e] at hj
      have := h.ent2 hj (h.ent1 (ptr (nextB L i)) hj) (ptr (prevB L i))
      have e1 : (if j = i + 1 then ptr (prevB L i) else ptr (prevB L j)) = ptr (prevB (L.eraseIdx i) j) := by
        rw [if_neg (by omega)]
        unfold prevB
        by_cases e0 : j = 0
        · rw [if_pos e0, if_pos e0]
        · rw [if_neg e0, if_neg e0, blkAt_eraseSX, if_pos (by omega)]
      have e2 : (if j + 1 = i then ptr (nextB L i) else ptr (nextB L j)) = ptr (nextB (L.eraseIdx i) j) := by
        unfold nextB
        rw [blkAt_eraseSX]
        by_cases e0 : j + 1 = i
        · rw [if_pos e0, if_neg (by omega), e0]
        · rw [if_neg e0, if_pos (by omega)]
      rw [e1, e2] at this
      exact this
    · rw [if_neg e] at hj
      have := h.ent2 hj (h.ent1 (ptr (nextB L i)) hj) (ptr (prevB L i))
      have e1 : (if j + 1 = i + 1 then ptr (prevB L i) else ptr (prevB L (j + 1))) = ptr (prevB (L.eraseIdx i) j) := by
        unfold prevB
        by_cases e0 : j = i
        · subst e0
          rw [if_pos rfl]
          by_cases e3 : j = 0
          · rw [if_pos e3, if_pos e3]
          · rw [if_neg e3, if_neg e3, blkAt_eraseSX, if_pos (by omega)]
        · rw [if_neg (by omega), if_neg (by omega), if_neg (by omega), blkAt_eraseSX, if_neg (by omega), show j - 1 + 1 = j + 1 - 1 by omega]
      have e2 : (if j + 1 + 1 = i then ptr (nextB L i) else ptr (nextB L (j + 1))) = ptr (nextB (L.eraseIdx i) j) := by
        rw [if_neg (by omega)]
        unfold nextB
        rw [blkAt_eraseSX, if_neg (by omega)]
      rw [e1, e2] at this
      exact this
  · rw [map_eraseSX]; exact nodup_eraseSX h.keys i
  · rw [map_eraseSX]; exact nodup_eraseSX h.blks i
  · intro x hx
    exact h.kok x (List.mem_of_mem_eraseIdx hx)

theorem pa_inSX (h : CutSX w tb most mb L i) : TabSSX tb (some mb) L (paSX tb L i).block := by
  rcases h.prev with ⟨e0, e⟩ | ⟨x, hx, e, hi⟩
  · unfold paSX
    rw [e]
    exact .inl rfl
  · unfold paSX
    rw [e]
    exact .inr (.inr ⟨x, List.mem_of_getElem? hx, rfl⟩)
theorem na_inSX (h : CutSX w tb most mb L i) : TabSSX tb (some mb) L (naSX tb L i).block := by
  rcases h.next with ⟨e0, e⟩ | ⟨x, hx, e, hi⟩
  · unfold naSX
    rw [e]
    exact .inl rfl
  · unfold naSX
    rw [e]
    exact .inr (.inr ⟨x, List.mem_of_getElem? hx, rfl⟩)
end

/-- The map has lost its key. -/
theorem cut_ofSX {w w1 : World} {tb : Nat} {most : Int} {mb : Nat} {L : List (Ent KeySX)} {D : DataW Unit} {i : Nat} {x : Ent KeySX} {n : Nat} (h : TabSX w tb most (some mb) L) (hi : L[i]? = some x)
    (hm : w.ownsMap Try.prog 9 ptrElem mb n D) (hr : MapRelSX D L) (h1 : w1.ownsMap Try.prog 9 ptrElem mb n (D.del (klitSX x.1))) (hg : w.grownBy w1 (some mb)) : CutSX w1 tb most mb L i := by
  have hO := only_of_grown hg
  have hr1 := mapRel_delSX hr hm h.keys hi (h.kok x (List.mem_of_getElem? hi))
  have ht := ownsMap_tight h1
  rw [hr1.size] at ht
  exact ⟨h.tab.only hO (Ne.symm (map_not_cells hm h.tab)), ⟨_, ht, hr1⟩, fun j y hj => (h.ents j y hj).only hO (Ne.symm (map_not_cells hm (h.ents j y hj))), h.keys, h.blks, h.kok, (List.getElem?_eq_some_iff.1 hi).1⟩

end Go.Proofs.Ytgcnocaibhiggaa
