/- What join makes of a table. -/
import Derived.Test.YtgcnocaibhiggaaTableSX
import Derived.Maps.OwnOps
import Derived.Deep.DeepMust
namespace Go.Proofs.Ytgcnocaibhiggaa
open Go.RowKit Go.Shelf Go.Maps
set_option linter.unusedVariables false

/-- Where everything lies when the map has its new key and the list doesn't. -/
structure MidSX (w : World) (tb : Nat) (most : Int) (mb : Nat) (L : List (Ent KeySX)) (k : KeySX) (v : Int) (g : Nat) : Prop where
  tab : Whole w tb 83 #[.int .i64 most, .map (some mb), ptr (blkAt L 0), ptr (lastB L)]
  map : ∃ D, w.ownsMap Try.prog 9 ptrElem mb (L ++ [(k, v, g)]).length D ∧ MapRelSX D (L ++ [(k, v, g)])
  ents : ∀ (i : Nat) (x : Ent KeySX), L[i]? = some x → Whole w x.2.2 87 #[kvSX x.1, .int .i32 x.2.1, ptr (prevB L i), ptr (nextB L i)]
  keys : (L.map (·.1)).Nodup
  blks : (L.map (·.2.2)).Nodup
  kok : ∀ x ∈ L, kokSX x.1
  new : Whole w g 87 #[kvSX k, .int .i32 v, .pointer none, .pointer none]
  fresh : ∀ x ∈ L, x.2.2 ≠ g
  key : blkOf L k = none
  keyOk : kokSX k

theorem nodup_snocSX {α : Type} {l : List α} {a : α} (h : l.Nodup) (hn : a ∉ l) : (l ++ [a]).Nodup := by
  rw [List.nodup_append]
  exact ⟨h, by simp, fun x hx y hy => by simp at hy; subst hy; intro e; subst e; exact hn hx⟩

theorem MidSX.lists {w : World} {tb mb g : Nat} {most v : Int} {L : List (Ent KeySX)} {k : KeySX} (h : MidSX w tb most mb L k v g) :
    ((L ++ [(k, v, g)]).map (·.1)).Nodup ∧ ((L ++ [(k, v, g)]).map (·.2.2)).Nodup ∧ ∀ x ∈ L ++ [(k, v, g)], kokSX x.1 := by
  refine ⟨?_, ?_, ?_⟩
  · rw [List.map_append]
    refine nodup_snocSX h.keys ?_
    intro hm
    obtain ⟨x, hx, e⟩ := List.mem_map.1 hm
    exact blkOf_none.1 h.key x hx e
  · rw [List.map_append]
    refine nodup_snocSX h.blks ?_
    intro hm
    obtain ⟨x, hx, e⟩ := List.mem_map.1 hm
    exact h.fresh x hx e
  · intro x hx
    rcases List.mem_append.1 hx with hx | hx
    · exact h.kok x hx
    · simp at hx; subst hx; exact h.keyOk

theorem join_firstSX {w : World} {tb mb g : Nat} {most v : Int} {k : KeySX} (h : MidSX w tb most mb [] k v g) :
    TabSX (((w.setCell ⟨g, 2, none⟩ (.pointer none)).setCell ⟨tb, 2, none⟩ (.pointer (some ⟨g, 0, none⟩))).setCell ⟨tb, 3, none⟩ (.pointer (some ⟨g, 0, none⟩))) tb most (some mb) [(k, v, g)] := by
  have hgt : g ≠ tb := h.new.ne h.tab (by decide)
  obtain ⟨D, hm, hr⟩ := h.map
  have m1 := map_not_cells hm h.new
  have m2 := map_not_cells hm h.tab
  obtain ⟨l1, l2, l3⟩ := h.lists
  refine ⟨(((h.tab.far (p := ⟨g, 2, none⟩) (Ne.symm hgt) _).set 2 _).set 3 _), .inr ⟨mb, D, rfl, ?_, hr⟩, ?_, l1, l2, l3⟩
  · exact ((hm.setCell (a := ⟨g, 2, none⟩) m1 _).setCell (a := ⟨tb, 2, none⟩) m2 _).setCell (a := ⟨tb, 3, none⟩) m2 _
  · intro i x hi
    match i, hi with
    | 0, hi =>
      simp at hi
      subst hi
      exact (((h.new.set 2 (.pointer none)).far (p := ⟨tb, 2, none⟩) hgt _).far (p := ⟨tb, 3, none⟩) hgt _)

theorem join_moreSX {w : World} {tb mb g gl : Nat} {most v : Int} {k : KeySX} {L : List (Ent KeySX)} (h : MidSX w tb most mb L k v g) (hl : lastB L = some gl) :
    TabSX (((w.setCell ⟨g, 2, none⟩ (.pointer (some ⟨gl, 0, none⟩))).setCell ⟨gl, 3, none⟩ (.pointer (some ⟨g, 0, none⟩))).setCell ⟨tb, 3, none⟩ (.pointer (some ⟨g, 0, none⟩))) tb most (some mb) (L ++ [(k, v, g)]) := by
  have hgt : g ≠ tb := h.new.ne h.tab (by decide)
  obtain ⟨D, hm, hr⟩ := h.map
  have m1 := map_not_cells hm h.new
  have m2 := map_not_cells hm h.tab
  obtain ⟨l1, l2, l3⟩ := h.lists
  have hL0 : L.length ≠ 0 := by
    intro e
    unfold lastB prevB at hl
    rw [if_pos e] at hl
    cases hl
  have hl' : blkAt L (L.length - 1) = some gl := by
    unfold lastB prevB at hl
    rwa [if_neg hL0] at hl
  obtain ⟨hlt, xl, hxl, hxg⟩ := blkAt_lt hl'
  subst hxg
  have hel := h.ents _ _ hxl
  have htl : xl.2.2 ≠ tb := hel.ne h.tab (by decide)
  have hgl : xl.2.2 ≠ g := h.fresh _ (List.mem_of_getElem? hxl)
  have m3 := map_not_cells hm hel
  refine ⟨?_, .inr ⟨mb, D, rfl, ?_, hr⟩, ?_, l1, l2, l3⟩
  · have := (((h.tab.far (p := ⟨g, 2, none⟩) (Ne.symm hgt) (.pointer (some ⟨xl.2.2, 0, none⟩))).far (p := ⟨xl.2.2, 3, none⟩) (Ne.symm htl) (.pointer (some ⟨g, 0, none⟩))).set 3 (.pointer (some ⟨g, 0, none⟩)))
    have e0 : blkAt (L ++ [(k, v, g)]) 0 = blkAt L 0 := blkAt_append (by omega)
    have e1 : lastB (L ++ [(k, v, g)]) = some g := by
      unfold lastB prevB
      rw [List.length_append, List.length_singleton, if_neg (by omega), Nat.add_sub_cancel]
      exact blkAt_append_last L _
    rw [e0, e1]
    exact this
  · exact ((hm.setCell (a := ⟨g, 2, none⟩) m1 _).setCell (a := ⟨xl.2.2, 3, none⟩) m3 _).setCell (a := ⟨tb, 3, none⟩) m2 _
  · intro i x hi
    rcases get_append_cases hi with ⟨hil, hix⟩ | ⟨rfl, rfl⟩
    · have hx := h.ents i x hix
      have hxt : x.2.2 ≠ tb := hx.ne h.tab (by decide)
      have hxg : x.2.2 ≠ g := h.fresh _ (List.mem_of_getElem? hix)
      have ep : prevB (L ++ [(k, v, g)]) i = prevB L i := by
        unfold prevB
        by_cases e : i = 0
        · rw [if_pos e, if_pos e]
        · rw [if_neg e, if_neg e]
          exact blkAt_append (by omega)
      by_cases e : i = L.length - 1
      · subst e
        rw [hxl] at hix
        cases hix
        have en : nextB (L ++ [(k, v, g)]) (L.length - 1) = some g := by
          unfold nextB
          rw [show L.length - 1 + 1 = L.length by omega]
          exact blkAt_append_last L _
        rw [ep, en]
        exact (((hx.far (p := ⟨g, 2, none⟩) hxg _).set 3 (.pointer (some ⟨g, 0, none⟩))).far (p := ⟨tb, 3, none⟩) hxt _)
      · have en : nextB (L ++ [(k, v, g)]) i = nextB L i := blkAt_append (by omega)
        have hne : x.2.2 ≠ xl.2.2 := fun e2 => e (blk_inj h.blks hix hxl e2)
        rw [ep, en]
        exact (((hx.far (p := ⟨g, 2, none⟩) hxg _).far (p := ⟨xl.2.2, 3, none⟩) hne _).far (p := ⟨tb, 3, none⟩) hxt _)
    · have ep : prevB (L ++ [(k, v, g)]) L.length = some xl.2.2 := by
        unfold prevB
        rw [if_neg hL0, blkAt_append (by omega)]
        exact hl'
      have en : nextB (L ++ [(k, v, g)]) L.length = none := blkAt_over (by simp)
      rw [ep, en]
      exact (((h.new.set 2 (.pointer (some ⟨xl.2.2, 0, none⟩))).far (p := ⟨xl.2.2, 3, none⟩) (Ne.symm hgl) _).far (p := ⟨tb, 3, none⟩) hgt _)

end Go.Proofs.Ytgcnocaibhiggaa
