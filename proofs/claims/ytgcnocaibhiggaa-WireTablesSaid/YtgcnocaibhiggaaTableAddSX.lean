/- What join does. -/
import Derived.Test.YtgcnocaibhiggaaTableJoinSX
import Derived.StillTailTactics
import Derived.Deep.CutRange
import Derived.Deep.DeepCutAuto
import Derived.Deep.RegionLaw
namespace Go.Proofs.Ytgcnocaibhiggaa
open Go.RowKit Go.Shelf Go.Maps
set_option linter.unusedVariables false

theorem only_of_grown {w w' : World} {b : Nat} (h : w.grownBy w' (some b)) : Only (fun j => j = b) w w' := ⟨h.os, h.tape, h.output, h.size, fun k hk hn => h.block k hk (fun e => hn (by injection e))⟩

/-- The map has its new key. -/
theorem mid_ofSX {w w1 : World} {tb : Nat} {most : Int} {mb : Nat} {L : List (Ent KeySX)} {k : KeySX} {v : Int} {g n : Nat} {D : DataW Unit}
    (htab : Whole w tb 83 #[.int .i64 most, .map (some mb), ptr (blkAt L 0), ptr (lastB L)]) (hm : w.ownsMap Try.prog 9 ptrElem mb n D) (hr : MapRelSX D L)
    (hents : ∀ (i : Nat) (x : Ent KeySX), L[i]? = some x → Whole w x.2.2 87 #[kvSX x.1, .int .i32 x.2.1, ptr (prevB L i), ptr (nextB L i)])
    (hk : (L.map (·.1)).Nodup) (hb : (L.map (·.2.2)).Nodup) (hok : ∀ x ∈ L, kokSX x.1) (hnew : Whole w g 87 #[kvSX k, .int .i32 v, .pointer none, .pointer none]) (hf : ∀ x ∈ L, x.2.2 ≠ g) (hkey : blkOf L k = none) (hkok : kokSX k)
    (h1 : w1.ownsMap Try.prog 9 ptrElem mb (n + 1) (D.put (klitSX k) (.lit (.int .i64 (g : Int))))) (hg : w.grownBy w1 (some mb)) : MidSX w1 tb most mb L k v g := by
  have hO := only_of_grown hg
  have hr1 := mapRel_putSX hr hm hkok hkey v g
  have ht := ownsMap_tight h1
  rw [hr1.size] at ht
  exact ⟨htab.only hO (Ne.symm (map_not_cells hm htab)), ⟨_, ht, hr1⟩, fun i x hi => (hents i x hi).only hO (Ne.symm (map_not_cells hm (hents i x hi))), hk, hb, hok, hnew.only hO (Ne.symm (map_not_cells hm hnew)), hf, hkey, hkok⟩

theorem lastB_nil {K : Type} : lastB ([] : List (Ent K)) = none := rfl
theorem lastB_some {K : Type} {L : List (Ent K)} (h : L ≠ []) : ∃ gl, lastB L = some gl := by
  unfold lastB prevB
  have hl : L.length ≠ 0 := fun e => h (List.eq_nil_of_length_eq_zero e)
  rw [if_neg hl]
  have : L.length - 1 < L.length := by omega
  exact ⟨_, blkAt_get (List.getElem?_eq_getElem this)⟩

/-- What join comes to. -/
def JoinedSX (w w' : World) (tb : Nat) (most : Int) (mv : Option Nat) (L : List (Ent KeySX)) (k : KeySX) (v : Int) (g : Nat) : Prop :=
  ∃ mb, TabSX w' tb most (some mb) (L ++ [(k, v, g)]) ∧ Only (fun j => TabSSX tb mv L j ∨ j = g) w w' ∧ (mv = some mb ∨ (mv = none ∧ w.heap.size ≤ mb))

set_option maxHeartbeats 1600000 in
set_option maxRecDepth 100000 in
theorem join_nilSX (tb : Nat) (most : Int) (k : KeySX) (v : Int) (g : Nat) (w : World) (h : TabSX w tb most none []) (hnew : Whole w g 87 #[kvSX k, .int .i32 v, .pointer none, .pointer none]) (hk : kokSX k) :
    Calls Try.prog 46 #[.pointer (some ⟨tb, 0, none⟩), .pointer (some ⟨g, 0, none⟩)] w fun e w' => e = .returned (.tuple #[]) ∧ JoinedSX w w' tb most none [] k v g := by
  have h1 := h.tab.cell 1
  have f1 := h.tab.frz 1
  have e0 := hnew.cell 0
  simp at h1 e0
  have hkey := keyOfSX hk
  simp only [kvSX] at e0 hkey
  have hval := ptrElem_mk (some g)
  simp only [ptr_some, numOf] at hval
  have hgt : g ≠ tb := hnew.ne h.tab (by decide)
  obtain ⟨w2, hw2⟩ : ∃ w2, (w.alloc (.map #[] 0)).setCell ⟨tb, 1, none⟩ (.map (some w.heap.size)) = w2 := ⟨_, rfl⟩
  have htl := h.tab.lt
  have hgl := hnew.lt
  have hm0 : w2.ownsMap Try.prog 9 ptrElem w.heap.size 0 (.map []) := by
    rw [← hw2]
    exact (World.ownsMap_made w Try.prog 9 ptrElem).setCell (a := ⟨tb, 1, none⟩) (by show w.heap.size ≠ tb; omega) _
  have htab2 : Whole w2 tb 83 #[.int .i64 most, .map (some w.heap.size), .pointer none, .pointer none] := by
    rw [← hw2]
    exact (h.tab.alloc (.map #[] 0)).set 1 (.map (some w.heap.size))
  have hnew2 : Whole w2 g 87 #[kvSX k, .int .i32 v, .pointer none, .pointer none] := by
    rw [← hw2]
    exact (hnew.alloc (.map #[] 0)).far (p := ⟨tb, 1, none⟩) hgt _
  have hO2 : Only (fun j => TabSSX tb none ([] : List (Ent KeySX)) j ∨ j = g) w w2 := by
    rw [← hw2]
    exact ((Only.refl _ w).alloc _).setCell (p := ⟨tb, 1, none⟩) (.inl (.inl (.inl rfl))) _
  have t1 := htab2.cell 1
  have t3 := htab2.cell 3
  have n0 := hnew2.cell 0
  simp at t1 t3 n0
  simp only [kvSX] at n0
  have HM := Lib.hid (And.intro hm0 (And.intro htab2 (And.intro hnew2 hO2)))
  have HH := Lib.hid (And.intro h hk)
  clear h hnew htab2 hnew2 hO2
  have hmm := @run_makeMap Try.prog
  have hq : ∀ (w : World) (r : Option Nat), (binOp .eql 80 (.map r) (.map none)).run Try.prog w = .ok (.bool r.isNone) w := fun w r => run_eql_map_nil w _ _ _ r Try.underlying80
  go_enter Try.func46, Try.ntmps46
  go_upto_region 2 with fail
  go_still_tail 9, (by kernel_rfl)
  change wpList _ _ _ _ _ w2.drew
  go_wp2_with (at_mapUpdate; go_must (refine wpList_mapUpdate_own _ rfl _ _ _ 80 rfl 9 81 lawSX Try.underlying80 ptrElem w.heap.size 0 (.map []) rfl HM.out.1.drew (by unfold maxLen; omega) _ _ (klitSX k) rfl rfl hkey _ [] hval ?_))
  intro w3 hown3 hgr3
  have hmid := mid_ofSX (k := k) (v := v) (L := []) (w := w2.drew) HM.out.2.1 HM.out.1.drew mapRel_nilSX (fun i x hi => by simp at hi) (by simp) (by simp) (by simp) HM.out.2.2.1 (by simp) rfl HH.out.2 hown3 hgr3
  have hO3 : Only (fun j => TabSSX tb none ([] : List (Ent KeySX)) j ∨ j = g) w w3 := HM.out.2.2.2.drew.grown hgr3 (fun k e => .inr (by cases e; exact Nat.le_refl _))
  have t3' := hmid.tab.cell 3
  have f2' := hmid.tab.frz 2
  have f3' := hmid.tab.frz 3
  have f4' := hmid.new.frz 2
  have g4' := hmid.new.cell 2
  have g5' := hmid.tab.cell 2
  simp [blkAt, lastB_nil] at t3' g4' g5'
  have HD := Lib.hid (And.intro hmid hO3)
  clear hmid hO3 hown3 hgr3 t1 t3 n0
  go_wp2_with fail
  go_end0
  obtain ⟨hmid, hO3⟩ := HD.out
  exact ⟨rfl, _, join_firstSX hmid, ((hO3.setCell (p := ⟨g, 2, none⟩) (.inl (.inr rfl)) _).setCell (p := ⟨tb, 2, none⟩) (.inl (.inl (.inl rfl))) _).setCell (p := ⟨tb, 3, none⟩) (.inl (.inl (.inl rfl))) _, .inr ⟨rfl, Nat.le_refl _⟩⟩

set_option maxHeartbeats 1600000 in
set_option maxRecDepth 100000 in
theorem join_someSX (tb : Nat) (most : Int) (mb : Nat) (L : List (Ent KeySX)) (k : KeySX) (v : Int) (g : Nat) (w : World) (h : TabSX w tb most (some mb) L) (hnew : Whole w g 87 #[kvSX k, .int .i32 v, .pointer none, .pointer none]) (hk : kokSX k)
    (hf : ∀ x ∈ L, x.2.2 ≠ g) (hn : blkOf L k = none) (hbig : L.length ≤ 1000000) :
    Calls Try.prog 46 #[.pointer (some ⟨tb, 0, none⟩), .pointer (some ⟨g, 0, none⟩)] w fun e w' => e = .returned (.tuple #[]) ∧ JoinedSX w w' tb most (some mb) L k v g := by
  obtain ⟨D, hm, hr⟩ : ∃ D, w.ownsMap Try.prog 9 ptrElem mb L.length D ∧ MapRelSX D L := by
    rcases h.map with ⟨h0, _⟩ | ⟨mb', D, h0, hm, hr⟩
    · cases h0
    · cases h0; exact ⟨D, hm, hr⟩
  have h1 := h.tab.cell 1
  have e0 := hnew.cell 0
  simp at h1 e0
  have hkey := keyOfSX hk
  simp only [kvSX] at e0 hkey
  have hval := ptrElem_mk (some g)
  simp only [ptr_some, numOf] at hval
  have hgt : g ≠ tb := hnew.ne h.tab (by decide)
  have HH := Lib.hid (And.intro h (And.intro hnew (And.intro hk (And.intro hf (And.intro hn (And.intro hm hr))))))
  clear h hnew hk hf hn hm hr
  have hq : ∀ (w : World) (r : Option Nat), (binOp .eql 80 (.map r) (.map none)).run Try.prog w = .ok (.bool r.isNone) w := fun w r => run_eql_map_nil w _ _ _ r Try.underlying80
  go_enter Try.func46, Try.ntmps46
  go_upto_region 2 with fail
  go_still_tail 9, (by kernel_rfl)
  change wpList _ _ _ _ _ w.drew
  go_wp2_with (at_mapUpdate; go_must (refine wpList_mapUpdate_own _ rfl _ _ _ 80 rfl 9 81 lawSX Try.underlying80 ptrElem mb L.length D rfl HH.out.2.2.2.2.2.1.drew (by unfold maxLen; omega) _ _ (klitSX k) rfl rfl hkey _ [] hval ?_))
  intro w3 hown3 hgr3
  obtain ⟨h, hnew, hk, hf, hn, hm, hr⟩ := HH.out
  have hmid := mid_ofSX (w := w.drew) h.tab hm.drew hr h.ents h.keys h.blks h.kok hnew hf hn hk hown3 hgr3
  have hO3 : Only (fun j => TabSSX tb (some mb) L j ∨ j = g) w w3 := (Only.refl _ w).drew.grown hgr3 (fun k e => .inl (.inl (.inr (.inl e))))
  have t3' := hmid.tab.cell 3
  have f2' := hmid.tab.frz 2
  have f3' := hmid.tab.frz 3
  have f4' := hmid.new.frz 2
  have g4' := hmid.new.cell 2
  have g5' := hmid.tab.cell 2
  simp at t3' g4' g5'
  have HD := Lib.hid (And.intro hmid hO3)
  clear h hnew hk hf hn hm hr hO3 hown3 hgr3
  by_cases hL : L = []
  · subst hL
    simp [blkAt, lastB_nil] at t3' g5'
    clear hmid
    go_wp2_with fail
    go_end0
    obtain ⟨hmid, hO3⟩ := HD.out
    exact ⟨rfl, _, join_firstSX hmid, ((hO3.setCell (p := ⟨g, 2, none⟩) (.inl (.inr rfl)) _).setCell (p := ⟨tb, 2, none⟩) (.inl (.inl (.inl rfl))) _).setCell (p := ⟨tb, 3, none⟩) (.inl (.inl (.inl rfl))) _, .inl rfl⟩
  · obtain ⟨gl, hgl⟩ := lastB_some hL
    rw [hgl] at t3'
    simp at t3'
    obtain ⟨xl, il, hxl, hxg⟩ : ∃ (xl : Ent KeySX) (i : Nat), L[i]? = some xl ∧ xl.2.2 = gl := by
      unfold lastB prevB at hgl
      split at hgl
      · cases hgl
      · obtain ⟨_, x, hx, hg⟩ := blkAt_lt hgl
        exact ⟨x, _, hx, hg⟩
    have hel := hmid.ents _ _ hxl
    rw [hxg] at hel
    have hgne : g ≠ gl := fun e => hmid.fresh xl (List.mem_of_getElem? hxl) (by rw [hxg, e])
    have hglt : gl ≠ tb := hel.ne hmid.tab (by decide)
    have l3 := hel.cell 3
    have lf := hel.frz 3
    simp at l3
    have HX := Lib.hid (And.intro hgl (⟨xl, List.mem_of_getElem? hxl, hxg⟩ : ∃ x ∈ L, x.2.2 = gl))
    clear hmid hgl hxl hxg hel
    go_wp2_with fail
    go_end0
    obtain ⟨hmid, hO3⟩ := HD.out
    exact ⟨rfl, _, join_moreSX hmid HX.out.1, ((hO3.setCell (p := ⟨g, 2, none⟩) (.inl (.inr rfl)) _).setCell (p := ⟨gl, 3, none⟩) (.inl (.inl (.inr (.inr HX.out.2)))) _).setCell (p := ⟨tb, 3, none⟩) (.inl (.inl (.inl rfl))) _, .inl rfl⟩

end Go.Proofs.Ytgcnocaibhiggaa
