/- What leave does: the walk. -/
import Derived.Test.YtgcnocaibhiggaaTableLeaveSX
namespace Go.Proofs.Ytgcnocaibhiggaa
open Go.RowKit Go.Shelf Go.Maps
set_option linter.unusedVariables false

theorem TabSX.drew {w : World} {tb : Nat} {most : Int} {mv : Option Nat} {L : List (Ent KeySX)} (h : TabSX w tb most mv L) : TabSX w.drew tb most mv L := ⟨h.tab, h.map, h.ents, h.keys, h.blks, h.kok⟩
theorem TabSX.drewN {w : World} {tb : Nat} {most : Int} {mv : Option Nat} {L : List (Ent KeySX)} (h : TabSX w tb most mv L) (n : Nat) : TabSX (w.drewN n) tb most mv L := ⟨h.tab, h.map, h.ents, h.keys, h.blks, h.kok⟩

/-- What leave comes to. -/
def LeftSX (w w' : World) (tb : Nat) (most : Int) (mv : Option Nat) (L : List (Ent KeySX)) (i : Nat) : Prop :=
  TabSX w' tb most mv (L.eraseIdx i) ∧ Only (TabSSX tb mv L) w w'

set_option maxHeartbeats 1600000 in
set_option maxRecDepth 100000 in
theorem leave_atSX (tb : Nat) (most : Int) (mb : Nat) (L : List (Ent KeySX)) (i : Nat) (x : Ent KeySX) (w : World) (h : TabSX w tb most (some mb) L) (hi : L[i]? = some x) :
    Calls Try.prog 47 #[.pointer (some ⟨tb, 0, none⟩), .pointer (some ⟨x.2.2, 0, none⟩)] w fun e w' => e = .returned (.tuple #[]) ∧ LeftSX w w' tb most (some mb) L i := by
  obtain ⟨D, hm, hr⟩ : ∃ D, w.ownsMap Try.prog 9 ptrElem mb L.length D ∧ MapRelSX D L := by
    rcases h.map with ⟨h0, _⟩ | ⟨mb', D, h0, hm, hr⟩
    · cases h0
    · cases h0; exact ⟨D, hm, hr⟩
  have hx := h.ents i x hi
  obtain ⟨k, v, ge⟩ := x
  simp only at hx ⊢
  have hk : kokSX k := h.kok _ (List.mem_of_getElem? hi)
  have h1 := h.tab.cell 1
  have e0 := hx.cell 0
  simp at h1 e0
  have hkey := keyOfSX hk
  simp only [kvSX] at e0 hkey
  have HH := Lib.hid (And.intro h (And.intro hi (And.intro hm hr)))
  clear h hx hm hr hk
  go_enter Try.func47, Try.ntmps47
  go_wp2_with fail
  go_still_tail 8, (by kernel_rfl)
  change wpList _ _ _ _ _ w.drew
  go_wp2_with (at_delete; go_must (refine wpList_delete_own _ rfl _ _ 80 9 rfl 81 lawSX Try.underlying80 ptrElem mb L.length D rfl HH.out.2.2.1.drew _ (klitSX k) rfl hkey ?_))
  intro w3 hown3 hturn3
  have hcut := cut_ofSX (w := w.drew) HH.out.1.drew HH.out.2.1 HH.out.2.2.1.drew HH.out.2.2.2 hown3 hturn3.grown
  have hO3 : Only (TabSSX tb (some mb) L) w w3 := (Only.refl _ w).drew.grown hturn3.grown (fun k e => .inl (.inr (.inl e)))
  have hx := hcut.ents i _ hi
  simp only at hx
  have htb := hcut.tab
  have c2 := hx.cell 2
  have c3 := hx.cell 3
  have t2 := htb.cell 2
  have t3 := htb.cell 3
  have ft2 := htb.frz 2
  have ft3 := htb.frz 3
  have hgt : ge ≠ tb := hx.ne htb (by decide)
  have htg : tb ≠ ge := Ne.symm hgt
  simp at c2 c3 t2 t3
  have hL := leftSX hcut
  have hpi := pa_inSX hcut
  have hni := na_inSX hcut
  rcases hcut.prev with ⟨hi0, ep⟩ | ⟨xp, hxp, ep, hi0⟩
  · rcases hcut.next with ⟨hil, en⟩ | ⟨xn, hxn, en, hil⟩
    · unfold paSX at hL hpi
      unfold naSX at hL hni
      simp only [ep, en, ptr_none] at hL hpi hni c2 c3
      have HD := Lib.hid (And.intro hL (And.intro hO3 (And.intro hpi hni)))
      clear hcut hL hO3 hpi hni hx htb ep en hown3 hturn3
      go_wp2_with fail
      go_end0
      obtain ⟨hL, hO3, hpi, hni⟩ := HD.out
      have hOO := fun p q (hp : TabSSX tb (some mb) L p.block) (hq : TabSSX tb (some mb) L q.block) (a b : Value) => (hO3.setCell (p := p) (.inl hp) a).setCell (p := q) (.inl hq) b
      first
        | exact ⟨rfl, hL, hOO _ _ hpi hni _ _⟩
        | exact ⟨rfl, hL.drew, (hOO _ _ hpi hni _ _).drew⟩
        | exact ⟨rfl, hL.drew.drew, (hOO _ _ hpi hni _ _).drew.drew⟩
        | exact ⟨rfl, hL.drewN _, (hOO _ _ hpi hni _ _).drewN _⟩
    · have hnx := hcut.ents _ _ hxn
      have hnt : xn.2.2 ≠ tb := hnx.ne htb (by decide)
      have hng : xn.2.2 ≠ ge := fun e => by have := blk_inj hcut.blks hxn hi e; omega
      have n2 := hnx.cell 2
      have fn2 := hnx.frz 2
      simp at n2
      unfold paSX at hL hpi
      unfold naSX at hL hni
      simp only [ep, en, ptr_none, ptr_some] at hL hpi hni c2 c3
      obtain ⟨nb, hnb⟩ : ∃ nb, xn.2.2 = nb := ⟨_, rfl⟩
      simp only [hnb] at *
      have HD := Lib.hid (And.intro hL (And.intro hO3 (And.intro hpi hni)))
      clear hcut hL hO3 hpi hni hx htb ep en hnx hxn hown3 hturn3
      go_wp2_with fail
      go_region
      go_wp2_with fail
      go_end0
      obtain ⟨hL, hO3, hpi, hni⟩ := HD.out
      have hOO := fun p q (hp : TabSSX tb (some mb) L p.block) (hq : TabSSX tb (some mb) L q.block) (a b : Value) => (hO3.setCell (p := p) (.inl hp) a).setCell (p := q) (.inl hq) b
      first
        | exact ⟨rfl, hL, hOO _ _ hpi hni _ _⟩
        | exact ⟨rfl, hL.drew, (hOO _ _ hpi hni _ _).drew⟩
        | exact ⟨rfl, hL.drew.drew, (hOO _ _ hpi hni _ _).drew.drew⟩
        | exact ⟨rfl, hL.drewN _, (hOO _ _ hpi hni _ _).drewN _⟩
  · rcases hcut.next with ⟨hil, en⟩ | ⟨xn, hxn, en, hil⟩
    · have hpx := hcut.ents _ _ hxp
      have hpt : xp.2.2 ≠ tb := hpx.ne htb (by decide)
      have hpg : xp.2.2 ≠ ge := fun e => by have := blk_inj hcut.blks hxp hi e; omega
      have p3 := hpx.cell 3
      have fp3 := hpx.frz 3
      simp at p3
      unfold paSX at hL hpi
      unfold naSX at hL hni
      simp only [ep, en, ptr_none, ptr_some] at hL hpi hni c2 c3
      obtain ⟨pb, hpb⟩ : ∃ pb, xp.2.2 = pb := ⟨_, rfl⟩
      simp only [hpb] at *
      have HD := Lib.hid (And.intro hL (And.intro hO3 (And.intro hpi hni)))
      clear hcut hL hO3 hpi hni hx htb ep en hpx hxp hown3 hturn3
      go_wp2_with fail
      go_region
      go_wp2_with fail
      go_end0
      obtain ⟨hL, hO3, hpi, hni⟩ := HD.out
      have hOO := fun p q (hp : TabSSX tb (some mb) L p.block) (hq : TabSSX tb (some mb) L q.block) (a b : Value) => (hO3.setCell (p := p) (.inl hp) a).setCell (p := q) (.inl hq) b
      first
        | exact ⟨rfl, hL, hOO _ _ hpi hni _ _⟩
        | exact ⟨rfl, hL.drew, (hOO _ _ hpi hni _ _).drew⟩
        | exact ⟨rfl, hL.drew.drew, (hOO _ _ hpi hni _ _).drew.drew⟩
        | exact ⟨rfl, hL.drewN _, (hOO _ _ hpi hni _ _).drewN _⟩
    · have hpx := hcut.ents _ _ hxp
      have hpt : xp.2.2 ≠ tb := hpx.ne htb (by decide)
      have hpg : xp.2.2 ≠ ge := fun e => by have := blk_inj hcut.blks hxp hi e; omega
      have p3 := hpx.cell 3
      have fp3 := hpx.frz 3
      simp at p3
      have hnx := hcut.ents _ _ hxn
      have hnt : xn.2.2 ≠ tb := hnx.ne htb (by decide)
      have hng : xn.2.2 ≠ ge := fun e => by have := blk_inj hcut.blks hxn hi e; omega
      have n2 := hnx.cell 2
      have fn2 := hnx.frz 2
      simp at n2
      have hpn : xp.2.2 ≠ xn.2.2 := fun e => by have := blk_inj hcut.blks hxp hxn e; omega
      unfold paSX at hL hpi
      unfold naSX at hL hni
      simp only [ep, en, ptr_some] at hL hpi hni c2 c3
      obtain ⟨pb, hpb⟩ : ∃ pb, xp.2.2 = pb := ⟨_, rfl⟩
      simp only [hpb] at *
      obtain ⟨nb, hnb⟩ : ∃ nb, xn.2.2 = nb := ⟨_, rfl⟩
      simp only [hnb] at *
      have HD := Lib.hid (And.intro hL (And.intro hO3 (And.intro hpi hni)))
      clear hcut hL hO3 hpi hni hx htb ep en hpx hxp hnx hxn hown3 hturn3
      go_wp2_with fail
      go_region
      go_wp2_with fail
      go_region
      go_wp2_with fail
      go_end0
      obtain ⟨hL, hO3, hpi, hni⟩ := HD.out
      have hOO := fun p q (hp : TabSSX tb (some mb) L p.block) (hq : TabSSX tb (some mb) L q.block) (a b : Value) => (hO3.setCell (p := p) (.inl hp) a).setCell (p := q) (.inl hq) b
      first
        | exact ⟨rfl, hL, hOO _ _ hpi hni _ _⟩
        | exact ⟨rfl, hL.drew, (hOO _ _ hpi hni _ _).drew⟩
        | exact ⟨rfl, hL.drew.drew, (hOO _ _ hpi hni _ _).drew.drew⟩
        | exact ⟨rfl, hL.drewN _, (hOO _ _ hpi hni _ _).drewN _⟩

end Go.Proofs.Ytgcnocaibhiggaa
