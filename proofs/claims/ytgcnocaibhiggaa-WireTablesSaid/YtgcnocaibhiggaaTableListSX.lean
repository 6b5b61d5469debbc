/- What a table's list is: copies of the entries in new memory, in their order. -/
import Derived.Test.YtgcnocaibhiggaaTablePutSX
import Derived.Deep.LoopGhost
namespace Go.Proofs.Ytgcnocaibhiggaa
open Go.RowKit Go.Shelf Go.Maps
set_option linter.unusedVariables false

theorem Try.infoEntSX : (Try.prog.info? 87).map (fun i => (i.zero, i.size, i.bytes)) = some (some (.agg #[(.string .empty), .int .i32 0, .pointer none, .pointer none]), 4, 40) := by kernel_rfl

/-- An entry's cells. -/
def cellsAtSX (L : List (Ent KeySX)) (i : Nat) : List Value := match L[i]? with | some x => [kvSX x.1, .int .i32 x.2.1, ptr (prevB L i), ptr (nextB L i)] | none => []
def cellsToSX (L : List (Ent KeySX)) (j : Nat) : List Value := (List.range j).flatMap (cellsAtSX L)
theorem cellsTo_succSX (L : List (Ent KeySX)) (j : Nat) : cellsToSX L (j + 1) = cellsToSX L j ++ cellsAtSX L j := by simp [cellsToSX, List.range_succ, List.flatMap_append]
theorem cellsAt_getSX {L : List (Ent KeySX)} {i : Nat} {k : KeySX} {v : Int} {g : Nat} (h : L[i]? = some (k, v, g)) : cellsAtSX L i = [kvSX k, .int .i32 v, ptr (prevB L i), ptr (nextB L i)] := by simp [cellsAtSX, h]
theorem cellsTo_lengthSX (L : List (Ent KeySX)) : ∀ j, j ≤ L.length → (cellsToSX L j).length = j * 4
  | 0, _ => rfl
  | j + 1, h => by
    have hx := List.getElem?_eq_getElem (show j < L.length by omega)
    rw [cellsTo_succSX, List.length_append, cellsTo_lengthSX L j (by omega)]
    simp [cellsAtSX, hx]
    omega
/-- Where an entry's cells lie in the row. -/
theorem cellsTo_atSX {L : List (Ent KeySX)} {i : Nat} {k : KeySX} {v : Int} {g : Nat} (h : L[i]? = some (k, v, g)) : ∀ n, i < n → n ≤ L.length → ∀ (c : Nat) (u : Value), [kvSX k, .int .i32 v, ptr (prevB L i), ptr (nextB L i)][c]? = some u → (cellsToSX L n)[i * 4 + c]? = some u
  | 0, h0, _, _, _, _ => absurd h0 (Nat.not_lt_zero _)
  | n + 1, hn, hl, c, u, hu => by
    have hc : c < 4 := by have := (List.getElem?_eq_some_iff.1 hu).1; simpa using this
    rw [cellsTo_succSX]
    by_cases e : i = n
    · subst e
      rw [List.getElem?_append_right (by rw [cellsTo_lengthSX L i (by omega)]; omega), cellsTo_lengthSX L i (by omega), cellsAt_getSX h, Nat.add_sub_cancel_left]
      exact hu
    · rw [List.getElem?_append_left (by rw [cellsTo_lengthSX L n (by omega)]; omega)]
      exact cellsTo_atSX h n (by omega) (by omega) c u hu

set_option maxHeartbeats 3200000 in
set_option maxRecDepth 100000 in
theorem tlist_atSX {w : World} {tb : Nat} {most : Int} {mv : Option Nat} {L : List (Ent KeySX)} (h : TabSX w tb most mv L) (hbig : L.length ≤ 1000000) :
    Calls Try.prog 49 #[.pointer (some ⟨tb, 0, none⟩)] w fun e w' => ∃ g cap cur, e = .returned (.slice (some ⟨g, 0, none⟩) L.length cap) ∧ w.heap.size ≤ g ∧ Whole w' g 87 cur ∧ cur.toList.take (L.length * 4) = cellsToSX L L.length ∧ Below w.heap.size w w' := by
  obtain ⟨i0, hi, hz0, hz1, hz2⟩ := info_parts Try.infoEntSX
  have hlen := tlen_runSX h
  have h1 := h.tab.cell 1
  have h2 := h.tab.cell 2
  simp at h1 h2
  have HT := Lib.hid h
  clear h
  go_enter Try.func49, Try.ntmps49
  go_wp2_with (at_make; go_must (refine wpList_make_own _ rfl _ _ 89 rfl w.heap.size 87 i0 _ 4 Try.underlying89 hi hz0 hz1 .i64 .i64 _ L.length rfl rfl rfl ?q1 ?q2 ?q3 ?_))
  case q1 => rw [hz2]; omega
  case q2 => unfold maxLen; omega
  case q3 => exact Nat.le_refl _
  intro w1 hown1 hgr1
  have hT1 := HT.out.below (w' := w1) ⟨hgr1.os, hgr1.tape, hgr1.output, hgr1.size, fun k hk => hgr1.block k hk (by simp)⟩
  have h21 := hT1.tab.cell 2
  simp at h21
  have hb1 : Below w.heap.size w w1 := (Below.refl _ w).grown hgr1 (Nat.le_refl _) (fun k hk => by cases hk)
  have H1 := Lib.hid (And.intro hown1 hb1)
  clear hown1 hgr1 hT1 hb1
  go_wp2_with fail
  go_loopg [3, 4] L.length (fun gk s3 s4 wr => ∃ j : Nat, j ≤ L.length ∧ gk = L.length - j ∧ s3 = .slice (some ⟨w.heap.size, 0, none⟩) j L.length ∧ s4 = ptr (blkAt L j) ∧ wr.ownsRow w.heap.size 87 4 (.slice (some ⟨w.heap.size, 0, none⟩) j L.length) j (cellsToSX L j) ∧ Below w.heap.size w wr)
  case atStart => exact ⟨0, Nat.zero_le _, rfl, rfl, rfl, H1.out.1, H1.out.2⟩
  case round =>
    obtain ⟨j, hj, rfl, rfl, rfl, hown, hB⟩ := hrel
    by_cases hlt : j < L.length
    · obtain ⟨x, hx⟩ : ∃ x, L[j]? = some x := ⟨_, List.getElem?_eq_getElem hlt⟩
      have hxe := (HT.out.ents j x hx).below hB ((HT.out.ents j x hx).lt)
      rw [blkAt_get hx]
      obtain ⟨k, v, ge⟩ := x
      have HY := Lib.hid hx
      simp only [ptr_some] at hxe ⊢
      have d0 := hxe.cell 0
      have d1 := hxe.cell 1
      have d2 := hxe.cell 2
      have d3 := hxe.cell 3
      simp at d0 d1 d2 d3
      obtain ⟨pv, hpv⟩ : ∃ pv, ptr (prevB L j) = .pointer pv := ⟨_, rfl⟩
      obtain ⟨nv, hnv⟩ : ∃ nv, ptr (nextB L j) = .pointer nv := ⟨_, rfl⟩
      rw [hpv] at d2
      rw [hnv] at d3
      have hnxt : ptr (blkAt L (j + 1)) = .pointer nv := hnv
      simp only [kvSX] at d0
      have hca := cellsAt_getSX hx
      rw [hpv, hnv] at hca
      simp only [kvSX] at hca
      have hgl := hxe.lt
      have HX := Lib.hid (And.intro hnxt (And.intro hca (And.intro hown (And.intro hB hgl))))
      clear hxe hx hown hB hpv hnv hnxt hca hgl
      go_wp2_with (at_builtin; go_must (refine wpList_append_fits _ rfl _ _ 89 rfl w.heap.size 87 i0 4 Try.underlying89 hi hz1 w.heap.size j L.length (cellsToSX L j) rfl (HX.out.2.2.1.alloc _) ⟨wr.heap.size, 0, none⟩ 1 1 [.string k, .int .i32 v, .pointer pv, .pointer nv] rfl rfl ?q1 ?q2 ?q3 ?_))
      case q1 =>
        intro c u hu
        rw [Addr.add_lit, Nat.zero_add, (Whole.new wr _ _).cell]
        simpa using hu
      case q2 =>
        intro u hu
        simp at hu
        rcases hu with rfl | rfl | rfl | rfl <;> rfl
      case q3 => omega
      intro w2 hown2 hgr2
      have hB2 : Below wr.heap.size wr (wr.alloc (.cells #[.string k, .int .i32 v, .pointer pv, .pointer nv] 87)) := (Below.refl _ wr).alloc (Nat.le_refl _) _
      have hB3 : Below w.heap.size w w2 := (HX.out.2.2.2.1.trans (hB2.mono HX.out.2.2.2.1.size)).grown hgr2 (by have := HX.out.2.2.2.1.size; simp; omega) (fun k hk => by cases hk; exact Nat.le_refl _)
      have hxe2 := (HT.out.ents j _ HY.out).below hB3 ((HT.out.ents j _ HY.out).lt)
      have e3 := hxe2.cell 3
      simp at e3
      have e4 : w2.cell? ⟨ge, 3, none⟩ = some (.pointer nv) := e3.trans (congrArg some HX.out.1)
      have HZ := Lib.hid (And.intro hown2 hB3)
      clear e3 hxe2 hB2 hB3 hown2 hgr2
      go_wp2_with fail
      go_roundg (L.length - (j + 1))
      case measure => omega
      case rel => exact ⟨j + 1, by omega, rfl, rfl, HX.out.1.symm, by rw [cellsTo_succSX, HX.out.2.1]; exact HZ.out.1, HZ.out.2⟩
    · obtain rfl : j = L.length := by omega
      rw [blkAt_over (Nat.le_refl _)]
      simp only [ptr_none]
      have HX := Lib.hid (And.intro hown hB)
      clear hown hB
      go_wp2_with fail
      go_ret
      obtain ⟨hown, hB⟩ := HX.out
      rcases hown.2 with ⟨h0, _⟩ | ⟨g, cap, cur, hv, hg, hW, _, _, _, ht⟩
      · cases h0
      · injection hv with e1 e2 e3
        cases e1
        exact ⟨w.heap.size, _, cur, rfl, Nat.le_refl _, hW, ht, hB⟩

end Go.Proofs.Ytgcnocaibhiggaa
