/- What a table's Len and Get do. -/
import Derived.Test.YtgcnocaibhiggaaTableIterSX
namespace Go.Proofs.Ytgcnocaibhiggaa
open Go.RowKit Go.Shelf Go.Maps
set_option linter.unusedVariables false

section
variable {w : World} {tb : Nat} {most : Int} {mv : Option Nat} {L : List (Ent KeySX)}

set_option maxHeartbeats 800000 in
theorem tlen_atSX (h : TabSX w tb most mv L) : Calls Try.prog 23 #[.pointer (some ⟨tb, 0, none⟩)] w fun e w' => e = .returned (.int .i64 L.length) ∧ w = w' := by
  have hlen := tlen_runSX h
  have h1 := h.tab.cell 1
  simp at h1
  clear h
  go_enter Try.func23, Try.ntmps23
  go_wp2
  go_ret
  exact ⟨rfl, rfl⟩

set_option maxHeartbeats 800000 in
theorem get_noneSX (h : TabSX w tb most mv L) {k : KeySX} (hk : kokSX k) (hn : blkOf L k = none) :
    Calls Try.prog 22 #[.pointer (some ⟨tb, 0, none⟩), kvSX k] w fun e w' => e = .returned (.tuple #[.int .i32 0, .bool false]) ∧ Below w.heap.size w w' := by
  have hF := find_atSX k w h hk
  rw [hn, ptr_none] at hF
  have HF := Lib.hid hF
  clear h hF
  go_enter Try.func22, Try.ntmps22
  go_wp2_with (go_at_call 45; refine HF.out.mono ?_; rintro e w1 ⟨rfl, hb⟩)
  go_ret2
  exact ⟨rfl, hb⟩

set_option maxHeartbeats 800000 in
theorem get_someSX (h : TabSX w tb most mv L) {k : KeySX} {i : Nat} {v : Int} {g : Nat} (hi : L[i]? = some (k, v, g)) :
    Calls Try.prog 22 #[.pointer (some ⟨tb, 0, none⟩), kvSX k] w fun e w' => e = .returned (.tuple #[.int .i32 v, .bool true]) ∧ Below w.heap.size w w' := by
  have hk : kokSX k := h.kok _ (List.mem_of_getElem? hi)
  have hF := find_atSX k w h hk
  have hb := blkOf_of_get h.keys hi
  simp only at hb
  rw [hb, ptr_some] at hF
  have hx := (h.ents i _ hi)
  simp only at hx
  have HF := Lib.hid hF
  have HX := Lib.hid hx
  clear h hF hx
  go_enter Try.func22, Try.ntmps22
  go_wp2_with (go_at_call 45; refine HF.out.mono ?_; rintro e w1 ⟨rfl, hb⟩; have hc1 := (HX.out.under hb).cell 1; simp at hc1)
  go_ret2
  exact ⟨rfl, hb⟩

end

end Go.Proofs.Ytgcnocaibhiggaa
