/- What the calls of a table do. -/
import Derived.Test.YtgcnocaibhiggaaTableDropSX
namespace Go.Proofs.Ytgcnocaibhiggaa
open Go.RowKit Go.Shelf Go.Maps
set_option linter.unusedVariables false

section
variable {w : World} {tb : Nat} {most : Int} {mv : Option Nat} {L : List (Ent KeySX)}

set_option maxHeartbeats 800000 in
theorem newTable_anySX (most : Int) (w : World) : Calls Try.prog 19 #[.int .i64 most] w fun e w' => e = .returned (.pointer (some ⟨w.heap.size, 0, none⟩)) ∧ TabSX w' w.heap.size most none [] ∧ Below w.heap.size w w' ∧ w'.heap.size = w.heap.size + 1 := by
  go_enter Try.func19, Try.ntmps19
  go_wp2
  go_ret
  exact ⟨rfl, ⟨Whole.new _ _ _, .inl ⟨rfl, rfl⟩, fun i x hi => (by simp at hi), by simp, by simp, by simp⟩, (Below.refl _ _).alloc (Nat.le_refl _) _, by simp⟩

theorem tlen_runSX (h : TabSX w tb most mv L) (ty : TypeId) : (Builtin.len_ #[80] ty #[.map mv]).run Try.prog w = .ok (.int .i64 L.length) w := by
  rcases h.map with ⟨rfl, rfl⟩ | ⟨mb, D, rfl, hm, hr⟩
  · exact Maps.len_nil Try.underlying80 ty
  · rw [← hr.size]
    exact hm.len Try.underlying80 ty

set_option maxHeartbeats 800000 in
theorem drop_noneSX (h : TabSX w tb most mv L) {k : KeySX} (hk : kokSX k) (hn : blkOf L k = none) :
    Calls Try.prog 21 #[.pointer (some ⟨tb, 0, none⟩), kvSX k] w fun e w' => e = .returned (.bool false) ∧ Below w.heap.size w w' := by
  have hF := find_atSX k w h hk
  rw [hn, ptr_none] at hF
  have HF := Lib.hid hF
  clear h hF
  go_enter Try.func21, Try.ntmps21
  go_wp2_with (go_at_call 45; refine HF.out.mono ?_; rintro e w1 ⟨rfl, hb⟩)
  go_ret
  exact ⟨rfl, hb⟩

set_option maxHeartbeats 800000 in
theorem drop_someSX (h : TabSX w tb most mv L) {k : KeySX} {i : Nat} {v : Int} {g : Nat} (hi : L[i]? = some (k, v, g)) :
    Calls Try.prog 21 #[.pointer (some ⟨tb, 0, none⟩), kvSX k] w fun e w' => e = .returned (.bool true) ∧ TabSX w' tb most mv (L.eraseIdx i) ∧ Only (TabSSX tb mv L) w w' := by
  have hk : kokSX k := h.kok _ (List.mem_of_getElem? hi)
  obtain ⟨mb, rfl⟩ : ∃ mb, mv = some mb := by
    rcases h.map with ⟨_, rfl⟩ | ⟨mb, D, h0, _⟩
    · simp at hi
    · exact ⟨mb, h0⟩
  have hF := find_atSX k w h hk
  have hb := blkOf_of_get h.keys hi
  simp only at hb
  rw [hb, ptr_some] at hF
  have hL := fun W (hb : Below w.heap.size w W) => leave_atSX tb most mb L i (k, v, g) W (h.below hb) hi
  simp only at hL
  have HF := Lib.hid hF
  have HL := Lib.hid hL
  clear h hF hL
  go_enter Try.func21, Try.ntmps21
  go_wp2_with (first
    | (go_at_call 45; refine HF.out.mono ?_; rintro e w1 ⟨rfl, hb⟩)
    | (go_at_call 47; refine (HL.out _ hb).mono ?_; rintro e w2 ⟨rfl, hT, hO⟩))
  go_ret
  exact ⟨rfl, hT, ((Only.refl _ w).under hb).next hO (fun j hj => .inl hj)⟩

end

end Go.Proofs.Ytgcnocaibhiggaa
