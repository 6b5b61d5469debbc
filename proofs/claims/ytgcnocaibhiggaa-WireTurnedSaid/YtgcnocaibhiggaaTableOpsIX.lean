/- What the calls of a table do. -/
import Derived.Test.YtgcnocaibhiggaaTableDropIX
namespace Go.Proofs.Ytgcnocaibhiggaa
open Go.RowKit Go.Shelf Go.Maps
set_option linter.unusedVariables false

section
variable {w : World} {tb : Nat} {most : Int} {mv : Option Nat} {L : List (Ent KeyIX)}

set_option maxHeartbeats 800000 in
theorem newTable_anyIX (most : Int) (w : World) : Calls Try.prog 25 #[.int .i64 most] w fun e w' => e = .returned (.pointer (some ⟨w.heap.size, 0, none⟩)) ∧ TabIX w' w.heap.size most none [] ∧ Below w.heap.size w w' ∧ w'.heap.size = w.heap.size + 1 := by
  go_enter Try.func25, Try.ntmps25
  go_wp2
  go_ret
  exact ⟨rfl, ⟨Whole.new _ _ _, .inl ⟨rfl, rfl⟩, fun i x hi => (by simp at hi), by simp, by simp, by simp⟩, (Below.refl _ _).alloc (Nat.le_refl _) _, by simp⟩

theorem tlen_runIX (h : TabIX w tb most mv L) (ty : TypeId) : (Builtin.len_ #[91] ty #[.map mv]).run Try.prog w = .ok (.int .i64 L.length) w := by
  rcases h.map with ⟨rfl, rfl⟩ | ⟨mb, D, rfl, hm, hr⟩
  · exact Maps.len_nil Try.underlying91 ty
  · rw [← hr.size]
    exact hm.len Try.underlying91 ty

set_option maxHeartbeats 800000 in
theorem drop_noneIX (h : TabIX w tb most mv L) {k : KeyIX} (hk : kokIX k) (hn : blkOf L k = none) :
    Calls Try.prog 28 #[.pointer (some ⟨tb, 0, none⟩), kvIX k] w fun e w' => e = .returned (.bool false) ∧ Below w.heap.size w w' := by
  have hF := find_atIX k w h hk
  rw [hn, ptr_none] at hF
  have HF := Lib.hid hF
  clear h hF
  go_enter Try.func28, Try.ntmps28
  go_wp2_with (go_at_call 50; refine HF.out.mono ?_; rintro e w1 ⟨rfl, hb⟩)
  go_ret
  exact ⟨rfl, hb⟩

set_option maxHeartbeats 800000 in
theorem drop_someIX (h : TabIX w tb most mv L) {k : KeyIX} {i : Nat} {v : Int} {g : Nat} (hi : L[i]? = some (k, v, g)) :
    Calls Try.prog 28 #[.pointer (some ⟨tb, 0, none⟩), kvIX k] w fun e w' => e = .returned (.bool true) ∧ TabIX w' tb most mv (L.eraseIdx i) ∧ Only (TabSIX tb mv L) w w' := by
  have hk : kokIX k := h.kok _ (List.mem_of_getElem? hi)
  obtain ⟨mb, rfl⟩ : ∃ mb, mv = some mb := by
    rcases h.map with ⟨_, rfl⟩ | ⟨mb, D, h0, _⟩
    · simp at hi
    · exact ⟨mb, h0⟩
  have hF := find_atIX k w h hk
  have hb := blkOf_of_get h.keys hi
  simp only at hb
  rw [hb, ptr_some] at hF
  have hL := fun W (hb : Below w.heap.size w W) => leave_atIX tb most mb L i (k, v, g) W (h.below hb) hi
  simp only at hL
  have HF := Lib.hid hF
  have HL := Lib.hid hL
  clear h hF hL
  go_enter Try.func28, Try.ntmps28
  go_wp2_with (first
    | (go_at_call 50; refine HF.out.mono ?_; rintro e w1 ⟨rfl, hb⟩)
    | (go_at_call 54; refine (HL.out _ hb).mono ?_; rintro e w2 ⟨rfl, hT, hO⟩))
  go_ret
  exact ⟨rfl, hT, ((Only.refl _ w).under hb).next hO (fun j hj => .inl hj)⟩

end

end Go.Proofs.Ytgcnocaibhiggaa
