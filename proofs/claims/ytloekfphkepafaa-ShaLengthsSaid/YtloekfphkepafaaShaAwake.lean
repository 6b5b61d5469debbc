/- The statements' first question (awake) is answered with yes. -/
import Derived.Test.YtloekfphkepafaaShaMac
import Derived.Test.YtloekfphkepafaaShaCrc
import Derived.Lib.SmallJoins
namespace Go.Proofs.Ytloekfphkepafaa
open Go.RowKit
set_option linter.unusedVariables false

theorem sha_abc : (sha [97, 98, 99]).getD 0 0 = 169 ∧ (sha [97, 98, 99]).getD 19 0 = 157 := by decide +kernel
theorem crc_123 : crc [49, 50, 51, 52, 53, 54, 55, 56, 57] = 3421780262 := by decide +kernel
theorem in8_of {xs : List Int} (h : xs.all (fun x => decide (0 ≤ x) && decide (x < 256)) = true) : ∀ i, 0 ≤ xs.getD i 0 ∧ xs.getD i 0 < 256 := by
  intro i
  by_cases hi : i < xs.length
  · rw [List.all_eq_true] at h
    have := h (xs.getD i 0) (by simp [List.getD, hi])
    simpa using this
  · rw [getD_out _ _ (by omega)]
    omega

/-- The bytes of a constant text, as they are made. -/
abbrev constObj (xs : List Int) : Obj := .cells (arr .u8 xs) 5 ((arr .u8 xs).size, (arr .u8 xs).size + 1)
theorem Bs.made (w : World) (xs : List Int) : Bs (w.alloc (constObj xs)) (w.heap.size + 1) (some ⟨w.heap.size, 0, none⟩) xs.length xs :=
  ⟨rfl, fun _ => ⟨_, rfl, Nat.lt_succ_self _, fun i hi => by
    rw [Addr.add_lit, Nat.zero_add, cell_of_row _ _ _ _ _ _ (heap_alloc_new w _)]
    exact arr_get hi⟩⟩

theorem first_last (w : World) {d : List Int} (hl : d.length = 20) (hv : d.getD 0 0 = 169 ∧ d.getD 19 0 = 157) :
    ((w.alloc (.cells (arr .u8 z20) 24)).setRow w.heap.size (arr .u8 d)).cell? ⟨w.heap.size, 0, none⟩ = some (.int .u8 169) ∧ ((w.alloc (.cells (arr .u8 z20) 24)).setRow w.heap.size (arr .u8 d)).cell? ⟨w.heap.size, 19, none⟩ = some (.int .u8 157) := by
  have h := Whole.row (Whole.new w 24 (arr .u8 z20)) (arr .u8 d)
  rw [h.at_ (i := 0) (by omega), h.at_ (i := 19) (by omega), hv.1, hv.2]
  exact ⟨rfl, rfl⟩

set_option maxHeartbeats 1600000 in
set_option maxRecDepth 100000 in
theorem awake_yes (w : World) : Calls Try.prog 8 #[] w fun e w' => e = .returned (.bool true) ∧ Below w.heap.size w w' := by
  have hz := Try.zero24
  have hcv := fun (w : World) (C : Array Value) (n c g : Nat) (hg : g = w.heap.size) => Go.Joins.run_convert_bytes_const_at (P := Try.prog) w 22 5 C n c g hg Try.underlying22 Try.underlying5
  have hb0 : Below w.heap.size w (w.alloc (.cells #[.int .u8 97, .int .u8 98, .int .u8 99] 5 (3, 4))) := (Below.refl _ w).alloc (Nat.le_refl _) _
  have HS : Hid (Calls Try.prog 9 #[.slice (some ⟨w.heap.size, 0, none⟩) 3 3] (w.alloc (.cells #[.int .u8 97, .int .u8 98, .int .u8 99] 5 (3, 4))) fun e w' => e = .returned (.agg (arr .u8 (sha [97, 98, 99]))) ∧ Below (w.heap.size + 1) (w.alloc (.cells #[.int .u8 97, .int .u8 98, .int .u8 99] 5 (3, 4))) w') := Lib.hid (by
    have h := (sum_any (some ⟨w.heap.size, 0, none⟩) 3 3 [97, 98, 99] (w.heap.size + 1) (w.alloc (constObj [97, 98, 99])) (Bs.made w [97, 98, 99]) (by simp) (Nat.le_refl _) (by unfold maxLen; omega) (in8_of rfl) (by omega))
    rw [World.size_alloc] at h
    exact h)
  have HC : Hid (∀ (W : World) (g : Nat), g = W.heap.size → Calls Try.prog 11 #[.slice (some ⟨g, 0, none⟩) 9 9] (W.alloc (.cells #[.int .u8 49, .int .u8 50, .int .u8 51, .int .u8 52, .int .u8 53, .int .u8 54, .int .u8 55, .int .u8 56, .int .u8 57] 5 (9, 10))) fun e w' => e = .returned (.int .u32 3421780262) ∧ (W.alloc (.cells #[.int .u8 49, .int .u8 50, .int .u8 51, .int .u8 52, .int .u8 53, .int .u8 54, .int .u8 55, .int .u8 56, .int .u8 57] 5 (9, 10))) = w') :=
    Lib.hid fun W g hg => by
      subst hg
      have := crc_any (some ⟨W.heap.size, 0, none⟩) 9 9 [49, 50, 51, 52, 53, 54, 55, 56, 57] (W.heap.size + 1) (W.alloc (constObj [49, 50, 51, 52, 53, 54, 55, 56, 57])) (Bs.made W [49, 50, 51, 52, 53, 54, 55, 56, 57]) (in8_of rfl) (by omega)
      rw [crc_123] at this
      exact this
  have hF := fit20_sha [97, 98, 99]
  have hv := sha_abc
  obtain ⟨d, hd⟩ : ∃ d, sha [97, 98, 99] = d := ⟨_, rfl⟩
  rw [hd] at HS hF hv
  have hdl : d.length = 20 := by rw [← arr_size .u8 d]; exact hF.1
  have H := Lib.hid (And.intro hF (And.intro hv (And.intro hdl hb0)))
  clear hF hv hd hdl hb0
  go_enter Try.func8, Try.ntmps8
  go_wp2_with (first
    | (go_at_call 9; (with_reducible refine HS.out.mono ?_); rintro e w1 ⟨rfl, hb1⟩)
    | (refine wpList_store_whole rfl 24 (.tmp 1) (.tmp 4) rfl rfl rfl (Whole.new _ _ _) Try.info24 H.out.1.1 (by rfl) H.out.1.2 ?_; obtain ⟨e0, e19⟩ := first_last w1 H.out.2.2.1 H.out.2.1)
    | (go_at_call 11; (with_reducible refine (HC.out _ _ (by simp)).mono ?_); rintro e w2 ⟨rfl, rfl⟩))
  go_ret
  have h1 := H.out.2.2.2.trans (hb1.mono (by simp))
  exact ⟨rfl, (below_row (h1.alloc h1.size _) h1.size _).alloc (by have := h1.size; simp; omega) _⟩

end Go.Proofs.Ytloekfphkepafaa
