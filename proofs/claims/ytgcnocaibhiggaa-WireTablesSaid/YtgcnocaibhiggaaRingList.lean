/- What a ring's list is: a copy in new memory, the oldest first. -/
import Derived.Test.YtgcnocaibhiggaaConcat
import Derived.StillTailTactics
namespace Go.Proofs.Ytgcnocaibhiggaa
open Go.RowKit
set_option linter.unusedVariables false

set_option maxHeartbeats 1600000 in
set_option maxRecDepth 100000 in
theorem list_nil (b : Nat) (most : Int) (ob : Option Nat) (w : World) (h : Ring w b most (.slice none 0 0) 0 [] ob) :
    Calls Try.prog 44 #[.pointer (some ⟨b, 0, none⟩)] w fun e w' => e = .returned (.slice none 0 0) ∧ Below w.heap.size w w' := by
  have h1 : w.cell? ⟨b, 1, none⟩ = some (.slice none 0 0) := by have := h.1.cell 1; simpa using this
  have h2 : w.cell? ⟨b, 2, none⟩ = some (.int .i64 0) := by have := h.1.cell 2; simpa using this
  clear h
  go_enter Try.func44, Try.ntmps44
  go_wp2_with fail
  go_still_tail 18, (by kernel_rfl)
  change wpList _ _ _ _ _ w.drew
  have hB := (Below.refl w.heap.size w).drew
  have hN := fun (W : World) (sb : Nat) (hs : Whole W sb 29 #[.slice none 0 0, .slice none 0 0]) => concat_nil sb W hs
  have HN := Lib.hid hN
  clear hN
  go_wp2_with (go_at_call 65; go_must (refine (HN.out _ _ ?q).mono ?_))
  case q => exact Whole.new _ _ _
  rintro e w' ⟨rfl, rfl⟩
  go_wp2_with fail
  go_ret
  exact ⟨rfl, by first | exact hB.alloc (Nat.le_refl _) _ | exact ((Below.refl _ w).alloc (Nat.le_refl _) _).drew⟩

set_option maxHeartbeats 1600000 in
set_option maxRecDepth 100000 in
theorem list_some (b : Nat) (most : Int) (v : Value) (k : Nat) (xs : List Int) (ob : Option Nat) (w : World) (h : Ring w b most v k xs ob) (hk : k < xs.length) (hbig : xs.length ≤ 1000000) :
    Calls Try.prog 44 #[.pointer (some ⟨b, 0, none⟩)] w fun e w' => ∃ g cap cur, e = .returned (.slice (some ⟨g, 0, none⟩) xs.length cap) ∧ Fresh w w' g xs.length cap cur 21 (i32s (xs.drop k ++ xs.take k)) := by
  rcases hS : h.2 with ⟨A, _, h0, _⟩ | ⟨g, off, cap, cur, rfl, rfl, hw, hc1, hc2, hc3, hat⟩
  · have : (i32s xs).length = 0 := by rw [h0]; rfl
    rw [i32s_length] at this
    omega
  rw [i32s_length] at hc1 hat
  have h1 : w.cell? ⟨b, 1, none⟩ = some (.slice (some ⟨g, off, none⟩) xs.length cap) := by have := h.1.cell 1; simpa using this
  have h2 : w.cell? ⟨b, 2, none⟩ = some (.int .i64 k) := by have := h.1.cell 2; simpa using this
  have hck : ¬ cap = k := by omega
  have hlt := hw.lt
  have hi0 : (0 : Int) ≤ (k : Int) := by omega
  have hi1 : (k : Int) ≤ (xs.length : Int) := by omega
  have hi2 : (k : Int) ≤ (cap : Int) := by omega
  have hcells : ∀ i u, (i32s xs)[i]? = some u → w.cell? ⟨g, off + i, none⟩ = some u := by
    intro i u hu
    have hi : i < xs.length := by have := (List.getElem?_eq_some_iff.1 hu).1; simpa using this
    rw [hw.cell, hat i hi, hu]
  have HC := Lib.hid hcells
  have hn : xs.length - k + k = xs.length := by omega
  have HL := Lib.hid hn
  clear h hS hw hat hcells hn
  go_enter Try.func44, Try.ntmps44
  go_wp2_with fail
  go_still_tail 18, (by kernel_rfl)
  change wpList _ _ _ _ _ w.drew
  have hN := fun (W : World) (sb : Nat) => concat_two sb ⟨g, off + k, none⟩ ⟨g, off, none⟩ (xs.length - k) (cap - k) k cap (i32s (xs.drop k)) (i32s (xs.take k)) W
  have HN := Lib.hid hN
  clear hN
  go_wp2_with (go_at_call 65; go_must (refine (HN.out _ _ ?q1 ?q2 ?q3 ?q4 ?q5 ?q6 ?q7 ?q8 ?q9).mono ?_))
  case q1 => exact Whole.new _ _ _
  case q2 => simp
  case q3 => simp; omega
  case q4 =>
    intro j u hu
    refine Lib.cell?_alloc_some _ ?_
    rw [Addr.add_lit, Nat.add_assoc]
    refine HC.out (k + j) u ?_
    simpa [i32s] using hu
  case q5 =>
    intro j u hu
    refine Lib.cell?_alloc_some _ ?_
    rw [Addr.add_lit]
    refine HC.out j u ?_
    simp only [i32s, List.map_take] at hu ⊢
    rw [List.getElem?_take] at hu
    split at hu
    · exact hu
    · cases hu
  case q6 => intro u hu; obtain ⟨x, _, rfl⟩ := List.mem_map.1 hu; rfl
  case q7 => intro u hu; obtain ⟨x, _, rfl⟩ := List.mem_map.1 hu; rfl
  case q8 => omega
  case q9 => omega
  rintro e w' ⟨g3, cap3, cur3, rfl, hF⟩
  rw [HL.out] at hF
  have HF := Lib.hid hF
  clear hF
  go_wp2_with fail
  go_ret
  obtain ⟨f1, f2, f3, f4, f5, f6⟩ := HF.out
  have hz : w.heap.size ≤ g3 := by simp at f1; omega
  refine ⟨g3, cap3, cur3, by show Ending.returned (.slice _ (xs.length - k + k) cap3) = _; rw [HL.out], hz, f2, f3, f4, by rw [f5]; simp [i32s], ?_⟩
  exact (((Below.refl w.heap.size w).alloc (Nat.le_refl _) _).drew).trans (f6.mono (by simp))

end Go.Proofs.Ytgcnocaibhiggaa
