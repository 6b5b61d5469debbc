/- The bytes of a state (bytes), the state at the start (begin). -/
import Derived.Test.YtloekfphkepafaaShaBehind
namespace Go.Proofs.Ytloekfphkepafaa
open Go.RowKit
set_option linter.unusedVariables false

theorem Try.zero24 (w : World) : (zeroValue 24).run Try.prog w = .ok (.agg (arr .u8 z20)) w := by kernel_rfl
theorem Try.info24 : (Try.prog.info? 24).map (·.size) = some 20 := by kernel_rfl

set_option maxHeartbeats 400000 in
theorem begin_any (w : World) : Calls Try.prog 15 #[] w fun e w' => e = .returned (.agg (arr .u32 s0.list)) ∧ Below w.heap.size w w' := by
  go_enter Try.func15, Try.ntmps15
  go_wp2
  refine bodyPost_ret (v := .agg (arr .u32 s0.list)) ?_ rfl ?_
  · exact ret_whole (g := w.heap.size) rfl rfl (Whole.new w _ _) Try.underlying33 Try.info33 rfl
  · exact ⟨rfl, (Below.refl _ w).alloc (Nat.le_refl _) _⟩

set_option maxHeartbeats 3200000 in
set_option maxRecDepth 100000 in
theorem sbytes_any (s : S5) (w : World) : Calls Try.prog 21 #[.agg (arr .u32 s.list)] w fun e w' => e = .returned (.agg (arr .u8 (dig s))) ∧ Below w.heap.size w w' := by
  have hz := Try.zero24
  have HI : Hid (∀ (w : World) (i : Nat), i < 5 → (Instr.index 33 (.agg (arr .u32 s.list)) (.int .i64 i)).run Try.prog w = .ok (.int .u32 (s.list.getD i 0)) w) :=
    Lib.hid fun w i hi => run_index_arr Try.underlying33 Try.underlying26 Try.size26 w .u32 s.list i hi rfl
  have hs : s.list.length = 5 := rfl
  obtain ⟨L, hL⟩ : ∃ L, s.list = L := ⟨_, rfl⟩
  rw [hL] at HI hs ⊢
  have HS := Lib.hid (And.intro hL hs)
  clear hs hL
  go_enter Try.func21, Try.ntmps21
  go_upto_region 2 with fail
  have h1 : Whole (((w.alloc (.cells (arr .u32 L) 33)).alloc (.cells (arr .u8 z20) 24)).alloc (.cells (arr .u8 z20) 24)) w.heap.size 33 (arr .u32 L) := ((Whole.new _ _ _).alloc _).alloc _
  have h2 : Whole (((w.alloc (.cells (arr .u32 L) 33)).alloc (.cells (arr .u8 z20) 24)).alloc (.cells (arr .u8 z20) 24)) (w.heap.size + 1) 24 (arr .u8 z20) := (Whole.new2 _ _ _ _).alloc _
  have h3 : Whole (((w.alloc (.cells (arr .u32 L) 33)).alloc (.cells (arr .u8 z20) 24)).alloc (.cells (arr .u8 z20) 24)) (w.heap.size + 2) 24 (arr .u8 (digN s 0)) := by
    have := Whole.new ((w.alloc (.cells (arr .u32 L) 33)).alloc (.cells (arr .u8 z20) 24)) 24 (arr .u8 z20)
    rw [World.size_alloc, World.size_alloc] at this
    exact this
  have hb : Below w.heap.size w (((w.alloc (.cells (arr .u32 L) 33)).alloc (.cells (arr .u8 z20) 24)).alloc (.cells (arr .u8 z20) 24)) := (two_new _ _ _ _).alloc (by simp; omega) _
  have H := Lib.hid (And.intro h1 (And.intro h2 (And.intro h3 hb)))
  clear h1 h2 h3 hb
  go_wp2_with (refine wpList_load_whole rfl 33 (.tmp 1) rfl rfl H.out.1 Try.underlying33 Try.info33 (by rw [arr_size]; exact HS.out.2) ?_)
  go_loopw [7] (fun s7 wr => ∃ k : Nat, k ≤ 5 ∧ s7 = .int .i64 k ∧ Whole wr (w.heap.size + 1) 24 (arr .u8 z20) ∧ Whole wr (w.heap.size + 2) 24 (arr .u8 (digN s k)) ∧ Below w.heap.size w wr) (fun s7 _ => 5 - (intOf s7).toNat)
  case atStart => exact ⟨0, by omega, rfl, H.out.2.1, H.out.2.2.1, H.out.2.2.2⟩
  case round =>
    clear H
    obtain ⟨k, hk, rfl, h2, h3, hb⟩ := hrel
    by_cases hlt : k < 5
    · have hi := fun w => HI.out w k hlt
      obtain ⟨x, hx⟩ : ∃ x, L.getD k 0 = x := ⟨_, rfl⟩
      rw [hx] at hi
      have q0 := h3.at_ (i := 4 * k) (by simp; omega)
      have q1 := h3.at_ (i := 4 * k + 1) (by simp; omega)
      have q2 := h3.at_ (i := 4 * k + 2) (by simp; omega)
      have q3 := h3.at_ (i := 4 * k + 3) (by simp; omega)
      obtain ⟨y0, hy0⟩ : ∃ y, (digN s k).getD (4 * k) 0 = y := ⟨_, rfl⟩
      obtain ⟨y1, hy1⟩ : ∃ y, (digN s k).getD (4 * k + 1) 0 = y := ⟨_, rfl⟩
      obtain ⟨y2, hy2⟩ : ∃ y, (digN s k).getD (4 * k + 2) 0 = y := ⟨_, rfl⟩
      obtain ⟨y3, hy3⟩ : ∃ y, (digN s k).getD (4 * k + 3) 0 = y := ⟨_, rfl⟩
      rw [hy0] at q0
      rw [hy1] at q1
      rw [hy2] at q2
      rw [hy3] at q3
      have f0 := h3.frz (4 * k)
      have f1 := h3.frz (4 * k + 1)
      have f2 := h3.frz (4 * k + 2)
      have f3 := h3.frz (4 * k + 3)
      have H := Lib.hid (And.intro h2 (And.intro h3 (And.intro hb hx)))
      clear h2 h3 hb hx hy0 hy1 hy2 hy3
      go_wp2
      go_roundw
      case rel =>
        obtain ⟨g2, g3, gb, rfl⟩ := H.out
        refine ⟨k + 1, by omega, by go_num, (((Whole.far g2 (by simp) _).far (by simp) _).far (by simp) _).far (by simp) _, ?_, (((Below.setCell gb (by simp; omega) _).setCell (by simp; omega) _).setCell (by simp; omega) _).setCell (by simp; omega) _⟩
        rw [digN, HS.out.1]
        exact (((g3.put _ _).put _ _).put _ _).put _ _
      case measure => simp [intOf]; omega
    · obtain rfl : k = 5 := by omega
      rw [show ((5 : Nat) : Int) = 5 from rfl]
      have H := Lib.hid (And.intro h2 (And.intro h3 hb))
      clear h2 h3 hb
      go_wp2_with (first
        | (refine wpList_load_whole rfl 24 (.tmp 3) rfl rfl H.out.2.1 Try.underlying24 Try.info24 (by simp) ?_)
        | (refine wpList_store_whole rfl 24 (.tmp 2) (.tmp 38) rfl rfl rfl H.out.1 Try.info24 (by simp) (by rfl) (arr_one _ _) ?_))
      refine bodyPost_ret (v := .agg (arr .u8 (digN s 5))) ?_ rfl ?_
      · exact ret_whole (g := w.heap.size + 1) rfl rfl (Whole.row H.out.1 _) Try.underlying24 Try.info24 (by simp)
      · exact ⟨rfl, below_row H.out.2.2 (by omega) _⟩

theorem behind_arr (s : S5) (a : Addr) (c : Nat) (xs : List Int) (w : World) (hx : ∀ i, 0 ≤ xs.getD i 0 ∧ xs.getD i 0 < 256) (hc : ∀ i, i < 64 → w.cell? (a.add i) = some (.int .u8 (xs.getD i 0))) (ha : a.block < w.heap.size) :
    Calls Try.prog 19 #[.agg (arr .u32 s.list), .slice (some a) 64 c] w fun e w' => e = .returned (.agg (arr .u32 (blk s xs).list)) ∧ Below w.heap.size w w' :=
  behind_any s a c xs w hx hc ha

end Go.Proofs.Ytloekfphkepafaa
