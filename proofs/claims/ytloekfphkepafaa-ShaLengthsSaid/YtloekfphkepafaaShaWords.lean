/- The words of a block (words, RotateLeft32). -/
import Derived.Test.YtloekfphkepafaaMem
import Derived.Test.YtloekfphkepafaaShaSpec
import Derived.Test.YtloekfphkepafaaArr
namespace Go.Proofs.Ytloekfphkepafaa
open Go.RowKit
set_option linter.unusedVariables false

theorem Try.zero38 (w : World) : (zeroValue 38).run Try.prog w = .ok (.agg (arr .u32 z80)) w := by kernel_rfl

theorem Try.info38 : (Try.prog.info? 38).map (·.size) = some 80 := by kernel_rfl

set_option maxHeartbeats 400000 in
theorem rot32_1 (x : Int) (w : World) : Calls Try.prog 24 #[.int .u32 x, .int .i64 1] w fun e w' => e = .returned (.int .u32 (rot1 x)) ∧ w = w' := by
  have h5 : bits .and .u64 1 31 = 1 := by decide
  go_enter Try.func24, Try.ntmps24
  go_wp2
  go_ret
  exact ⟨rfl, rfl⟩
set_option maxHeartbeats 400000 in
theorem rot32_5 (x : Int) (w : World) : Calls Try.prog 24 #[.int .u32 x, .int .i64 5] w fun e w' => e = .returned (.int .u32 (rot5 x)) ∧ w = w' := by
  have h5 : bits .and .u64 5 31 = 5 := by decide
  go_enter Try.func24, Try.ntmps24
  go_wp2
  go_ret
  exact ⟨rfl, rfl⟩
set_option maxHeartbeats 400000 in
theorem rot32_30 (x : Int) (w : World) : Calls Try.prog 24 #[.int .u32 x, .int .i64 30] w fun e w' => e = .returned (.int .u32 (rot30 x)) ∧ w = w' := by
  have h5 : bits .and .u64 30 31 = 30 := by decide
  go_enter Try.func24, Try.ntmps24
  go_wp2
  go_ret
  exact ⟨rfl, rfl⟩

theorem same_flip {f : FuncId} {args : Array Value} {w : World} {v : Value} (h : Calls Try.prog f args w fun e w' => e = .returned v ∧ w = w') : Calls Try.prog f args w fun e w' => e = .returned v ∧ w' = w :=
  h.mono fun _ _ ⟨h1, h2⟩ => ⟨h1, h2.symm⟩

set_option maxHeartbeats 3200000 in
set_option maxRecDepth 100000 in
theorem words_any (a : Addr) (c : Nat) (xs : List Int) (w : World) (hx : ∀ i, 0 ≤ xs.getD i 0 ∧ xs.getD i 0 < 256) (hc : ∀ i, i < 64 → w.cell? (a.add i) = some (.int .u8 (xs.getD i 0))) (ha : a.block < w.heap.size) : Calls Try.prog 22 #[.slice (some a) 64 c] w fun e w' => e = .returned (.agg (arr .u32 (sched (pk xs 64) 64))) ∧ Below w.heap.size w w' := by
  have hz := Try.zero38
  have HC := Lib.hid hc
  have HX := Lib.hid hx
  clear hc hx
  go_enter Try.func22, Try.ntmps22
  go_wp2
  have h1 : Whole ((w.alloc (Obj.cells (arr .u32 z80) 38)).alloc (Obj.cells (arr .u32 z80) 38)) w.heap.size 38 (arr .u32 z80) := (Whole.new _ _ _).alloc _
  have h2 : Whole ((w.alloc (Obj.cells (arr .u32 z80) 38)).alloc (Obj.cells (arr .u32 z80) 38)) (w.heap.size + 1) 38 (arr .u32 (pk xs 0)) := by
    have := Whole.new (w.alloc (Obj.cells (arr .u32 z80) 38)) 38 (arr .u32 z80)
    rw [World.size_alloc] at this
    exact this
  have hb0 : Below w.heap.size w ((w.alloc (Obj.cells (arr .u32 z80) 38)).alloc (Obj.cells (arr .u32 z80) 38)) := ((Below.refl _ w).alloc (Nat.le_refl _) _).alloc (by simp) _
  have HS := Lib.hid (And.intro h1 (And.intro h2 hb0))
  clear h1 h2 hb0
  go_loopw [9] (fun s9 wr => ∃ k : Nat, k ≤ 64 ∧ s9 = .int .i64 k ∧ Whole wr w.heap.size 38 (arr .u32 z80) ∧ Whole wr (w.heap.size + 1) 38 (arr .u32 (pk xs k)) ∧ Below w.heap.size w wr) (fun s9 _ => 64 - (intOf s9).toNat)
  case atStart => exact ⟨0, by omega, rfl, HS.out⟩
  case round =>
    clear HS
    obtain ⟨k, hk, rfl, h1, h2, hb⟩ := hrel
    by_cases hlt : k < 64
    · have hcell : wr.cell? (a.add k) = some (.int .u8 (xs.getD k 0)) := (hb.cell (p := a.add k) (by rw [Addr.add]; split <;> exact ha)).trans (HC.out k hlt)
      have hw := h2.at_ (i := k / 4) (by simp; omega)
      have hf := h2.frz (k / 4)
      have hk1 := Whole.set h2 (k / 4) (.int .u32 (bits .or .u32 ((pk xs k).getD (k / 4) 0 * 256 % 4294967296) (xs.getD k 0)))
      rw [arr_set] at hk1
      obtain ⟨hx0, hx1⟩ := HX.out k
      obtain ⟨x, hxe⟩ : ∃ x, xs.getD k 0 = x := ⟨_, rfl⟩
      obtain ⟨y, hye⟩ : ∃ y, (pk xs k).getD (k / 4) 0 = y := ⟨_, rfl⟩
      rw [hxe] at hcell hx0 hx1
      rw [hye] at hw
      have H := Lib.hid (And.intro h1 (And.intro hk1 (And.intro hb (And.intro hxe hye))))
      clear h1 h2 hb hk1 hxe hye
      go_wp2
      go_roundw
      case rel =>
        obtain ⟨g1, g2, g3, rfl, rfl⟩ := H.out
        refine ⟨k + 1, by omega, by go_num, g1.far (by simp) _, ?_, g3.setCell (by simp) _⟩
        exact g2
      case measure => simp [intOf]; omega
    · obtain rfl : k = 64 := by omega
      rw [show ((64 : Nat) : Int) = 64 from rfl]
      have H := Lib.hid (And.intro h1 (And.intro h2 hb))
      clear h1 h2 hb
      go_wp2
      go_loopw [6] (fun s6 wr => ∃ k : Nat, k ≤ 64 ∧ s6 = .int .i64 ((k + 16 : Nat) : Int) ∧ Whole wr w.heap.size 38 (arr .u32 z80) ∧ Whole wr (w.heap.size + 1) 38 (arr .u32 (sched (pk xs 64) k)) ∧ Below w.heap.size w wr) (fun s6 _ => 80 - (intOf s6).toNat)
      case atStart => exact ⟨0, by omega, rfl, H.out⟩
      case round =>
        clear H hlt hk
        obtain ⟨k, hk, rfl, h1, h2, hb⟩ := hrel
        by_cases hlt : k < 64
        · have e1 := h2.at_ (i := k + 13) (by simp; omega)
          have e2 := h2.at_ (i := k + 8) (by simp; omega)
          have e3 := h2.at_ (i := k + 2) (by simp; omega)
          have e4 := h2.at_ (i := k) (by simp; omega)
          have hw := h2.at_ (i := k + 16) (by simp; omega)
          have hf := h2.frz (k + 16)
          obtain ⟨y1, hy1⟩ : ∃ y, (sched (pk xs 64) k).getD (k + 13) 0 = y := ⟨_, rfl⟩
          obtain ⟨y2, hy2⟩ : ∃ y, (sched (pk xs 64) k).getD (k + 8) 0 = y := ⟨_, rfl⟩
          obtain ⟨y3, hy3⟩ : ∃ y, (sched (pk xs 64) k).getD (k + 2) 0 = y := ⟨_, rfl⟩
          obtain ⟨y4, hy4⟩ : ∃ y, (sched (pk xs 64) k).getD k 0 = y := ⟨_, rfl⟩
          obtain ⟨y5, hy5⟩ : ∃ y, (sched (pk xs 64) k).getD (k + 16) 0 = y := ⟨_, rfl⟩
          rw [hy1] at e1
          rw [hy2] at e2
          rw [hy3] at e3
          rw [hy4] at e4
          rw [hy5] at hw
          obtain ⟨t, ht⟩ : ∃ t, k + 16 = t := ⟨_, rfl⟩
          obtain ⟨j1, hj1⟩ : ∃ j, k + 13 = j := ⟨_, rfl⟩
          obtain ⟨j2, hj2⟩ : ∃ j, k + 8 = j := ⟨_, rfl⟩
          obtain ⟨j3, hj3⟩ : ∃ j, k + 2 = j := ⟨_, rfl⟩
          have s1 : IntKind.i64.wrap ((t : Int) - 3) = (j1 : Int) := by rw [IntWalk.i64_in _ (by omega)]; omega
          have s2 : IntKind.i64.wrap ((t : Int) - 8) = (j2 : Int) := by rw [IntWalk.i64_in _ (by omega)]; omega
          have s3 : IntKind.i64.wrap ((t : Int) - 14) = (j3 : Int) := by rw [IntWalk.i64_in _ (by omega)]; omega
          have s4 : IntKind.i64.wrap ((t : Int) - 16) = (k : Int) := by rw [IntWalk.i64_in _ (by omega)]; omega
          have b0 : (t : Int) < 80 := by omega
          have b1 : (j1 : Int) < 80 := by omega
          have b2 : (j2 : Int) < 80 := by omega
          have b3 : (j3 : Int) < 80 := by omega
          have b4 : (k : Int) < 80 := by omega
          have H := Lib.hid (And.intro h1.drew (And.intro h2.drew (And.intro hb.drew (And.intro hy1 (And.intro hy2 (And.intro hy3 (And.intro hy4 hy5)))))))
          have HT := Lib.hid (And.intro ht (And.intro hj1 (And.intro hj2 hj3)))
          rw [hj1] at e1
          rw [hj2] at e2
          rw [hj3] at e3
          rw [ht] at hw hf ⊢
          have hl3 : k < 64 := hlt
          clear h1 h2 hb hy1 hy2 hy3 hy4 hy5 ht hj1 hj2 hj3
          go_upto_region 10 with fail
          refine wp_region_still_tail 21 (by kernel_rfl) (by kernel_rfl) ?_
          simp only [List.take_succ_cons, List.take_zero, List.drop_succ_cons, List.drop_zero]
          repeat still_step
          still_call (same_flip (rot32_1 _ _))
          refine wpStill_nil ?_
          clear s1 s2 s3 s4
          change wpList _ _ _ _ _ wr.drew
          go_wp2
          go_roundw
          case rel =>
            obtain ⟨g1, g2, g3, rfl, rfl, rfl, rfl, rfl⟩ := H.out
            obtain ⟨rfl, rfl, rfl, rfl⟩ := HT.out
            refine ⟨k + 1, by omega, by go_num, Whole.far g1 (by simp) _, ?_, Below.setCell g3 (by simp) _⟩
            have := Whole.set g2 (k + 16) (.int .u32 (rot1 (bits .xor .u32 (bits .xor .u32 (bits .xor .u32 ((sched (pk xs 64) k).getD (k + 13) 0) ((sched (pk xs 64) k).getD (k + 8) 0)) ((sched (pk xs 64) k).getD (k + 2) 0)) ((sched (pk xs 64) k).getD k 0))))
            rw [arr_set] at this
            exact this
          case measure => have := HT.out.1; simp [intOf]; omega
        · obtain rfl : k = 64 := by omega
          rw [show ((64 + 16 : Nat) : Int) = 80 from rfl]
          have H := Lib.hid (And.intro h1 (And.intro h2 hb))
          clear h1 h2 hb
          go_wp2_with (first
            | (refine wpList_load_whole rfl 38 (.tmp 3) rfl rfl H.out.2.1 Try.underlying38 Try.info38 (by simp) ?_)
            | (refine wpList_store_whole rfl 38 (.tmp 2) (.tmp 52) rfl rfl rfl H.out.1 Try.info38 (by simp) (by simp) (arr_one _ _) ?_))
          exact bodyPost_ret (v := .agg (arr .u32 (sched (pk xs 64) 64))) (ret_whole (g := w.heap.size) rfl rfl (Whole.row H.out.1 _) Try.underlying38 Try.info38 (by simp)) rfl ⟨rfl, below_row H.out.2.2 (Nat.le_refl _) _⟩
end Go.Proofs.Ytloekfphkepafaa
