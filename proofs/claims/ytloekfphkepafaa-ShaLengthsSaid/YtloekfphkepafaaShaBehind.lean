/- One block of SHA-1: its 80 places (mixed, behind). -/
import Derived.Test.YtloekfphkepafaaShaWords
namespace Go.Proofs.Ytloekfphkepafaa
open Go.RowKit
set_option linter.unusedVariables false

set_option maxHeartbeats 400000 in
theorem mixed_any (t : Nat) (x y z : Int) (w : World) : Calls Try.prog 23 #[.int .i64 t, .int .u32 x, .int .u32 y, .int .u32 z] w fun e w' => e = .returned (.tuple #[.int .u32 (mixF t x y z), .int .u32 (mixK t)]) ∧ w = w' := by
  obtain ⟨f, hf⟩ : ∃ f, mixF t x y z = f := ⟨_, rfl⟩
  obtain ⟨k, hk⟩ : ∃ k, mixK t = k := ⟨_, rfl⟩
  have H := Lib.hid (And.intro hf hk)
  rw [hf, hk]
  clear hf hk
  go_enter Try.func23, Try.ntmps23
  go_wp2
  all_goals go_ret2
  all_goals
    obtain ⟨rfl, rfl⟩ := H.out
    refine ⟨?_, rfl⟩
    unfold mixF mixK
  · rw [if_pos (by omega), if_pos (by omega)]; rfl
  · rw [if_neg (by omega), if_pos (by omega), if_neg (by omega), if_pos (by omega)]; rfl
  · rw [if_neg (by omega), if_neg (by omega), if_pos (by omega), if_neg (by omega), if_neg (by omega), if_pos (by omega)]; rfl
  · rw [if_neg (by omega), if_neg (by omega), if_neg (by omega), if_neg (by omega), if_neg (by omega), if_neg (by omega)]; rfl

theorem Try.info33 : (Try.prog.info? 33).map (·.size) = some 5 := by kernel_rfl
theorem Try.size26 (w : World) : (sizeOf 26).run Try.prog w = .ok 1 w := by kernel_rfl

set_option maxHeartbeats 3200000 in
set_option maxRecDepth 100000 in
theorem behind_any (s : S5) (a : Addr) (c : Nat) (xs : List Int) (w : World) (hx : ∀ i, 0 ≤ xs.getD i 0 ∧ xs.getD i 0 < 256) (hc : ∀ i, i < 64 → w.cell? (a.add i) = some (.int .u8 (xs.getD i 0))) (ha : a.block < w.heap.size) :
    Calls Try.prog 19 #[.agg #[.int .u32 s.a, .int .u32 s.b, .int .u32 s.c, .int .u32 s.d, .int .u32 s.e], .slice (some a) 64 c] w fun e w' => e = .returned (.agg (arr .u32 (blkW s (sched (pk xs 64) 64)).list)) ∧ Below w.heap.size w w' := by
  have HC : Hid (∀ W, Below w.heap.size w W → Calls Try.prog 22 #[.slice (some a) 64 c] W fun e w' => e = .returned (.agg (arr .u32 (sched (pk xs 64) 64))) ∧ Below W.heap.size W w') :=
    Lib.hid fun W hb => words_any a c xs W hx (fun i hi => (hb.cell (p := a.add i) (by rw [Addr.add]; split <;> exact ha)).trans (hc i hi)) (Nat.lt_of_lt_of_le ha hb.size)
  obtain ⟨L, hL⟩ : ∃ L, sched (pk xs 64) 64 = L := ⟨_, rfl⟩
  have hLl : L.length = 80 := by rw [← hL]; simp
  obtain ⟨a0, b0, c0, d0, e0⟩ := s
  rw [hL] at HC ⊢
  dsimp only
  have HI : Hid (∀ (w : World) (i : Nat), i < 80 → (Instr.index 38 (.agg (arr .u32 L)) (.int .i64 i)).run Try.prog w = .ok (.int .u32 (L.getD i 0)) w) :=
    Lib.hid fun w i hi => run_index_arr Try.underlying38 Try.underlying26 Try.size26 w .u32 L i (by omega) hLl.symm
  clear hc hx hL hLl
  go_enter Try.func19, Try.ntmps19
  go_wp2
  go_quiet (fail)
  go_wp2_with fail
  have hb0 := below_drewN' (two_new (w := w) 33 33 #[Value.int IntKind.u32 a0, Value.int IntKind.u32 b0, Value.int IntKind.u32 c0, Value.int IntKind.u32 d0, Value.int IntKind.u32 e0] #[Value.int IntKind.u32 0, Value.int IntKind.u32 0, Value.int IntKind.u32 0, Value.int IntKind.u32 0, Value.int IntKind.u32 0]) nq
  refine (HC.out _ hb0).mono ?_
  rintro e w1 ⟨rfl, hb1⟩
  have h1 : Whole w1 w.heap.size 33 #[Value.int IntKind.u32 a0, Value.int IntKind.u32 b0, Value.int IntKind.u32 c0, Value.int IntKind.u32 d0, Value.int IntKind.u32 e0] := (((Whole.new w _ _).alloc _).drewN nq).under hb1
  have h2 : Whole w1 (w.heap.size + 1) 33 #[Value.int IntKind.u32 0, Value.int IntKind.u32 0, Value.int IntKind.u32 0, Value.int IntKind.u32 0, Value.int IntKind.u32 0] := ((Whole.new2 w _ _ _).drewN nq).under hb1
  have hb2 : Below w.heap.size w w1 := hb0.trans (hb1.mono hb0.size)
  have HS := Lib.hid (And.intro h1 (And.intro h2 hb2))
  clear h1 h2 hb2 hb0 hb1
  go_wp2_with fail
  go_loop [5, 6, 7, 8, 9, 26] (fun s5 s6 s7 s8 s9 s26 => ∃ k : Nat, k ≤ 80 ∧ s26 = .int .i64 k ∧ ∃ r, r = rnd L ⟨a0, b0, c0, d0, e0⟩ k ∧ s5 = .int .u32 r.a ∧ s6 = .int .u32 r.b ∧ s7 = .int .u32 r.c ∧ s8 = .int .u32 r.d ∧ s9 = .int .u32 r.e) (fun _ _ _ _ _ s26 => 80 - (intOf s26).toNat)
  case atStart => exact ⟨0, by omega, rfl, _, rfl, rfl, rfl, rfl, rfl, rfl⟩
  case round =>
    obtain ⟨k, hk, rfl, r, hr, rfl, rfl, rfl, rfl, rfl⟩ := hrel
    obtain ⟨a1, b1, c1, d1, e1⟩ := r
    dsimp only
    have HR := Lib.hid hr
    clear hr
    by_cases hlt : k < 80
    · have hi := fun w => HI.out w k hlt
      obtain ⟨x, hx⟩ : ∃ x, L.getD k 0 = x := ⟨_, rfl⟩
      rw [hx] at hi
      have HX := Lib.hid hx
      clear hx
      go_wp2_with (first
        | (go_at_call 23; (with_reducible refine (mixed_any _ _ _ _ _).mono ?_); rintro e w' ⟨rfl, rfl⟩)
        | (go_at_call 24; (with_reducible refine (rot32_5 _ _).mono ?_); rintro e w' ⟨rfl, rfl⟩)
        | (go_at_call 24; (with_reducible refine (rot32_30 _ _).mono ?_); rintro e w' ⟨rfl, rfl⟩))
      go_round
      case rel => exact ⟨k + 1, by omega, by go_num, _, rfl, by rw [rnd, ← HR.out, ← HX.out], by rw [rnd, ← HR.out], by rw [rnd, ← HR.out], by rw [rnd, ← HR.out], by rw [rnd, ← HR.out]⟩
      case measure => simp [intOf]; omega
    · obtain rfl : k = 80 := by omega
      rw [show ((80 : Nat) : Int) = 80 from rfl]
      have c0' := HS.out.1.cell 0
      have c1' := HS.out.1.cell 1
      have c2' := HS.out.1.cell 2
      have c3' := HS.out.1.cell 3
      have c4' := HS.out.1.cell 4
      simp at c0' c1' c2' c3' c4'
      have hfin : arr .u32 (blkW ⟨a0, b0, c0, d0, e0⟩ L).list = #[.int .u32 ((a0 + a1) % 4294967296), .int .u32 ((b0 + b1) % 4294967296), .int .u32 ((c0 + c1) % 4294967296), .int .u32 ((d0 + d1) % 4294967296), .int .u32 ((e0 + e1) % 4294967296)] := by
        rw [blkW, ← HR.out]
        rfl
      have HF := Lib.hid hfin
      clear hfin
      have hs1 := HS.out.2.1
      have q0 := hs1.cell 0
      have q1 := hs1.cell 1
      have q2 := hs1.cell 2
      have q3 := hs1.cell 3
      have q4 := hs1.cell 4
      have f0 := hs1.frz 0
      have f1 := hs1.frz 1
      have f2 := hs1.frz 2
      have f3 := hs1.frz 3
      have f4 := hs1.frz 4
      simp at q0 q1 q2 q3 q4
      clear hs1
      go_wp2_with fail
      refine bodyPost_ret (v := .agg (arr .u32 (blkW ⟨a0, b0, c0, d0, e0⟩ L).list)) ?_ rfl ?_
      · rw [HF.out]
        have h := Whole.set (Whole.set (Whole.set (Whole.set (Whole.set HS.out.2.1 0 (.int .u32 ((a0 + a1) % 4294967296))) 1 (.int .u32 ((b0 + b1) % 4294967296))) 2 (.int .u32 ((c0 + c1) % 4294967296))) 3 (.int .u32 ((d0 + d1) % 4294967296))) 4 (.int .u32 ((e0 + e1) % 4294967296))
        exact ret_whole (g := w.heap.size + 1) rfl rfl h Try.underlying33 Try.info33 rfl
      · exact ⟨rfl, ((((HS.out.2.2.setCell (by simp) _).setCell (by simp) _).setCell (by simp) _).setCell (by simp) _).setCell (by simp) _⟩

end Go.Proofs.Ytloekfphkepafaa
