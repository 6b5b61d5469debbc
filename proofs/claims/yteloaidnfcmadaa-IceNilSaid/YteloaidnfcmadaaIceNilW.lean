/- The law IceNil: its walk. -/
import Derived.Test.YteloaidnfcmadaaIceAwake
namespace Go.Proofs.Yteloaidnfcmadaa
open Go.RowKit
set_option linter.unusedVariables false
set_option linter.unusedSimpArgs false

theorem built_a0 : Try.prog.built 33 [] = some #[.int .u32 0, .int .u16 0] := by kernel_rfl
theorem build_a0 (w : World) : (Instr.build 33 #[]).run Try.prog w = .ok (.agg #[.int .u32 0, .int .u16 0]) w := run_build w 33 _ _ built_a0
set_option maxHeartbeats 1600000 in
set_option maxRecDepth 100000 in
theorem nil_walk (v : Value) (xs : List Int) (ip port now : Int) (w : World) (hv : V8 w w.heap.size v xs) (hx : ∀ i, 0 ≤ xs.getD i 0 ∧ xs.getD i 0 < 256) (hl : xs.length ≤ 140737488351232) (wi : (Lit.int .u32 ip).wf = true) (wp : (Lit.int .u16 port).wf = true) (wn : (Lit.int .i64 now).wf = true) :
    Calls Try.prog 6 #[v, .agg #[.int .u32 ip, .int .u16 port], .int .i64 now] w fun e w' => e = .returned (.bool true) ∧ Below w.heap.size w w' := by
  have hba := build_a0
  have g0 := Whole.new w 33 #[.int .u32 ip, .int .u16 port]
  have hb0 := (Below.refl w.heap.size w).alloc (Nat.le_refl _) (.cells #[.int .u32 ip, .int .u16 port] 33)
  have HAW := Lib.hid (awake5_yes (w.alloc (.cells #[.int .u32 ip, .int .u16 port] 33)))
  have HH : Hid (∀ W, Calls Try.prog 15 #[.pointer none, v, .agg #[.int .u32 ip, .int .u16 port], .int .i64 now] W fun e w' => e = .returned (.tuple #[.slice none 0 0, .int .i64 1]) ∧ Below W.heap.size W w') := Lib.hid fun W => handle_nil v ip port now W
  have HS : Hid (∀ W, Calls Try.prog 13 #[.pointer none] W fun e w' => e = .returned (.tuple #[.agg #[.int .u32 0, .int .u16 0], .bool false]) ∧ Below W.heap.size W w') := Lib.hid selected_nil
  have HF : Hid (∀ W, Calls Try.prog 16 #[.pointer none, .int .i64 now] W fun e w' => e = .returned (.bool false) ∧ Below W.heap.size W w') := Lib.hid fun W => fresh_nil now W
  have HP : Hid (∀ W, Calls Try.prog 14 #[.pointer none] W fun e w' => e = .returned (.slice none 0 0) ∧ W = w') := Lib.hid pairs_nil
  have H0 := Lib.hid (And.intro g0 hb0)
  clear g0 hb0 hv hx hl wi wp wn
  obtain ⟨N, hN⟩ : ∃ N, w.heap.size = N := ⟨_, rfl⟩
  rw [hN] at H0 ⊢
  go_enter Try.func6, Try.ntmps6
  go_upto_region 1 with fail
  generalize w.alloc (.cells #[.int .u32 ip, .int .u16 port] 33) = W0 at *
  clear hN
  go_upto_region 4 with (go_at_call 7; (with_reducible refine HAW.out.mono ?_); rintro e w1 ⟨rfl, hb1⟩)
  have hN0 := Nat.le_of_lt H0.out.1.lt
  have g1 := H0.out.1.under hb1
  have hb2 := H0.out.2.trans (hb1.mono hN0)
  have d0 := g1.cell 0
  have d1 := g1.cell 1
  have H1 := Lib.hid (And.intro hb2 (Nat.le_of_lt g1.lt))
  clear g1 hb2 hN0 hb1
  go_upto_region 6 with (first
    | (go_at_call 15; (with_reducible refine (HH.out _).mono ?_); rintro e w2 ⟨rfl, hb2⟩)
    | (go_at_call 13; (with_reducible refine (HS.out _).mono ?_); rintro e w3 ⟨rfl, hb3⟩))
  have hN2 : N ≤ w2.heap.size := Nat.le_trans H1.out.2 hb2.size
  have hN3 : N ≤ w3.heap.size := Nat.le_trans hN2 hb3.size
  have hW := Whole.new w3 33 #[.int .u32 0, .int .u16 0]
  have hb5 := ((H1.out.1.trans (hb2.mono H1.out.2)).trans (hb3.mono hN2)).alloc hN3 (.cells #[.int .u32 0, .int .u16 0] 33)
  have e0 : (w3.alloc (.cells #[.int .u32 0, .int .u16 0] 33)).cell? ⟨w3.heap.size, 0, none⟩ = some (.int .u32 0) := hW.cell 0
  have e1 : (w3.alloc (.cells #[.int .u32 0, .int .u16 0] 33)).cell? ⟨w3.heap.size, 1, none⟩ = some (.int .u16 0) := hW.cell 1
  have HB5 := Lib.hid (And.intro hb5 (Nat.le_trans hN3 (by simp : w3.heap.size ≤ (w3.alloc (.cells #[.int .u32 0, .int .u16 0] 33)).heap.size)))
  clear hW hb2 hb3 hb5 hN2 hN3 d0 d1
  generalize w3.alloc (.cells #[.int .u32 0, .int .u16 0] 33) = W5 at *
  go_wp2_with (first
    | (go_at_call 16; (with_reducible refine (HF.out _).mono ?_); rintro e w6 ⟨rfl, hb6⟩)
    | (go_at_call 14; (with_reducible refine (HP.out _).mono ?_); rintro e w7 ⟨rfl, rfl⟩))
  go_ret
  exact ⟨rfl, HB5.out.1.trans (hb6.mono HB5.out.2)⟩
end Go.Proofs.Yteloaidnfcmadaa
