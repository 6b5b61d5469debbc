/- Selected, Fresh, Pairs, New; First, of the program and of the document. -/
import Derived.Test.YteloaidnfcmadaaIcePairs
namespace Go.Proofs.Yteloaidnfcmadaa
open Go.RowKit
set_option linter.unusedVariables false

/-- The nominated pair, or the zero one; whether there is one. -/
def nomF (ps : List Pr) : Pr × Bool := match nomP ps with
  | some p => (p, true)
  | none => (zPr, false)
theorem nomF_of {ps : List Pr} {p : Pr} {b : Bool} (h : NomV ps p b) : p = (nomF ps).1 ∧ b = (nomF ps).2 := by
  rcases h with ⟨h1, rfl⟩ | ⟨h1, rfl, rfl⟩ <;> simp [nomF, h1]
theorem nominated_f (base ga : Nat) (v : Value) (s : Ag) (w : World) (h : AgV w base ga v s) :
    Calls Try.prog 20 #[.pointer (some ⟨ga, 0, none⟩)] w fun e w' => e = .returned (.tuple #[.agg (prc (nomF s.ps).1), .bool (nomF s.ps).2]) ∧ Below w.heap.size w w' :=
  (nominated_any base ga v s w h).mono fun e w' ⟨p, b, he, hn, hb⟩ => by
    obtain ⟨rfl, rfl⟩ := nomF_of hn
    exact ⟨he, hb⟩
theorem Try.zeroAddr5 (w : World) : (zeroValue 33).run Try.prog w = .ok (.agg #[.int .u32 0, .int .u16 0]) w := by kernel_rfl
theorem Try.sizeAddr5 : (Try.prog.info? 33).map (·.size) = some 2 := by kernel_rfl

set_option maxHeartbeats 1600000 in
set_option maxRecDepth 100000 in
/-- Selected, over whatever nominated answers. -/
theorem selected_of (x : Value) (p : Pr) (b : Bool) (w : World) (h : ∀ W, Below w.heap.size w W → Calls Try.prog 20 #[x] W fun e w' => e = .returned (.tuple #[.agg (prc p), .bool b]) ∧ Below W.heap.size W w') :
    Calls Try.prog 13 #[x] w fun e w' => e = .returned (.tuple #[.agg #[.int .u32 p.ip, .int .u16 p.port], .bool b]) ∧ Below w.heap.size w w' := by
  have hz := Try.zeroAddr5
  have g0 : Whole (w.alloc (.cells #[.int .u32 0, .int .u16 0] 33)) w.heap.size 33 #[.int .u32 0, .int .u16 0] := Whole.new w 33 _
  have hB1 : Below w.heap.size w (w.alloc (.cells #[.int .u32 0, .int .u16 0] 33)) := (Below.refl _ w).alloc (Nat.le_refl _) _
  obtain ⟨pip, ppo, pla, pno⟩ := p
  unfold prc at h
  have HC := Lib.hid (h _ hB1)
  obtain ⟨N, hN⟩ : ∃ N, w.heap.size = N := ⟨_, rfl⟩
  rw [hN] at g0 hB1 ⊢
  have G0 := Lib.hid (And.intro hB1 g0)
  clear g0 hB1 h
  go_enter Try.func13, Try.ntmps13
  go_upto_region 1 with fail
  generalize w.alloc (.cells #[.int .u32 0, .int .u16 0] 33) = W0 at *
  clear hN
  go_upto_region 2 with (go_at_call 20; (with_reducible refine HC.out.mono ?_); rintro e w1 ⟨rfl, hb1⟩)
  have gN := G0.out.2.under hb1
  have h2 := G0.out.1.trans (hb1.mono (Nat.le_of_lt G0.out.2.lt))
  have hW := Whole.new w1 63 #[.int .u32 pip, .int .u16 ppo, .int .i64 pla, .bool pno]
  have gN2 := gN.alloc (.cells #[.int .u32 pip, .int .u16 ppo, .int .i64 pla, .bool pno] 63)
  have h3 := h2.alloc (by have := gN.lt; omega) (.cells #[.int .u32 pip, .int .u16 ppo, .int .i64 pla, .bool pno] 63)
  have d0 : (w1.alloc (.cells #[.int .u32 pip, .int .u16 ppo, .int .i64 pla, .bool pno] 63)).cell? ⟨w1.heap.size, 0, none⟩ = some (.int .u32 pip) := hW.cell 0
  have d1 : (w1.alloc (.cells #[.int .u32 pip, .int .u16 ppo, .int .i64 pla, .bool pno] 63)).cell? ⟨w1.heap.size, 1, none⟩ = some (.int .u16 ppo) := hW.cell 1
  have e0 := gN2.cell 0
  have e1 := gN2.cell 1
  have q := gN2.frz
  have HH := Lib.hid (And.intro h3 gN2)
  clear hW gN gN2 h2 h3 hb1
  generalize w1.alloc (.cells #[.int .u32 pip, .int .u16 ppo, .int .i64 pla, .bool pno] 63) = W2 at *
  generalize w1.heap.size = g4 at *
  go_wp2
  have f1 : Whole _ N 33 #[.int .u32 pip, .int .u16 ppo] := (HH.out.2.set 0 (.int .u32 pip)).set 1 (.int .u16 ppo)
  refine bodyPost_ret (v := .tuple #[.agg #[.int .u32 pip, .int .u16 ppo], .bool b]) ?_ rfl ?_
  · exact ret_struct2 (p := 2) (s := 3) rfl rfl f1 Try.underlying33 rfl Try.sizeAddr5 rfl
  · exact ⟨rfl, (HH.out.1.setCell (p := ⟨N, 0, none⟩) (Nat.le_refl _) _).setCell (p := ⟨N, 1, none⟩) (Nat.le_refl _) _⟩
theorem selected_any (base ga : Nat) (v : Value) (s : Ag) (w : World) (h : AgV w base ga v s) :
    Calls Try.prog 13 #[.pointer (some ⟨ga, 0, none⟩)] w fun e w' => e = .returned (.tuple #[.agg #[.int .u32 (nomF s.ps).1.ip, .int .u16 (nomF s.ps).1.port], .bool (nomF s.ps).2]) ∧ Below w.heap.size w w' :=
  selected_of _ (nomF s.ps).1 (nomF s.ps).2 w fun W hW => nominated_f base ga v s W (h.under hW)
theorem selected_nil (w : World) : Calls Try.prog 13 #[.pointer none] w fun e w' => e = .returned (.tuple #[.agg #[.int .u32 0, .int .u16 0], .bool false]) ∧ Below w.heap.size w w' :=
  selected_of (.pointer none) zPr false w fun W hW => nominated_nil W

/-- Fresh. -/
def freshF (s : Ag) (now : Int) : Bool := (nomF s.ps).2 && decide (max now s.clk - (nomF s.ps).1.last ≤ 30)
theorem nomF_last {ps : List Pr} {c : Int} (hc : 0 ≤ c) (h : ∀ p ∈ ps, 0 ≤ p.last ∧ p.last ≤ c) : 0 ≤ (nomF ps).1.last ∧ (nomF ps).1.last ≤ c := by
  unfold nomF
  split
  · next p hp => exact h p (List.mem_of_find?_eq_some hp)
  · exact ⟨by decide, hc⟩

set_option maxHeartbeats 1600000 in
set_option maxRecDepth 100000 in
theorem fresh_any (base ga : Nat) (v : Value) (s : Ag) (now : Int) (h1 : now < 9223372036854775808) (w : World) (h : AgV w base ga v s) :
    Calls Try.prog 16 #[.pointer (some ⟨ga, 0, none⟩), .int .i64 now] w fun e w' => e = .returned (.bool (freshF s now)) ∧ Below w.heap.size w w' := by
  have HC := Lib.hid (nominated_f base ga v s w h)
  have hl := nomF_last h.c0 h.last
  have HF := Lib.hid (show freshF s now = ((nomF s.ps).2 && decide (max now s.clk - (nomF s.ps).1.last ≤ 30)) from rfl)
  have hc1 := h.c1
  have hc0 := h.c0
  have HA := Lib.hid h
  clear h
  obtain ⟨f, hf⟩ : ∃ x, freshF s now = x := ⟨_, rfl⟩
  rw [hf] at HF ⊢
  clear hf
  obtain ⟨q, hq⟩ : ∃ q, nomF s.ps = q := ⟨_, rfl⟩
  rw [hq] at HC hl HF
  clear hq
  obtain ⟨⟨pip, ppo, pla, pno⟩, b⟩ := q
  obtain ⟨clk, hclk⟩ : ∃ x, s.clk = x := ⟨_, rfl⟩
  rw [hclk] at hl hc1 hc0 HF
  have HCK := Lib.hid hclk
  clear hclk
  simp only [prc] at HC
  simp only at hl HF
  obtain ⟨l0, l1⟩ := hl
  go_enter Try.func16, Try.ntmps16
  go_upto_region 2 with (go_at_call 20; (with_reducible refine HC.out.mono ?_); rintro e w1 ⟨rfl, hb1⟩)
  have gA := HA.out.under hb1
  have h3 := hb1.alloc (Nat.le_trans (Nat.le_refl _) hb1.size) (.cells #[.int .u32 pip, .int .u16 ppo, .int .i64 pla, .bool pno] 63)
  have hW := Whole.new w1 63 #[.int .u32 pip, .int .u16 ppo, .int .i64 pla, .bool pno]
  have c3 : (w1.alloc (.cells #[.int .u32 pip, .int .u16 ppo, .int .i64 pla, .bool pno] 63)).cell? ⟨ga, 3, none⟩ = some (.int .i64 clk) := by
    rw [← HCK.out]
    exact (gA.box.alloc _).cell 3
  have d2 : (w1.alloc (.cells #[.int .u32 pip, .int .u16 ppo, .int .i64 pla, .bool pno] 63)).cell? ⟨w1.heap.size, 2, none⟩ = some (.int .i64 pla) := hW.cell 2
  have HH := Lib.hid h3
  clear hW gA hb1 h3
  generalize w1.alloc (.cells #[.int .u32 pip, .int .u16 ppo, .int .i64 pla, .bool pno] 63) = W2 at *
  generalize w1.heap.size = g4 at *
  have hm : 0 ≤ max now clk ∧ max now clk < 9223372036854775808 := by omega
  cases b with
  | true =>
    rcases Int.lt_or_le now clk with hlt | hge
    · have HF2 : Hid (f = decide (clk - pla ≤ 30)) := Lib.hid (by rw [HF.out, Int.max_eq_right (by omega)]; rfl)
      go_region
      go_wp2
      go_ret
      exact ⟨congrArg (fun x => Ending.returned (Value.bool x)) HF2.out.symm, HH.out.drew⟩
    · have HF2 : Hid (f = decide (now - pla ≤ 30)) := Lib.hid (by rw [HF.out, Int.max_eq_left (by omega)]; rfl)
      go_region
      go_wp2
      go_ret
      exact ⟨congrArg (fun x => Ending.returned (Value.bool x)) HF2.out.symm, HH.out.drew⟩
  | false =>
    go_region
    go_wp2
    go_ret
    refine ⟨?_, HH.out.drew⟩
    rw [HF.out]
    rfl

theorem built_agent : ∀ a b : ByteArray, Try.prog.built 55 [(0, .string a), (1, .string b)] = some #[.string a, .string b, .slice none 0 0, .int .i64 0] := by intros; kernel_rfl
theorem build_agent (a b : ByteArray) (w : World) : (Instr.build 55 #[(0, .string a), (1, .string b)]).run Try.prog w = .ok (.agg #[.string a, .string b, .slice none 0 0, .int .i64 0]) w := run_build w 55 _ _ (built_agent a b)

set_option maxHeartbeats 800000 in
theorem new_any (a b : ByteArray) (w : World) :
    Calls Try.prog 10 #[.string a, .string b] w fun e w' => e = .returned (.pointer (some ⟨w.heap.size, 0, none⟩)) ∧ w' = w.alloc (.cells #[.string a, .string b, .slice none 0 0, .int .i64 0] 55) := by
  have hb := build_agent a b w
  go_enter Try.func10, Try.ntmps10
  go_wp2
  go_ret
  exact ⟨rfl, rfl⟩
theorem new_agv (a b : ByteArray) (w : World) (ha : a.size ≤ 140737488351232) (hb : b.size ≤ 140737488351232) (base : Nat) (hl : base ≤ w.heap.size) :
    AgV (w.alloc (.cells #[.string a, .string b, .slice none 0 0, .int .i64 0] 55)) base w.heap.size (.slice none 0 0) ⟨a, b, [], 0⟩ :=
  ⟨Whole.new w 55 _, Row4.nil _ _, hl, by simp, Int.le_refl _, (by show (0 : Int) < 9223372036854775808; omega), (fun p hp => by cases hp), ha, hb⟩

set_option maxHeartbeats 800000 in
theorem fresh_nil (now : Int) (w : World) : Calls Try.prog 16 #[.pointer none, .int .i64 now] w fun e w' => e = .returned (.bool false) ∧ Below w.heap.size w w' := by
  have HC := Lib.hid (nominated_nil w)
  simp only [prc, zPr] at HC
  go_enter Try.func16, Try.ntmps16
  go_upto_region 2 with (go_at_call 20; (with_reducible refine HC.out.mono ?_); rintro e w1 ⟨rfl, hb1⟩)
  have h3 := hb1.alloc (Nat.le_trans (Nat.le_refl _) hb1.size) (.cells #[.int .u32 0, .int .u16 0, .int .i64 0, .bool false] 63)
  have HH := Lib.hid h3
  clear hb1 h3
  generalize w1.alloc (.cells #[.int .u32 0, .int .u16 0, .int .i64 0, .bool false] 63) = W2 at *
  go_region
  go_wp2
  go_ret
  exact ⟨rfl, HH.out.drew⟩

set_option maxHeartbeats 800000 in
theorem pairs_nil (w : World) : Calls Try.prog 14 #[.pointer none] w fun e w' => e = .returned (.slice none 0 0) ∧ w = w' := by
  go_enter Try.func14, Try.ntmps14
  go_wp2
  go_ret
  exact ⟨rfl, rfl⟩

set_option maxHeartbeats 800000 in
theorem handle_nil (v : Value) (ip port now : Int) (w : World) : Calls Try.prog 15 #[.pointer none, v, .agg #[.int .u32 ip, .int .u16 port], .int .i64 now] w fun e w' => e = .returned (.tuple #[.slice none 0 0, .int .i64 1]) ∧ Below w.heap.size w w' := by
  go_enter Try.func15, Try.ntmps15
  go_wp2
  go_ret2
  exact ⟨rfl, (Below.refl _ w).alloc (Nat.le_refl _) _⟩
end Go.Proofs.Yteloaidnfcmadaa
