/- First, of the program and of the document: the law's walk. -/
import Derived.Test.YteloaidnfcmadaaIceAwake
namespace Go.Proofs.Yteloaidnfcmadaa
open Go.RowKit
set_option linter.unusedVariables false
set_option linter.unusedSimpArgs false

/-- What a datagram is, by its length and its first two bytes. -/
def firstF (n : Nat) (b c : Int) : Int := if n = 0 then 0 else if b ≤ 3 then 1 else if 20 ≤ b ∧ b ≤ 63 then 2 else if b < 128 ∨ 191 < b then 0 else if 1 < n ∧ (192 ≤ c ∧ c ≤ 223) then 4 else 3

set_option maxHeartbeats 3200000 in
theorem first_any (A : Option Addr) (n c : Nat) (xs : List Int) (w : World) (h : Bs w w.heap.size A n xs) (hn : n ≤ 140737488351232) (hx : In256 xs) :
    Calls Try.prog 8 #[.slice A n c] w fun e w' => e = .returned (.int .i64 (firstF n (xs.getD 0 0) (xs.getD 1 0))) ∧ w = w' := by
  have hb := hx 0
  have hc := hx 1
  obtain ⟨hb0, hb1⟩ := hb
  obtain ⟨hc0, hc1⟩ := hc
  have h2 := h.2
  clear h hx
  by_cases h0 : n = 0
  · have HF := Lib.hid (show firstF n (xs.getD 0 0) (xs.getD 1 0) = 0 by simp [firstF, h0])
    subst h0
    go_enter Try.func8, Try.ntmps8
    go_wp2
    go_ret
    exact ⟨congrArg (fun x => Ending.returned (Value.int .i64 x)) HF.out.symm, rfl⟩
  · obtain ⟨ad, rfl, -, hcl⟩ := h2 (by omega)
    have c0 := hcl 0 (by omega)
    have c1 : 1 < n → w.cell? (ad.add 1) = some (.int .u8 (xs.getD 1 0)) := fun h => hcl 1 h
    have HC1 := Lib.hid c1
    clear hcl h2 c1
    rw [show ad.add 0 = ad from rfl] at c0
    have hn0 : (0 : Int) < (n : Int) := by omega
    obtain ⟨b, hbe⟩ : ∃ b, xs.getD 0 0 = b := ⟨_, rfl⟩
    obtain ⟨d, hde⟩ : ∃ b, xs.getD 1 0 = b := ⟨_, rfl⟩
    rw [hbe] at hb0 hb1 c0 ⊢
    rw [hde] at hc0 hc1 HC1 ⊢
    clear hbe hde
    by_cases q1 : b ≤ 3
    · have HF := Lib.hid (show firstF n b d = 1 by simp [firstF, h0, q1])
      go_enter Try.func8, Try.ntmps8
      go_wp2
      all_goals
        go_ret
        exact ⟨congrArg (fun x => Ending.returned (Value.int .i64 x)) HF.out.symm, rfl⟩
    by_cases q2 : 20 ≤ b ∧ b ≤ 63
    · obtain ⟨q3, q4⟩ := q2
      have HF := Lib.hid (show firstF n b d = 2 by simp [firstF, h0, q1, q3, q4])
      go_enter Try.func8, Try.ntmps8
      go_wp2
      all_goals
        go_ret
        exact ⟨congrArg (fun x => Ending.returned (Value.int .i64 x)) HF.out.symm, rfl⟩
    by_cases q3 : b < 128
    · have q5 : ¬ (20 ≤ b) ∨ 63 < b := by omega
      have HF := Lib.hid (show firstF n b d = 0 by simp [firstF, h0, q1, q2, q3])
      go_enter Try.func8, Try.ntmps8
      go_wp2
      all_goals
        go_ret
        exact ⟨congrArg (fun x => Ending.returned (Value.int .i64 x)) HF.out.symm, rfl⟩
    by_cases q4 : 191 < b
    · have HF := Lib.hid (show firstF n b d = 0 by simp [firstF, h0, q1, q2, q3, q4])
      go_enter Try.func8, Try.ntmps8
      go_wp2
      all_goals
        go_ret
        exact ⟨congrArg (fun x => Ending.returned (Value.int .i64 x)) HF.out.symm, rfl⟩
    by_cases q5 : 1 < n
    · have c1 := HC1.out q5
      have c2 : w.cell? ⟨ad.block, ad.off + 1, none⟩ = some (.int .u8 d) := c1
      have hn1 : (1 : Int) < (n : Int) := by omega
      by_cases q6 : 192 ≤ d
      · by_cases q7 : d ≤ 223
        · have HF := Lib.hid (show firstF n b d = 4 by simp [firstF, h0, q1, q2, q3, q4, q5, q6, q7])
          go_enter Try.func8, Try.ntmps8
          go_wp2
          all_goals
            go_ret
            exact ⟨congrArg (fun x => Ending.returned (Value.int .i64 x)) HF.out.symm, rfl⟩
        · have HF := Lib.hid (show firstF n b d = 3 by simp [firstF, h0, q1, q2, q3, q4, q5, q6, q7])
          go_enter Try.func8, Try.ntmps8
          go_wp2
          all_goals
            go_ret
            exact ⟨congrArg (fun x => Ending.returned (Value.int .i64 x)) HF.out.symm, rfl⟩
      · have HF := Lib.hid (show firstF n b d = 3 by simp [firstF, h0, q1, q2, q3, q4, q5, q6])
        go_enter Try.func8, Try.ntmps8
        go_wp2
        all_goals
          go_ret
          exact ⟨congrArg (fun x => Ending.returned (Value.int .i64 x)) HF.out.symm, rfl⟩
    · have hn1 : ¬ (1 : Int) < (n : Int) := by omega
      have HF := Lib.hid (show firstF n b d = 3 by simp [firstF, h0, q1, q2, q3, q4, q5])
      go_enter Try.func8, Try.ntmps8
      go_wp2
      all_goals
        go_ret
        exact ⟨congrArg (fun x => Ending.returned (Value.int .i64 x)) HF.out.symm, rfl⟩

set_option maxHeartbeats 3200000 in
theorem rfirst_any (A : Option Addr) (n c : Nat) (xs : List Int) (w : World) (h : Bs w w.heap.size A n xs) (hn : n ≤ 140737488351232) (hx : In256 xs) :
    Calls Try.prog 9 #[.slice A n c] w fun e w' => e = .returned (.int .i64 (firstF n (xs.getD 0 0) (xs.getD 1 0))) ∧ w = w' := by
  have hb := hx 0
  have hc := hx 1
  obtain ⟨hb0, hb1⟩ := hb
  obtain ⟨hc0, hc1⟩ := hc
  have h2 := h.2
  clear h hx
  by_cases h0 : n = 0
  · have HF := Lib.hid (show firstF n (xs.getD 0 0) (xs.getD 1 0) = 0 by simp [firstF, h0])
    subst h0
    go_enter Try.func9, Try.ntmps9
    go_wp2
    go_ret
    exact ⟨congrArg (fun x => Ending.returned (Value.int .i64 x)) HF.out.symm, rfl⟩
  · obtain ⟨ad, rfl, -, hcl⟩ := h2 (by omega)
    have c0 := hcl 0 (by omega)
    have c1 : 1 < n → w.cell? (ad.add 1) = some (.int .u8 (xs.getD 1 0)) := fun h => hcl 1 h
    have HC1 := Lib.hid c1
    clear hcl h2 c1
    rw [show ad.add 0 = ad from rfl] at c0
    have hn0 : (0 : Int) < (n : Int) := by omega
    obtain ⟨b, hbe⟩ : ∃ b, xs.getD 0 0 = b := ⟨_, rfl⟩
    obtain ⟨d, hde⟩ : ∃ b, xs.getD 1 0 = b := ⟨_, rfl⟩
    rw [hbe] at hb0 hb1 c0 ⊢
    rw [hde] at hc0 hc1 HC1 ⊢
    clear hbe hde
    by_cases q1 : b ≤ 3
    · have HF := Lib.hid (show firstF n b d = 1 by simp [firstF, h0, q1])
      go_enter Try.func9, Try.ntmps9
      go_wp2
      all_goals
        go_ret
        exact ⟨congrArg (fun x => Ending.returned (Value.int .i64 x)) HF.out.symm, rfl⟩
    by_cases q2 : 20 ≤ b ∧ b ≤ 63
    · obtain ⟨q3, q4⟩ := q2
      have HF := Lib.hid (show firstF n b d = 2 by simp [firstF, h0, q1, q3, q4])
      go_enter Try.func9, Try.ntmps9
      go_wp2
      all_goals
        go_ret
        exact ⟨congrArg (fun x => Ending.returned (Value.int .i64 x)) HF.out.symm, rfl⟩
    by_cases q3 : b < 128
    · have q5 : ¬ (20 ≤ b) ∨ 63 < b := by omega
      have HF := Lib.hid (show firstF n b d = 0 by simp [firstF, h0, q1, q2, q3])
      go_enter Try.func9, Try.ntmps9
      go_wp2
      all_goals
        go_ret
        exact ⟨congrArg (fun x => Ending.returned (Value.int .i64 x)) HF.out.symm, rfl⟩
    by_cases q4 : 191 < b
    · have HF := Lib.hid (show firstF n b d = 0 by simp [firstF, h0, q1, q2, q3, q4])
      go_enter Try.func9, Try.ntmps9
      go_wp2
      all_goals
        go_ret
        exact ⟨congrArg (fun x => Ending.returned (Value.int .i64 x)) HF.out.symm, rfl⟩
    by_cases q5 : 1 < n
    · have c1 := HC1.out q5
      have c2 : w.cell? ⟨ad.block, ad.off + 1, none⟩ = some (.int .u8 d) := c1
      have hn1 : (1 : Int) < (n : Int) := by omega
      by_cases q6 : 192 ≤ d
      · by_cases q7 : d ≤ 223
        · have HF := Lib.hid (show firstF n b d = 4 by simp [firstF, h0, q1, q2, q3, q4, q5, q6, q7])
          go_enter Try.func9, Try.ntmps9
          go_wp2
          all_goals
            go_ret
            exact ⟨congrArg (fun x => Ending.returned (Value.int .i64 x)) HF.out.symm, rfl⟩
        · have HF := Lib.hid (show firstF n b d = 3 by simp [firstF, h0, q1, q2, q3, q4, q5, q6, q7])
          go_enter Try.func9, Try.ntmps9
          go_wp2
          all_goals
            go_ret
            exact ⟨congrArg (fun x => Ending.returned (Value.int .i64 x)) HF.out.symm, rfl⟩
      · have HF := Lib.hid (show firstF n b d = 3 by simp [firstF, h0, q1, q2, q3, q4, q5, q6])
        go_enter Try.func9, Try.ntmps9
        go_wp2
        all_goals
          go_ret
          exact ⟨congrArg (fun x => Ending.returned (Value.int .i64 x)) HF.out.symm, rfl⟩
    · have hn1 : ¬ (1 : Int) < (n : Int) := by omega
      have HF := Lib.hid (show firstF n b d = 3 by simp [firstF, h0, q1, q2, q3, q4, q5])
      go_enter Try.func9, Try.ntmps9
      go_wp2
      all_goals
        go_ret
        exact ⟨congrArg (fun x => Ending.returned (Value.int .i64 x)) HF.out.symm, rfl⟩

set_option maxHeartbeats 800000 in
theorem firsts_walk (v : Value) (xs : List Int) (w : World) (hv : V8 w w.heap.size v xs) (hx : ∀ i, 0 ≤ xs.getD i 0 ∧ xs.getD i 0 < 256) (hl : xs.length ≤ 140737488351232) :
    Calls Try.prog 3 #[v] w fun e w' => e = .returned (.bool true) ∧ Below w.heap.size w w' := by
  obtain ⟨A, c, rfl, -, -, -, hb⟩ := hv
  obtain ⟨n, hn⟩ : ∃ n, xs.length = n := ⟨_, rfl⟩
  rw [hn] at hb hl ⊢
  have HAW := Lib.hid (awake5_yes w)
  have HF : Hid (∀ W, Below w.heap.size w W → (Calls Try.prog 8 #[.slice A n c] W fun e w' => e = .returned (.int .i64 (firstF n (xs.getD 0 0) (xs.getD 1 0))) ∧ W = w') ∧ (Calls Try.prog 9 #[.slice A n c] W fun e w' => e = .returned (.int .i64 (firstF n (xs.getD 0 0) (xs.getD 1 0))) ∧ W = w')) :=
    Lib.hid fun W hW => ⟨first_any A n c xs W ((hb.below hW).more hW.size) hl hx, rfirst_any A n c xs W ((hb.below hW).more hW.size) hl hx⟩
  clear hb hn hx hl
  generalize firstF n (xs.getD 0 0) (xs.getD 1 0) = f at *
  go_enter Try.func3, Try.ntmps3
  go_wp2_with (first
    | (go_at_call 7; (with_reducible refine HAW.out.mono ?_); rintro e w1 ⟨rfl, hb1⟩)
    | (go_at_call 8; (with_reducible refine (HF.out _ hb1).1.mono ?_); rintro e w2 ⟨rfl, rfl⟩)
    | (go_at_call 9; (with_reducible refine (HF.out _ hb1).2.mono ?_); rintro e w3 ⟨rfl, rfl⟩))
  go_ret
  exact ⟨rfl, hb1⟩
end Go.Proofs.Yteloaidnfcmadaa
