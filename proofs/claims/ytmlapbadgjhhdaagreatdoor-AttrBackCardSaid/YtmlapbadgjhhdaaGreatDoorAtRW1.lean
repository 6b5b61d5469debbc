/- The document's small parts of a section: numbers, directions, ways, keys. -/
import Derived.Test.YtmlapbadgjhhdaaGreatDoorAtB8
namespace Go.Proofs.YtmlapbadgjhhdaaGreatDoor
open Go.RowKit Go.Shelf
set_option linter.unusedVariables false
set_option linter.unusedSimpArgs false

def dz (n : Nat) : Tx := if n = 0 then [] else dec n
theorem dz_step (n : Nat) : dz (n / 10) ++ [UInt8.ofNat (48 + n % 10)] = dec n := by
  unfold dz
  by_cases h : n < 10
  · rw [if_pos (by omega)]
    conv => rhs; unfold dec
    rw [dif_pos h, Nat.mod_eq_of_lt h]
    rfl
  · rw [if_neg (by omega)]
    conv => rhs; unfold dec
    rw [dif_neg h]
def sizOf : Value → Nat
  | .string s => s.size
  | _ => 0
set_option maxRecDepth 100000 in
set_option maxHeartbeats 3200000 in
theorem rDigits_any (n0 : Nat) (w : World) (hn : n0 < 18446744073709551616) : Calls Tryz.prog 45 #[.int .u64 n0] w fun e w' => e = .returned (.string (bs (dec n0))) ∧ Below w.heap.size w w' := by
  go_enter Tryz.func45, Tryz.ntmps45
  go_wp2
  go_loopw [0, 3] (fun s0 s3 wr => ∃ (n : Nat) (s : ByteArray), s0 = .int .u64 n ∧ s3 = .string s ∧ (Below w.heap.size w wr ∧ n < 18446744073709551616 ∧ ((tx s = [] ∧ n = n0) ∨ (tx s ≠ [] ∧ dz n ++ tx s = dec n0)))) (fun s0 s3 _ => (intOf s0).toNat + (1 - sizOf s3))
  case atStart => exact ⟨n0, _, rfl, rfl, Below.refl _ _, hn, .inl ⟨rfl, rfl⟩⟩
  case round =>
    obtain ⟨n, s, rfl, rfl, hst⟩ := hrel
    have HS := Lib.hid hst
    clear hst
    have hn1 : (n : Int) < 18446744073709551616 := by have := HS.out.2.1; omega
    have hw0 : w.heap.size ≤ wr.heap.size := HS.out.1.size
    have HBN : Hid (∀ o, Below w.heap.size w (wr.alloc o)) := Lib.hid fun o => HS.out.1.alloc hw0 o
    have hc : ∀ x : Nat, (convert 116 9 (.slice (some ⟨wr.heap.size, 0, none⟩) 1 1)).run Tryz.prog (wr.alloc (.cells #[.int .u8 (48 + (x : Int) % 10)] 5)) = .ok (.string (bs [UInt8.ofNat (48 + x % 10)])) (wr.alloc (.cells #[.int .u8 (48 + (x : Int) % 10)] 5)) := fun x => by
      have h := conv_text (A := some ⟨wr.heap.size, 0, none⟩) (n := 1) (c := 1) (Bs.laid wr [48 + (x : Int) % 10] 5) (fun e => by cases e)
      rw [show strOfNums [48 + (x : Int) % 10] = bs [UInt8.ofNat (48 + x % 10)] by
        unfold strOfNums bs
        rw [List.map_cons, List.map_nil, show (48 + (x : Int) % 10).toNat = 48 + x % 10 by omega]] at h
      exact h
    have hd1 : ∀ x : Nat, (bs [UInt8.ofNat (48 + x % 10)]).size = 1 := fun x => by rw [bs_size]; rfl
    have HD : Hid (∀ x : Nat, tx (bs [UInt8.ofNat (48 + x % 10)]) = [UInt8.ofNat (48 + x % 10)]) := Lib.hid fun x => tx_bs _
    by_cases h0 : n = 0
    · subst h0
      have hc0 := hc 0
      simp only [show (48 : Int) + ((0 : Nat) : Int) % 10 = 48 from rfl] at hc0
      have hd0 := hd1 0
      have HD0 := Lib.hid (HD.out 0)
      obtain ⟨dg, hdg⟩ : ∃ dg, bs [UInt8.ofNat (48 + 0 % 10)] = dg := ⟨_, rfl⟩
      rw [hdg] at hc0 hd0 HD0
      clear hdg hc hd1 HD
      by_cases hs : tx s = []
      · have e : s = ⟨#[]⟩ := tx_inj hs
        subst e
        have q : ¬ 9223372036854775807 < dg.size := by omega
        have q2 : ¬ 9223372036854775807 < dg.size + 0 := by omega
        have HX : Hid (n0 = 0) := Lib.hid (by
          rcases HS.out.2.2 with h | h
          · exact h.2.symm
          · exact (h.1 rfl).elim)
        go_wp2
        go_roundw
        case rel =>
          refine ⟨0, _, rfl, rfl, HBN.out _, by decide, .inr ⟨?_, ?_⟩⟩
          · rw [tx_append, HD0.out]; simp
          · rw [tx_append, HD0.out, HX.out]
            unfold dz dec
            rfl
        case measure =>
          have e : (dg ++ (⟨#[]⟩ : ByteArray)).size = 1 := by rw [← tx_length, tx_append, HD0.out]; rfl
          show 0 + (1 - (dg ++ (⟨#[]⟩ : ByteArray)).size) < 0 + (1 - 0)
          omega
      · have hse : s.toList.isEmpty = false := by
          rw [toList_tx]
          cases h : tx s with
          | nil => exact (hs h).elim
          | cons a l => rfl
        have HX : Hid (tx s = dec n0) := Lib.hid (by
          rcases HS.out.2.2 with h | h
          · exact (hs h.1).elim
          · have := h.2
            unfold dz at this
            simpa using this)
        clear hc0
        go_wp2
        go_ret
        exact ⟨show Ending.returned (.string s) = _ by rw [← bs_tx s, HX.out], HS.out.1⟩
    · have h0i : 0 < (n : Int) := by omega
      have h0n : 0 < n := by omega
      have hcn := hc n
      have hdn := hd1 n
      have HDN := Lib.hid (HD.out n)
      have HST := Lib.hid (dz_step n)
      have hsz : s.size ≤ 20 := by
        rcases HS.out.2.2 with h | h
        · rw [← tx_length, h.1]; simp
        · have := congrArg List.length h.2
          rw [List.length_append, tx_length] at this
          have h2 := dec_len 19 n0 (by rw [show (10 : Nat) ^ (19 + 1) = 100000000000000000000 by decide]; omega)
          omega
      have HZ : Hid (dz n = dec n) := Lib.hid (by unfold dz; rw [if_neg h0])
      obtain ⟨dg, hdg⟩ : ∃ dg, bs [UInt8.ofNat (48 + n % 10)] = dg := ⟨_, rfl⟩
      rw [hdg] at hcn hdn HDN
      clear hdg hc hd1 HD
      have q : ¬ 9223372036854775807 < dg.size + s.size := by omega
      go_wp2
      go_roundw
      case rel =>
        refine ⟨n / 10, _, by go_num, rfl, HBN.out _, by omega, .inr ⟨?_, ?_⟩⟩
        · rw [tx_append, HDN.out]; simp
        · rw [tx_append, HDN.out, ← List.append_assoc, HST.out]
          rcases HS.out.2.2 with h | h
          · rw [h.1, List.append_nil, h.2]
          · rw [← HZ.out]; exact h.2
      case measure => simp [intOf, sizOf]; omega
set_option maxHeartbeats 800000 in
theorem rdigits_any (n : Int) (w : World) (h0 : 0 ≤ n) (h1 : n ≤ 9223372036854775807) : Calls Tryz.prog 42 #[.int .i64 n] w fun e w' => e = .returned (.string (bs (decI n))) ∧ Below w.heap.size w w' := by
  obtain ⟨k, rfl⟩ : ∃ k : Nat, n = k := ⟨n.toNat, by omega⟩
  have HC := Lib.hid (rDigits_any k w (by omega))
  have HE : Hid (decI (k : Int) = dec k) := Lib.hid (by unfold decI; rfl)
  have hk1 : (k : Int) < 18446744073709551616 := by omega
  rw [HE.out]
  go_enter Tryz.func42, Tryz.ntmps42
  go_wp2_with (go_at_call 45; (with_reducible refine HC.out.mono ?_); rintro e w1 ⟨rfl, hb1⟩)
  go_ret
  exact ⟨rfl, hb1⟩
set_option maxHeartbeats 800000 in
theorem rdirection_any (d : Int) (w : World) (h0 : 0 ≤ d) (h3 : d ≤ 3) : Calls Tryz.prog 43 #[.int .i64 d] w fun e w' => e = .returned (.string (bs (dirW d))) ∧ w = w' := by
  have : d = 0 ∨ d = 1 ∨ d = 2 ∨ d = 3 := by omega
  rcases this with rfl | rfl | rfl | rfl
  · go_enter Tryz.func43, Tryz.ntmps43
    go_wp2
    go_ret
    exact ⟨rfl, rfl⟩
  · go_enter Tryz.func43, Tryz.ntmps43
    go_wp2
    go_ret
    exact ⟨rfl, rfl⟩
  · go_enter Tryz.func43, Tryz.ntmps43
    go_wp2
    go_ret
    exact ⟨rfl, rfl⟩
  · go_enter Tryz.func43, Tryz.ntmps43
    go_wp2
    go_ret
    exact ⟨rfl, rfl⟩
set_option maxHeartbeats 800000 in
theorem rway_any (b : Bool) (w : World) : Calls Tryz.prog 44 #[.bool b] w fun e w' => e = .returned (.string (bs (wayW b))) ∧ w = w' := by
  cases b
  · go_enter Tryz.func44, Tryz.ntmps44
    go_wp2
    go_ret
    exact ⟨rfl, rfl⟩
  · go_enter Tryz.func44, Tryz.ntmps44
    go_wp2
    go_ret
    exact ⟨rfl, rfl⟩
end Go.Proofs.YtmlapbadgjhhdaaGreatDoor
