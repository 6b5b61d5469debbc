/- The tests of words and values, the program's and the document's. -/
import Derived.Test.YtmlapbadgjhhdaaGreatDoorGen
import Derived.Test.YtmlapbadgjhhdaaGreatDoorSdpP
namespace Go.Proofs.YtmlapbadgjhhdaaGreatDoor
open Go.RowKit
set_option linter.unusedVariables false
set_option linter.unusedSimpArgs false

theorem ret_bool {a b : Bool} (h : a = b) : Ending.returned (.bool a) = .returned (.bool b) := by rw [h]

set_option maxHeartbeats 800000 in
theorem inValue_any (c : UInt8) (w : World) : Calls Tryz.prog 123 #[.int .u8 (c.toNat : Int)] w fun e w' => e = .returned (.bool (inVal c)) ∧ w = w' := by
  have hc := c.toNat_lt
  have HE : Hid (inVal c = (decide (32 ≤ c.toNat) && decide (c.toNat ≤ 126))) := Lib.hid rfl
  generalize c.toNat = n at *
  by_cases h1 : 32 ≤ n
  · have HR : Hid (decide ((n : Int) ≤ 126) = inVal c) := Lib.hid (by rw [HE.out, Bool.eq_iff_iff]; simp [h1]; omega)
    have h1 : (32 : Int) ≤ (n : Int) := by omega
    clear HE
    go_enter Tryz.func123, Tryz.ntmps123
    go_wp2
    go_ret
    exact ⟨ret_bool HR.out, rfl⟩
  · have HR : Hid (inVal c = false) := Lib.hid (by rw [HE.out]; simp [h1])
    have h1 : (n : Int) < 32 := by omega
    clear HE
    go_enter Tryz.func123, Tryz.ntmps123
    go_wp2
    go_ret
    exact ⟨ret_bool HR.out.symm, rfl⟩

set_option maxHeartbeats 1600000 in
theorem inWord_any (c : UInt8) (w : World) : Calls Tryz.prog 82 #[.int .u8 (c.toNat : Int)] w fun e w' => e = .returned (.bool (inWd c)) ∧ w = w' := by
  have hc := c.toNat_lt
  have HE : Hid (inWd c = ((decide (97 ≤ c.toNat) && decide (c.toNat ≤ 122)) || (decide (65 ≤ c.toNat) && decide (c.toNat ≤ 90)) || (decide (48 ≤ c.toNat) && decide (c.toNat ≤ 57)) || decide (c.toNat = 45) || decide (c.toNat = 95))) := Lib.hid (by
    unfold inWd
    have e1 : (c == 45) = decide (c.toNat = 45) := by rw [Bool.eq_iff_iff]; simp [← UInt8.toNat_inj]
    have e2 : (c == 95) = decide (c.toNat = 95) := by rw [Bool.eq_iff_iff]; simp [← UInt8.toNat_inj]
    rw [e1, e2])
  generalize c.toNat = n at *
  have hn : (0 : Int) ≤ (n : Int) := by omega
  by_cases h1 : (97 ≤ n ∧ n ≤ 122) ∨ (65 ≤ n ∧ n ≤ 90) ∨ (48 ≤ n ∧ n ≤ 57)
  · have HR : Hid (inWd c = true) := Lib.hid (by rw [HE.out]; simp; omega)
    clear HE
    rcases h1 with ⟨ha, hb⟩ | ⟨ha, hb⟩ | ⟨ha, hb⟩
    all_goals
      go_enter Tryz.func82, Tryz.ntmps82
      go_wp2
      all_goals first
        | (exfalso; omega)
        | (go_ret; exact ⟨ret_bool HR.out.symm, rfl⟩)
  · by_cases h2 : n = 45
    · have HR : Hid (inWd c = true) := Lib.hid (by rw [HE.out]; simp [h2])
      clear HE h1
      subst h2
      go_enter Tryz.func82, Tryz.ntmps82
      go_wp2
      go_ret
      exact ⟨ret_bool HR.out.symm, rfl⟩
    · have HR : Hid (((n : Int) == 95) = inWd c) := Lib.hid (by rw [HE.out, Bool.eq_iff_iff]; simp; omega)
      clear HE
      have h3 : ((n : Int) == 45) = false := by rw [beq_eq_false_iff_ne]; omega
      go_enter Tryz.func82, Tryz.ntmps82
      go_wp2
      all_goals first
        | (exfalso; omega)
        | (go_ret; exact ⟨ret_bool HR.out, rfl⟩)

set_option maxHeartbeats 800000 in
theorem allValue_any (s : ByteArray) (w : World) (hs : s.size ≤ maxLen) : Calls Tryz.prog 81 #[.string s, .func (.func 123) #[] #[]] w fun e w' => e = .returned (.bool ((tx s).all inVal)) ∧ w = w' := by
  unfold maxLen at hs
  have HC : Hid (∀ c W, Calls Tryz.prog 123 #[.int .u8 ((c : UInt8).toNat : Int)] W fun e w' => e = .returned (.bool (inVal c)) ∧ W = w') := Lib.hid fun c W => inValue_any c W
  have HT : Hid (∀ k, s.size ≤ k → (tx s).take k = tx s) := Lib.hid fun k hk => List.take_of_length_le (by rw [tx_length]; exact hk)
  go_enter Tryz.func81, Tryz.ntmps81
  go_wp2
  go_loop [8] (fun i => ∃ k : Nat, k ≤ s.size ∧ i = .int .i64 k ∧ ((tx s).take k).all inVal = true) (fun i => s.size - (intOf i).toNat)
  case atStart => exact ⟨0, Nat.zero_le _, rfl, rfl⟩
  case round =>
    obtain ⟨k, hk, rfl, hall⟩ := hrel
    have HA := Lib.hid hall
    clear hall
    by_cases hlt : k < s.size
    · have HN : Hid ((tx s).take (k + 1) = (tx s).take k ++ [s[k]]) := Lib.hid (by
        have hk' : k < (tx s).length := by rw [tx_length]; exact hlt
        rw [List.take_succ_eq_append_getElem hk']
        rfl)
      have HM : Hid (s[k] ∈ tx s) := Lib.hid (by
        have hk' : k < (tx s).length := by rw [tx_length]; exact hlt
        exact List.getElem_mem (l := tx s) hk')
      obtain ⟨b, hb⟩ : ∃ b, inVal s[k] = b := ⟨_, rfl⟩
      have HB := Lib.hid hb
      have HCC := Lib.hid (HC.out s[k])
      rw [hb] at HCC
      clear hb
      cases b with
      | true =>
        go_wp2_with (go_at_call 123; (with_reducible refine (HCC.out _).mono ?_); rintro e w' ⟨rfl, rfl⟩)
        go_round
        case rel => exact ⟨k + 1, by omega, by go_num, by rw [HN.out, List.all_append, HA.out]; simp [HB.out]⟩
        case measure => simp [intOf]; omega
      | false =>
        have HR : Hid ((tx s).all inVal = false) := Lib.hid (by
          rw [Bool.eq_false_iff]
          intro h
          rw [List.all_eq_true] at h
          have := h _ HM.out
          rw [HB.out] at this
          cases this)
        go_wp2_with (go_at_call 123; (with_reducible refine (HCC.out _).mono ?_); rintro e w' ⟨rfl, rfl⟩)
        go_ret
        exact ⟨ret_bool HR.out.symm, rfl⟩
    · have HR : Hid ((tx s).all inVal = true) := Lib.hid (by have := HA.out; rwa [HT.out k (by omega)] at this)
      go_wp2
      go_ret
      exact ⟨ret_bool HR.out.symm, rfl⟩

set_option maxHeartbeats 800000 in
theorem allWord_any (s : ByteArray) (w : World) (hs : s.size ≤ maxLen) : Calls Tryz.prog 81 #[.string s, .func (.func 82) #[] #[]] w fun e w' => e = .returned (.bool ((tx s).all inWd)) ∧ w = w' := by
  unfold maxLen at hs
  have HC : Hid (∀ c W, Calls Tryz.prog 82 #[.int .u8 ((c : UInt8).toNat : Int)] W fun e w' => e = .returned (.bool (inWd c)) ∧ W = w') := Lib.hid fun c W => inWord_any c W
  have HT : Hid (∀ k, s.size ≤ k → (tx s).take k = tx s) := Lib.hid fun k hk => List.take_of_length_le (by rw [tx_length]; exact hk)
  go_enter Tryz.func81, Tryz.ntmps81
  go_wp2
  go_loop [8] (fun i => ∃ k : Nat, k ≤ s.size ∧ i = .int .i64 k ∧ ((tx s).take k).all inWd = true) (fun i => s.size - (intOf i).toNat)
  case atStart => exact ⟨0, Nat.zero_le _, rfl, rfl⟩
  case round =>
    obtain ⟨k, hk, rfl, hall⟩ := hrel
    have HA := Lib.hid hall
    clear hall
    by_cases hlt : k < s.size
    · have HN : Hid ((tx s).take (k + 1) = (tx s).take k ++ [s[k]]) := Lib.hid (by
        have hk' : k < (tx s).length := by rw [tx_length]; exact hlt
        rw [List.take_succ_eq_append_getElem hk']
        rfl)
      have HM : Hid (s[k] ∈ tx s) := Lib.hid (by
        have hk' : k < (tx s).length := by rw [tx_length]; exact hlt
        exact List.getElem_mem (l := tx s) hk')
      obtain ⟨b, hb⟩ : ∃ b, inWd s[k] = b := ⟨_, rfl⟩
      have HB := Lib.hid hb
      have HCC := Lib.hid (HC.out s[k])
      rw [hb] at HCC
      clear hb
      cases b with
      | true =>
        go_wp2_with (go_at_call 82; (with_reducible refine (HCC.out _).mono ?_); rintro e w' ⟨rfl, rfl⟩)
        go_round
        case rel => exact ⟨k + 1, by omega, by go_num, by rw [HN.out, List.all_append, HA.out]; simp [HB.out]⟩
        case measure => simp [intOf]; omega
      | false =>
        have HR : Hid ((tx s).all inWd = false) := Lib.hid (by
          rw [Bool.eq_false_iff]
          intro h
          rw [List.all_eq_true] at h
          have := h _ HM.out
          rw [HB.out] at this
          cases this)
        go_wp2_with (go_at_call 82; (with_reducible refine (HCC.out _).mono ?_); rintro e w' ⟨rfl, rfl⟩)
        go_ret
        exact ⟨ret_bool HR.out.symm, rfl⟩
    · have HR : Hid ((tx s).all inWd = true) := Lib.hid (by have := HA.out; rwa [HT.out k (by omega)] at this)
      go_wp2
      go_ret
      exact ⟨ret_bool HR.out.symm, rfl⟩

set_option maxHeartbeats 400000 in
theorem between_any (n : Nat) (m : Int) (w : World) (hn : n ≤ maxLen) : Calls Tryz.prog 80 #[.int .i64 n, .int .i64 m] w fun e w' => e = .returned (.bool (decide (1 ≤ n) && decide ((n : Int) ≤ m))) ∧ w = w' := by
  unfold maxLen at hn
  by_cases h1 : 1 ≤ n
  · have HR : Hid (decide ((n : Int) ≤ m) = (decide (1 ≤ n) && decide ((n : Int) ≤ m))) := Lib.hid (by simp [h1])
    have h1 : (1 : Int) ≤ (n : Int) := by omega
    go_enter Tryz.func80, Tryz.ntmps80
    go_wp2
    go_ret
    exact ⟨ret_bool HR.out, rfl⟩
  · obtain ⟨r, hr⟩ : ∃ r, (decide (1 ≤ n) && decide ((n : Int) ≤ m)) = r := ⟨_, rfl⟩
    have HR : Hid (r = false) := Lib.hid (by rw [← hr]; simp [h1])
    rw [hr]
    clear hr
    have h1 : (n : Int) < 1 := by omega
    go_enter Tryz.func80, Tryz.ntmps80
    go_wp2
    go_ret
    exact ⟨ret_bool HR.out.symm, rfl⟩

set_option maxHeartbeats 800000 in
theorem value_any (s : ByteArray) (w : World) (hs : s.size ≤ maxLen) : Calls Tryz.prog 90 #[.string s] w fun e w' => e = .returned (.bool (valP (tx s))) ∧ w = w' := by
  have HA := Lib.hid (allValue_any s w hs)
  have HB := Lib.hid (between_any s.size 200 w hs)
  have HE : Hid (valP (tx s) = ((tx s).all inVal && (decide (1 ≤ s.size) && decide ((s.size : Int) ≤ 200)))) := Lib.hid (by
    show ((tx s).all _ && (decide (1 ≤ (tx s).length) && decide ((tx s).length ≤ 200))) = _
    rw [tx_length]
    have : decide (s.size ≤ 200) = decide ((s.size : Int) ≤ 200) := by rw [Bool.eq_iff_iff]; simp; omega
    rw [this])
  generalize valP (tx s) = r at *
  generalize (tx s).all inVal = y at *
  generalize hb : (decide (1 ≤ s.size) && decide ((s.size : Int) ≤ 200)) = b at *
  clear hb
  unfold maxLen at hs
  cases b with
  | true =>
    have HR : Hid (y = r) := Lib.hid (by rw [HE.out]; simp)
    go_enter Tryz.func90, Tryz.ntmps90
    go_wp2_with (first
      | (go_at_call 80; (with_reducible refine HB.out.mono ?_); rintro e w' ⟨rfl, rfl⟩)
      | (go_at_call 81; (with_reducible refine HA.out.mono ?_); rintro e w' ⟨rfl, rfl⟩))
    go_ret
    exact ⟨ret_bool HR.out, rfl⟩
  | false =>
    have HR : Hid (false = r) := Lib.hid (by rw [HE.out]; simp)
    go_enter Tryz.func90, Tryz.ntmps90
    go_wp2_with (go_at_call 80; (with_reducible refine HB.out.mono ?_); rintro e w' ⟨rfl, rfl⟩)
    go_ret
    exact ⟨ret_bool HR.out, rfl⟩

set_option maxHeartbeats 800000 in
theorem word_any (s : ByteArray) (w : World) (hs : s.size ≤ maxLen) : Calls Tryz.prog 52 #[.string s] w fun e w' => e = .returned (.bool (wordP 1 32 (tx s))) ∧ w = w' := by
  have HA := Lib.hid (allWord_any s w hs)
  have HB := Lib.hid (between_any s.size 32 w hs)
  have HE : Hid (wordP 1 32 (tx s) = ((tx s).all inWd && (decide (1 ≤ s.size) && decide ((s.size : Int) ≤ 32)))) := Lib.hid (by
    show ((tx s).all _ && (decide (1 ≤ (tx s).length) && decide ((tx s).length ≤ 32))) = _
    rw [tx_length]
    have : decide (s.size ≤ 32) = decide ((s.size : Int) ≤ 32) := by rw [Bool.eq_iff_iff]; simp; omega
    rw [this])
  generalize wordP 1 32 (tx s) = r at *
  generalize (tx s).all inWd = y at *
  generalize hb : (decide (1 ≤ s.size) && decide ((s.size : Int) ≤ 32)) = b at *
  clear hb
  unfold maxLen at hs
  cases b with
  | true =>
    have HR : Hid (y = r) := Lib.hid (by rw [HE.out]; simp)
    go_enter Tryz.func52, Tryz.ntmps52
    go_wp2_with (first
      | (go_at_call 80; (with_reducible refine HB.out.mono ?_); rintro e w' ⟨rfl, rfl⟩)
      | (go_at_call 81; (with_reducible refine HA.out.mono ?_); rintro e w' ⟨rfl, rfl⟩))
    go_ret
    exact ⟨ret_bool HR.out, rfl⟩
  | false =>
    have HR : Hid (false = r) := Lib.hid (by rw [HE.out]; simp)
    go_enter Tryz.func52, Tryz.ntmps52
    go_wp2_with (go_at_call 80; (with_reducible refine HB.out.mono ?_); rintro e w' ⟨rfl, rfl⟩)
    go_ret
    exact ⟨ret_bool HR.out, rfl⟩

end Go.Proofs.YtmlapbadgjhhdaaGreatDoor
