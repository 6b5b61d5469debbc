/- The document's tests of words and values. -/
import Derived.Test.YtmlapbadgjhhdaaGreatDoorSdpLeaf
namespace Go.Proofs.YtmlapbadgjhhdaaGreatDoor
open Go.RowKit
set_option linter.unusedVariables false
set_option linter.unusedSimpArgs false

theorem inVal_iff (c : UInt8) : inVal c = true ↔ (32 : Int) ≤ (c.toNat : Int) ∧ (c.toNat : Int) ≤ 126 := by
  unfold inVal
  simp
  omega
theorem inWd_iff (c : UInt8) : inWd c = true ↔ ((97 : Int) ≤ (c.toNat : Int) ∧ (c.toNat : Int) ≤ 122) ∨ ((65 : Int) ≤ (c.toNat : Int) ∧ (c.toNat : Int) ≤ 90) ∨ ((48 : Int) ≤ (c.toNat : Int) ∧ (c.toNat : Int) ≤ 57) ∨ (c.toNat : Int) = 45 ∨ (c.toNat : Int) = 95 := by
  unfold inWd
  simp only [Bool.or_eq_true, Bool.and_eq_true, decide_eq_true_eq, beq_iff_eq, ← UInt8.toNat_inj]
  rw [show (45 : UInt8).toNat = 45 from rfl, show (95 : UInt8).toNat = 95 from rfl]
  omega

set_option maxHeartbeats 1600000 in
theorem r6Value_any (s : ByteArray) (m : Int) (w : World) (hs : s.size ≤ maxLen) : Calls Tryz.prog 69 #[.string s, .int .i64 m] w fun e w' => e = .returned (.bool ((tx s).all inVal && (decide (1 ≤ s.size) && decide ((s.size : Int) ≤ m)))) ∧ w = w' := by
  unfold maxLen at hs
  have HT : Hid (∀ k, s.size ≤ k → (tx s).take k = tx s) := Lib.hid fun k hk => List.take_of_length_le (by rw [tx_length]; exact hk)
  obtain ⟨r, hr⟩ : ∃ r, ((tx s).all inVal && (decide (1 ≤ s.size) && decide ((s.size : Int) ≤ m))) = r := ⟨_, rfl⟩
  have HR := Lib.hid hr
  rw [hr]
  clear hr
  go_enter Tryz.func69, Tryz.ntmps69
  go_wp2
  go_loop [5] (fun i => ∃ k : Nat, k ≤ s.size ∧ i = .int .i64 k ∧ ((tx s).take k).all inVal = true) (fun i => s.size - (intOf i).toNat)
  case atStart => exact ⟨0, Nat.zero_le _, rfl, rfl⟩
  case round =>
    obtain ⟨k, hk, rfl, hall⟩ := hrel
    have HA := Lib.hid hall
    clear hall
    by_cases hlt : k < s.size
    · have HN : Hid ((tx s).take (k + 1) = (tx s).take k ++ [s[k]]) := Lib.hid (by
        have hk' : k < (tx s).length := by rw [tx_length]; exact hlt
        rw [List.take_succ_eq_append_getElem hk']
        rfl)
      have HM : Hid (s[k] ∈ tx s) := Lib.hid (by
        have hk' : k < (tx s).length := by rw [tx_length]; exact hlt
        exact List.getElem_mem (l := tx s) hk')
      have HB : Hid (inVal s[k] = inVal s[k]) := Lib.hid rfl
      have HF : Hid (inVal s[k] = false → (tx s).all inVal = false) := Lib.hid (fun hf => by
          rw [Bool.eq_false_iff]
          intro h
          rw [List.all_eq_true] at h
          have := h _ HM.out
          rw [hf] at this
          cases this)
      have hb := (s[k]).toNat_lt
      by_cases h1 : ((s[k]).toNat : Int) < 32
      · have HQ : Hid (r = false) := Lib.hid (by rw [← HR.out, HF.out (by rw [Bool.eq_false_iff]; intro h; have := (inVal_iff _).1 h; omega)]; rfl)
        go_wp2
        go_ret
        exact ⟨ret_bool HQ.out.symm, rfl⟩
      · have h1 : (32 : Int) ≤ ((s[k]).toNat : Int) := by omega
        by_cases h2 : (126 : Int) < ((s[k]).toNat : Int)
        · have HQ : Hid (r = false) := Lib.hid (by rw [← HR.out, HF.out (by rw [Bool.eq_false_iff]; intro h; have := (inVal_iff _).1 h; omega)]; rfl)
          go_wp2
          go_ret
          exact ⟨ret_bool HQ.out.symm, rfl⟩
        · have h2 : ((s[k]).toNat : Int) ≤ 126 := by omega
          have HV : Hid (inVal s[k] = true) := Lib.hid ((inVal_iff _).2 ⟨h1, h2⟩)
          go_wp2
          go_round
          case rel => exact ⟨k + 1, by omega, by go_num, by rw [HN.out, List.all_append, HA.out]; simp [HV.out]⟩
          case measure => simp [intOf]; omega
    · have HQ : Hid ((decide (1 ≤ s.size) && decide ((s.size : Int) ≤ m)) = r) := Lib.hid (by
        have := HA.out
        rw [HT.out k (by omega)] at this
        rw [← HR.out, this]
        rfl)
      by_cases h1 : 1 ≤ s.size
      · have HQ2 : Hid (decide ((s.size : Int) ≤ m) = r) := Lib.hid (by rw [← HQ.out]; simp [h1])
        have h2 : (1 : Int) ≤ (s.size : Int) := by omega
        go_wp2
        go_ret
        exact ⟨ret_bool HQ2.out, rfl⟩
      · have HQ2 : Hid (r = false) := Lib.hid (by rw [← HQ.out]; simp [h1])
        have h2 : (s.size : Int) < 1 := by omega
        go_wp2
        go_ret
        exact ⟨ret_bool HQ2.out.symm, rfl⟩

set_option maxHeartbeats 3200000 in
theorem r1Word_any (s : ByteArray) (lo hi : Int) (w : World) (hs : s.size ≤ maxLen) : Calls Tryz.prog 30 #[.string s, .int .i64 lo, .int .i64 hi] w fun e w' => e = .returned (.bool ((tx s).all inWd && (decide (lo ≤ (s.size : Int)) && decide ((s.size : Int) ≤ hi)))) ∧ w = w' := by
  unfold maxLen at hs
  have HT : Hid (∀ k, s.size ≤ k → (tx s).take k = tx s) := Lib.hid fun k hk => List.take_of_length_le (by rw [tx_length]; exact hk)
  obtain ⟨r, hr⟩ : ∃ r, ((tx s).all inWd && (decide (lo ≤ (s.size : Int)) && decide ((s.size : Int) ≤ hi))) = r := ⟨_, rfl⟩
  have HR := Lib.hid hr
  rw [hr]
  clear hr
  go_enter Tryz.func30, Tryz.ntmps30
  go_wp2
  go_loop [7] (fun i => ∃ k : Nat, k ≤ s.size ∧ i = .int .i64 k ∧ ((tx s).take k).all inWd = true) (fun i => s.size - (intOf i).toNat)
  case atStart => exact ⟨0, Nat.zero_le _, rfl, rfl⟩
  case round =>
    obtain ⟨k, hk, rfl, hall⟩ := hrel
    have HA := Lib.hid hall
    clear hall
    by_cases hlt : k < s.size
    · have HN : Hid ((tx s).take (k + 1) = (tx s).take k ++ [s[k]]) := Lib.hid (by
        have hk' : k < (tx s).length := by rw [tx_length]; exact hlt
        rw [List.take_succ_eq_append_getElem hk']
        rfl)
      have HM : Hid (s[k] ∈ tx s) := Lib.hid (by
        have hk' : k < (tx s).length := by rw [tx_length]; exact hlt
        exact List.getElem_mem (l := tx s) hk')
      have HB : Hid (inWd s[k] = inWd s[k]) := Lib.hid rfl
      have HF : Hid (inWd s[k] = false → (tx s).all inWd = false) := Lib.hid (fun hf => by
          rw [Bool.eq_false_iff]
          intro h
          rw [List.all_eq_true] at h
          have := h _ HM.out
          rw [hf] at this
          cases this)
      have hb := (s[k]).toNat_lt
      obtain ⟨n, hn⟩ : ∃ n : Nat, (s[k]).toNat = n := ⟨_, rfl⟩
      have hI := inWd_iff s[k]
      rw [hn] at hb hI
      have HI := Lib.hid hI
      have HE := Lib.hid hn
      clear hI
      have hcls : (0 ≤ n ∧ n ≤ 44) ∨ (45 ≤ n ∧ n ≤ 45) ∨ (46 ≤ n ∧ n ≤ 47) ∨ (48 ≤ n ∧ n ≤ 57) ∨ (58 ≤ n ∧ n ≤ 64) ∨ (65 ≤ n ∧ n ≤ 90) ∨ (91 ≤ n ∧ n ≤ 94) ∨ (95 ≤ n ∧ n ≤ 95) ∨ (96 ≤ n ∧ n ≤ 96) ∨ (97 ≤ n ∧ n ≤ 122) ∨ (123 ≤ n ∧ n ≤ 255) := by omega
      rcases hcls with ⟨c1, c2⟩ | ⟨c1, c2⟩ | ⟨c1, c2⟩ | ⟨c1, c2⟩ | ⟨c1, c2⟩ | ⟨c1, c2⟩ | ⟨c1, c2⟩ | ⟨c1, c2⟩ | ⟨c1, c2⟩ | ⟨c1, c2⟩ | ⟨c1, c2⟩
      · have x97 : ((s[k]).toNat : Int) < 97 := by omega
        have y122 : ((s[k]).toNat : Int) ≤ 122 := by omega
        have x65 : ((s[k]).toNat : Int) < 65 := by omega
        have y90 : ((s[k]).toNat : Int) ≤ 90 := by omega
        have x48 : ((s[k]).toNat : Int) < 48 := by omega
        have y57 : ((s[k]).toNat : Int) ≤ 57 := by omega
        have z45 : (((s[k]).toNat : Int) == 45) = false := by rw [beq_eq_false_iff_ne]; omega
        have z95 : (((s[k]).toNat : Int) == 95) = false := by rw [beq_eq_false_iff_ne]; omega
        clear hn
        have HQ : Hid (r = false) := Lib.hid (by rw [← HR.out, HF.out (by rw [Bool.eq_false_iff]; intro h; have := HI.out.1 h; omega)]; rfl)
        clear c1 c2 HE
        go_wp2
        go_ret
        exact ⟨ret_bool HQ.out.symm, rfl⟩
      · have x97 : ((s[k]).toNat : Int) < 97 := by omega
        have y122 : ((s[k]).toNat : Int) ≤ 122 := by omega
        have x65 : ((s[k]).toNat : Int) < 65 := by omega
        have y90 : ((s[k]).toNat : Int) ≤ 90 := by omega
        have x48 : ((s[k]).toNat : Int) < 48 := by omega
        have y57 : ((s[k]).toNat : Int) ≤ 57 := by omega
        have z45 : (((s[k]).toNat : Int) == 45) = true := by rw [beq_iff_eq]; omega
        have z95 : (((s[k]).toNat : Int) == 95) = false := by rw [beq_eq_false_iff_ne]; omega
        clear hn
        have HV : Hid (inWd s[k] = true) := Lib.hid (HI.out.2 (by omega))
        clear c1 c2 HE
        go_wp2
        go_round
        case rel => exact ⟨k + 1, by omega, by go_num, by rw [HN.out, List.all_append, HA.out]; simp [HV.out]⟩
        case measure => simp [intOf]; omega
      · have x97 : ((s[k]).toNat : Int) < 97 := by omega
        have y122 : ((s[k]).toNat : Int) ≤ 122 := by omega
        have x65 : ((s[k]).toNat : Int) < 65 := by omega
        have y90 : ((s[k]).toNat : Int) ≤ 90 := by omega
        have x48 : ((s[k]).toNat : Int) < 48 := by omega
        have y57 : ((s[k]).toNat : Int) ≤ 57 := by omega
        have z45 : (((s[k]).toNat : Int) == 45) = false := by rw [beq_eq_false_iff_ne]; omega
        have z95 : (((s[k]).toNat : Int) == 95) = false := by rw [beq_eq_false_iff_ne]; omega
        clear hn
        have HQ : Hid (r = false) := Lib.hid (by rw [← HR.out, HF.out (by rw [Bool.eq_false_iff]; intro h; have := HI.out.1 h; omega)]; rfl)
        clear c1 c2 HE
        go_wp2
        go_ret
        exact ⟨ret_bool HQ.out.symm, rfl⟩
      · have x97 : ((s[k]).toNat : Int) < 97 := by omega
        have y122 : ((s[k]).toNat : Int) ≤ 122 := by omega
        have x65 : ((s[k]).toNat : Int) < 65 := by omega
        have y90 : ((s[k]).toNat : Int) ≤ 90 := by omega
        have x48 : (48 : Int) ≤ ((s[k]).toNat : Int) := by omega
        have y57 : ((s[k]).toNat : Int) ≤ 57 := by omega
        have z45 : (((s[k]).toNat : Int) == 45) = false := by rw [beq_eq_false_iff_ne]; omega
        have z95 : (((s[k]).toNat : Int) == 95) = false := by rw [beq_eq_false_iff_ne]; omega
        clear hn
        have HV : Hid (inWd s[k] = true) := Lib.hid (HI.out.2 (by omega))
        clear c1 c2 HE
        go_wp2
        go_round
        case rel => exact ⟨k + 1, by omega, by go_num, by rw [HN.out, List.all_append, HA.out]; simp [HV.out]⟩
        case measure => simp [intOf]; omega
      · have x97 : ((s[k]).toNat : Int) < 97 := by omega
        have y122 : ((s[k]).toNat : Int) ≤ 122 := by omega
        have x65 : ((s[k]).toNat : Int) < 65 := by omega
        have y90 : ((s[k]).toNat : Int) ≤ 90 := by omega
        have x48 : (48 : Int) ≤ ((s[k]).toNat : Int) := by omega
        have y57 : (57 : Int) < ((s[k]).toNat : Int) := by omega
        have d57 : decide (((s[k]).toNat : Int) ≤ 57) = false := by rw [decide_eq_false_iff_not]; omega
        have z45 : (((s[k]).toNat : Int) == 45) = false := by rw [beq_eq_false_iff_ne]; omega
        have z95 : (((s[k]).toNat : Int) == 95) = false := by rw [beq_eq_false_iff_ne]; omega
        clear hn
        have HQ : Hid (r = false) := Lib.hid (by rw [← HR.out, HF.out (by rw [Bool.eq_false_iff]; intro h; have := HI.out.1 h; omega)]; rfl)
        clear c1 c2 HE
        go_wp2
        go_ret
        exact ⟨ret_bool HQ.out.symm, rfl⟩
      · have x97 : ((s[k]).toNat : Int) < 97 := by omega
        have y122 : ((s[k]).toNat : Int) ≤ 122 := by omega
        have x65 : (65 : Int) ≤ ((s[k]).toNat : Int) := by omega
        have y90 : ((s[k]).toNat : Int) ≤ 90 := by omega
        have x48 : (48 : Int) ≤ ((s[k]).toNat : Int) := by omega
        have y57 : (57 : Int) < ((s[k]).toNat : Int) := by omega
        have d57 : decide (((s[k]).toNat : Int) ≤ 57) = false := by rw [decide_eq_false_iff_not]; omega
        have z45 : (((s[k]).toNat : Int) == 45) = false := by rw [beq_eq_false_iff_ne]; omega
        have z95 : (((s[k]).toNat : Int) == 95) = false := by rw [beq_eq_false_iff_ne]; omega
        clear hn
        have HV : Hid (inWd s[k] = true) := Lib.hid (HI.out.2 (by omega))
        clear c1 c2 HE
        go_wp2
        go_round
        case rel => exact ⟨k + 1, by omega, by go_num, by rw [HN.out, List.all_append, HA.out]; simp [HV.out]⟩
        case measure => simp [intOf]; omega
      · have x97 : ((s[k]).toNat : Int) < 97 := by omega
        have y122 : ((s[k]).toNat : Int) ≤ 122 := by omega
        have x65 : (65 : Int) ≤ ((s[k]).toNat : Int) := by omega
        have y90 : (90 : Int) < ((s[k]).toNat : Int) := by omega
        have d90 : decide (((s[k]).toNat : Int) ≤ 90) = false := by rw [decide_eq_false_iff_not]; omega
        have x48 : (48 : Int) ≤ ((s[k]).toNat : Int) := by omega
        have y57 : (57 : Int) < ((s[k]).toNat : Int) := by omega
        have d57 : decide (((s[k]).toNat : Int) ≤ 57) = false := by rw [decide_eq_false_iff_not]; omega
        have z45 : (((s[k]).toNat : Int) == 45) = false := by rw [beq_eq_false_iff_ne]; omega
        have z95 : (((s[k]).toNat : Int) == 95) = false := by rw [beq_eq_false_iff_ne]; omega
        clear hn
        have HQ : Hid (r = false) := Lib.hid (by rw [← HR.out, HF.out (by rw [Bool.eq_false_iff]; intro h; have := HI.out.1 h; omega)]; rfl)
        clear c1 c2 HE
        go_wp2
        go_ret
        exact ⟨ret_bool HQ.out.symm, rfl⟩
      · have x97 : ((s[k]).toNat : Int) < 97 := by omega
        have y122 : ((s[k]).toNat : Int) ≤ 122 := by omega
        have x65 : (65 : Int) ≤ ((s[k]).toNat : Int) := by omega
        have y90 : (90 : Int) < ((s[k]).toNat : Int) := by omega
        have d90 : decide (((s[k]).toNat : Int) ≤ 90) = false := by rw [decide_eq_false_iff_not]; omega
        have x48 : (48 : Int) ≤ ((s[k]).toNat : Int) := by omega
        have y57 : (57 : Int) < ((s[k]).toNat : Int) := by omega
        have d57 : decide (((s[k]).toNat : Int) ≤ 57) = false := by rw [decide_eq_false_iff_not]; omega
        have z45 : (((s[k]).toNat : Int) == 45) = false := by rw [beq_eq_false_iff_ne]; omega
        have z95 : (((s[k]).toNat : Int) == 95) = true := by rw [beq_iff_eq]; omega
        clear hn
        have HV : Hid (inWd s[k] = true) := Lib.hid (HI.out.2 (by omega))
        clear c1 c2 HE
        go_wp2
        go_round
        case rel => exact ⟨k + 1, by omega, by go_num, by rw [HN.out, List.all_append, HA.out]; simp [HV.out]⟩
        case measure => simp [intOf]; omega
      · have x97 : ((s[k]).toNat : Int) < 97 := by omega
        have y122 : ((s[k]).toNat : Int) ≤ 122 := by omega
        have x65 : (65 : Int) ≤ ((s[k]).toNat : Int) := by omega
        have y90 : (90 : Int) < ((s[k]).toNat : Int) := by omega
        have d90 : decide (((s[k]).toNat : Int) ≤ 90) = false := by rw [decide_eq_false_iff_not]; omega
        have x48 : (48 : Int) ≤ ((s[k]).toNat : Int) := by omega
        have y57 : (57 : Int) < ((s[k]).toNat : Int) := by omega
        have d57 : decide (((s[k]).toNat : Int) ≤ 57) = false := by rw [decide_eq_false_iff_not]; omega
        have z45 : (((s[k]).toNat : Int) == 45) = false := by rw [beq_eq_false_iff_ne]; omega
        have z95 : (((s[k]).toNat : Int) == 95) = false := by rw [beq_eq_false_iff_ne]; omega
        clear hn
        have HQ : Hid (r = false) := Lib.hid (by rw [← HR.out, HF.out (by rw [Bool.eq_false_iff]; intro h; have := HI.out.1 h; omega)]; rfl)
        clear c1 c2 HE
        go_wp2
        go_ret
        exact ⟨ret_bool HQ.out.symm, rfl⟩
      · have x97 : (97 : Int) ≤ ((s[k]).toNat : Int) := by omega
        have y122 : ((s[k]).toNat : Int) ≤ 122 := by omega
        have x65 : (65 : Int) ≤ ((s[k]).toNat : Int) := by omega
        have y90 : (90 : Int) < ((s[k]).toNat : Int) := by omega
        have d90 : decide (((s[k]).toNat : Int) ≤ 90) = false := by rw [decide_eq_false_iff_not]; omega
        have x48 : (48 : Int) ≤ ((s[k]).toNat : Int) := by omega
        have y57 : (57 : Int) < ((s[k]).toNat : Int) := by omega
        have d57 : decide (((s[k]).toNat : Int) ≤ 57) = false := by rw [decide_eq_false_iff_not]; omega
        have z45 : (((s[k]).toNat : Int) == 45) = false := by rw [beq_eq_false_iff_ne]; omega
        have z95 : (((s[k]).toNat : Int) == 95) = false := by rw [beq_eq_false_iff_ne]; omega
        clear hn
        have HV : Hid (inWd s[k] = true) := Lib.hid (HI.out.2 (by omega))
        clear c1 c2 HE
        go_wp2
        go_round
        case rel => exact ⟨k + 1, by omega, by go_num, by rw [HN.out, List.all_append, HA.out]; simp [HV.out]⟩
        case measure => simp [intOf]; omega
      · have x97 : (97 : Int) ≤ ((s[k]).toNat : Int) := by omega
        have y122 : (122 : Int) < ((s[k]).toNat : Int) := by omega
        have d122 : decide (((s[k]).toNat : Int) ≤ 122) = false := by rw [decide_eq_false_iff_not]; omega
        have x65 : (65 : Int) ≤ ((s[k]).toNat : Int) := by omega
        have y90 : (90 : Int) < ((s[k]).toNat : Int) := by omega
        have d90 : decide (((s[k]).toNat : Int) ≤ 90) = false := by rw [decide_eq_false_iff_not]; omega
        have x48 : (48 : Int) ≤ ((s[k]).toNat : Int) := by omega
        have y57 : (57 : Int) < ((s[k]).toNat : Int) := by omega
        have d57 : decide (((s[k]).toNat : Int) ≤ 57) = false := by rw [decide_eq_false_iff_not]; omega
        have z45 : (((s[k]).toNat : Int) == 45) = false := by rw [beq_eq_false_iff_ne]; omega
        have z95 : (((s[k]).toNat : Int) == 95) = false := by rw [beq_eq_false_iff_ne]; omega
        clear hn
        have HQ : Hid (r = false) := Lib.hid (by rw [← HR.out, HF.out (by rw [Bool.eq_false_iff]; intro h; have := HI.out.1 h; omega)]; rfl)
        clear c1 c2 HE
        go_wp2
        go_ret
        exact ⟨ret_bool HQ.out.symm, rfl⟩
    · have HQ : Hid ((decide (lo ≤ (s.size : Int)) && decide ((s.size : Int) ≤ hi)) = r) := Lib.hid (by
        have := HA.out
        rw [HT.out k (by omega)] at this
        rw [← HR.out, this]
        rfl)
      by_cases h1 : lo ≤ (s.size : Int)
      · have HQ2 : Hid (decide ((s.size : Int) ≤ hi) = r) := Lib.hid (by rw [← HQ.out]; simp [h1])
        go_wp2
        go_ret
        exact ⟨ret_bool HQ2.out, rfl⟩
      · have HQ2 : Hid (r = false) := Lib.hid (by rw [← HQ.out]; simp [h1])
        have h2 : (s.size : Int) < lo := by omega
        go_wp2
        go_ret
        exact ⟨ret_bool HQ2.out.symm, rfl⟩
theorem r6Value_200 (s : ByteArray) (w : World) (hs : s.size ≤ maxLen) : Calls Tryz.prog 69 #[.string s, .int .i64 200] w fun e w' => e = .returned (.bool (valP (tx s))) ∧ w = w' :=
  (r6Value_any s 200 w hs).mono fun e w' h => by
    have : decide ((s.size : Int) ≤ 200) = decide (s.size ≤ 200) := by rw [Bool.eq_iff_iff]; simp; omega
    unfold valP
    rw [tx_length, ← this]
    exact h
theorem r1Word_32 (s : ByteArray) (w : World) (hs : s.size ≤ maxLen) : Calls Tryz.prog 30 #[.string s, .int .i64 1, .int .i64 32] w fun e w' => e = .returned (.bool (wordP 1 32 (tx s))) ∧ w = w' :=
  (r1Word_any s 1 32 w hs).mono fun e w' h => by
    have h1 : decide ((s.size : Int) ≤ 32) = decide (s.size ≤ 32) := by rw [Bool.eq_iff_iff]; simp; omega
    have h2 : decide ((1 : Int) ≤ (s.size : Int)) = decide (1 ≤ s.size) := by rw [Bool.eq_iff_iff]; simp; omega
    unfold wordP
    rw [tx_length, ← h1, ← h2]
    exact h
end Go.Proofs.YtmlapbadgjhhdaaGreatDoor
