/- The document's small tests: plain, uri, goodCodec. -/
import Derived.Test.YtmlapbadgjhhdaaGreatDoorAtGood
namespace Go.Proofs.YtmlapbadgjhhdaaGreatDoor
open Go.RowKit
set_option linter.unusedVariables false
set_option linter.unusedSimpArgs false

theorem value_most (l : Tx) (m : Nat) (hm : m ≤ 200) : (l.all inVal && (decide (1 ≤ l.length) && decide ((l.length : Int) ≤ (m : Int)))) = (valP l && decide (l.length ≤ m)) := by
  unfold valP
  rw [Bool.eq_iff_iff]
  simp only [Bool.and_eq_true, decide_eq_true_eq]
  constructor
  · rintro ⟨h1, h2, h3⟩
    exact ⟨⟨h1, h2, by omega⟩, by omega⟩
  · rintro ⟨⟨h1, h2, h3⟩, h4⟩
    exact ⟨h1, h2, by omega⟩
theorem head_at (s : ByteArray) (h : 0 < s.size) : ((tx s).head? == some 32) = (((s[0]'h).toNat : Int) == 32) := by
  have hl : 0 < (tx s).length := by rw [tx_length]; exact h
  have e : (tx s).head? = some (s[0]'h) := by
    rw [List.head?_eq_getElem?]
    exact List.getElem?_eq_getElem hl
  rw [e, Bool.eq_iff_iff]
  simp only [beq_iff_eq, Option.some.injEq, ← UInt8.toNat_inj]
  rw [show (32 : UInt8).toNat = 32 from rfl]
  omega
theorem last_at (s : ByteArray) (h : s.size - 1 < s.size) : ((tx s).getLast? == some 32) = (((s[s.size - 1]'h).toNat : Int) == 32) := by
  have hl : s.size - 1 < (tx s).length := by rw [tx_length]; exact h
  have e : (tx s).getLast? = some (s[s.size - 1]'h) := by
    rw [List.getLast?_eq_getElem?, tx_length]
    exact List.getElem?_eq_getElem hl
  rw [e, Bool.eq_iff_iff]
  simp only [beq_iff_eq, Option.some.injEq, ← UInt8.toNat_inj]
  rw [show (32 : UInt8).toNat = 32 from rfl]
  omega
set_option maxHeartbeats 1600000 in
theorem rplain_any (s : ByteArray) (w : World) (hs : s.size ≤ maxLen) : Calls Tryz.prog 68 #[.string s, .int .i64 100] w fun e w' => e = .returned (.bool (plainP (tx s))) ∧ w = w' := by
  have HV : Hid (Calls Tryz.prog 69 #[.string s, .int .i64 100] w fun e w' => e = .returned (.bool (valP (tx s) && decide ((tx s).length ≤ 100))) ∧ w = w') := Lib.hid (by
    have := r6Value_any s 100 w hs
    have e := value_most (tx s) 100 (by decide)
    rw [tx_length] at e
    rw [show ((100 : Nat) : Int) = 100 from rfl] at e
    rw [e, ← tx_length] at this
    exact this)
  unfold maxLen at hs
  have HE : Hid (plainP (tx s) = ((valP (tx s) && decide ((tx s).length ≤ 100)) && (!((tx s).head? == some 32) && !((tx s).getLast? == some 32)))) := Lib.hid (by
    unfold plainP
    simp only [Bool.and_assoc])
  have HP : Hid ((valP (tx s) && decide ((tx s).length ≤ 100)) = true → 1 ≤ s.size) := Lib.hid (fun h => by
    simp only [Bool.and_eq_true] at h
    have := (valP_len h.1).1
    rwa [tx_length] at this)
  generalize (valP (tx s) && decide ((tx s).length ≤ 100)) = v at *
  cases v with
  | false =>
    have HR : Hid (false = plainP (tx s)) := Lib.hid (by rw [HE.out]; rfl)
    generalize plainP (tx s) = r at *
    go_enter Tryz.func68, Tryz.ntmps68
    go_wp2_with (go_at_call 69; (with_reducible refine HV.out.mono ?_); rintro e w' ⟨rfl, rfl⟩)
    go_ret
    exact ⟨ret_bool HR.out, rfl⟩
  | true =>
    have h1 : 1 ≤ s.size := HP.out rfl
    have h0 : 0 < s.size := by omega
    have hl : s.size - 1 < s.size := by omega
    have e1 : IntKind.i64.wrap ((s.size : Int) - 1) = ((s.size - 1 : Nat) : Int) := (IntWalk.i64_in _ (by omega)).trans (by omega)
    have hi0 : ((s.size - 1 : Nat) : Int) < (s.size : Int) := by omega
    have hi1 : (0 : Int) ≤ ((s.size - 1 : Nat) : Int) := by omega
    have hi2 : (0 : Int) < (s.size : Int) := by omega
    have hE := HE.out
    rw [head_at s h0, last_at s hl] at hE
    have HZ : Hid ((((s[0]'h0).toNat : Int) != 32 && ((s[s.size - 1]'hl).toNat : Int) != 32) = plainP (tx s)) := Lib.hid (by rw [hE]; rfl)
    clear hE HE HP
    generalize plainP (tx s) = r at *
    go_enter Tryz.func68, Tryz.ntmps68
    go_wp2_with (go_at_call 69; (with_reducible refine HV.out.mono ?_); rintro e w' ⟨rfl, rfl⟩)
    all_goals first
      | (go_ret; exact ⟨ret_bool HZ.out, rfl⟩)
      | (have hz := HZ.out; go_ret; exact ⟨ret_bool (by simp_all), rfl⟩)
set_option maxHeartbeats 1600000 in
theorem ruri_any (s : ByteArray) (w : World) (hs : s.size ≤ maxLen) : Calls Tryz.prog 32 #[.string s] w fun e w' => e = .returned (.bool (uriP (tx s))) ∧ w = w' := by
  have HV : Hid (Calls Tryz.prog 69 #[.string s, .int .i64 100] w fun e w' => e = .returned (.bool (valP (tx s) && decide ((tx s).length ≤ 100))) ∧ w = w') := Lib.hid (by
    have := r6Value_any s 100 w hs
    have e := value_most (tx s) 100 (by decide)
    rw [tx_length] at e
    rw [show ((100 : Nat) : Int) = 100 from rfl] at e
    rw [e, ← tx_length] at this
    exact this)
  unfold maxLen at hs
  have HE : Hid (uriP (tx s) = ((valP (tx s) && decide ((tx s).length ≤ 100)) && (tx s).all (fun c => c != 32))) := Lib.hid rfl
  have HT : Hid (∀ k, s.size ≤ k → (tx s).take k = tx s) := Lib.hid fun k hk => List.take_of_length_le (by rw [tx_length]; exact hk)
  have HBD : Hid (∀ c ∈ tx s, c.toNat < 33 → uriP (tx s) = false) := Lib.hid (fun c hc h33 => by
    rw [HE.out, Bool.eq_false_iff]
    intro h
    simp only [Bool.and_eq_true, List.all_eq_true, bne_iff_ne, decide_eq_true_eq] at h
    have h1 := valP_in h.1.1 c hc
    have h2 := h.2 c hc
    unfold inVal at h1
    simp only [Bool.and_eq_true, decide_eq_true_eq] at h1
    apply h2
    rw [← UInt8.toNat_inj]
    show c.toNat = 32
    omega)
  generalize (valP (tx s) && decide ((tx s).length ≤ 100)) = v at *
  generalize uriP (tx s) = r at *
  go_enter Tryz.func32, Tryz.ntmps32
  go_wp2
  go_loop [3] (fun i => ∃ k : Nat, k ≤ s.size ∧ i = .int .i64 k ∧ ((tx s).take k).all (fun c => c != 32) = true) (fun i => s.size - (intOf i).toNat)
  case atStart => exact ⟨0, Nat.zero_le _, rfl, rfl⟩
  case round =>
    obtain ⟨k, hk, rfl, hall⟩ := hrel
    have HA := Lib.hid hall
    clear hall
    by_cases hlt : k < s.size
    · have HN : Hid ((tx s).take (k + 1) = (tx s).take k ++ [s[k]]) := Lib.hid (by
        have hk' : k < (tx s).length := by rw [tx_length]; exact hlt
        rw [List.take_succ_eq_append_getElem hk']
        rfl)
      have HM : Hid (s[k] ∈ tx s) := Lib.hid (by
        have hk' : k < (tx s).length := by rw [tx_length]; exact hlt
        exact List.getElem_mem (l := tx s) hk')
      have hb := (s[k]).toNat_lt
      by_cases h1 : ((s[k]).toNat : Int) < 33
      · have HQ : Hid (r = false) := Lib.hid (HBD.out _ HM.out (by omega))
        go_wp2
        go_ret
        exact ⟨ret_bool HQ.out.symm, rfl⟩
      · have HV2 : Hid ((s[k] != 32) = true) := Lib.hid (by
          rw [bne_iff_ne]
          intro e
          apply h1
          rw [e]
          decide)
        have h1 : (33 : Int) ≤ ((s[k]).toNat : Int) := by omega
        go_wp2
        go_round
        case rel => exact ⟨k + 1, by omega, by go_num, by rw [HN.out, List.all_append, HA.out]; simp; simpa using HV2.out⟩
        case measure => simp [intOf]; omega
    · have HQ : Hid (v = r) := Lib.hid (by
        have := HA.out
        rw [HT.out k (by omega)] at this
        rw [HE.out, this, Bool.and_true])
      go_wp2_with (go_at_call 69; (with_reducible refine HV.out.mono ?_); rintro e w' ⟨rfl, rfl⟩)
      go_ret
      exact ⟨ret_bool HQ.out, rfl⟩
end Go.Proofs.YtmlapbadgjhhdaaGreatDoor
