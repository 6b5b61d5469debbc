/- The document's small parts of reading: a text cut, known names, numbers; lists of texts that are the same. -/
import Derived.Test.YtmlapbadgjhhdaaGreatDoorAtLeaf
import Derived.Test.YtmlapbadgjhhdaaGreatDoorAtRd2
namespace Go.Proofs.YtmlapbadgjhhdaaGreatDoor
open Go.RowKit
set_option linter.unusedVariables false
set_option linter.unusedSimpArgs false

theorem cut_place {l : Tx} {c : UInt8} {k : Nat} (hk : l[k]? = some c) (hb : ∀ j, j < k → l[j]? ≠ some c) : cutS [c] l = (l.take k, l.drop (k + 1), true) := by
  have hkl : k < l.length := (List.getElem?_eq_some_iff.1 hk).1
  have e : l = l.take k ++ c :: l.drop (k + 1) := by
    have h3 : l[k] = c := by rw [List.getElem?_eq_getElem hkl] at hk; exact Option.some.inj hk
    rw [← h3, ← List.drop_eq_getElem_cons hkl, List.take_append_drop]
  conv => lhs; rw [e]
  exact cut_at _ _ (fun d hd e2 => by
    subst e2
    obtain ⟨j, hj⟩ := List.mem_iff_getElem?.1 hd
    have hjl : j < k := by
      have := (List.getElem?_eq_some_iff.1 hj).1
      rw [List.length_take] at this
      omega
    rw [List.getElem?_take, if_pos hjl] at hj
    exact hb j hjl hj)
set_option maxHeartbeats 1600000 in
set_option maxRecDepth 10000 in
theorem split_any (s : ByteArray) (c : UInt8) (w : World) (hs : s.size ≤ 281474976710656) : Calls Tryz.prog 33 #[.string s, .int .u8 (c.toNat : Int)] w fun e w' => e = .returned (.tuple #[.string (bs (cutS [c] (tx s)).1), .string (bs (cutS [c] (tx s)).2.1), .bool (cutS [c] (tx s)).2.2]) ∧ Below w.heap.size w w' := by
  obtain ⟨A, hA⟩ : ∃ A, cutS [c] (tx s) = A := ⟨_, rfl⟩
  have HA := Lib.hid hA
  rw [hA]
  clear hA
  have HF : Hid ((∀ j, j < s.size → (tx s)[j]? ≠ some c) → A = (tx s, [], false)) := Lib.hid fun h => by
    rw [← HA.out]
    exact cutS_free (c0 := c) (t := []) _ (fun d hd e => by
      subst e
      obtain ⟨j, hj⟩ := List.mem_iff_getElem?.1 hd
      exact h j (by have := (List.getElem?_eq_some_iff.1 hj).1; rw [tx_length] at this; exact this) hj)
  obtain ⟨cn, hcn⟩ : ∃ n : Nat, c.toNat = n := ⟨_, rfl⟩
  have HCN := Lib.hid hcn
  rw [hcn]
  clear hcn
  go_enter Tryz.func33, Tryz.ntmps33
  go_wp2
  go_loopw [7] (fun s7 wr => ∃ k : Nat, k ≤ s.size ∧ s7 = .int .i64 k ∧ ((∀ j, j < k → (tx s)[j]? ≠ some c) ∧ w = wr)) (fun s7 _ => s.size - (intOf s7).toNat)
  case atStart => exact ⟨0, Nat.zero_le _, rfl, (fun j hj => by omega), rfl⟩
  case round =>
    obtain ⟨k, hk, rfl, hst, rfl⟩ := hrel
    have HS := Lib.hid hst
    clear hst
    by_cases hlt : k < s.size
    · have HM : Hid ((tx s)[k]? = some (s[k])) := Lib.hid (by
        rw [List.getElem?_eq_getElem (by rw [tx_length]; exact hlt)]
        rfl)
      by_cases heq : (s[k]).toNat = cn
      · have HC : Hid (A = ((tx s).take k, (tx s).drop (k + 1), true)) := Lib.hid (by
          rw [← HA.out]
          exact cut_place (by rw [HM.out]; congr 1; exact UInt8.toNat_inj.1 (by rw [HCN.out]; exact heq)) HS.out)
        have heqi : ((s[k]).toNat : Int) = (cn : Int) := by omega
        have hk0 : (0 : Int) ≤ (k : Int) := by omega
        have hk1 : (k : Int) ≤ (s.size : Int) := by omega
        have hk2 : (k : Int) + 1 ≤ (s.size : Int) := by omega
        have hk5 : k ≤ s.size := by omega
        have hk6 : k + 1 ≤ s.size := by omega
        have HT : Hid (∀ a b : ByteArray, a = s.extract 0 k → b = s.extract (k + 1) s.size → Ending.returned (.tuple #[.string a, .string b, .bool true]) = .returned (.tuple #[.string (bs A.1), .string (bs A.2.1), .bool A.2.2])) := Lib.hid fun a b ha hb => by
          have e1 : a = bs ((tx s).take k) := tx_inj (by rw [ha, tx_extract, tx_bs, List.drop_zero, Nat.sub_zero])
          have e2 : b = bs ((tx s).drop (k + 1)) := tx_inj (by rw [hb, tx_extract, tx_bs, List.take_of_length_le (by rw [List.length_drop, tx_length]; exact Nat.le_refl _)])
          rw [HC.out, e1, e2]
        go_upto_region 5 with fail
        go_quiet (fail)
        go_wp2
        go_ret3
        exact ⟨HT.out _ _ rfl rfl, below_drewN' (Below.refl _ _) _⟩
      · have hne : ((s[k]).toNat : Int) ≠ (cn : Int) := by omega
        have hneb : (((s[k]).toNat : Int) == (cn : Int)) = false := by rw [beq_eq_false_iff_ne]; exact hne
        have HNX : Hid (∀ j, j < k + 1 → (tx s)[j]? ≠ some c) := Lib.hid fun j hj => by
          by_cases e : j = k
          · subst e
            rw [HM.out]
            intro h
            exact heq (by rw [Option.some.inj h]; exact HCN.out)
          · exact HS.out j (by omega)
        go_wp2
        go_roundw
        case rel => exact ⟨k + 1, by omega, by go_num, HNX.out, trivial⟩
        case measure => simp [intOf]; omega
    · have HC : Hid (A = (tx s, [], false)) := Lib.hid (HF.out (fun j hj => HS.out j (by omega)))
      have HT : Hid (Ending.returned (.tuple #[.string s, .string ⟨#[]⟩, .bool false]) = .returned (.tuple #[.string (bs A.1), .string (bs A.2.1), .bool A.2.2])) := Lib.hid (by rw [HC.out]; show _ = Ending.returned (.tuple #[.string (bs (tx s)), .string (bs []), .bool false]); rw [bs_tx]; rfl)
      go_wp2
      go_ret3
      exact ⟨HT.out, Below.refl _ _⟩
/-! Numbers. -/
def goD (lim acc : Nat) : Tx → Option Nat
  | [] => some acc
  | c :: r => if c.toNat < 48 ∨ 57 < c.toNat then none else if (lim - (c.toNat - 48)) / 10 < acc ∨ lim < c.toNat - 48 then none else goD lim (10 * acc + (c.toNat - 48)) r
def rdD (lim : Nat) (l : Tx) : Option Nat := if l.length < 1 ∨ 20 < l.length ∨ (1 < l.length ∧ l[0]? = some 48) then none else goD lim 0 l
theorem goD_ok (lim : Nat) : ∀ (l : Tx) (acc : Nat), (∀ c ∈ l, 48 ≤ c.toNat ∧ c.toNat ≤ 57) → valD acc l ≤ lim → goD lim acc l = some (valD acc l)
  | [], acc, _, _ => rfl
  | c :: r, acc, h, hv => by
    have hc := h c (by simp)
    have hv' : valD (acc * 10 + (c.toNat - 48)) r ≤ lim := hv
    have hg := valD_ge r (acc * 10 + (c.toNat - 48))
    unfold goD
    rw [if_neg (by omega), if_neg (by omega), show 10 * acc + (c.toNat - 48) = acc * 10 + (c.toNat - 48) by omega]
    exact goD_ok lim r _ (fun d hd => h d (by simp [hd])) hv'
theorem dec_head (n : Nat) (h : 10 ≤ n) : (dec n)[0]? ≠ some 48 := by
  induction n using Nat.strongRecOn with
  | _ n ih =>
    unfold dec
    rw [dif_neg (by omega)]
    have hne := dec_ne (n / 10)
    have hl : 0 < (dec (n / 10)).length := List.length_pos_iff.2 hne
    rw [List.getElem?_append_left hl]
    by_cases h2 : 10 ≤ n / 10
    · exact ih (n / 10) (by omega) h2
    · unfold dec
      rw [dif_pos (by omega)]
      intro e
      have e2 : UInt8.ofNat (48 + n / 10) = 48 := by simpa using e
      have e3 := congrArg UInt8.toNat e2
      rw [UInt8.toNat_ofNat'] at e3
      have : (48 : UInt8).toNat = 48 := rfl
      omega
theorem dec_len20 {n : Nat} (h : n < 100000000000000000000) : (dec n).length ≤ 20 := by
  have key : ∀ (k n : Nat), n < 10 ^ (k + 1) → (dec n).length ≤ k + 1 := by
    intro k
    induction k with
    | zero =>
      intro n h
      unfold dec
      rw [dif_pos (by omega)]
      simp
    | succ k ih =>
      intro n h
      unfold dec
      split
      · simp
      · rw [List.length_append, List.length_singleton]
        have := ih (n / 10) (by rw [Nat.pow_succ] at h; omega)
        omega
  exact key 19 n (by rw [show (10 : Nat) ^ (19 + 1) = 100000000000000000000 by decide]; exact h)
theorem rdD_dec (lim n : Nat) (h : n ≤ lim) (h2 : n < 100000000000000000000) : rdD lim (dec n) = some n := by
  unfold rdD
  have hl := dec_len20 h2
  have hp : 0 < (dec n).length := List.length_pos_iff.2 (dec_ne n)
  rw [if_neg, goD_ok lim _ 0 (dec_digit n) (by rw [valD_dec]; exact h), valD_dec]
  rintro (h3 | h3 | ⟨h3, h4⟩)
  · omega
  · omega
  · by_cases h10 : 10 ≤ n
    · exact dec_head n h10 h4
    · unfold dec at h3
      rw [dif_pos (by omega)] at h3
      simp at h3
def okD (o : Option Nat) : Int × Bool := match o with
  | some n => (n, true)
  | none => (0, false)
theorem okD_some (n : Nat) : okD (some n) = ((n : Int), true) := rfl
set_option maxHeartbeats 3200000 in
set_option maxRecDepth 100000 in
theorem readDigits_any (s : ByteArray) (lim : Nat) (w : World) (hs : s.size ≤ 281474976710656) (h9 : 9 ≤ lim) (hl : lim < 4294967296) : Calls Tryz.prog 35 #[.string s, .int .u64 lim] w fun e w' => e = .returned (.tuple #[.int .u64 (okD (rdD lim (tx s))).1, .bool (okD (rdD lim (tx s))).2]) ∧ w = w' := by
  obtain ⟨o, ho⟩ : ∃ o, rdD lim (tx s) = o := ⟨_, rfl⟩
  have HO := Lib.hid ho
  rw [ho]
  clear ho
  have HLN : Hid ((tx s).length = s.size) := Lib.hid (tx_length s)
  by_cases hbad : s.size < 1 ∨ 20 < s.size
  · have HN : Hid (okD o = (0, false)) := Lib.hid (by
      rw [← HO.out]
      unfold rdD
      rw [if_pos (by rw [HLN.out]; omega)]
      rfl)
    rw [HN.out]
    rcases hbad with h | h
    · have hi : (s.size : Int) < 1 := by omega
      go_enter Tryz.func35, Tryz.ntmps35
      go_wp2
      go_ret2
      exact ⟨rfl, rfl⟩
    · have hi : ¬ (s.size : Int) < 1 := by omega
      have hi1 : (1 : Int) ≤ (s.size : Int) := by omega
      have hi2 : (20 : Int) < (s.size : Int) := by omega
      go_enter Tryz.func35, Tryz.ntmps35
      go_wp2
      go_ret2
      exact ⟨rfl, rfl⟩
  · have hi1 : (1 : Int) ≤ (s.size : Int) := by omega
    have hi2 : (s.size : Int) ≤ 20 := by omega
    have hp : 0 < s.size := by omega
    have hpi : (0 : Int) < (s.size : Int) := by omega
    have H0 : Hid ((tx s)[0]? = some (s[0])) := Lib.hid (by
      rw [List.getElem?_eq_getElem (by rw [tx_length]; exact hp)]
      rfl)
    by_cases hz : 1 < s.size ∧ (s[0]).toNat = 48
    · have HN : Hid (okD o = (0, false)) := Lib.hid (by
        rw [← HO.out]
        unfold rdD
        rw [if_pos (.inr (.inr ⟨by rw [HLN.out]; exact hz.1, by rw [H0.out]; congr 1; exact UInt8.toNat_inj.1 hz.2⟩))]
        rfl)
      rw [HN.out]
      have hz1 : (1 : Int) < (s.size : Int) := by omega
      have hz2 : ((s[0]).toNat : Int) = 48 := by omega
      go_enter Tryz.func35, Tryz.ntmps35
      go_wp2
      go_ret2
      exact ⟨rfl, rfl⟩
    · have HG : Hid (goD lim 0 (tx s) = o) := Lib.hid (by
        rw [← HO.out]
        unfold rdD
        rw [if_neg]
        rw [HLN.out, H0.out]
        rintro (h3 | h3 | ⟨h3, h4⟩)
        · omega
        · omega
        · exact hz ⟨h3, by rw [Option.some.inj h4]; rfl⟩)
      have hli : (lim : Int) < 18446744073709551616 := by omega
      have hl9 : (9 : Int) ≤ (lim : Int) := by omega
      clear hbad
      obtain ⟨ro, hro⟩ : ∃ r, okD o = r := ⟨_, rfl⟩
      have HRO := Lib.hid hro
      rw [hro]
      clear hro
      go_enter Tryz.func35, Tryz.ntmps35
      go_upto_region 1 with fail
      go_cut [26] from 9 to 26 (fun s26 wc => s26 = .bool false ∧ w = wc)
      case first =>
        by_cases h1 : s.size = 1
        · have h1i : (s.size : Int) ≤ 1 := by omega
          go_wp2
          go_meet
          exact ⟨rfl, rfl⟩
        · have h1i : (1 : Int) < (s.size : Int) := by omega
          have h48 : ¬ ((s[0]).toNat : Int) = 48 := by
            intro h
            exact hz ⟨by omega, by omega⟩
          have h48b : (((s[0]).toNat : Int) == 48) = false := by rw [beq_eq_false_iff_ne]; exact h48
          go_wp2
          go_meet
          exact ⟨by congr 1; rw [Bool.or_eq_false_iff]; exact ⟨decide_eq_false (by omega), decide_eq_false (by omega)⟩, rfl⟩
      case rest =>
        obtain ⟨rfl, rfl⟩ := hcut
        clear hz
        go_wp2
        go_loopw [7, 6, 8] (fun s7 s6 _ wr => ∃ (k acc : Nat), k ≤ s.size ∧ s7 = .int .i64 k ∧ s6 = .int .u64 acc ∧ (goD lim acc ((tx s).drop k) = o ∧ acc ≤ lim ∧ w = wr)) (fun s7 _ _ _ => s.size - (intOf s7).toNat)
        case atStart => exact ⟨0, 0, Nat.zero_le _, rfl, rfl, by rw [List.drop_zero]; exact HG.out, by omega, rfl⟩
        case round =>
          obtain ⟨k, acc, hk, rfl, rfl, hst, hacc, rfl⟩ := hrel
          have HS := Lib.hid hst
          clear hst
          by_cases hlt : k < s.size
          · have HM : Hid ((tx s).drop k = s[k] :: (tx s).drop (k + 1)) := Lib.hid (by
              rw [List.drop_eq_getElem_cons (by rw [tx_length]; exact hlt)]
              rfl)
            have hk0 : (0 : Int) ≤ (k : Int) := by omega
            have hk1 : (k : Int) < (s.size : Int) := by omega
            have hb := (s[k]).toNat_lt
            have HS2 : Hid (goD lim acc (s[k] :: (tx s).drop (k + 1)) = o) := Lib.hid (by rw [← HM.out]; exact HS.out)
            obtain ⟨cn, hcn⟩ : ∃ n : Nat, (s[k]).toNat = n := ⟨_, rfl⟩
            have HST : Hid (o = if cn < 48 ∨ 57 < cn then none else if (lim - (cn - 48)) / 10 < acc ∨ lim < cn - 48 then none else goD lim (10 * acc + (cn - 48)) ((tx s).drop (k + 1))) := Lib.hid (by
              rw [← HS2.out, ← hcn]
              rfl)
            by_cases h1 : cn < 48 ∨ 57 < cn
            · have HN : Hid (ro = (0, false)) := Lib.hid (by rw [← HRO.out, HST.out, if_pos h1]; rfl)
              rcases h1 with h1 | h1
              · have h1i : (cn : Int) < 48 := by omega
                go_wp2
                go_ret2
                exact ⟨by rw [HN.out]; rfl, rfl⟩
              · have h1i : (57 : Int) < (cn : Int) := by omega
                have h1j : ¬ (cn : Int) < 48 := by omega
                have h1k : (48 : Int) ≤ (cn : Int) := by omega
                go_wp2
                go_ret2
                exact ⟨by rw [HN.out]; rfl, rfl⟩
            · rw [if_neg h1] at HST
              obtain ⟨d, rfl⟩ : ∃ d, cn = 48 + d := ⟨cn - 48, by omega⟩
              have hd : d ≤ 9 := by omega
              rw [show 48 + d - 48 = d by omega] at HST
              have hc48 : ¬ ((s[k]).toNat : Int) < 48 := by omega
              have hc57 : ¬ (57 : Int) < ((s[k]).toNat : Int) := by omega
              have HCI : Hid (((s[k]).toNat : Int) = 48 + (d : Int)) := Lib.hid (by omega)
              have hd9 : (d : Int) ≤ 9 := by omega
              have hd0 : (0 : Int) ≤ (d : Int) := by omega
              clear hcn h1 hb
              go_upto_region 10 with fail
              have es : ((s[k]).toNat : Int) - 48 = (d : Int) := by have := HCI.out; omega
              try simp only [es]
              clear es hc48 hc57
              have hdl : d ≤ lim := by omega
              obtain ⟨q, hq⟩ : ∃ q, (lim - d) / 10 = q := ⟨_, rfl⟩
              have HQD := Lib.hid hq
              have es2 : (lim : Int) - (d : Int) = ((lim - d : Nat) : Int) := by omega
              have es3 : ((lim - d : Nat) : Int) / 10 = (q : Int) := by omega
              have es4 : ((lim - d : Nat) : Int) < 18446744073709551616 := by omega
              have es5 : (0 : Int) ≤ ((lim - d : Nat) : Int) := by omega
              rw [hq] at HST
              clear hq
              by_cases h2 : q < acc
              · have HN : Hid (ro = (0, false)) := Lib.hid (by rw [← HRO.out, HST.out, if_pos (.inl h2)]; rfl)
                have h2i : (q : Int) < (acc : Int) := by omega
                go_wp2
                go_ret2
                exact ⟨by rw [HN.out]; rfl, rfl⟩
              · rw [if_neg (by omega)] at HST
                have h2i : (acc : Int) ≤ (q : Int) := by omega
                have h3i : ¬ (lim : Int) < (d : Int) := by omega
                have hnx : 10 * acc + d ≤ lim := by have := HQD.out; omega
                have hnx1 : 10 * (acc : Int) < 18446744073709551616 := by omega
                have hnx2 : 10 * (acc : Int) + (d : Int) < 18446744073709551616 := by omega
                go_wp2
                go_roundw
                case rel => exact ⟨k + 1, 10 * acc + d, by omega, by go_num, by congr 1, by rw [HST.out], hnx, trivial⟩
                case measure => simp [intOf]; omega
          · have HN : Hid (ro = ((acc : Int), true)) := Lib.hid (by
              rw [← HRO.out, ← HS.out, List.drop_eq_nil_of_le (by rw [tx_length]; omega)]
              rfl)
            go_wp2
            go_ret2
            exact ⟨by rw [HN.out]; rfl, rfl⟩
/-- The number that a text is; of what is none, -1. -/
def numR (l : Tx) : Int := match rdD 2147483648 l with
  | some n => n
  | none => -1
theorem numR_dec {n : Nat} (h : n ≤ 1000000) : numR (dec n) = n := by
  unfold numR
  rw [rdD_dec _ _ (by omega) (by omega)]
def srcR (l : Tx) : Nat := match rdD 4294967295 l with
  | some n => n
  | none => 0
theorem srcR_dec {n : Nat} (h : n < 4294967296) : srcR (dec n) = n := by
  unfold srcR
  rw [rdD_dec _ _ (by omega) (by omega)]
theorem goD_le (lim : Nat) : ∀ (l : Tx) (acc n : Nat), acc ≤ lim → goD lim acc l = some n → n ≤ lim
  | [], acc, n, ha, h => by
    have : acc = n := by simpa [goD] using h
    omega
  | c :: r, acc, n, ha, h => by
    unfold goD at h
    split at h
    · cases h
    · split at h
      · cases h
      · next h1 h2 => exact goD_le lim r _ n (by omega) h
theorem rdD_le {lim n : Nat} {l : Tx} (h : rdD lim l = some n) : n ≤ lim := by
  unfold rdD at h
  split at h
  · cases h
  · exact goD_le lim l 0 n (by omega) h
theorem srcR_lt (l : Tx) : srcR l < 4294967296 := by
  unfold srcR
  cases h : rdD 4294967295 l with
  | none => decide
  | some n =>
    have := rdD_le h
    show n < _
    omega
set_option maxHeartbeats 800000 in
theorem rnumber_any (s : ByteArray) (w : World) (hs : s.size ≤ 281474976710656) : Calls Tryz.prog 34 #[.string s] w fun e w' => e = .returned (.int .i64 (numR (tx s))) ∧ w = w' := by
  have HC := Lib.hid (readDigits_any s 2147483648 w hs (by decide) (by decide))
  rw [show ((2147483648 : Nat) : Int) = 2147483648 from rfl] at HC
  obtain ⟨r, hr⟩ : ∃ r, numR (tx s) = r := ⟨_, rfl⟩
  cases h : rdD 2147483648 (tx s) with
  | none =>
    have HR : Hid (r = -1) := Lib.hid (by rw [← hr]; unfold numR; rw [h])
    rw [h] at HC
    rw [hr, HR.out]
    have HC : Hid (Calls Tryz.prog 35 #[.string s, .int .u64 2147483648] w fun e w' => e = .returned (.tuple #[.int .u64 0, .bool false]) ∧ w = w') := HC
    clear h hr
    go_enter Tryz.func34, Tryz.ntmps34
    go_wp2_with (go_at_call 35; (with_reducible refine HC.out.mono ?_); rintro e w1 ⟨rfl, rfl⟩)
    go_ret
    exact ⟨rfl, rfl⟩
  | some n =>
    have HR : Hid (r = n) := Lib.hid (by rw [← hr]; unfold numR; rw [h])
    have hn := rdD_le h
    have hni : (n : Int) < 9223372036854775808 := by omega
    rw [h] at HC
    rw [hr, HR.out]
    have HC : Hid (Calls Tryz.prog 35 #[.string s, .int .u64 2147483648] w fun e w' => e = .returned (.tuple #[.int .u64 (n : Int), .bool true]) ∧ w = w') := HC
    clear h hr
    go_enter Tryz.func34, Tryz.ntmps34
    go_wp2_with (go_at_call 35; (with_reducible refine HC.out.mono ?_); rintro e w1 ⟨rfl, rfl⟩)
    go_ret
    exact ⟨rfl, rfl⟩
/-- Two lists of the same texts. -/
theorem sameTexts_yes (v1 v2 : Value) (L : List ByteArray) (w : World) (h1 : TextsV w w.heap.size v1 L) (h2 : TextsV w w.heap.size v2 L) : Calls Tryz.prog 41 #[v1, v2] w fun e w' => e = .returned (.bool true) ∧ Below w.heap.size w w' := by
  obtain ⟨A1, c1, rfl, hc1, hm1, _⟩ := Rows.form h1
  obtain ⟨A2, c2, rfl, hc2, hm2, _⟩ := Rows.form h2
  have H1 := Lib.hid h1
  have H2 := Lib.hid h2
  obtain ⟨n, hn⟩ : ∃ n, L.length = n := ⟨_, rfl⟩
  have HN := Lib.hid hn
  rw [hn] at hc1 hc2 ⊢
  unfold maxLen at hm1 hm2
  clear hn h1 h2
  go_enter Tryz.func41, Tryz.ntmps41
  go_wp2
  go_loopw [13, 5] (fun s13 _ wr => ∃ k : Nat, k ≤ n ∧ s13 = .int .i64 k ∧ Below w.heap.size w wr) (fun s13 _ _ => n - (intOf s13).toNat)
  case atStart => exact ⟨0, Nat.zero_le _, rfl, Below.refl _ w⟩
  case round =>
    obtain ⟨k, hk, rfl, hb⟩ := hrel
    have HB := Lib.hid hb
    clear hb
    by_cases hlt : k < n
    · have hlt' : k < L.length := by rw [HN.out]; exact hlt
      obtain ⟨ad1, c1', e1, b1, x0⟩ := (H1.out.below HB.out).at_ hlt'
      obtain ⟨ad2, c2', e2, b2, y0⟩ := (H2.out.below HB.out).at_ hlt'
      injection e1 with e1 e1n e1c; clear e1n e1c
      injection e2 with e2 e2n e2c; clear e2n e2c
      subst e1 e2
      obtain ⟨a, ha⟩ : ∃ a, L.getD k default = a := ⟨_, rfl⟩
      rw [ha] at x0 y0
      have hk0 : (0 : Int) ≤ (k : Int) := by omega
      have hk1 : (k : Int) < (n : Int) := by omega
      clear ha hlt' b1 b2
      go_upto_region 6 with fail
      go_quiet (fail)
      go_wp2
      go_roundw
      case rel => exact ⟨k + 1, by omega, by go_num, below_drewN' HB.out _⟩
      case measure => simp [intOf]; omega
    · obtain rfl : k = n := by omega
      go_wp2
      go_ret
      exact ⟨rfl, HB.out⟩
end Go.Proofs.YtmlapbadgjhhdaaGreatDoor
