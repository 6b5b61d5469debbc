import Derived.Test.YtlekmakofkpcdaaGreatDoorPkAttrReadsA05
import Derived.Test.YtlekmakofkpcdaaGreatDoorPkAttrReadsA11
import Derived.Test.YtlekmakofkpcdaaGreatDoorPkAttrReadsA17
namespace Go.Proofs.YtlekmakofkpcdaaGreatDoor
open Go.RowKit
set_option linter.unusedVariables false
set_option linter.unusedSimpArgs false
theorem cut_place {l : Tx} {c : UInt8} {k : Nat} (hk : l[k]? = some c) (hb : ∀ j, j < k → l[j]? ≠ some c) : cutS [c] l = (l.take k, l.drop (k + 1), true) := by
 have hkl : k < l.length := (List.getElem?_eq_some_iff.1 hk).1
 have e : l = l.take k ++ c :: l.drop (k + 1) := by
  have h3 : l[k] = c := by rw [List.getElem?_eq_getElem hkl] at hk; exact Option.some.inj hk
  rw [← h3, ← List.drop_eq_getElem_cons hkl, List.take_append_drop]
 conv => lhs; rw [e]
 exact cut_at _ _ (fun d hd e2 => by
  subst e2
  obtain ⟨j, hj⟩ := List.mem_iff_getElem?.1 hd
  have hjl : j < k := by
   have := (List.getElem?_eq_some_iff.1 hj).1
   rw [List.length_take] at this
   omega
  rw [List.getElem?_take, if_pos hjl] at hj
  exact hb j hjl hj)
set_option maxHeartbeats 1600000 in
set_option maxRecDepth 10000 in
theorem rsplit_any (s : ByteArray) (c : UInt8) (w : World) (hs : s.size ≤ 281474976710656) : Calls Tryz.prog 31 #[.string s, .int .u8 (c.toNat : Int)] w fun e w' => e = .returned (.tuple #[.string (bs (cutS [c] (tx s)).1), .string (bs (cutS [c] (tx s)).2.1), .bool (cutS [c] (tx s)).2.2]) ∧ Below w.heap.size w w' := by
 obtain ⟨A, hA⟩ : ∃ A, cutS [c] (tx s) = A := ⟨_, rfl⟩
 have HA := Lib.hid hA
 rw [hA]
 clear hA
 have HF : Hid ((∀ j, j < s.size → (tx s)[j]? ≠ some c) → A = (tx s, [], false)) := Lib.hid fun h => by
  rw [← HA.out]
  exact cutS_free (c0 := c) (t := []) _ (fun d hd e => by
   subst e
   obtain ⟨j, hj⟩ := List.mem_iff_getElem?.1 hd
   exact h j (by have := (List.getElem?_eq_some_iff.1 hj).1; rw [tx_length] at this; exact this) hj)
 obtain ⟨cn, hcn⟩ : ∃ n : Nat, c.toNat = n := ⟨_, rfl⟩
 have HCN := Lib.hid hcn
 rw [hcn]
 clear hcn
 go_enter Tryz.func31, Tryz.ntmps31
 go_wp2
 go_loopw [7] (fun s7 wr => ∃ k : Nat, k ≤ s.size ∧ s7 = .int .i64 k ∧ ((∀ j, j < k → (tx s)[j]? ≠ some c) ∧ w = wr)) (fun s7 _ => s.size - (intOf s7).toNat)
 case atStart => exact ⟨0, Nat.zero_le _, rfl, (fun j hj => by omega), rfl⟩
 case round =>
  obtain ⟨k, hk, rfl, hst, rfl⟩ := hrel
  have HS := Lib.hid hst
  clear hst
  by_cases hlt : k < s.size
  · have HM : Hid ((tx s)[k]? = some (s[k])) := Lib.hid (by
     rw [List.getElem?_eq_getElem (by rw [tx_length]; exact hlt)]
     rfl)
    by_cases heq : (s[k]).toNat = cn
    · have HC : Hid (A = ((tx s).take k, (tx s).drop (k + 1), true)) := Lib.hid (by
       rw [← HA.out]
       exact cut_place (by rw [HM.out]; congr 1; exact UInt8.toNat_inj.1 (by rw [HCN.out]; exact heq)) HS.out)
      have heqi : ((s[k]).toNat : Int) = (cn : Int) := by omega
      have hk0 : (0 : Int) ≤ (k : Int) := by omega
      have hk1 : (k : Int) ≤ (s.size : Int) := by omega
      have hk2 : (k : Int) + 1 ≤ (s.size : Int) := by omega
      have hk5 : k ≤ s.size := by omega
      have hk6 : k + 1 ≤ s.size := by omega
      have HT : Hid (∀ a b : ByteArray, a = s.extract 0 k → b = s.extract (k + 1) s.size → Ending.returned (.tuple #[.string a, .string b, .bool true]) = .returned (.tuple #[.string (bs A.1), .string (bs A.2.1), .bool A.2.2])) := Lib.hid fun a b ha hb => by
       have e1 : a = bs ((tx s).take k) := tx_inj (by rw [ha, tx_extract, tx_bs, List.drop_zero, Nat.sub_zero])
       have e2 : b = bs ((tx s).drop (k + 1)) := tx_inj (by rw [hb, tx_extract, tx_bs, List.take_of_length_le (by rw [List.length_drop, tx_length]; exact Nat.le_refl _)])
       rw [HC.out, e1, e2]
      go_upto_region 5 with fail
      go_quiet (fail)
      go_wp2
      go_ret3
      exact ⟨HT.out _ _ rfl rfl, below_drewN' (Below.refl _ _) _⟩
    · have hne : ((s[k]).toNat : Int) ≠ (cn : Int) := by omega
      have hneb : (((s[k]).toNat : Int) == (cn : Int)) = false := by rw [beq_eq_false_iff_ne]; exact hne
      have HNX : Hid (∀ j, j < k + 1 → (tx s)[j]? ≠ some c) := Lib.hid fun j hj => by
       by_cases e : j = k
       · subst e
         rw [HM.out]
         intro h
         exact heq (by rw [Option.some.inj h]; exact HCN.out)
       · exact HS.out j (by omega)
      go_wp2
      go_roundw
      case rel => exact ⟨k + 1, by omega, by go_num, HNX.out, trivial⟩
      case measure => simp [intOf]; omega
  · have HC : Hid (A = (tx s, [], false)) := Lib.hid (HF.out (fun j hj => HS.out j (by omega)))
    have HT : Hid (Ending.returned (.tuple #[.string s, .string ⟨#[]⟩, .bool false]) = .returned (.tuple #[.string (bs A.1), .string (bs A.2.1), .bool A.2.2])) := Lib.hid (by rw [HC.out]; show _ = Ending.returned (.tuple #[.string (bs (tx s)), .string (bs []), .bool false]); rw [bs_tx]; rfl)
    go_wp2
    go_ret3
    exact ⟨HT.out, Below.refl _ _⟩
def goD (lim acc : Nat) : Tx → Option Nat
 | [] => some acc
 | c :: r => if c.toNat < 48 ∨ 57 < c.toNat then none else if (lim - (c.toNat - 48)) / 10 < acc ∨ lim < c.toNat - 48 then none else goD lim (10 * acc + (c.toNat - 48)) r
def rdD (lim : Nat) (l : Tx) : Option Nat := if l.length < 1 ∨ 20 < l.length ∨ (1 < l.length ∧ l[0]? = some 48) then none else goD lim 0 l
theorem goD_ok (lim : Nat) : ∀ (l : Tx) (acc : Nat), (∀ c ∈ l, 48 ≤ c.toNat ∧ c.toNat ≤ 57) → valD acc l ≤ lim → goD lim acc l = some (valD acc l)
 | [], acc, _, _ => rfl
 | c :: r, acc, h, hv => by
   have hc := h c (by simp)
   have hv' : valD (acc * 10 + (c.toNat - 48)) r ≤ lim := hv
   have hg := valD_ge r (acc * 10 + (c.toNat - 48))
   unfold goD
   rw [if_neg (by omega), if_neg (by omega), show 10 * acc + (c.toNat - 48) = acc * 10 + (c.toNat - 48) by omega]
   exact goD_ok lim r _ (fun d hd => h d (by simp [hd])) hv'
theorem dec_head (n : Nat) (h : 10 ≤ n) : (dec n)[0]? ≠ some 48 := by
 induction n using Nat.strongRecOn with
 | _ n ih =>
   unfold dec
   rw [dif_neg (by omega)]
   have hne := dec_ne (n / 10)
   have hl : 0 < (dec (n / 10)).length := List.length_pos_iff.2 hne
   rw [List.getElem?_append_left hl]
   by_cases h2 : 10 ≤ n / 10
   · exact ih (n / 10) (by omega) h2
   · unfold dec
     rw [dif_pos (by omega)]
     intro e
     have e2 : UInt8.ofNat (48 + n / 10) = 48 := by simpa using e
     have e3 := congrArg UInt8.toNat e2
     rw [UInt8.toNat_ofNat'] at e3
     have : (48 : UInt8).toNat = 48 := rfl
     omega
theorem dec_len20 {n : Nat} (h : n < 100000000000000000000) : (dec n).length ≤ 20 := by
 have key : ∀ (k n : Nat), n < 10 ^ (k + 1) → (dec n).length ≤ k + 1 := by
  intro k
  induction k with
  | zero =>
    intro n h
    unfold dec
    rw [dif_pos (by omega)]
    simp
  | succ k ih =>
    intro n h
    unfold dec
    split
    · simp
    · rw [List.length_append, List.length_singleton]
      have := ih (n / 10) (by rw [Nat.pow_succ] at h; omega)
      omega
 exact key 19 n (by rw [show (10 : Nat) ^ (19 + 1) = 100000000000000000000 by decide]; exact h)
theorem rdD_dec (lim n : Nat) (h : n ≤ lim) (h2 : n < 100000000000000000000) : rdD lim (dec n) = some n := by
 unfold rdD
 have hl := dec_len20 h2
 have hp : 0 < (dec n).length := List.length_pos_iff.2 (dec_ne n)
 rw [if_neg, goD_ok lim _ 0 (dec_digit n) (by rw [valD_dec]; exact h), valD_dec]
 rintro (h3 | h3 | ⟨h3, h4⟩)
 · omega
 · omega
 · by_cases h10 : 10 ≤ n
   · exact dec_head n h10 h4
   · unfold dec at h3
     rw [dif_pos (by omega)] at h3
     simp at h3
def okD (o : Option Nat) : Int × Bool := match o with
 | some n => (n, true)
 | none => (0, false)
set_option maxHeartbeats 3200000 in
set_option maxRecDepth 100000 in
theorem readDigits_any (s : ByteArray) (lim : Nat) (w : World) (hs : s.size ≤ 281474976710656) (h9 : 9 ≤ lim) (hl : lim < 4294967296) : Calls Tryz.prog 34 #[.string s, .int .u64 lim] w fun e w' => e = .returned (.tuple #[.int .u64 (okD (rdD lim (tx s))).1, .bool (okD (rdD lim (tx s))).2]) ∧ w = w' := by
 obtain ⟨o, ho⟩ : ∃ o, rdD lim (tx s) = o := ⟨_, rfl⟩
 have HO := Lib.hid ho
 rw [ho]
 clear ho
 have HLN : Hid ((tx s).length = s.size) := Lib.hid (tx_length s)
 by_cases hbad : s.size < 1 ∨ 20 < s.size
 · have HN : Hid (okD o = (0, false)) := Lib.hid (by
    rw [← HO.out]
    unfold rdD
    rw [if_pos (by rw [HLN.out]; omega)]
    rfl)
   rw [HN.out]
   rcases hbad with h | h
   · have hi : (s.size : Int) < 1 := by omega
     go_enter Tryz.func34, Tryz.ntmps34
     go_wp2
     go_ret2
     exact ⟨rfl, rfl⟩
   · have hi : ¬ (s.size : Int) < 1 := by omega
     have hi1 : (1 : Int) ≤ (s.size : Int) := by omega
     have hi2 : (20 : Int) < (s.size : Int) := by omega
     go_enter Tryz.func34, Tryz.ntmps34
     go_wp2
     go_ret2
     exact ⟨rfl, rfl⟩
 · have hi1 : (1 : Int) ≤ (s.size : Int) := by omega
   have hi2 : (s.size : Int) ≤ 20 := by omega
   have hp : 0 < s.size := by omega
   have hpi : (0 : Int) < (s.size : Int) := by omega
   have H0 : Hid ((tx s)[0]? = some (s[0])) := Lib.hid (by
    rw [List.getElem?_eq_getElem (by rw [tx_length]; exact hp)]
    rfl)
   by_cases hz : 1 < s.size ∧ (s[0]).toNat = 48
   · have HN : Hid (okD o = (0, false)) := Lib.hid (by
      rw [← HO.out]
      unfold rdD
      rw [if_pos (.inr (.inr ⟨by rw [HLN.out]; exact hz.1, by rw [H0.out]; congr 1; exact UInt8.toNat_inj.1 hz.2⟩))]
      rfl)
     rw [HN.out]
     have hz1 : (1 : Int) < (s.size : Int) := by omega
     have hz2 : ((s[0]).toNat : Int) = 48 := by omega
     go_enter Tryz.func34, Tryz.ntmps34
     go_wp2
     go_ret2
     exact ⟨rfl, rfl⟩
   · have HG : Hid (goD lim 0 (tx s) = o) := Lib.hid (by
      rw [← HO.out]
      unfold rdD
      rw [if_neg]
      rw [HLN.out, H0.out]
      rintro (h3 | h3 | ⟨h3, h4⟩)
      · omega
      · omega
      · exact hz ⟨h3, by rw [Option.some.inj h4]; rfl⟩)
     have hli : (lim : Int) < 18446744073709551616 := by omega
     have hl9 : (9 : Int) ≤ (lim : Int) := by omega
     clear hbad
     obtain ⟨ro, hro⟩ : ∃ r, okD o = r := ⟨_, rfl⟩
     have HRO := Lib.hid hro
     rw [hro]
     clear hro
     go_enter Tryz.func34, Tryz.ntmps34
     go_upto_region 1 with fail
     go_cut [26] from 9 to 26 (fun s26 wc => s26 = .bool false ∧ w = wc)
     case first =>
      by_cases h1 : s.size = 1
      · have h1i : (s.size : Int) ≤ 1 := by omega
        go_wp2
        go_meet
        exact ⟨rfl, rfl⟩
      · have h1i : (1 : Int) < (s.size : Int) := by omega
        have h48 : ¬ ((s[0]).toNat : Int) = 48 := by
         intro h
         exact hz ⟨by omega, by omega⟩
        have h48b : (((s[0]).toNat : Int) == 48) = false := by rw [beq_eq_false_iff_ne]; exact h48
        go_wp2
        go_meet
        exact ⟨by congr 1; rw [Bool.or_eq_false_iff]; exact ⟨decide_eq_false (by omega), decide_eq_false (by omega)⟩, rfl⟩
     case rest =>
      obtain ⟨rfl, rfl⟩ := hcut
      clear hz
      go_wp2
      go_loopw [7, 6, 8] (fun s7 s6 _ wr => ∃ (k acc : Nat), k ≤ s.size ∧ s7 = .int .i64 k ∧ s6 = .int .u64 acc ∧ (goD lim acc ((tx s).drop k) = o ∧ acc ≤ lim ∧ w = wr)) (fun s7 _ _ _ => s.size - (intOf s7).toNat)
      case atStart => exact ⟨0, 0, Nat.zero_le _, rfl, rfl, by rw [List.drop_zero]; exact HG.out, by omega, rfl⟩
      case round =>
       obtain ⟨k, acc, hk, rfl, rfl, hst, hacc, rfl⟩ := hrel
       have HS := Lib.hid hst
       clear hst
       by_cases hlt : k < s.size
       · have HM : Hid ((tx s).drop k = s[k] :: (tx s).drop (k + 1)) := Lib.hid (by
          rw [List.drop_eq_getElem_cons (by rw [tx_length]; exact hlt)]
          rfl)
         have hk0 : (0 : Int) ≤ (k : Int) := by omega
         have hk1 : (k : Int) < (s.size : Int) := by omega
         have hb := (s[k]).toNat_lt
         have HS2 : Hid (goD lim acc (s[k] :: (tx s).drop (k + 1)) = o) := Lib.hid (by rw [← HM.out]; exact HS.out)
         obtain ⟨cn, hcn⟩ : ∃ n : Nat, (s[k]).toNat = n := ⟨_, rfl⟩
         have HST : Hid (o = if cn < 48 ∨ 57 < cn then none else if (lim - (cn - 48)) / 10 < acc ∨ lim < cn - 48 then none else goD lim (10 * acc + (cn - 48)) ((tx s).drop (k + 1))) := Lib.hid (by
          rw [← HS2.out, ← hcn]
          rfl)
         by_cases h1 : cn < 48 ∨ 57 < cn
         · have HN : Hid (ro = (0, false)) := Lib.hid (by rw [← HRO.out, HST.out, if_pos h1]; rfl)
           rcases h1 with h1 | h1
           · have h1i : (cn : Int) < 48 := by omega
             go_wp2
             go_ret2
             exact ⟨by rw [HN.out]; rfl, rfl⟩
           · have h1i : (57 : Int) < (cn : Int) := by omega
             have h1j : ¬ (cn : Int) < 48 := by omega
             have h1k : (48 : Int) ≤ (cn : Int) := by omega
             go_wp2
             go_ret2
             exact ⟨by rw [HN.out]; rfl, rfl⟩
         · rw [if_neg h1] at HST
           obtain ⟨d, rfl⟩ : ∃ d, cn = 48 + d := ⟨cn - 48, by omega⟩
           have hd : d ≤ 9 := by omega
           rw [show 48 + d - 48 = d by omega] at HST
           have hc48 : ¬ ((s[k]).toNat : Int) < 48 := by omega
           have hc57 : ¬ (57 : Int) < ((s[k]).toNat : Int) := by omega
           have HCI : Hid (((s[k]).toNat : Int) = 48 + (d : Int)) := Lib.hid (by omega)
           have hd9 : (d : Int) ≤ 9 := by omega
           have hd0 : (0 : Int) ≤ (d : Int) := by omega
           clear hcn h1 hb
           go_upto_region 10 with fail
           have es : ((s[k]).toNat : Int) - 48 = (d : Int) := by have := HCI.out; omega
           try simp only [es]
           clear es hc48 hc57
           have hdl : d ≤ lim := by omega
           obtain ⟨q, hq⟩ : ∃ q, (lim - d) / 10 = q := ⟨_, rfl⟩
           have HQD := Lib.hid hq
           have es2 : (lim : Int) - (d : Int) = ((lim - d : Nat) : Int) := by omega
           have es3 : ((lim - d : Nat) : Int) / 10 = (q : Int) := by omega
           have es4 : ((lim - d : Nat) : Int) < 18446744073709551616 := by omega
           have es5 : (0 : Int) ≤ ((lim - d : Nat) : Int) := by omega
           rw [hq] at HST
           clear hq
           by_cases h2 : q < acc
           · have HN : Hid (ro = (0, false)) := Lib.hid (by rw [← HRO.out, HST.out, if_pos (.inl h2)]; rfl)
             have h2i : (q : Int) < (acc : Int) := by omega
             go_wp2
             go_ret2
             exact ⟨by rw [HN.out]; rfl, rfl⟩
           · rw [if_neg (by omega)] at HST
             have h2i : (acc : Int) ≤ (q : Int) := by omega
             have h3i : ¬ (lim : Int) < (d : Int) := by omega
             have hnx : 10 * acc + d ≤ lim := by have := HQD.out; omega
             have hnx1 : 10 * (acc : Int) < 18446744073709551616 := by omega
             have hnx2 : 10 * (acc : Int) + (d : Int) < 18446744073709551616 := by omega
             go_wp2
             go_roundw
             case rel => exact ⟨k + 1, 10 * acc + d, by omega, by go_num, by congr 1, by rw [HST.out], hnx, trivial⟩
             case measure => simp [intOf]; omega
       · have HN : Hid (ro = ((acc : Int), true)) := Lib.hid (by
          rw [← HRO.out, ← HS.out, List.drop_eq_nil_of_le (by rw [tx_length]; omega)]
          rfl)
         go_wp2
         go_ret2
         exact ⟨by rw [HN.out]; rfl, rfl⟩
def numR (l : Tx) : Int := match rdD 2147483648 l with
 | some n => n
 | none => -1
theorem numR_dec {n : Nat} (h : n ≤ 1000000) : numR (dec n) = n := by
 unfold numR
 rw [rdD_dec _ _ (by omega) (by omega)]
def srcR (l : Tx) : Nat := match rdD 4294967295 l with
 | some n => n
 | none => 0
theorem srcR_dec {n : Nat} (h : n < 4294967296) : srcR (dec n) = n := by
 unfold srcR
 rw [rdD_dec _ _ (by omega) (by omega)]
theorem goD_le (lim : Nat) : ∀ (l : Tx) (acc n : Nat), acc ≤ lim → goD lim acc l = some n → n ≤ lim
 | [], acc, n, ha, h => by
   have : acc = n := by simpa [goD] using h
   omega
 | c :: r, acc, n, ha, h => by
   unfold goD at h
   split at h
   · cases h
   · split at h
     · cases h
     · next h1 h2 => exact goD_le lim r _ n (by omega) h
theorem rdD_le {lim n : Nat} {l : Tx} (h : rdD lim l = some n) : n ≤ lim := by
 unfold rdD at h
 split at h
 · cases h
 · exact goD_le lim l 0 n (by omega) h
theorem srcR_lt (l : Tx) : srcR l < 4294967296 := by
 unfold srcR
 cases h : rdD 4294967295 l with
 | none => decide
 | some n =>
   have := rdD_le h
   show n < _
   omega
set_option maxHeartbeats 800000 in
theorem rnumber_any (s : ByteArray) (w : World) (hs : s.size ≤ 281474976710656) : Calls Tryz.prog 32 #[.string s] w fun e w' => e = .returned (.int .i64 (numR (tx s))) ∧ w = w' := by
 have HC := Lib.hid (readDigits_any s 2147483648 w hs (by decide) (by decide))
 rw [show ((2147483648 : Nat) : Int) = 2147483648 from rfl] at HC
 obtain ⟨r, hr⟩ : ∃ r, numR (tx s) = r := ⟨_, rfl⟩
 cases h : rdD 2147483648 (tx s) with
 | none =>
   have HR : Hid (r = -1) := Lib.hid (by rw [← hr]; unfold numR; rw [h])
   rw [h] at HC
   rw [hr, HR.out]
   have HC : Hid (Calls Tryz.prog 34 #[.string s, .int .u64 2147483648] w fun e w' => e = .returned (.tuple #[.int .u64 0, .bool false]) ∧ w = w') := HC
   clear h hr
   go_enter Tryz.func32, Tryz.ntmps32
   go_wp2_with (go_at_call 34; (with_reducible refine HC.out.mono ?_); rintro e w1 ⟨rfl, rfl⟩)
   go_ret
   exact ⟨rfl, rfl⟩
 | some n =>
   have HR : Hid (r = n) := Lib.hid (by rw [← hr]; unfold numR; rw [h])
   have hn := rdD_le h
   have hni : (n : Int) < 9223372036854775808 := by omega
   rw [h] at HC
   rw [hr, HR.out]
   have HC : Hid (Calls Tryz.prog 34 #[.string s, .int .u64 2147483648] w fun e w' => e = .returned (.tuple #[.int .u64 (n : Int), .bool true]) ∧ w = w') := HC
   clear h hr
   go_enter Tryz.func32, Tryz.ntmps32
   go_wp2_with (go_at_call 34; (with_reducible refine HC.out.mono ?_); rintro e w1 ⟨rfl, rfl⟩)
   go_ret
   exact ⟨rfl, rfl⟩
theorem sameTexts_yes (v1 v2 : Value) (L : List ByteArray) (w : World) (h1 : TextsV w w.heap.size v1 L) (h2 : TextsV w w.heap.size v2 L) : Calls Tryz.prog 41 #[v1, v2] w fun e w' => e = .returned (.bool true) ∧ Below w.heap.size w w' := by
 obtain ⟨A1, c1, rfl, hc1, hm1, _⟩ := Rows.form h1
 obtain ⟨A2, c2, rfl, hc2, hm2, _⟩ := Rows.form h2
 have H1 := Lib.hid h1
 have H2 := Lib.hid h2
 obtain ⟨n, hn⟩ : ∃ n, L.length = n := ⟨_, rfl⟩
 have HN := Lib.hid hn
 rw [hn] at hc1 hc2 ⊢
 unfold maxLen at hm1 hm2
 clear hn h1 h2
 go_enter Tryz.func41, Tryz.ntmps41
 go_wp2
 go_loopw [13, 5] (fun s13 _ wr => ∃ k : Nat, k ≤ n ∧ s13 = .int .i64 k ∧ Below w.heap.size w wr) (fun s13 _ _ => n - (intOf s13).toNat)
 case atStart => exact ⟨0, Nat.zero_le _, rfl, Below.refl _ w⟩
 case round =>
  obtain ⟨k, hk, rfl, hb⟩ := hrel
  have HB := Lib.hid hb
  clear hb
  by_cases hlt : k < n
  · have hlt' : k < L.length := by rw [HN.out]; exact hlt
    obtain ⟨ad1, c1', e1, b1, x0⟩ := (H1.out.below HB.out).at_ hlt'
    obtain ⟨ad2, c2', e2, b2, y0⟩ := (H2.out.below HB.out).at_ hlt'
    injection e1 with e1 e1n e1c; clear e1n e1c
    injection e2 with e2 e2n e2c; clear e2n e2c
    subst e1 e2
    obtain ⟨a, ha⟩ : ∃ a, L.getD k default = a := ⟨_, rfl⟩
    rw [ha] at x0 y0
    have hk0 : (0 : Int) ≤ (k : Int) := by omega
    have hk1 : (k : Int) < (n : Int) := by omega
    clear ha hlt' b1 b2
    go_upto_region 6 with fail
    go_quiet (fail)
    go_wp2
    go_roundw
    case rel => exact ⟨k + 1, by omega, by go_num, below_drewN' HB.out _⟩
    case measure => simp [intOf]; omega
  · obtain rfl : k = n := by omega
    go_wp2
    go_ret
    exact ⟨rfl, HB.out⟩
def isL (c : UInt8) : Bool := decide (Lib.indexByte wLetters c ≠ -1)
def keyR (l : Tx) : Tx := if l.length = 40 ∧ l.all isL = true then decK l else List.replicate 30 0
theorem keyR_len (l : Tx) : (keyR l).length = 30 := by
 unfold keyR
 split
 · next h => exact decK_len 10 l (by omega)
 · simp
set_option maxRecDepth 100000 in
theorem letter_isL : ∀ v, v < 64 → isL (letter v) = true := by decide +kernel
set_option maxRecDepth 100000 in
theorem letter_idx : ∀ v, v < 64 → Lib.indexByte wLetters (letter v) = v := by decide +kernel
theorem encK_isL : ∀ (t : Nat) (k : Tx), k.length = 3 * t → (encK k).all isL = true
 | 0, k, h => by
   obtain rfl : k = [] := List.eq_nil_of_length_eq_zero (by omega)
   rfl
 | t + 1, k, h => by
   match k, h with
   | a :: b :: c :: r, h =>
     have := encK_isL t r (by simp at h; omega)
     have hn := num3_lt a b c
     show (enc3 a b c ++ encK r).all isL = true
     rw [List.all_append, this, Bool.and_true]
     show ([letter (num3 a b c / 262144), letter (num3 a b c / 4096 % 64), letter (num3 a b c / 64 % 64), letter (num3 a b c % 64)].all isL) = true
     simp only [List.all_cons, List.all_nil, letter_isL _ (show num3 a b c / 262144 < 64 by omega), letter_isL _ (show num3 a b c / 4096 % 64 < 64 by omega), letter_isL _ (show num3 a b c / 64 % 64 < 64 by omega), letter_isL _ (show num3 a b c % 64 < 64 by omega)]
     rfl
theorem keyR_enc {k : Tx} (h : k.length = 30) : keyR (encK k) = k := by
 unfold keyR
 rw [if_pos ⟨by rw [encK_len 10 k (by omega)], encK_isL 10 k (by omega)⟩, decK_encK 10 k (by omega)]
def fnd (c : UInt8) (j : Nat) : Int := if Lib.indexByte wLetters c < j then Lib.indexByte wLetters c else -1
theorem fnd_step (c : UInt8) (j : Nat) (h : j < 64) : fnd c (j + 1) = if letter j = c then (j : Int) else fnd c j := by
 have hge := Lib.indexByte_ge wLetters c
 unfold fnd
 by_cases e : letter j = c
 · rw [if_pos e]
   have := letter_idx j h
   rw [e] at this
   rw [this, if_pos (by omega)]
 · rw [if_neg e]
   by_cases h2 : Lib.indexByte wLetters c < (j : Int)
   · rw [if_pos h2, if_pos (by omega)]
   · rw [if_neg h2]
     by_cases h3 : Lib.indexByte wLetters c = (j : Int)
     · exfalso
       apply e
       obtain ⟨h4, -⟩ := Lib.indexByte_some h3
       unfold letter
       rw [List.getD_eq_getElem?_getD, h4]
       rfl
     · rw [if_neg (by omega)]
theorem fnd_zero (c : UInt8) : fnd c 0 = -1 := by
 have hge := Lib.indexByte_ge wLetters c
 unfold fnd
 split
 · omega
 · rfl
theorem fnd_all (c : UInt8) : fnd c 64 = if isL c = true then (sixP c : Int) else -1 := by
 have hge := Lib.indexByte_ge wLetters c
 have hlt := sixP_lt c
 unfold fnd isL
 unfold sixP at hlt ⊢
 by_cases h : Lib.indexByte wLetters c = -1
 · rw [h]
   rfl
 · rw [if_neg h] at hlt
   rw [if_pos (by omega), if_pos (by simpa using h), if_neg h]
   omega
theorem or6_w64 (x v : Nat) (hx : x < 262144) (hv : v < 64) : bits BinOp.or IntKind.i64 (wrap64 ((x : Int) * 64)) (v : Int) = ((x * 64 + v : Nat) : Int) := by
 rw [w64 (by omega) (by omega), show (x : Int) * 64 = ((x * 64 : Nat) : Int) by omega, i64_or_nat _ _ (by omega) (by omega)]
 have := nat_or x v 6 (by simpa using hv)
 rw [show (2 : Nat) ^ 6 = 64 by decide] at this
 rw [this]
theorem letL_at (v : Nat) (h : v < (⟨#[65, 66, 67, 68, 69, 70, 71, 72, 73, 74, 75, 76, 77, 78, 79, 80, 81, 82, 83, 84, 85, 86, 87, 88, 89, 90, 97, 98, 99, 100, 101, 102, 103, 104, 105, 106, 107, 108, 109, 110, 111, 112, 113, 114, 115, 116, 117, 118, 119, 120, 121, 122, 48, 49, 50, 51, 52, 53, 54, 55, 56, 57, 43, 47]⟩ : ByteArray).size) : (⟨#[65, 66, 67, 68, 69, 70, 71, 72, 73, 74, 75, 76, 77, 78, 79, 80, 81, 82, 83, 84, 85, 86, 87, 88, 89, 90, 97, 98, 99, 100, 101, 102, 103, 104, 105, 106, 107, 108, 109, 110, 111, 112, 113, 114, 115, 116, 117, 118, 119, 120, 121, 122, 48, 49, 50, 51, 52, 53, 54, 55, 56, 57, 43, 47]⟩ : ByteArray)[v]'h = letter v := letS_at v h
set_option maxHeartbeats 6400000 in
set_option maxRecDepth 100000 in
theorem unbase64_any (s : ByteArray) (w : World) (hs : s.size ≤ 281474976710656) : Calls Tryz.prog 35 #[.string s] w fun e w' => (∃ b, e = .returned (.tuple #[.agg (keyC (keyR (tx s))).toArray, .bool b])) ∧ Below w.heap.size w w' := by
 have hb0 : Below w.heap.size w ((w.alloc (.cells zKey 80)).alloc (.cells zKey 80)) := two_new _ _ _ _
 have hr := (Whole.new w 80 zKey).alloc (.cells zKey 80)
 have hk := Whole.new2 w (.cells zKey 80) 80 zKey
 obtain ⟨N, hN⟩ : ∃ N, w.heap.size = N := ⟨_, rfl⟩
 have HN := Lib.hid hN
 have H0 := Lib.hid (And.intro hb0 (And.intro hr hk))
 rw [hN] at H0
 clear hN hb0 hr hk
 obtain ⟨l, hl⟩ : ∃ l, tx s = l := ⟨_, rfl⟩
 have HTS := Lib.hid hl
 have hlen : l.length = s.size := by rw [← hl, tx_length]
 rw [hl]
 clear hl
 have HNO : Hid (∀ W, Below N w W → ¬ (l.length = 40 ∧ l.all isL = true) → (∃ b, Ending.returned (.tuple #[.agg zKey, .bool false]) = .returned (.tuple #[.agg (keyC (keyR l)).toArray, .bool b])) ∧ Below w.heap.size w (W.setRow N zKey)) := Lib.hid fun W hW hn =>
  ⟨⟨false, by unfold keyR; rw [if_neg hn]; rfl⟩, by rw [HN.out]; exact below_row hW (Nat.le_refl _) _⟩
 go_enter Tryz.func35, Tryz.ntmps35
 go_upto_region 2 with fail
 simp only [HN.out]
 generalize (w.alloc (.cells zKey 80)).alloc (.cells zKey 80) = W0 at *
 by_cases h40 : s.size = 40
 · have h40i : (s.size : Int) = 40 := by omega
   have HL : Hid (l.length = 40) := Lib.hid (by omega)
   clear hlen
   go_wp2
   go_loopw [5, 6, 7, 8, 9] (fun s5 _ _ _ _ wr => ∃ t : Nat, t ≤ 10 ∧ s5 = .int .i64 ((4 * t : Nat) : Int) ∧ ((l.take (4 * t)).all isL = true ∧ Below N w wr ∧ Whole wr N 80 zKey ∧ Whole wr (N + 1) 80 (keyC (decK (l.take (4 * t)) ++ List.replicate (30 - 3 * t) 0)).toArray)) (fun s5 _ _ _ _ _ => 40 - (intOf s5).toNat)
   case atStart => exact ⟨0, by omega, rfl, rfl, H0.out.1, H0.out.2.1, H0.out.2.2⟩
   case round =>
    obtain ⟨t, ht, rfl, hst⟩ := hrel
    have HS := Lib.hid hst
    clear hst
    by_cases hlt : t < 10
    · obtain ⟨i, hi⟩ : ∃ i, 4 * t = i := ⟨_, rfl⟩
      have HTI := Lib.hid hi
      rw [hi] at HS
      simp only [hi]
      have hi1 : (i : Int) < 40 := by omega
      have hi0 : (0 : Int) ≤ (i : Int) := by omega
      have hi36 : i ≤ 36 := by omega
      clear hi
      generalize wr = wo at *
      obtain ⟨AR, hAR⟩ : ∃ A, (keyC (decK (l.take i) ++ List.replicate (30 - 3 * t) 0)).toArray = A := ⟨_, rfl⟩
      have HAR := Lib.hid hAR
      rw [hAR] at HS
      clear hAR
      go_wp2
      go_loopw [18, 6, 7, 8, 9] (fun s18 s6 _ _ _ wq => ∃ p : Nat, p ≤ 4 ∧ s18 = .int .i64 p ∧ s6 = .int .i64 (pre4 ((l.drop i).take p) : Nat) ∧ (((l.drop i).take p).all isL = true ∧ (Below N w wq ∧ Whole wq N 80 zKey ∧ Whole wq (N + 1) 80 AR))) (fun s18 _ _ _ _ _ => 4 - (intOf s18).toNat)
      case atStart => exact ⟨0, by omega, rfl, rfl, rfl, HS.out.2⟩
      case round =>
       obtain ⟨p, hp, rfl, rfl, hst⟩ := hrel
       have HI := Lib.hid hst
       clear hst
       by_cases hlp : p < 4
       · obtain ⟨q, hq⟩ : ∃ q, i + p = q := ⟨_, rfl⟩
         have hip : q < s.size := by omega
         have hipi : (q : Int) < (s.size : Int) := by omega
         have hip0 : (0 : Int) ≤ (q : Int) := by omega
         have eiq : (i : Int) + (p : Int) = (q : Int) := by omega
         have hp0 : (p : Int) < 4 := by omega
         obtain ⟨c, hc⟩ : ∃ c, s[q] = c := ⟨_, rfl⟩
         have HCL : Hid ((l.drop i)[p]? = some c) := Lib.hid (by
          rw [List.getElem?_drop, hq, ← hc, ← HTS.out, List.getElem?_eq_getElem (by rw [tx_length]; exact hip)]
          rfl)
         obtain ⟨x, hx⟩ : ∃ x, pre4 ((l.drop i).take p) = x := ⟨_, rfl⟩
         simp only [hx]
         have HX := Lib.hid hx
         clear hx
         have HF0 := Lib.hid (fnd_zero c)
         go_wp2
         go_loopw [9, 8] (fun s9 s8 wz => ∃ j : Nat, j ≤ 64 ∧ s9 = .int .i64 j ∧ s8 = .int .i64 (fnd c j) ∧ (Below N w wz ∧ Whole wz N 80 zKey ∧ Whole wz (N + 1) 80 AR)) (fun s9 _ _ => 64 - (intOf s9).toNat)
         case atStart => exact ⟨0, by omega, rfl, by rw [HF0.out], HI.out.2⟩
         case round =>
          obtain ⟨j, hj, rfl, rfl, hq⟩ := hrel
          have HJ := Lib.hid hq
          clear hq
          by_cases hlj : j < 64
          · have hj0 : (0 : Int) ≤ (j : Int) := by omega
            have hj1 : (j : Int) < 64 := by omega
            have hjz : j < (⟨#[65, 66, 67, 68, 69, 70, 71, 72, 73, 74, 75, 76, 77, 78, 79, 80, 81, 82, 83, 84, 85, 86, 87, 88, 89, 90, 97, 98, 99, 100, 101, 102, 103, 104, 105, 106, 107, 108, 109, 110, 111, 112, 113, 114, 115, 116, 117, 118, 119, 120, 121, 122, 48, 49, 50, 51, 52, 53, 54, 55, 56, 57, 43, 47]⟩ : ByteArray).size := hlj
            have HST := Lib.hid (fnd_step c j hlj)
            by_cases heq : letter j = c
            · have hb : ((((⟨#[65, 66, 67, 68, 69, 70, 71, 72, 73, 74, 75, 76, 77, 78, 79, 80, 81, 82, 83, 84, 85, 86, 87, 88, 89, 90, 97, 98, 99, 100, 101, 102, 103, 104, 105, 106, 107, 108, 109, 110, 111, 112, 113, 114, 115, 116, 117, 118, 119, 120, 121, 122, 48, 49, 50, 51, 52, 53, 54, 55, 56, 57, 43, 47]⟩ : ByteArray)[j]'hjz).toNat : Int) == (c.toNat : Int)) = true := by rw [letL_at j hjz, heq]; simp
              have HS1 : Hid (fnd c (j + 1) = (j : Int)) := Lib.hid (by rw [HST.out, if_pos heq])
              clear heq
              go_upto_region 15 with fail
              go_quiet (fail)
              go_wp2
              go_roundw
              case rel => exact ⟨j + 1, by omega, by go_num, by rw [HS1.out], below_drewN' HJ.out.1 _, HJ.out.2.1, HJ.out.2.2⟩
              case measure => simp [intOf]; omega
            · have hb : ((((⟨#[65, 66, 67, 68, 69, 70, 71, 72, 73, 74, 75, 76, 77, 78, 79, 80, 81, 82, 83, 84, 85, 86, 87, 88, 89, 90, 97, 98, 99, 100, 101, 102, 103, 104, 105, 106, 107, 108, 109, 110, 111, 112, 113, 114, 115, 116, 117, 118, 119, 120, 121, 122, 48, 49, 50, 51, 52, 53, 54, 55, 56, 57, 43, 47]⟩ : ByteArray)[j]'hjz).toNat : Int) == (c.toNat : Int)) = false := by
               rw [letL_at j hjz, beq_eq_false_iff_ne]
               intro h
               exact heq (UInt8.toNat_inj.1 (by omega))
              have HS1 : Hid (fnd c (j + 1) = fnd c j) := Lib.hid (by rw [HST.out, if_neg heq])
              clear heq
              go_upto_region 15 with fail
              go_quiet (fail)
              go_wp2
              go_roundw
              case rel => exact ⟨j + 1, by omega, by go_num, by rw [HS1.out], below_drewN' HJ.out.1 _, HJ.out.2.1, HJ.out.2.2⟩
              case measure => simp [intOf]; omega
          · have e : j = 64 := by omega
            subst e
            have hfa := fnd_all c
            cases hl2 : isL c with
            | false =>
              rw [hl2, if_neg (by decide)] at hfa
              rw [hfa]
              have HFIN := Lib.hid (HNO.out wr HJ.out.1 (fun h => by
               have h1 := List.all_eq_true.1 h.2 c (List.mem_of_mem_drop (List.mem_iff_getElem?.2 ⟨p, HCL.out⟩))
               rw [hl2] at h1
               cases h1))
              clear hfa hl2
              go_wp2_with (first
               | ((with_reducible refine wpList_storeS zKey ?_ 80 (.tmp 2) (.tmp 36) ?_ ?_ ?_ HJ.out.2.1 Tryz.sizeKey ?_ ?_ ?_ ?_); (with_reducible rfl); (with_reducible rfl); rfl; rfl; rfl; rfl; rfl)
               | ((with_reducible show bodyPost _ _ _ _ _ _); exact bodyPost_ret (v := .tuple #[.agg zKey, .bool false]) (ret_struct2 (p := 2) (s := 3) rfl rfl (HJ.out.2.1.row _) Tryz.underlying80 rfl Tryz.sizeKey rfl) rfl HFIN.out))
            | true =>
              rw [hl2, if_pos rfl] at hfa
              rw [hfa]
              have HTK : Hid ((l.drop i).take (p + 1) = (l.drop i).take p ++ [c]) := Lib.hid (by rw [List.take_add_one, HCL.out]; rfl)
              have HAL : Hid (((l.drop i).take (p + 1)).all isL = true) := Lib.hid (by rw [HTK.out, List.all_append, HI.out.1]; simp [hl2])
              have HPX : Hid (pre4 ((l.drop i).take (p + 1)) = x * 64 + sixP c) := Lib.hid (by rw [HTK.out, pre4_snoc, HX.out])
              have HXL : Hid (x < 262144) := Lib.hid (by
               rw [← HX.out]
               have h1 := pre4_lt ((l.drop i).take p)
               have h2 : 64 ^ ((l.drop i).take p).length ≤ 64 ^ 3 := Nat.pow_le_pow_right (by decide) (by have := List.length_take_le p (l.drop i); omega)
               have h3 : (64 : Nat) ^ 3 = 262144 := by decide
               omega)
              have hx6 := sixP_lt c
              obtain ⟨v, hv⟩ : ∃ v, sixP c = v := ⟨_, rfl⟩
              rw [hv] at hx6 HPX ⊢
              have hv0 : (0 : Int) ≤ (v : Int) := by omega
              clear hfa hl2 hv
              have HV6 := Lib.hid hx6
              go_wp2
              go_roundw
              case rel => exact ⟨p + 1, by omega, by go_num, by rw [or6_w64 x v HXL.out HV6.out, HPX.out], HAL.out, HJ.out⟩
              case measure => simp [intOf]; omega
       · have e : p = 4 := by omega
         subst e
         obtain ⟨a, b, c, d, habcd⟩ : ∃ a b c d : UInt8, (l.drop i).take 4 = [a, b, c, d] := by
          have h4 : ((l.drop i).take 4).length = 4 := by rw [List.length_take, List.length_drop, HL.out]; omega
          match (l.drop i).take 4, h4 with
          | [a, b, c, d], _ => exact ⟨a, b, c, d, rfl⟩
         have HD : Hid (decK (l.take (4 * (t + 1))) = decK (l.take i) ++ dec4 a b c d) := Lib.hid (by
          rw [show 4 * (t + 1) = i + 4 by have := HTI.out; omega, List.take_add, habcd, decK_snoc a b c d t _ (by rw [List.length_take, HL.out]; have := HTI.out; omega)])
         have HAL : Hid ((l.take (4 * (t + 1))).all isL = true) := Lib.hid (by
          rw [show 4 * (t + 1) = i + 4 by have := HTI.out; omega, List.take_add, List.all_append, HS.out.1, HI.out.1]
          rfl)
         have HN4 : Hid (pre4 [a, b, c, d] = num4 a b c d) := Lib.hid (by
          unfold pre4 num4
          simp)
         rw [habcd, HN4.out]
         have HLT := Lib.hid (num4_lt a b c d)
         have HD4 : Hid (dec4 a b c d = [UInt8.ofNat (num4 a b c d / 65536), UInt8.ofNat (num4 a b c d / 256), UInt8.ofNat (num4 a b c d)]) := Lib.hid rfl
         obtain ⟨n, hn⟩ : ∃ n, num4 a b c d = n := ⟨_, rfl⟩
         simp only [hn] at HLT HD4 ⊢
         clear habcd hn HN4
         have hn0 := HLT.out
         obtain ⟨A, hA⟩ : ∃ A, decK (l.take i) = A := ⟨_, rfl⟩
         obtain ⟨m, hm⟩ : ∃ m, 3 * t = m := ⟨_, rfl⟩
         have HM := Lib.hid hm
         have HAL3 : Hid (A.length = m) := Lib.hid (by rw [← hA, ← hm, decK_len t _ (by rw [List.length_take, HL.out]; have := HTI.out; omega)])
         rw [hA] at HD HAR
         obtain ⟨k, hk⟩ : ∃ k, 30 - 3 * t = k + 3 := ⟨27 - 3 * t, by omega⟩
         have HS4 : Hid (Whole wr (N + 1) 80 (keyC (A ++ List.replicate (k + 3) 0)).toArray) := Lib.hid (by have := HI.out.2.2.2; rw [← HAR.out, hk] at this; exact this)
         have HK : Hid (30 - 3 * (t + 1) = k) := Lib.hid (by omega)
         have hz : ∀ j, j < 3 → (keyC (A ++ List.replicate (k + 3) 0)).toArray[m + j]? = some (.int .u8 0) := fun j hj => by
          rw [List.getElem?_toArray]
          unfold keyC
          rw [List.getElem?_map, List.getElem?_append_right (by rw [HAL3.out]; omega), HAL3.out, List.getElem?_replicate, if_pos (by omega)]
          rfl
         have d0 : wr.cell? ⟨N + 1, m, none⟩ = some (.int .u8 0) := (HS4.out.cell m).trans (hz 0 (by decide))
         have d1 : wr.cell? ⟨N + 1, m + 1, none⟩ = some (.int .u8 0) := (HS4.out.cell (m + 1)).trans (hz 1 (by decide))
         have d2 : wr.cell? ⟨N + 1, m + 2, none⟩ = some (.int .u8 0) := (HS4.out.cell (m + 2)).trans (hz 2 (by decide))
         have fz := HS4.out.frz
         have hit : (i : Int) / 4 = (t : Int) := by have := HTI.out; omega
         have htm : (t : Int) * 3 = (m : Int) := by omega
         have hm30 : (m : Int) < 30 := by omega
         have hm0 : (0 : Int) ≤ (m : Int) := by omega
         have e1 : IntKind.i64.wrap ((m : Int) + 1) = ((m + 1 : Nat) : Int) := (IntWalk.i64_in _ (by omega)).trans (by omega)
         have e2 : IntKind.i64.wrap ((m : Int) + 2) = ((m + 2 : Nat) : Int) := (IntWalk.i64_in _ (by omega)).trans (by omega)
         have b1 : ((m + 1 : Nat) : Int) < 30 := by omega
         have b2 : ((m + 2 : Nat) : Int) < 30 := by omega
         have b3 : (0 : Int) ≤ ((m + 1 : Nat) : Int) := by omega
         have b4 : (0 : Int) ≤ ((m + 2 : Nat) : Int) := by omega
         clear hz hA hk hm
         have HV : Hid ((n : Int) / 65536 = ((UInt8.ofNat (n / 65536)).toNat : Int) ∧ (n : Int) / 256 % 256 = ((UInt8.ofNat (n / 256)).toNat : Int) ∧ (n : Int) % 256 = ((UInt8.ofNat n).toNat : Int)) := Lib.hid (by
          simp only [UInt8.toNat_ofNat']
          omega)
         have HKS := Lib.hid (key_set A k (UInt8.ofNat (n / 65536)) (UInt8.ofNat (n / 256)) (UInt8.ofNat n))
         go_wp2
         go_roundw
         case rel =>
          refine ⟨t + 1, by omega, by have := HTI.out; go_num, HAL.out, ?_, ?_, ?_⟩
          · exact ((HI.out.2.1.setCell (p := ⟨N + 1, m, none⟩) (Nat.le_succ N) _).setCell (p := ⟨N + 1, m + 1, none⟩) (Nat.le_succ N) _).setCell (p := ⟨N + 1, m + 2, none⟩) (Nat.le_succ N) _
          · exact ((HI.out.2.2.1.far (p := ⟨N + 1, m, none⟩) (Nat.ne_of_lt (Nat.lt_succ_self N)) _).far (p := ⟨N + 1, m + 1, none⟩) (Nat.ne_of_lt (Nat.lt_succ_self N)) _).far (p := ⟨N + 1, m + 2, none⟩) (Nat.ne_of_lt (Nat.lt_succ_self N)) _
          · have h3 := ((HS4.out.set m (.int .u8 ((n : Int) / 65536))).set (m + 1) (.int .u8 ((n : Int) / 256 % 256))).set (m + 2) (.int .u8 ((n : Int) % 256))
            rw [HD.out, HD4.out, HK.out]
            have h4 := HKS.out
            rw [HAL3.out, ← HV.out.1, ← HV.out.2.1, ← HV.out.2.2] at h4
            rw [h4] at h3
            exact h3
         case measure => simp [intOf]; omega
    · have e : t = 10 := by omega
      subst e
      have HTL : Hid (l.take (4 * 10) = l) := Lib.hid (List.take_of_length_le (by rw [HL.out]; decide))
      have HA : Hid ((keyC (decK (l.take (4 * 10)) ++ List.replicate (30 - 3 * 10) 0)).toArray = (keyC (keyR l)).toArray) := Lib.hid (by
       have h1 := HS.out.1
       rw [HTL.out] at h1 ⊢
       unfold keyR
       rw [if_pos ⟨HL.out, h1⟩]
       simp)
      have HF : Hid (Whole wr (N + 1) 80 (keyC (keyR l)).toArray) := Lib.hid (by rw [← HA.out]; exact HS.out.2.2.2)
      obtain ⟨X, hX⟩ : ∃ X, (keyC (keyR l)).toArray = X := ⟨_, rfl⟩
      have HX : Hid (X.size = 30 ∧ X.toList.all (·.oneCell') = true) := Lib.hid (by
       rw [← hX]
       refine ⟨by simp [keyC, keyR_len], ?_⟩
       rw [List.all_eq_true]
       intro v hv
       simp only [keyC, List.mem_map] at hv
       obtain ⟨_, _, rfl⟩ := hv
       rfl)
      rw [hX] at HF
      have HXE := Lib.hid hX
      clear hX
      have HFIN : Hid ((∃ b, Ending.returned (.tuple #[.agg X, .bool true]) = .returned (.tuple #[.agg (keyC (keyR l)).toArray, .bool b])) ∧ Below w.heap.size w (wr.setRow N X)) := Lib.hid ⟨⟨true, by rw [HXE.out]⟩, by rw [HN.out]; exact below_row HS.out.2.1 (Nat.le_refl _) _⟩
      go_wp2_with (first
       | ((with_reducible refine wpList_load_all ?_ 80 (.tmp 4) ?_ HF.out ?_ Tryz.sizeKey HX.out.1 Tryz.underlying80 ?_ ?_); (with_reducible rfl); (with_reducible rfl); rfl; rfl)
       | ((with_reducible refine wpList_storeS X ?_ 80 (.tmp 2) (.tmp 64) ?_ ?_ ?_ HS.out.2.2.1 Tryz.sizeKey HX.out.1 ?_ HX.out.2 ?_); (with_reducible rfl); (with_reducible rfl); rfl; rfl; rfl)
       | ((with_reducible show bodyPost _ _ _ _ _ _); exact bodyPost_ret (v := .tuple #[.agg X, .bool true]) (ret_struct2 (p := 2) (s := 3) rfl rfl (HS.out.2.2.1.row _) Tryz.underlying80 rfl Tryz.sizeKey HX.out.1) rfl HFIN.out))
 · have hne : ¬ (s.size : Int) = 40 := by omega
   have HFIN := Lib.hid (HNO.out W0 H0.out.1 (fun h => h40 (by rw [← hlen]; exact h.1)))
   go_wp2_with (first
    | ((with_reducible refine wpList_load_all ?_ 80 (.tmp 4) ?_ H0.out.2.2 ?_ Tryz.sizeKey ?_ Tryz.underlying80 ?_ ?_); (with_reducible rfl); (with_reducible rfl); rfl; rfl; rfl)
    | ((with_reducible refine wpList_storeS zKey ?_ 80 (.tmp 2) (.tmp 13) ?_ ?_ ?_ H0.out.2.1 Tryz.sizeKey ?_ ?_ ?_ ?_); (with_reducible rfl); (with_reducible rfl); rfl; rfl; rfl; rfl; rfl)
    | ((with_reducible show bodyPost _ _ _ _ _ _); exact bodyPost_ret (v := .tuple #[.agg zKey, .bool false]) (ret_struct2 (p := 2) (s := 3) rfl rfl (H0.out.2.1.row _) Tryz.underlying80 rfl Tryz.sizeKey rfl) rfl HFIN.out))
end Go.Proofs.YtlekmakofkpcdaaGreatDoor
namespace Go.Proofs.YtlekmakofkpcdaaGreatDoor
set_option linter.unusedVariables false
set_option linter.unusedSimpArgs false
def cryR (l : Tx) : CryptoS := ⟨numR (hd l), keyR (cutS [58] (tl l)).2.1⟩
def rR : Rdr := ⟨numR, srcR, cryR, id⟩
theorem rR_law : rR.Law where
 num n h := numR_dec h
 src n h := srcR_dec h
 cry c h1 h9 hk := by
  have e1 : hd (cryptoT c) = decI c.tag := hd_at _ _ (decI_32 _)
  have e2 : tl (cryptoT c) = (wSuite ++ 32 :: [105, 110, 108, 105, 110, 101]) ++ 58 :: encK c.key := by
   rw [show (wSuite ++ 32 :: [105, 110, 108, 105, 110, 101]) ++ 58 :: encK c.key = wSuite ++ 32 :: (wInl ++ encK c.key) by rfl]
   exact tl_at (decI c.tag) (wSuite ++ 32 :: (wInl ++ encK c.key)) (decI_32 _)
  have e3 : (cutS [58] (tl (cryptoT c))).2.1 = encK c.key := by
   rw [e2, cut_at _ _ (by decide)]
  have e4 : numR (decI c.tag) = c.tag := by
   unfold decI
   rw [numR_dec (by omega)]
   omega
  show cryR (cryptoT c) = c
  unfold cryR
  rw [e1, e3, keyR_enc hk, e4]
 still := rfl
end Go.Proofs.YtlekmakofkpcdaaGreatDoor
