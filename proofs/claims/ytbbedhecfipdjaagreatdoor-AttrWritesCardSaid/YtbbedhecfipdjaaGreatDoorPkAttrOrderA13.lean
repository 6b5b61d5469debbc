import Derived.Test.YtbbedhecfipdjaaGreatDoorPkAttrOrderA00
import Derived.Test.YtbbedhecfipdjaaGreatDoorPkAttrOrderA04
import Derived.Test.YtbbedhecfipdjaaGreatDoorPkAttrOrderA08
import Derived.Test.YtbbedhecfipdjaaGreatDoorPkAttrOrderA12
import Derived.Deep.CutBlock
import Derived.Great.Walk
namespace Go.Proofs.YtbbedhecfipdjaaGreatDoor
open Go.RowKit
set_option linter.unusedVariables false
set_option linter.unusedSimpArgs false
theorem cut_place {l : Tx} {c : UInt8} {k : Nat} (hk : l[k]? = some c) (hb : ∀ j, j < k → l[j]? ≠ some c) : cutS [c] l = (l.take k, l.drop (k + 1), true) := by
 have hkl : k < l.length := (List.getElem?_eq_some_iff.1 hk).1
 have e : l = l.take k ++ c :: l.drop (k + 1) := by
  have h3 : l[k] = c := by rw [List.getElem?_eq_getElem hkl] at hk; exact Option.some.inj hk
  rw [← h3, ← List.drop_eq_getElem_cons hkl, List.take_append_drop]
 conv => lhs; rw [e]
 exact cut_at _ _ (fun d hd e2 => by
  subst e2
  obtain ⟨j, hj⟩ := List.mem_iff_getElem?.1 hd
  have hjl : j < k := by
   have := (List.getElem?_eq_some_iff.1 hj).1
   rw [List.length_take] at this
   omega
  rw [List.getElem?_take, if_pos hjl] at hj
  exact hb j hjl hj)
set_option maxHeartbeats 1600000 in
set_option maxRecDepth 10000 in
theorem rsplit_any (s : ByteArray) (c : UInt8) (w : World) (hs : s.size ≤ 281474976710656) : Calls Tryz.prog 48 #[.string s, .int .u8 (c.toNat : Int)] w fun e w' => e = .returned (.tuple #[.string (bs (cutS [c] (tx s)).1), .string (bs (cutS [c] (tx s)).2.1), .bool (cutS [c] (tx s)).2.2]) ∧ Below w.heap.size w w' := by
 obtain ⟨A, hA⟩ : ∃ A, cutS [c] (tx s) = A := ⟨_, rfl⟩
 have HA := Lib.hid hA
 rw [hA]
 clear hA
 have HF : Hid ((∀ j, j < s.size → (tx s)[j]? ≠ some c) → A = (tx s, [], false)) := Lib.hid fun h => by
  rw [← HA.out]
  exact cutS_free (c0 := c) (t := []) _ (fun d hd e => by
   subst e
   obtain ⟨j, hj⟩ := List.mem_iff_getElem?.1 hd
   exact h j (by have := (List.getElem?_eq_some_iff.1 hj).1; rw [tx_length] at this; exact this) hj)
 obtain ⟨cn, hcn⟩ : ∃ n : Nat, c.toNat = n := ⟨_, rfl⟩
 have HCN := Lib.hid hcn
 rw [hcn]
 clear hcn
 go_enter Tryz.func48, Tryz.ntmps48
 go_wp2
 go_loopw [7] (fun s7 wr => ∃ k : Nat, k ≤ s.size ∧ s7 = .int .i64 k ∧ ((∀ j, j < k → (tx s)[j]? ≠ some c) ∧ w = wr)) (fun s7 _ => s.size - (intOf s7).toNat)
 case atStart => exact ⟨0, Nat.zero_le _, rfl, (fun j hj => by omega), rfl⟩
 case round =>
  obtain ⟨k, hk, rfl, hst, rfl⟩ := hrel
  have HS := Lib.hid hst
  clear hst
  by_cases hlt : k < s.size
  · have HM : Hid ((tx s)[k]? = some (s[k])) := Lib.hid (by
     rw [List.getElem?_eq_getElem (by rw [tx_length]; exact hlt)]
     rfl)
    by_cases heq : (s[k]).toNat = cn
    · have HC : Hid (A = ((tx s).take k, (tx s).drop (k + 1), true)) := Lib.hid (by
       rw [← HA.out]
       exact cut_place (by rw [HM.out]; congr 1; exact UInt8.toNat_inj.1 (by rw [HCN.out]; exact heq)) HS.out)
      have heqi : ((s[k]).toNat : Int) = (cn : Int) := by omega
      have hk0 : (0 : Int) ≤ (k : Int) := by omega
      have hk1 : (k : Int) ≤ (s.size : Int) := by omega
      have hk2 : (k : Int) + 1 ≤ (s.size : Int) := by omega
      have hk5 : k ≤ s.size := by omega
      have hk6 : k + 1 ≤ s.size := by omega
      have HT : Hid (∀ a b : ByteArray, a = s.extract 0 k → b = s.extract (k + 1) s.size → Ending.returned (.tuple #[.string a, .string b, .bool true]) = .returned (.tuple #[.string (bs A.1), .string (bs A.2.1), .bool A.2.2])) := Lib.hid fun a b ha hb => by
       have e1 : a = bs ((tx s).take k) := tx_inj (by rw [ha, tx_extract, tx_bs, List.drop_zero, Nat.sub_zero])
       have e2 : b = bs ((tx s).drop (k + 1)) := tx_inj (by rw [hb, tx_extract, tx_bs, List.take_of_length_le (by rw [List.length_drop, tx_length]; exact Nat.le_refl _)])
       rw [HC.out, e1, e2]
      go_upto_region 5 with fail
      go_quiet (fail)
      go_wp2
      go_ret3
      exact ⟨HT.out _ _ rfl rfl, below_drewN' (Below.refl _ _) _⟩
    · have hne : ((s[k]).toNat : Int) ≠ (cn : Int) := by omega
      have hneb : (((s[k]).toNat : Int) == (cn : Int)) = false := by rw [beq_eq_false_iff_ne]; exact hne
      have HNX : Hid (∀ j, j < k + 1 → (tx s)[j]? ≠ some c) := Lib.hid fun j hj => by
       by_cases e : j = k
       · subst e
         rw [HM.out]
         intro h
         exact heq (by rw [Option.some.inj h]; exact HCN.out)
       · exact HS.out j (by omega)
      go_wp2
      go_roundw
      case rel => exact ⟨k + 1, by omega, by go_num, HNX.out, trivial⟩
      case measure => simp [intOf]; omega
  · have HC : Hid (A = (tx s, [], false)) := Lib.hid (HF.out (fun j hj => HS.out j (by omega)))
    have HT : Hid (Ending.returned (.tuple #[.string s, .string ⟨#[]⟩, .bool false]) = .returned (.tuple #[.string (bs A.1), .string (bs A.2.1), .bool A.2.2])) := Lib.hid (by rw [HC.out]; show _ = Ending.returned (.tuple #[.string (bs (tx s)), .string (bs []), .bool false]); rw [bs_tx]; rfl)
    go_wp2
    go_ret3
    exact ⟨HT.out, Below.refl _ _⟩
def goD (lim acc : Nat) : Tx → Option Nat
 | [] => some acc
 | c :: r => if c.toNat < 48 ∨ 57 < c.toNat then none else if (lim - (c.toNat - 48)) / 10 < acc ∨ lim < c.toNat - 48 then none else goD lim (10 * acc + (c.toNat - 48)) r
def rdD (lim : Nat) (l : Tx) : Option Nat := if l.length < 1 ∨ 20 < l.length ∨ (1 < l.length ∧ l[0]? = some 48) then none else goD lim 0 l
theorem goD_ok (lim : Nat) : ∀ (l : Tx) (acc : Nat), (∀ c ∈ l, 48 ≤ c.toNat ∧ c.toNat ≤ 57) → valD acc l ≤ lim → goD lim acc l = some (valD acc l)
 | [], acc, _, _ => rfl
 | c :: r, acc, h, hv => by
   have hc := h c (by simp)
   have hv' : valD (acc * 10 + (c.toNat - 48)) r ≤ lim := hv
   have hg := valD_ge r (acc * 10 + (c.toNat - 48))
   unfold goD
   rw [if_neg (by omega), if_neg (by omega), show 10 * acc + (c.toNat - 48) = acc * 10 + (c.toNat - 48) by omega]
   exact goD_ok lim r _ (fun d hd => h d (by simp [hd])) hv'
theorem dec_head (n : Nat) (h : 10 ≤ n) : (dec n)[0]? ≠ some 48 := by
 induction n using Nat.strongRecOn with
 | _ n ih =>
   unfold dec
   rw [dif_neg (by omega)]
   have hne := dec_ne (n / 10)
   have hl : 0 < (dec (n / 10)).length := List.length_pos_iff.2 hne
   rw [List.getElem?_append_left hl]
   by_cases h2 : 10 ≤ n / 10
   · exact ih (n / 10) (by omega) h2
   · unfold dec
     rw [dif_pos (by omega)]
     intro e
     have e2 : UInt8.ofNat (48 + n / 10) = 48 := by simpa using e
     have e3 := congrArg UInt8.toNat e2
     rw [UInt8.toNat_ofNat'] at e3
     have : (48 : UInt8).toNat = 48 := rfl
     omega
theorem dec_len20 {n : Nat} (h : n < 100000000000000000000) : (dec n).length ≤ 20 := by
 have key : ∀ (k n : Nat), n < 10 ^ (k + 1) → (dec n).length ≤ k + 1 := by
  intro k
  induction k with
  | zero =>
    intro n h
    unfold dec
    rw [dif_pos (by omega)]
    simp
  | succ k ih =>
    intro n h
    unfold dec
    split
    · simp
    · rw [List.length_append, List.length_singleton]
      have := ih (n / 10) (by rw [Nat.pow_succ] at h; omega)
      omega
 exact key 19 n (by rw [show (10 : Nat) ^ (19 + 1) = 100000000000000000000 by decide]; exact h)
theorem rdD_dec (lim n : Nat) (h : n ≤ lim) (h2 : n < 100000000000000000000) : rdD lim (dec n) = some n := by
 unfold rdD
 have hl := dec_len20 h2
 have hp : 0 < (dec n).length := List.length_pos_iff.2 (dec_ne n)
 rw [if_neg, goD_ok lim _ 0 (dec_digit n) (by rw [valD_dec]; exact h), valD_dec]
 rintro (h3 | h3 | ⟨h3, h4⟩)
 · omega
 · omega
 · by_cases h10 : 10 ≤ n
   · exact dec_head n h10 h4
   · unfold dec at h3
     rw [dif_pos (by omega)] at h3
     simp at h3
def okD (o : Option Nat) : Int × Bool := match o with
 | some n => (n, true)
 | none => (0, false)
set_option maxHeartbeats 3200000 in
set_option maxRecDepth 100000 in
theorem readDigits_any (s : ByteArray) (lim : Nat) (w : World) (hs : s.size ≤ 281474976710656) (h9 : 9 ≤ lim) (hl : lim < 4294967296) : Calls Tryz.prog 50 #[.string s, .int .u64 lim] w fun e w' => e = .returned (.tuple #[.int .u64 (okD (rdD lim (tx s))).1, .bool (okD (rdD lim (tx s))).2]) ∧ w = w' := by
 obtain ⟨o, ho⟩ : ∃ o, rdD lim (tx s) = o := ⟨_, rfl⟩
 have HO := Lib.hid ho
 rw [ho]
 clear ho
 have HLN : Hid ((tx s).length = s.size) := Lib.hid (tx_length s)
 by_cases hbad : s.size < 1 ∨ 20 < s.size
 · have HN : Hid (okD o = (0, false)) := Lib.hid (by
    rw [← HO.out]
    unfold rdD
    rw [if_pos (by rw [HLN.out]; omega)]
    rfl)
   rw [HN.out]
   rcases hbad with h | h
   · have hi : (s.size : Int) < 1 := by omega
     go_enter Tryz.func50, Tryz.ntmps50
     go_wp2
     go_ret2
     exact ⟨rfl, rfl⟩
   · have hi : ¬ (s.size : Int) < 1 := by omega
     have hi1 : (1 : Int) ≤ (s.size : Int) := by omega
     have hi2 : (20 : Int) < (s.size : Int) := by omega
     go_enter Tryz.func50, Tryz.ntmps50
     go_wp2
     go_ret2
     exact ⟨rfl, rfl⟩
 · have hi1 : (1 : Int) ≤ (s.size : Int) := by omega
   have hi2 : (s.size : Int) ≤ 20 := by omega
   have hp : 0 < s.size := by omega
   have hpi : (0 : Int) < (s.size : Int) := by omega
   have H0 : Hid ((tx s)[0]? = some (s[0])) := Lib.hid (by
    rw [List.getElem?_eq_getElem (by rw [tx_length]; exact hp)]
    rfl)
   by_cases hz : 1 < s.size ∧ (s[0]).toNat = 48
   · have HN : Hid (okD o = (0, false)) := Lib.hid (by
      rw [← HO.out]
      unfold rdD
      rw [if_pos (.inr (.inr ⟨by rw [HLN.out]; exact hz.1, by rw [H0.out]; congr 1; exact UInt8.toNat_inj.1 hz.2⟩))]
      rfl)
     rw [HN.out]
     have hz1 : (1 : Int) < (s.size : Int) := by omega
     have hz2 : ((s[0]).toNat : Int) = 48 := by omega
     go_enter Tryz.func50, Tryz.ntmps50
     go_wp2
     go_ret2
     exact ⟨rfl, rfl⟩
   · have HG : Hid (goD lim 0 (tx s) = o) := Lib.hid (by
      rw [← HO.out]
      unfold rdD
      rw [if_neg]
      rw [HLN.out, H0.out]
      rintro (h3 | h3 | ⟨h3, h4⟩)
      · omega
      · omega
      · exact hz ⟨h3, by rw [Option.some.inj h4]; rfl⟩)
     have hli : (lim : Int) < 18446744073709551616 := by omega
     have hl9 : (9 : Int) ≤ (lim : Int) := by omega
     clear hbad
     obtain ⟨ro, hro⟩ : ∃ r, okD o = r := ⟨_, rfl⟩
     have HRO := Lib.hid hro
     rw [hro]
     clear hro
     go_enter Tryz.func50, Tryz.ntmps50
     go_upto_region 1 with fail
     go_cut [26] from 9 to 26 (fun s26 wc => s26 = .bool false ∧ w = wc)
     case first =>
      by_cases h1 : s.size = 1
      · have h1i : (s.size : Int) ≤ 1 := by omega
        go_wp2
        go_meet
        exact ⟨rfl, rfl⟩
      · have h1i : (1 : Int) < (s.size : Int) := by omega
        have h48 : ¬ ((s[0]).toNat : Int) = 48 := by
         intro h
         exact hz ⟨by omega, by omega⟩
        have h48b : (((s[0]).toNat : Int) == 48) = false := by rw [beq_eq_false_iff_ne]; exact h48
        go_wp2
        go_meet
        exact ⟨by congr 1; rw [Bool.or_eq_false_iff]; exact ⟨decide_eq_false (by omega), decide_eq_false (by omega)⟩, rfl⟩
     case rest =>
      obtain ⟨rfl, rfl⟩ := hcut
      clear hz
      go_wp2
      go_loopw [7, 6, 8] (fun s7 s6 _ wr => ∃ (k acc : Nat), k ≤ s.size ∧ s7 = .int .i64 k ∧ s6 = .int .u64 acc ∧ (goD lim acc ((tx s).drop k) = o ∧ acc ≤ lim ∧ w = wr)) (fun s7 _ _ _ => s.size - (intOf s7).toNat)
      case atStart => exact ⟨0, 0, Nat.zero_le _, rfl, rfl, by rw [List.drop_zero]; exact HG.out, by omega, rfl⟩
      case round =>
       obtain ⟨k, acc, hk, rfl, rfl, hst, hacc, rfl⟩ := hrel
       have HS := Lib.hid hst
       clear hst
       by_cases hlt : k < s.size
       · have HM : Hid ((tx s).drop k = s[k] :: (tx s).drop (k + 1)) := Lib.hid (by
          rw [List.drop_eq_getElem_cons (by rw [tx_length]; exact hlt)]
          rfl)
         have hk0 : (0 : Int) ≤ (k : Int) := by omega
         have hk1 : (k : Int) < (s.size : Int) := by omega
         have hb := (s[k]).toNat_lt
         have HS2 : Hid (goD lim acc (s[k] :: (tx s).drop (k + 1)) = o) := Lib.hid (by rw [← HM.out]; exact HS.out)
         obtain ⟨cn, hcn⟩ : ∃ n : Nat, (s[k]).toNat = n := ⟨_, rfl⟩
         have HST : Hid (o = if cn < 48 ∨ 57 < cn then none else if (lim - (cn - 48)) / 10 < acc ∨ lim < cn - 48 then none else goD lim (10 * acc + (cn - 48)) ((tx s).drop (k + 1))) := Lib.hid (by
          rw [← HS2.out, ← hcn]
          rfl)
         by_cases h1 : cn < 48 ∨ 57 < cn
         · have HN : Hid (ro = (0, false)) := Lib.hid (by rw [← HRO.out, HST.out, if_pos h1]; rfl)
           rcases h1 with h1 | h1
           · have h1i : (cn : Int) < 48 := by omega
             go_wp2
             go_ret2
             exact ⟨by rw [HN.out]; rfl, rfl⟩
           · have h1i : (57 : Int) < (cn : Int) := by omega
             have h1j : ¬ (cn : Int) < 48 := by omega
             have h1k : (48 : Int) ≤ (cn : Int) := by omega
             go_wp2
             go_ret2
             exact ⟨by rw [HN.out]; rfl, rfl⟩
         · rw [if_neg h1] at HST
           obtain ⟨d, rfl⟩ : ∃ d, cn = 48 + d := ⟨cn - 48, by omega⟩
           have hd : d ≤ 9 := by omega
           rw [show 48 + d - 48 = d by omega] at HST
           have hc48 : ¬ ((s[k]).toNat : Int) < 48 := by omega
           have hc57 : ¬ (57 : Int) < ((s[k]).toNat : Int) := by omega
           have HCI : Hid (((s[k]).toNat : Int) = 48 + (d : Int)) := Lib.hid (by omega)
           have hd9 : (d : Int) ≤ 9 := by omega
           have hd0 : (0 : Int) ≤ (d : Int) := by omega
           clear hcn h1 hb
           go_upto_region 10 with fail
           have es : ((s[k]).toNat : Int) - 48 = (d : Int) := by have := HCI.out; omega
           try simp only [es]
           clear es hc48 hc57
           have hdl : d ≤ lim := by omega
           obtain ⟨q, hq⟩ : ∃ q, (lim - d) / 10 = q := ⟨_, rfl⟩
           have HQD := Lib.hid hq
           have es2 : (lim : Int) - (d : Int) = ((lim - d : Nat) : Int) := by omega
           have es3 : ((lim - d : Nat) : Int) / 10 = (q : Int) := by omega
           have es4 : ((lim - d : Nat) : Int) < 18446744073709551616 := by omega
           have es5 : (0 : Int) ≤ ((lim - d : Nat) : Int) := by omega
           rw [hq] at HST
           clear hq
           by_cases h2 : q < acc
           · have HN : Hid (ro = (0, false)) := Lib.hid (by rw [← HRO.out, HST.out, if_pos (.inl h2)]; rfl)
             have h2i : (q : Int) < (acc : Int) := by omega
             go_wp2
             go_ret2
             exact ⟨by rw [HN.out]; rfl, rfl⟩
           · rw [if_neg (by omega)] at HST
             have h2i : (acc : Int) ≤ (q : Int) := by omega
             have h3i : ¬ (lim : Int) < (d : Int) := by omega
             have hnx : 10 * acc + d ≤ lim := by have := HQD.out; omega
             have hnx1 : 10 * (acc : Int) < 18446744073709551616 := by omega
             have hnx2 : 10 * (acc : Int) + (d : Int) < 18446744073709551616 := by omega
             go_wp2
             go_roundw
             case rel => exact ⟨k + 1, 10 * acc + d, by omega, by go_num, by congr 1, by rw [HST.out], hnx, trivial⟩
             case measure => simp [intOf]; omega
       · have HN : Hid (ro = ((acc : Int), true)) := Lib.hid (by
          rw [← HRO.out, ← HS.out, List.drop_eq_nil_of_le (by rw [tx_length]; omega)]
          rfl)
         go_wp2
         go_ret2
         exact ⟨by rw [HN.out]; rfl, rfl⟩
def numR (l : Tx) : Int := match rdD 2147483648 l with
 | some n => n
 | none => -1
theorem numR_dec {n : Nat} (h : n ≤ 1000000) : numR (dec n) = n := by
 unfold numR
 rw [rdD_dec _ _ (by omega) (by omega)]
def srcR (l : Tx) : Nat := match rdD 4294967295 l with
 | some n => n
 | none => 0
theorem srcR_dec {n : Nat} (h : n < 4294967296) : srcR (dec n) = n := by
 unfold srcR
 rw [rdD_dec _ _ (by omega) (by omega)]
theorem goD_le (lim : Nat) : ∀ (l : Tx) (acc n : Nat), acc ≤ lim → goD lim acc l = some n → n ≤ lim
 | [], acc, n, ha, h => by
   have : acc = n := by simpa [goD] using h
   omega
 | c :: r, acc, n, ha, h => by
   unfold goD at h
   split at h
   · cases h
   · split at h
     · cases h
     · next h1 h2 => exact goD_le lim r _ n (by omega) h
theorem rdD_le {lim n : Nat} {l : Tx} (h : rdD lim l = some n) : n ≤ lim := by
 unfold rdD at h
 split at h
 · cases h
 · exact goD_le lim l 0 n (by omega) h
theorem srcR_lt (l : Tx) : srcR l < 4294967296 := by
 unfold srcR
 cases h : rdD 4294967295 l with
 | none => decide
 | some n =>
   have := rdD_le h
   show n < _
   omega
set_option maxHeartbeats 800000 in
theorem rnumber_any (s : ByteArray) (w : World) (hs : s.size ≤ 281474976710656) : Calls Tryz.prog 49 #[.string s] w fun e w' => e = .returned (.int .i64 (numR (tx s))) ∧ w = w' := by
 have HC := Lib.hid (readDigits_any s 2147483648 w hs (by decide) (by decide))
 rw [show ((2147483648 : Nat) : Int) = 2147483648 from rfl] at HC
 obtain ⟨r, hr⟩ : ∃ r, numR (tx s) = r := ⟨_, rfl⟩
 cases h : rdD 2147483648 (tx s) with
 | none =>
   have HR : Hid (r = -1) := Lib.hid (by rw [← hr]; unfold numR; rw [h])
   rw [h] at HC
   rw [hr, HR.out]
   have HC : Hid (Calls Tryz.prog 50 #[.string s, .int .u64 2147483648] w fun e w' => e = .returned (.tuple #[.int .u64 0, .bool false]) ∧ w = w') := HC
   clear h hr
   go_enter Tryz.func49, Tryz.ntmps49
   go_wp2_with (go_at_call 50; (with_reducible refine HC.out.mono ?_); rintro e w1 ⟨rfl, rfl⟩)
   go_ret
   exact ⟨rfl, rfl⟩
 | some n =>
   have HR : Hid (r = n) := Lib.hid (by rw [← hr]; unfold numR; rw [h])
   have hn := rdD_le h
   have hni : (n : Int) < 9223372036854775808 := by omega
   rw [h] at HC
   rw [hr, HR.out]
   have HC : Hid (Calls Tryz.prog 50 #[.string s, .int .u64 2147483648] w fun e w' => e = .returned (.tuple #[.int .u64 (n : Int), .bool true]) ∧ w = w') := HC
   clear h hr
   go_enter Tryz.func49, Tryz.ntmps49
   go_wp2_with (go_at_call 50; (with_reducible refine HC.out.mono ?_); rintro e w1 ⟨rfl, rfl⟩)
   go_ret
   exact ⟨rfl, rfl⟩
theorem sameTexts_yes (v1 v2 : Value) (L : List ByteArray) (w : World) (h1 : TextsV w w.heap.size v1 L) (h2 : TextsV w w.heap.size v2 L) : Calls Tryz.prog 56 #[v1, v2] w fun e w' => e = .returned (.bool true) ∧ Below w.heap.size w w' := by
 obtain ⟨A1, c1, rfl, hc1, hm1, _⟩ := Rows.form h1
 obtain ⟨A2, c2, rfl, hc2, hm2, _⟩ := Rows.form h2
 have H1 := Lib.hid h1
 have H2 := Lib.hid h2
 obtain ⟨n, hn⟩ : ∃ n, L.length = n := ⟨_, rfl⟩
 have HN := Lib.hid hn
 rw [hn] at hc1 hc2 ⊢
 unfold maxLen at hm1 hm2
 clear hn h1 h2
 go_enter Tryz.func56, Tryz.ntmps56
 go_wp2
 go_loopw [13, 5] (fun s13 _ wr => ∃ k : Nat, k ≤ n ∧ s13 = .int .i64 k ∧ Below w.heap.size w wr) (fun s13 _ _ => n - (intOf s13).toNat)
 case atStart => exact ⟨0, Nat.zero_le _, rfl, Below.refl _ w⟩
 case round =>
  obtain ⟨k, hk, rfl, hb⟩ := hrel
  have HB := Lib.hid hb
  clear hb
  by_cases hlt : k < n
  · have hlt' : k < L.length := by rw [HN.out]; exact hlt
    obtain ⟨ad1, c1', e1, b1, x0⟩ := (H1.out.below HB.out).at_ hlt'
    obtain ⟨ad2, c2', e2, b2, y0⟩ := (H2.out.below HB.out).at_ hlt'
    injection e1 with e1 e1n e1c; clear e1n e1c
    injection e2 with e2 e2n e2c; clear e2n e2c
    subst e1 e2
    obtain ⟨a, ha⟩ : ∃ a, L.getD k default = a := ⟨_, rfl⟩
    rw [ha] at x0 y0
    have hk0 : (0 : Int) ≤ (k : Int) := by omega
    have hk1 : (k : Int) < (n : Int) := by omega
    clear ha hlt' b1 b2
    go_upto_region 6 with fail
    go_quiet (fail)
    go_wp2
    go_roundw
    case rel => exact ⟨k + 1, by omega, by go_num, below_drewN' HB.out _⟩
    case measure => simp [intOf]; omega
  · obtain rfl : k = n := by omega
    go_wp2
    go_ret
    exact ⟨rfl, HB.out⟩
def isL (c : UInt8) : Bool := decide (Lib.indexByte wLetters c ≠ -1)
def keyR (l : Tx) : Tx := if l.length = 40 ∧ l.all isL = true then decK l else List.replicate 30 0
theorem keyR_len (l : Tx) : (keyR l).length = 30 := by
 unfold keyR
 split
 · next h => exact decK_len 10 l (by omega)
 · simp
set_option maxRecDepth 100000 in
theorem letter_isL : ∀ v, v < 64 → isL (letter v) = true := by decide +kernel
set_option maxRecDepth 100000 in
theorem letter_idx : ∀ v, v < 64 → Lib.indexByte wLetters (letter v) = v := by decide +kernel
theorem encK_isL : ∀ (t : Nat) (k : Tx), k.length = 3 * t → (encK k).all isL = true
 | 0, k, h => by
   obtain rfl : k = [] := List.eq_nil_of_length_eq_zero (by omega)
   rfl
 | t + 1, k, h => by
   match k, h with
   | a :: b :: c :: r, h =>
     have := encK_isL t r (by simp at h; omega)
     have hn := num3_lt a b c
     show (enc3 a b c ++ encK r).all isL = true
     rw [List.all_append, this, Bool.and_true]
     show ([letter (num3 a b c / 262144), letter (num3 a b c / 4096 % 64), letter (num3 a b c / 64 % 64), letter (num3 a b c % 64)].all isL) = true
     simp only [List.all_cons, List.all_nil, letter_isL _ (show num3 a b c / 262144 < 64 by omega), letter_isL _ (show num3 a b c / 4096 % 64 < 64 by omega), letter_isL _ (show num3 a b c / 64 % 64 < 64 by omega), letter_isL _ (show num3 a b c % 64 < 64 by omega)]
     rfl
theorem keyR_enc {k : Tx} (h : k.length = 30) : keyR (encK k) = k := by
 unfold keyR
 rw [if_pos ⟨by rw [encK_len 10 k (by omega)], encK_isL 10 k (by omega)⟩, decK_encK 10 k (by omega)]
def fnd (c : UInt8) (j : Nat) : Int := if Lib.indexByte wLetters c < j then Lib.indexByte wLetters c else -1
theorem fnd_step (c : UInt8) (j : Nat) (h : j < 64) : fnd c (j + 1) = if letter j = c then (j : Int) else fnd c j := by
 have hge := Lib.indexByte_ge wLetters c
 unfold fnd
 by_cases e : letter j = c
 · rw [if_pos e]
   have := letter_idx j h
   rw [e] at this
   rw [this, if_pos (by omega)]
 · rw [if_neg e]
   by_cases h2 : Lib.indexByte wLetters c < (j : Int)
   · rw [if_pos h2, if_pos (by omega)]
   · rw [if_neg h2]
     by_cases h3 : Lib.indexByte wLetters c = (j : Int)
     · exfalso
       apply e
       obtain ⟨h4, -⟩ := Lib.indexByte_some h3
       unfold letter
       rw [List.getD_eq_getElem?_getD, h4]
       rfl
     · rw [if_neg (by omega)]
theorem fnd_zero (c : UInt8) : fnd c 0 = -1 := by
 have hge := Lib.indexByte_ge wLetters c
 unfold fnd
 split
 · omega
 · rfl
theorem fnd_all (c : UInt8) : fnd c 64 = if isL c = true then (sixP c : Int) else -1 := by
 have hge := Lib.indexByte_ge wLetters c
 have hlt := sixP_lt c
 unfold fnd isL
 unfold sixP at hlt ⊢
 by_cases h : Lib.indexByte wLetters c = -1
 · rw [h]
   rfl
 · rw [if_neg h] at hlt
   rw [if_pos (by omega), if_pos (by simpa using h), if_neg h]
   omega
theorem or6_w64 (x v : Nat) (hx : x < 262144) (hv : v < 64) : bits BinOp.or IntKind.i64 (wrap64 ((x : Int) * 64)) (v : Int) = ((x * 64 + v : Nat) : Int) := by
 rw [w64 (by omega) (by omega), show (x : Int) * 64 = ((x * 64 : Nat) : Int) by omega, i64_or_nat _ _ (by omega) (by omega)]
 have := nat_or x v 6 (by simpa using hv)
 rw [show (2 : Nat) ^ 6 = 64 by decide] at this
 rw [this]
theorem letL_at (v : Nat) (h : v < (⟨#[65, 66, 67, 68, 69, 70, 71, 72, 73, 74, 75, 76, 77, 78, 79, 80, 81, 82, 83, 84, 85, 86, 87, 88, 89, 90, 97, 98, 99, 100, 101, 102, 103, 104, 105, 106, 107, 108, 109, 110, 111, 112, 113, 114, 115, 116, 117, 118, 119, 120, 121, 122, 48, 49, 50, 51, 52, 53, 54, 55, 56, 57, 43, 47]⟩ : ByteArray).size) : (⟨#[65, 66, 67, 68, 69, 70, 71, 72, 73, 74, 75, 76, 77, 78, 79, 80, 81, 82, 83, 84, 85, 86, 87, 88, 89, 90, 97, 98, 99, 100, 101, 102, 103, 104, 105, 106, 107, 108, 109, 110, 111, 112, 113, 114, 115, 116, 117, 118, 119, 120, 121, 122, 48, 49, 50, 51, 52, 53, 54, 55, 56, 57, 43, 47]⟩ : ByteArray)[v]'h = letter v := letS_at v h
set_option maxHeartbeats 6400000 in
set_option maxRecDepth 100000 in
theorem unbase64_any (s : ByteArray) (w : World) (hs : s.size ≤ 281474976710656) : Calls Tryz.prog 51 #[.string s] w fun e w' => (∃ b, e = .returned (.tuple #[.agg (keyC (keyR (tx s))).toArray, .bool b])) ∧ Below w.heap.size w w' := by
 have hb0 : Below w.heap.size w ((w.alloc (.cells zKey 86)).alloc (.cells zKey 86)) := two_new _ _ _ _
 have hr := (Whole.new w 86 zKey).alloc (.cells zKey 86)
 have hk := Whole.new2 w (.cells zKey 86) 86 zKey
 obtain ⟨N, hN⟩ : ∃ N, w.heap.size = N := ⟨_, rfl⟩
 have HN := Lib.hid hN
 have H0 := Lib.hid (And.intro hb0 (And.intro hr hk))
 rw [hN] at H0
 clear hN hb0 hr hk
 obtain ⟨l, hl⟩ : ∃ l, tx s = l := ⟨_, rfl⟩
 have HTS := Lib.hid hl
 have hlen : l.length = s.size := by rw [← hl, tx_length]
 rw [hl]
 clear hl
 have HNO : Hid (∀ W, Below N w W → ¬ (l.length = 40 ∧ l.all isL = true) → (∃ b, Ending.returned (.tuple #[.agg zKey, .bool false]) = .returned (.tuple #[.agg (keyC (keyR l)).toArray, .bool b])) ∧ Below w.heap.size w (W.setRow N zKey)) := Lib.hid fun W hW hn =>
  ⟨⟨false, by unfold keyR; rw [if_neg hn]; rfl⟩, by rw [HN.out]; exact below_row hW (Nat.le_refl _) _⟩
 go_enter Tryz.func51, Tryz.ntmps51
 go_upto_region 2 with fail
 simp only [HN.out]
 generalize (w.alloc (.cells zKey 86)).alloc (.cells zKey 86) = W0 at *
 by_cases h40 : s.size = 40
 · have h40i : (s.size : Int) = 40 := by omega
   have HL : Hid (l.length = 40) := Lib.hid (by omega)
   clear hlen
   go_wp2
   go_loopw [5, 6, 7, 8, 9] (fun s5 _ _ _ _ wr => ∃ t : Nat, t ≤ 10 ∧ s5 = .int .i64 ((4 * t : Nat) : Int) ∧ ((l.take (4 * t)).all isL = true ∧ Below N w wr ∧ Whole wr N 86 zKey ∧ Whole wr (N + 1) 86 (keyC (decK (l.take (4 * t)) ++ List.replicate (30 - 3 * t) 0)).toArray)) (fun s5 _ _ _ _ _ => 40 - (intOf s5).toNat)
   case atStart => exact ⟨0, by omega, rfl, rfl, H0.out.1, H0.out.2.1, H0.out.2.2⟩
   case round =>
    obtain ⟨t, ht, rfl, hst⟩ := hrel
    have HS := Lib.hid hst
    clear hst
    by_cases hlt : t < 10
    · obtain ⟨i, hi⟩ : ∃ i, 4 * t = i := ⟨_, rfl⟩
      have HTI := Lib.hid hi
      rw [hi] at HS
      simp only [hi]
      have hi1 : (i : Int) < 40 := by omega
      have hi0 : (0 : Int) ≤ (i : Int) := by omega
      have hi36 : i ≤ 36 := by omega
      clear hi
      generalize wr = wo at *
      obtain ⟨AR, hAR⟩ : ∃ A, (keyC (decK (l.take i) ++ List.replicate (30 - 3 * t) 0)).toArray = A := ⟨_, rfl⟩
      have HAR := Lib.hid hAR
      rw [hAR] at HS
      clear hAR
      go_wp2
      go_loopw [18, 6, 7, 8, 9] (fun s18 s6 _ _ _ wq => ∃ p : Nat, p ≤ 4 ∧ s18 = .int .i64 p ∧ s6 = .int .i64 (pre4 ((l.drop i).take p) : Nat) ∧ (((l.drop i).take p).all isL = true ∧ (Below N w wq ∧ Whole wq N 86 zKey ∧ Whole wq (N + 1) 86 AR))) (fun s18 _ _ _ _ _ => 4 - (intOf s18).toNat)
      case atStart => exact ⟨0, by omega, rfl, rfl, rfl, HS.out.2⟩
      case round =>
       obtain ⟨p, hp, rfl, rfl, hst⟩ := hrel
       have HI := Lib.hid hst
       clear hst
       by_cases hlp : p < 4
       · obtain ⟨q, hq⟩ : ∃ q, i + p = q := ⟨_, rfl⟩
         have hip : q < s.size := by omega
         have hipi : (q : Int) < (s.size : Int) := by omega
         have hip0 : (0 : Int) ≤ (q : Int) := by omega
         have eiq : (i : Int) + (p : Int) = (q : Int) := by omega
         have hp0 : (p : Int) < 4 := by omega
         obtain ⟨c, hc⟩ : ∃ c, s[q] = c := ⟨_, rfl⟩
         have HCL : Hid ((l.drop i)[p]? = some c) := Lib.hid (by
          rw [List.getElem?_drop, hq, ← hc, ← HTS.out, List.getElem?_eq_getElem (by rw [tx_length]; exact hip)]
          rfl)
         obtain ⟨x, hx⟩ : ∃ x, pre4 ((l.drop i).take p) = x := ⟨_, rfl⟩
         simp only [hx]
         have HX := Lib.hid hx
         clear hx
         have HF0 := Lib.hid (fnd_zero c)
         go_wp2
         go_loopw [9, 8] (fun s9 s8 wz => ∃ j : Nat, j ≤ 64 ∧ s9 = .int .i64 j ∧ s8 = .int .i64 (fnd c j) ∧ (Below N w wz ∧ Whole wz N 86 zKey ∧ Whole wz (N + 1) 86 AR)) (fun s9 _ _ => 64 - (intOf s9).toNat)
         case atStart => exact ⟨0, by omega, rfl, by rw [HF0.out], HI.out.2⟩
         case round =>
          obtain ⟨j, hj, rfl, rfl, hq⟩ := hrel
          have HJ := Lib.hid hq
          clear hq
          by_cases hlj : j < 64
          · have hj0 : (0 : Int) ≤ (j : Int) := by omega
            have hj1 : (j : Int) < 64 := by omega
            have hjz : j < (⟨#[65, 66, 67, 68, 69, 70, 71, 72, 73, 74, 75, 76, 77, 78, 79, 80, 81, 82, 83, 84, 85, 86, 87, 88, 89, 90, 97, 98, 99, 100, 101, 102, 103, 104, 105, 106, 107, 108, 109, 110, 111, 112, 113, 114, 115, 116, 117, 118, 119, 120, 121, 122, 48, 49, 50, 51, 52, 53, 54, 55, 56, 57, 43, 47]⟩ : ByteArray).size := hlj
            have HST := Lib.hid (fnd_step c j hlj)
            by_cases heq : letter j = c
            · have hb : ((((⟨#[65, 66, 67, 68, 69, 70, 71, 72, 73, 74, 75, 76, 77, 78, 79, 80, 81, 82, 83, 84, 85, 86, 87, 88, 89, 90, 97, 98, 99, 100, 101, 102, 103, 104, 105, 106, 107, 108, 109, 110, 111, 112, 113, 114, 115, 116, 117, 118, 119, 120, 121, 122, 48, 49, 50, 51, 52, 53, 54, 55, 56, 57, 43, 47]⟩ : ByteArray)[j]'hjz).toNat : Int) == (c.toNat : Int)) = true := by rw [letL_at j hjz, heq]; simp
              have HS1 : Hid (fnd c (j + 1) = (j : Int)) := Lib.hid (by rw [HST.out, if_pos heq])
              clear heq
              go_upto_region 15 with fail
              go_quiet (fail)
              go_wp2
              go_roundw
              case rel => exact ⟨j + 1, by omega, by go_num, by rw [HS1.out], below_drewN' HJ.out.1 _, HJ.out.2.1, HJ.out.2.2⟩
              case measure => simp [intOf]; omega
            · have hb : ((((⟨#[65, 66, 67, 68, 69, 70, 71, 72, 73, 74, 75, 76, 77, 78, 79, 80, 81, 82, 83, 84, 85, 86, 87, 88, 89, 90, 97, 98, 99, 100, 101, 102, 103, 104, 105, 106, 107, 108, 109, 110, 111, 112, 113, 114, 115, 116, 117, 118, 119, 120, 121, 122, 48, 49, 50, 51, 52, 53, 54, 55, 56, 57, 43, 47]⟩ : ByteArray)[j]'hjz).toNat : Int) == (c.toNat : Int)) = false := by
               rw [letL_at j hjz, beq_eq_false_iff_ne]
               intro h
               exact heq (UInt8.toNat_inj.1 (by omega))
              have HS1 : Hid (fnd c (j + 1) = fnd c j) := Lib.hid (by rw [HST.out, if_neg heq])
              clear heq
              go_upto_region 15 with fail
              go_quiet (fail)
              go_wp2
              go_roundw
              case rel => exact ⟨j + 1, by omega, by go_num, by rw [HS1.out], below_drewN' HJ.out.1 _, HJ.out.2.1, HJ.out.2.2⟩
              case measure => simp [intOf]; omega
          · have e : j = 64 := by omega
            subst e
            have hfa := fnd_all c
            cases hl2 : isL c with
            | false =>
              rw [hl2, if_neg (by decide)] at hfa
              rw [hfa]
              have HFIN := Lib.hid (HNO.out wr HJ.out.1 (fun h => by
               have h1 := List.all_eq_true.1 h.2 c (List.mem_of_mem_drop (List.mem_iff_getElem?.2 ⟨p, HCL.out⟩))
               rw [hl2] at h1
               cases h1))
              clear hfa hl2
              go_wp2_with (first
               | ((with_reducible refine wpList_storeS zKey ?_ 86 (.tmp 2) (.tmp 36) ?_ ?_ ?_ HJ.out.2.1 Tryz.sizeKey ?_ ?_ ?_ ?_); (with_reducible rfl); (with_reducible rfl); rfl; rfl; rfl; rfl; rfl)
               | ((with_reducible show bodyPost _ _ _ _ _ _); exact bodyPost_ret (v := .tuple #[.agg zKey, .bool false]) (ret_struct2 (p := 2) (s := 3) rfl rfl (HJ.out.2.1.row _) Tryz.underlying86 rfl Tryz.sizeKey rfl) rfl HFIN.out))
            | true =>
              rw [hl2, if_pos rfl] at hfa
              rw [hfa]
              have HTK : Hid ((l.drop i).take (p + 1) = (l.drop i).take p ++ [c]) := Lib.hid (by rw [List.take_add_one, HCL.out]; rfl)
              have HAL : Hid (((l.drop i).take (p + 1)).all isL = true) := Lib.hid (by rw [HTK.out, List.all_append, HI.out.1]; simp [hl2])
              have HPX : Hid (pre4 ((l.drop i).take (p + 1)) = x * 64 + sixP c) := Lib.hid (by rw [HTK.out, pre4_snoc, HX.out])
              have HXL : Hid (x < 262144) := Lib.hid (by
               rw [← HX.out]
               have h1 := pre4_lt ((l.drop i).take p)
               have h2 : 64 ^ ((l.drop i).take p).length ≤ 64 ^ 3 := Nat.pow_le_pow_right (by decide) (by have := List.length_take_le p (l.drop i); omega)
               have h3 : (64 : Nat) ^ 3 = 262144 := by decide
               omega)
              have hx6 := sixP_lt c
              obtain ⟨v, hv⟩ : ∃ v, sixP c = v := ⟨_, rfl⟩
              rw [hv] at hx6 HPX ⊢
              have hv0 : (0 : Int) ≤ (v : Int) := by omega
              clear hfa hl2 hv
              have HV6 := Lib.hid hx6
              go_wp2
              go_roundw
              case rel => exact ⟨p + 1, by omega, by go_num, by rw [or6_w64 x v HXL.out HV6.out, HPX.out], HAL.out, HJ.out⟩
              case measure => simp [intOf]; omega
       · have e : p = 4 := by omega
         subst e
         obtain ⟨a, b, c, d, habcd⟩ : ∃ a b c d : UInt8, (l.drop i).take 4 = [a, b, c, d] := by
          have h4 : ((l.drop i).take 4).length = 4 := by rw [List.length_take, List.length_drop, HL.out]; omega
          match (l.drop i).take 4, h4 with
          | [a, b, c, d], _ => exact ⟨a, b, c, d, rfl⟩
         have HD : Hid (decK (l.take (4 * (t + 1))) = decK (l.take i) ++ dec4 a b c d) := Lib.hid (by
          rw [show 4 * (t + 1) = i + 4 by have := HTI.out; omega, List.take_add, habcd, decK_snoc a b c d t _ (by rw [List.length_take, HL.out]; have := HTI.out; omega)])
         have HAL : Hid ((l.take (4 * (t + 1))).all isL = true) := Lib.hid (by
          rw [show 4 * (t + 1) = i + 4 by have := HTI.out; omega, List.take_add, List.all_append, HS.out.1, HI.out.1]
          rfl)
         have HN4 : Hid (pre4 [a, b, c, d] = num4 a b c d) := Lib.hid (by
          unfold pre4 num4
          simp)
         rw [habcd, HN4.out]
         have HLT := Lib.hid (num4_lt a b c d)
         have HD4 : Hid (dec4 a b c d = [UInt8.ofNat (num4 a b c d / 65536), UInt8.ofNat (num4 a b c d / 256), UInt8.ofNat (num4 a b c d)]) := Lib.hid rfl
         obtain ⟨n, hn⟩ : ∃ n, num4 a b c d = n := ⟨_, rfl⟩
         simp only [hn] at HLT HD4 ⊢
         clear habcd hn HN4
         have hn0 := HLT.out
         obtain ⟨A, hA⟩ : ∃ A, decK (l.take i) = A := ⟨_, rfl⟩
         obtain ⟨m, hm⟩ : ∃ m, 3 * t = m := ⟨_, rfl⟩
         have HAL3 : Hid (A.length = m) := Lib.hid (by rw [← hA, ← hm, decK_len t _ (by rw [List.length_take, HL.out]; have := HTI.out; omega)])
         rw [hA] at HD HAR
         obtain ⟨k, hk⟩ : ∃ k, 30 - 3 * t = k + 3 := ⟨27 - 3 * t, by omega⟩
         have HS4 : Hid (Whole wr (N + 1) 86 (keyC (A ++ List.replicate (k + 3) 0)).toArray) := Lib.hid (by have := HI.out.2.2.2; rw [← HAR.out, hk] at this; exact this)
         have HK : Hid (30 - 3 * (t + 1) = k) := Lib.hid (by omega)
         have hz : ∀ j, j < 3 → (keyC (A ++ List.replicate (k + 3) 0)).toArray[m + j]? = some (.int .u8 0) := fun j hj => by
          rw [List.getElem?_toArray]
          unfold keyC
          rw [List.getElem?_map, List.getElem?_append_right (by rw [HAL3.out]; omega), HAL3.out, List.getElem?_replicate, if_pos (by omega)]
          rfl
         have d0 : wr.cell? ⟨N + 1, m, none⟩ = some (.int .u8 0) := (HS4.out.cell m).trans (hz 0 (by decide))
         have d1 : wr.cell? ⟨N + 1, m + 1, none⟩ = some (.int .u8 0) := (HS4.out.cell (m + 1)).trans (hz 1 (by decide))
         have d2 : wr.cell? ⟨N + 1, m + 2, none⟩ = some (.int .u8 0) := (HS4.out.cell (m + 2)).trans (hz 2 (by decide))
         have fz := HS4.out.frz
         have hit : (i : Int) / 4 = (t : Int) := by have := HTI.out; omega
         have htm : (t : Int) * 3 = (m : Int) := by omega
         have hm30 : (m : Int) < 30 := by omega
         have hm0 : (0 : Int) ≤ (m : Int) := by omega
         have e1 : IntKind.i64.wrap ((m : Int) + 1) = ((m + 1 : Nat) : Int) := (IntWalk.i64_in _ (by omega)).trans (by omega)
         have e2 : IntKind.i64.wrap ((m : Int) + 2) = ((m + 2 : Nat) : Int) := (IntWalk.i64_in _ (by omega)).trans (by omega)
         have b1 : ((m + 1 : Nat) : Int) < 30 := by omega
         have b2 : ((m + 2 : Nat) : Int) < 30 := by omega
         have b3 : (0 : Int) ≤ ((m + 1 : Nat) : Int) := by omega
         have b4 : (0 : Int) ≤ ((m + 2 : Nat) : Int) := by omega
         clear hz hA hk hm
         have HV : Hid ((n : Int) / 65536 = ((UInt8.ofNat (n / 65536)).toNat : Int) ∧ (n : Int) / 256 % 256 = ((UInt8.ofNat (n / 256)).toNat : Int) ∧ (n : Int) % 256 = ((UInt8.ofNat n).toNat : Int)) := Lib.hid (by
          simp only [UInt8.toNat_ofNat']
          omega)
         have HKS := Lib.hid (key_set A k (UInt8.ofNat (n / 65536)) (UInt8.ofNat (n / 256)) (UInt8.ofNat n))
         go_wp2
         go_roundw
         case rel =>
          refine ⟨t + 1, by omega, by have := HTI.out; go_num, HAL.out, ?_, ?_, ?_⟩
          · exact ((HI.out.2.1.setCell (p := ⟨N + 1, m, none⟩) (Nat.le_succ N) _).setCell (p := ⟨N + 1, m + 1, none⟩) (Nat.le_succ N) _).setCell (p := ⟨N + 1, m + 2, none⟩) (Nat.le_succ N) _
          · exact ((HI.out.2.2.1.far (p := ⟨N + 1, m, none⟩) (Nat.ne_of_lt (Nat.lt_succ_self N)) _).far (p := ⟨N + 1, m + 1, none⟩) (Nat.ne_of_lt (Nat.lt_succ_self N)) _).far (p := ⟨N + 1, m + 2, none⟩) (Nat.ne_of_lt (Nat.lt_succ_self N)) _
          · have h3 := ((HS4.out.set m (.int .u8 ((n : Int) / 65536))).set (m + 1) (.int .u8 ((n : Int) / 256 % 256))).set (m + 2) (.int .u8 ((n : Int) % 256))
            rw [HD.out, HD4.out, HK.out]
            have h4 := HKS.out
            rw [HAL3.out, ← HV.out.1, ← HV.out.2.1, ← HV.out.2.2] at h4
            rw [h4] at h3
            exact h3
         case measure => simp [intOf]; omega
    · have e : t = 10 := by omega
      subst e
      have HTL : Hid (l.take (4 * 10) = l) := Lib.hid (List.take_of_length_le (by rw [HL.out]; decide))
      have HA : Hid ((keyC (decK (l.take (4 * 10)) ++ List.replicate (30 - 3 * 10) 0)).toArray = (keyC (keyR l)).toArray) := Lib.hid (by
       have h1 := HS.out.1
       rw [HTL.out] at h1 ⊢
       unfold keyR
       rw [if_pos ⟨HL.out, h1⟩]
       simp)
      have HF : Hid (Whole wr (N + 1) 86 (keyC (keyR l)).toArray) := Lib.hid (by rw [← HA.out]; exact HS.out.2.2.2)
      obtain ⟨X, hX⟩ : ∃ X, (keyC (keyR l)).toArray = X := ⟨_, rfl⟩
      have HX : Hid (X.size = 30 ∧ X.toList.all (·.oneCell') = true) := Lib.hid (by
       rw [← hX]
       refine ⟨by simp [keyC, keyR_len], ?_⟩
       rw [List.all_eq_true]
       intro v hv
       simp only [keyC, List.mem_map] at hv
       obtain ⟨_, _, rfl⟩ := hv
       rfl)
      rw [hX] at HF
      have HXE := Lib.hid hX
      clear hX
      have HFIN : Hid ((∃ b, Ending.returned (.tuple #[.agg X, .bool true]) = .returned (.tuple #[.agg (keyC (keyR l)).toArray, .bool b])) ∧ Below w.heap.size w (wr.setRow N X)) := Lib.hid ⟨⟨true, by rw [HXE.out]⟩, by rw [HN.out]; exact below_row HS.out.2.1 (Nat.le_refl _) _⟩
      go_wp2_with (first
       | ((with_reducible refine wpList_load_all ?_ 86 (.tmp 4) ?_ HF.out ?_ Tryz.sizeKey HX.out.1 Tryz.underlying86 ?_ ?_); (with_reducible rfl); (with_reducible rfl); rfl; rfl)
       | ((with_reducible refine wpList_storeS X ?_ 86 (.tmp 2) (.tmp 64) ?_ ?_ ?_ HS.out.2.2.1 Tryz.sizeKey HX.out.1 ?_ HX.out.2 ?_); (with_reducible rfl); (with_reducible rfl); rfl; rfl; rfl)
       | ((with_reducible show bodyPost _ _ _ _ _ _); exact bodyPost_ret (v := .tuple #[.agg X, .bool true]) (ret_struct2 (p := 2) (s := 3) rfl rfl (HS.out.2.2.1.row _) Tryz.underlying86 rfl Tryz.sizeKey HX.out.1) rfl HFIN.out))
 · have hne : ¬ (s.size : Int) = 40 := by omega
   have HFIN := Lib.hid (HNO.out W0 H0.out.1 (fun h => h40 (by rw [← hlen]; exact h.1)))
   go_wp2_with (first
    | ((with_reducible refine wpList_load_all ?_ 86 (.tmp 4) ?_ H0.out.2.2 ?_ Tryz.sizeKey ?_ Tryz.underlying86 ?_ ?_); (with_reducible rfl); (with_reducible rfl); rfl; rfl; rfl)
    | ((with_reducible refine wpList_storeS zKey ?_ 86 (.tmp 2) (.tmp 13) ?_ ?_ ?_ H0.out.2.1 Tryz.sizeKey ?_ ?_ ?_ ?_); (with_reducible rfl); (with_reducible rfl); rfl; rfl; rfl; rfl; rfl)
    | ((with_reducible show bodyPost _ _ _ _ _ _); exact bodyPost_ret (v := .tuple #[.agg zKey, .bool false]) (ret_struct2 (p := 2) (s := 3) rfl rfl (H0.out.2.1.row _) Tryz.underlying86 rfl Tryz.sizeKey rfl) rfl HFIN.out))
end Go.Proofs.YtbbedhecfipdjaaGreatDoor
namespace Go.Proofs.YtbbedhecfipdjaaGreatDoor
set_option linter.unusedVariables false
set_option linter.unusedSimpArgs false
def cryR (l : Tx) : CryptoS := ⟨numR (hd l), keyR (cutS [58] (tl l)).2.1⟩
def rR : Rdr := ⟨numR, srcR, cryR, id⟩
theorem rR_law : rR.Law where
 num n h := numR_dec h
 src n h := srcR_dec h
 cry c h1 h9 hk := by
  have e1 : hd (cryptoT c) = decI c.tag := hd_at _ _ (decI_32 _)
  have e2 : tl (cryptoT c) = (wSuite ++ 32 :: [105, 110, 108, 105, 110, 101]) ++ 58 :: encK c.key := by
   rw [show (wSuite ++ 32 :: [105, 110, 108, 105, 110, 101]) ++ 58 :: encK c.key = wSuite ++ 32 :: (wInl ++ encK c.key) by rfl]
   exact tl_at (decI c.tag) (wSuite ++ 32 :: (wInl ++ encK c.key)) (decI_32 _)
  have e3 : (cutS [58] (tl (cryptoT c))).2.1 = encK c.key := by
   rw [e2, cut_at _ _ (by decide)]
  have e4 : numR (decI c.tag) = c.tag := by
   unfold decI
   rw [numR_dec (by omega)]
   omega
  show cryR (cryptoT c) = c
  unfold cryR
  rw [e1, e3, keyR_enc hk, e4]
 still := rfl
end Go.Proofs.YtbbedhecfipdjaaGreatDoor
namespace Go.Proofs.YtbbedhecfipdjaaGreatDoor
open Go.RowKit
set_option linter.unusedVariables false
set_option linter.unusedSimpArgs false
abbrev kArr : Array Value := #[.string ⟨#[109, 105, 100]⟩, .string ⟨#[105, 110, 97, 99, 116, 105, 118, 101]⟩, .string ⟨#[115, 101, 110, 100, 111, 110, 108, 121]⟩, .string ⟨#[114, 101, 99, 118, 111, 110, 108, 121]⟩, .string ⟨#[115, 101, 110, 100, 114, 101, 99, 118]⟩, .string ⟨#[114, 116, 112, 109, 97, 112]⟩, .string ⟨#[102, 109, 116, 112]⟩, .string ⟨#[114, 116, 99, 112, 45, 102, 98]⟩, .string ⟨#[101, 120, 116, 109, 97, 112]⟩, .string ⟨#[114, 105, 100]⟩, .string ⟨#[115, 105, 109, 117, 108, 99, 97, 115, 116]⟩, .string ⟨#[115, 115, 114, 99]⟩, .string ⟨#[99, 114, 121, 112, 116, 111]⟩, .string ⟨#[115, 99, 116, 112, 45, 112, 111, 114, 116]⟩]
theorem kArr_eq : kArr = (knownN.map fun l => Value.string (bs l)).toArray := rfl
theorem kArr_at (k : Nat) (h : k < 14) : kArr[k]? = some (.string (bs (knownN.getD k []))) := by
 rw [kArr_eq, List.getElem?_toArray, List.getElem?_map, List.getD_eq_getElem?_getD, List.getElem?_eq_getElem (show k < knownN.length from h)]
 rfl
set_option maxHeartbeats 1600000 in
set_option maxRecDepth 100000 in
theorem known_any (s : ByteArray) (w : World) : Calls Tryz.prog 25 #[.string s] w fun e w' => e = .returned (.bool (knownN.contains (tx s))) ∧ Below w.heap.size w w' := by
 have hb0 : Below w.heap.size w (w.alloc (.cells kArr 9)) := (Below.refl _ w).alloc (Nat.le_refl _) _
 have H0 := Lib.hid (And.intro hb0 (Whole.new w 9 kArr))
 clear hb0
 obtain ⟨r, hr⟩ : ∃ r, knownN.contains (tx s) = r := ⟨_, rfl⟩
 have HR := Lib.hid hr
 rw [hr]
 clear hr
 go_enter Tryz.func25, Tryz.ntmps25
 go_upto_region 2 with fail
 generalize w.alloc (.cells kArr 9) = W0 at *
 generalize hN : w.heap.size = N at *
 go_wp2
 go_loopw [8, 4] (fun s8 _ wr => ∃ k : Nat, k ≤ 14 ∧ s8 = .int .i64 k ∧ ((∀ j, j < k → knownN.getD j [] ≠ tx s) ∧ W0 = wr)) (fun s8 _ _ => 14 - (intOf s8).toNat)
 case atStart => exact ⟨0, by omega, rfl, (fun j hj => by omega), rfl⟩
 case round =>
  obtain ⟨k, hk, rfl, hst, rfl⟩ := hrel
  have HS := Lib.hid hst
  clear hst
  by_cases hlt : k < 14
  · have c0 : W0.cell? ⟨N, k, none⟩ = some (.string (bs (knownN.getD k []))) := (H0.out.2.cell k).trans (kArr_at k hlt)
    have HM : Hid (knownN.getD k [] ∈ knownN) := Lib.hid (by
     rw [List.getD_eq_getElem?_getD, List.getElem?_eq_getElem (show k < knownN.length from hlt)]
     exact List.getElem_mem _)
    obtain ⟨nm, hnm⟩ : ∃ a, bs (knownN.getD k []) = a := ⟨_, rfl⟩
    rw [hnm] at c0
    have HNM : Hid (tx nm = knownN.getD k []) := Lib.hid (by rw [← hnm, tx_bs])
    clear hnm
    have hk0 : (0 : Int) ≤ (k : Int) := by omega
    have hk1 : (k : Int) < 14 := by omega
    by_cases heq : nm = s
    · have HQ : Hid (r = true) := Lib.hid (by
       rw [← HR.out, List.contains_iff_mem]
       have := HM.out
       rw [← HNM.out, heq] at this
       exact this)
      subst heq
      go_wp2
      go_ret
      exact ⟨by rw [HQ.out]; rfl, by rw [hN]; exact H0.out.1⟩
    · have hq : (nm.toList == s.toList) = false := by
       rw [beq_eq_false_iff_ne, toList_tx, toList_tx]
       exact fun h => heq (tx_inj h)
      have HNX : Hid (∀ j, j < k + 1 → knownN.getD j [] ≠ tx s) := Lib.hid fun j hj => by
       by_cases e : j = k
       · subst e
         rw [← HNM.out]
         exact fun h => heq (tx_inj h)
       · exact HS.out j (by omega)
      clear heq
      go_wp2
      go_roundw
      case rel => exact ⟨k + 1, by omega, by go_num, HNX.out, trivial⟩
      case measure => simp [intOf]; omega
  · have HQ : Hid (r = false) := Lib.hid (by
     rw [← HR.out, ← Bool.not_eq_true, List.contains_iff_mem]
     intro h
     obtain ⟨j, hj⟩ := List.mem_iff_getElem?.1 h
     have hj14 : j < 14 := (List.getElem?_eq_some_iff.1 hj).1
     refine HS.out j (by omega) ?_
     rw [List.getD_eq_getElem?_getD, hj]
     rfl)
    go_wp2
    go_ret
    exact ⟨by rw [HQ.out]; rfl, by rw [hN]; exact H0.out.1⟩
structure RX (w0 : World) (P : Array Value) (ln cn : ByteArray) (L : List AttrS) (W : World) : Prop where
 low : Below w0.heap.size w0 W
 part : Whole W w0.heap.size 32 P
 res : Whole W (w0.heap.size + 1) 28 zeroM
 bare : ∃ vb, Whole W (w0.heap.size + 2) 32 #[.string ln, .string cn, vb] ∧ Own W w0.heap.size 55 2 vb (L.map acell)
def RRI (w0 : World) (P : Array Value) (ln cn : ByteArray) (m0 : MediaS) (L : List AttrS) (W : World) : Prop := RX w0 P ln cn L W ∧ L.length ≤ 64 ∧ ∃ cs vC vE vR vS vY, MW w0.heap.size (w0.heap.size + 3) L.length W (L.foldl (rd rR) m0) cs vC vE vR vS vY
section
variable {w0 W W' : World} {P : Array Value} {ln cn : ByteArray} {L : List AttrS} {m0 : MediaS}
theorem RX.under (h : RX w0 P ln cn L W) (hb : Below W.heap.size W W') : RX w0 P ln cn L W' := by
 obtain ⟨vb, h1, h2⟩ := h.bare
 exact ⟨h.low.trans (hb.mono h.low.size), h.part.under hb, h.res.under hb, vb, h1.under hb, h2.under hb⟩
theorem RX.rdt (h : RX w0 P ln cn L W) (hr : Rdt w0.heap.size (w0.heap.size + 3) W W') {X : Array Value} (hbx : Whole W (w0.heap.size + 3) 28 X) : RX w0 P ln cn L W' := by
 obtain ⟨vb, h1, h2⟩ := h.bare
 refine ⟨h.low.trans hr.low, ?_, ?_, vb, ?_, ?_⟩
 · exact hr.kept _ _ _ h.part (by decide) (by decide) (by decide) (by decide) (by decide) (by omega)
 · exact hr.kept _ _ _ h.res (by decide) (by decide) (by decide) (by decide) (by decide) (by omega)
 · exact hr.kept _ _ _ h1 (by decide) (by decide) (by decide) (by decide) (by decide) (by omega)
 · exact h2.keep fun g cs hg hw => hr.kept _ _ _ hw (by decide) (by decide) (by decide) (by decide) (by decide) (fun e => h2.apart hbx (by decide) (by rw [hg, e]))
theorem RRI.next {a : AttrS} (hx : RX w0 P ln cn (L ++ [a]) W) (hl : L.length < 64) {m' : MediaS} (hm : rd rR (L.foldl (rd rR) m0) a = m') {n : Nat} (hn : n ≤ L.length + 1) {X : Array Value} (hbx : Whole W (w0.heap.size + 3) 28 X)
 (hr : (∃ cs vC vE vR vS vY, MW w0.heap.size (w0.heap.size + 3) n W' m' cs vC vE vR vS vY) ∧ Rdt w0.heap.size (w0.heap.size + 3) W W') : RRI w0 P ln cn m0 (L ++ [a]) W' := by
 obtain ⟨⟨cs, vC, vE, vR, vS, vY, hM⟩, hR⟩ := hr
 refine ⟨hx.rdt hR hbx, by rw [List.length_append, List.length_singleton]; omega, cs, vC, vE, vR, vS, vY, ?_⟩
 rw [List.foldl_append, List.length_append]
 show MW _ _ _ _ (rd rR (L.foldl (rd rR) m0) a) _ _ _ _ _ _
 rw [hm]
 exact hM.wider hn
theorem RRI.under (h : RRI w0 P ln cn m0 L W) (hb : Below W.heap.size W W') : RRI w0 P ln cn m0 L W' := by
 obtain ⟨h1, h2, cs, vC, vE, vR, vS, vY, hM⟩ := h
 exact ⟨h1.under hb, h2, cs, vC, vE, vR, vS, vY, hM.under hb⟩
theorem RX.laid {vb v' : Value} {a : AttrS} (h : RX w0 P ln cn L W) (h1 : Whole W (w0.heap.size + 2) 32 #[.string ln, .string cn, vb]) (h2 : Own W w0.heap.size 55 2 vb (L.map acell)) (ho : Own W' w0.heap.size 55 2 v' (L.map acell ++ [acell a])) (hg : W.grownBy W' vb.ownBlock) :
 RX w0 P ln cn (L ++ [a]) (W'.setCell ⟨w0.heap.size + 2, 2, none⟩ v') ∧ Whole W' (w0.heap.size + 2) 32 #[.string ln, .string cn, vb] ∧
 (∀ g t cs, t ≠ 55 → t ≠ 32 → Whole W g t cs → Whole (W'.setCell ⟨w0.heap.size + 2, 2, none⟩ v') g t cs) := by
 have hk : ∀ g t cs, t ≠ 55 → Whole W g t cs → Whole W' g t cs := fun g t cs ht hw => hw.grown hg (fun e => (h2.apart hw (fun e2 => ht e2.symm)) e.symm)
 have hb2 := hk _ _ _ (by decide) h1
 refine ⟨⟨(h.low.grown hg h.low.size (fun j hj => (h2.lt hj).1)).setCell (p := ⟨w0.heap.size + 2, 2, none⟩) (by show w0.heap.size ≤ w0.heap.size + 2; omega) _, (hk _ _ _ (by decide) h.part).far (p := ⟨w0.heap.size + 2, 2, none⟩) (by show w0.heap.size ≠ w0.heap.size + 2; omega) _, (hk _ _ _ (by decide) h.res).far (p := ⟨w0.heap.size + 2, 2, none⟩) (by show w0.heap.size + 1 ≠ w0.heap.size + 2; omega) _, v', hb2.set 2 v', ?_⟩, hb2, fun g t cs h1 h2 hw => (hk g t cs h1 hw).far (p := ⟨w0.heap.size + 2, 2, none⟩) ((hk g t cs h1 hw).ne hb2 h2) _⟩
 rw [List.map_append]
 exact ho.far (p := ⟨w0.heap.size + 2, 2, none⟩) (ho.apart hb2 (by decide)) _
end
theorem Whole.there30 {W : World} {g : Nat} {t : TypeId} {Z : Array Value} (h : Whole W g t Z) (hs : Z.size = 31) : W.there g 1 30 := fun j hj => ⟨by
 rw [h.cell, Array.getElem?_eq_getElem (by omega : 1 + j < Z.size)]; rfl, h.frz _⟩
theorem setCells_puts (g : Nat) : ∀ (L : List Value) (i : Nat) (W : World), W.setCells g i L = puts W g L i
 | [], _, _ => rfl
 | u :: r, i, W => by rw [World.setCells, puts, setCells_puts g r]
set_option maxHeartbeats 0 in
set_option maxRecDepth 100000 in
theorem cry_put0 : ∀ (k0 k1 k2 k3 k4 k5 k6 k7 k8 k9 k10 k11 k12 k13 k14 k15 k16 k17 k18 k19 k20 k21 k22 k23 k24 k25 k26 k27 k28 k29 : UInt8) (z : Int), putsA (#[.int .i64 z] ++ zKey) (keyC [k0, k1, k2, k3, k4, k5, k6, k7, k8, k9, k10, k11, k12, k13, k14, k15, k16, k17, k18, k19, k20, k21, k22, k23, k24, k25, k26, k27, k28, k29]) 1 = (cryC ⟨z, [k0, k1, k2, k3, k4, k5, k6, k7, k8, k9, k10, k11, k12, k13, k14, k15, k16, k17, k18, k19, k20, k21, k22, k23, k24, k25, k26, k27, k28, k29]⟩).toArray := by intros; kernel_rfl
theorem cry_put (z : Int) (k : Tx) (h : k.length = 30) : putsA (#[.int .i64 z] ++ zKey) (keyC k) 1 = (cryC ⟨z, k⟩).toArray := by
 match k, h with
 | [k0, k1, k2, k3, k4, k5, k6, k7, k8, k9, k10, k11, k12, k13, k14, k15, k16, k17, k18, k19, k20, k21, k22, k23, k24, k25, k26, k27, k28, k29], _ => exact cry_put0 k0 k1 k2 k3 k4 k5 k6 k7 k8 k9 k10 k11 k12 k13 k14 k15 k16 k17 k18 k19 k20 k21 k22 k23 k24 k25 k26 k27 k28 k29 z
theorem cry_stored {W : World} {g : Nat} {t : TypeId} {z : Int} {k : Tx} (h : Whole W g t (#[.int .i64 z] ++ zKey)) (hk : k.length = 30) : Whole (W.setCells g 1 (keyC k)) g t (cryC ⟨z, k⟩).toArray := by
 rw [setCells_puts, ← cry_put z k hk]
 exact puts_same (keyC k) 1 W _ h
theorem wpList_buildOneR {ops : Array Oper} {rest : List Oper} {op : Oper} {a : Act} {w : World} {Q : Exit → Act → World → Prop} (hgd : op.guard = none) {t : TypeId} {i : Nat} {x : Operand} (ho : op.op = .build t #[(i, x)]) {u v : Value} (hx : a.eval x = u) (hr : (Instr.build t #[(i, u)]).run Tryz.prog w = .ok v w)
 (h : wpList Tryz.prog ops Q rest (a.put op.dst v) w) : wpList Tryz.prog ops Q (op :: rest) a w :=
 Go.Great.wpList_runTo hgd op.dst rfl v w (by
  unfold execOp
  simp only [ho, Sem.run_bind, List.map_toArray, List.map_cons, List.map_nil, hx, hr, Result.andThen_ok, Sem.run_pure]) h
theorem wpList_allocR {ops : Array Oper} {rest : List Oper} {op : Oper} {a : Act} {w : World} {Q : Exit → Act → World → Prop} (hgd : op.guard = none) {t : TypeId} (ho : op.op = .alloc t) {v : Value} {w' : World} (hr : (Instr.alloc t true (.tuple #[])).run Tryz.prog w = .ok v w')
 (h : wpList Tryz.prog ops Q rest (a.put op.dst v) w') : wpList Tryz.prog ops Q (op :: rest) a w :=
 Go.Great.wpList_runTo hgd op.dst rfl v w' (by
  unfold execOp
  simp only [ho, Sem.run_bind, hr, Result.andThen_ok, Sem.run_pure]) h
theorem alloc_cry (W : World) : (Instr.alloc 88 true (.tuple #[])).run Tryz.prog W = .ok (.pointer (some ⟨W.heap.size, 0, none⟩)) (W.alloc (.cells (#[.int .i64 0] ++ zKey) 88)) := by kernel_rfl
theorem built_cry1 : ∀ z : Int, Tryz.prog.built 88 [(0, .int .i64 z)] = some (#[.int .i64 z] ++ zKey) := by intros; kernel_rfl
theorem build_cry1 (z : Int) (w : World) : (Instr.build 88 #[(0, .int .i64 z)]).run Tryz.prog w = .ok (.agg (#[.int .i64 z] ++ zKey)) w := run_build w 88 _ _ (built_cry1 z)
theorem zcry_size : ∀ z : Int, ((#[.int .i64 z] : Array Value) ++ zKey).size = 31 := by intros; kernel_rfl
theorem zcry_one : ∀ z : Int, ((#[.int .i64 z] : Array Value) ++ zKey).toList.all (·.oneCell') = true := by intros; kernel_rfl
theorem zcry_letter : ∃ Z : Array Value, (∀ W : World, (Instr.alloc 88 true (.tuple #[])).run Tryz.prog W = .ok (.pointer (some ⟨W.heap.size, 0, none⟩)) (W.alloc (.cells Z 88))) ∧ Z.size = 31 := ⟨_, alloc_cry, zcry_size 0⟩
theorem zcry_letter1 (z : Int) : ∃ Z : Array Value, (∀ W : World, (Instr.build 88 #[(0, .int .i64 z)]).run Tryz.prog W = .ok (.agg Z) W) ∧ Z.size = 31 ∧ Z.toList.all (·.oneCell') = true ∧ ∀ (W : World) (g : Nat) (t : TypeId) (k : Tx), Whole W g t Z → k.length = 30 → Whole (W.setCells g 1 (keyC k)) g t (cryC ⟨z, k⟩).toArray :=
 ⟨_, build_cry1 z, zcry_size z, zcry_one z, fun W g t k h hk => cry_stored h hk⟩
theorem fill_codec : ∀ (z1 z2 ch : Int) (n1 : ByteArray), Instr.fill (fun i => some (i * 6, 6)) ((Array.range (1 * 6)).map ((Value.agg #[.int .i64 0, .string ⟨#[]⟩, .int .i64 0, .int .i64 0, .string ⟨#[]⟩, .slice none 0 0]).cells[· % (Value.agg #[.int .i64 0, .string ⟨#[]⟩, .int .i64 0, .int .i64 0, .string ⟨#[]⟩, .slice none 0 0]).cells.size]!)) [(0, .agg #[.int .i64 z1, .string n1, .int .i64 z2, .int .i64 ch, .string ⟨#[]⟩, .slice none 0 0])] = some #[.int .i64 z1, .string n1, .int .i64 z2, .int .i64 ch, .string ⟨#[]⟩, .slice none 0 0] := by intros; kernel_rfl
theorem slice_codec (z1 z2 ch : Int) (n1 : ByteArray) (w : World) : (Instr.buildSlice 22 1 #[(0, .agg #[.int .i64 z1, .string n1, .int .i64 z2, .int .i64 ch, .string ⟨#[]⟩, .slice none 0 0])]).run Tryz.prog w = .ok (.slice (some ⟨w.heap.size, 0, none⟩) 1 1) (w.alloc (.cells #[.int .i64 z1, .string n1, .int .i64 z2, .int .i64 ch, .string ⟨#[]⟩, .slice none 0 0] 58)) := by
 obtain ⟨i0, hi, hz0, hz1, hz2⟩ := info_parts Tryz.infoCodec
 refine run_buildSlice w 22 58 1 _ _ i0 _ Tryz.underlying22 hi hz0 (by rw [hz1]; decide) (by rw [hz1]; decide) ?_
 rw [hz1]
 exact fill_codec z1 z2 ch n1
theorem wpList_sliceOne {ops : Array Oper} {rest : List Oper} {op : Oper} {a : Act} {w : World} {Q : Exit → Act → World → Prop} (hgd : op.guard = none) {t : TypeId} {n i : Nat} {x : Operand} (ho : op.op = .buildSlice t n #[(i, x)]) {u v : Value} {w' : World} (hx : a.eval x = u) (hr : (Instr.buildSlice t n #[(i, u)]).run Tryz.prog w = .ok v w')
 (h : wpList Tryz.prog ops Q rest (a.put op.dst v) w') : wpList Tryz.prog ops Q (op :: rest) a w :=
 wpList_plain hgd fun _ hK => wp_sliceOne ho hx hr (hK _ _ h)
section
variable {m : MediaS} {nm vl : ByteArray}
theorem rdR_mid (hl : tx nm = nMid) : rd rR m ⟨nm, vl⟩ = { m with mid := vl } := by
 unfold rd
 simp only [hl]
 rw [if_pos trivial]
theorem rdR_sendonly (hl : tx nm = nSendonly) : rd rR m ⟨nm, vl⟩ = { m with dir := 1 } := by
 unfold rd
 simp only [hl]
 rw [if_neg (by decide), if_neg (by decide), if_neg (by decide), if_neg (by decide), if_neg (by decide), if_neg (by decide), if_neg (by decide), if_neg (by decide), if_neg (by decide), if_neg (by decide), if_neg (by decide), if_pos trivial]
theorem rdR_recvonly (hl : tx nm = nRecvonly) : rd rR m ⟨nm, vl⟩ = { m with dir := 2 } := by
 unfold rd
 simp only [hl]
 rw [if_neg (by decide), if_neg (by decide), if_neg (by decide), if_neg (by decide), if_neg (by decide), if_neg (by decide), if_neg (by decide), if_neg (by decide), if_neg (by decide), if_neg (by decide), if_neg (by decide), if_neg (by decide), if_pos trivial]
theorem rdR_sendrecv (hl : tx nm = nSendrecv) : rd rR m ⟨nm, vl⟩ = { m with dir := 3 } := by
 unfold rd
 simp only [hl]
 rw [if_neg (by decide), if_neg (by decide), if_neg (by decide), if_neg (by decide), if_neg (by decide), if_neg (by decide), if_neg (by decide), if_neg (by decide), if_neg (by decide), if_neg (by decide), if_neg (by decide), if_neg (by decide), if_neg (by decide), if_pos trivial]
theorem rdR_rtpmap (hl : tx nm = nCodec) : rd rR m ⟨nm, vl⟩ = { m with codecs := m.codecs ++ [codecOf rR (tx vl)] } := by
 unfold rd
 simp only [hl]
 rw [if_neg (by decide), if_pos trivial]
theorem rdR_fmtp (hl : tx nm = nFormat) : rd rR m ⟨nm, vl⟩ = { m with codecs := onLast (fun c => { c with format := bs (tl (tx vl)) }) m.codecs } := by
 unfold rd
 simp only [hl]
 rw [if_neg (by decide), if_neg (by decide), if_pos trivial]
theorem rdR_feed (hl : tx nm = nFeedback) : rd rR m ⟨nm, vl⟩ = { m with codecs := onLast (fun c => { c with feedback := c.feedback ++ [bs (tl (tx vl))] }) m.codecs } := by
 unfold rd
 simp only [hl]
 rw [if_neg (by decide), if_neg (by decide), if_neg (by decide), if_pos trivial]
theorem rdR_ext (hl : tx nm = nExt) : rd rR m ⟨nm, vl⟩ = { m with exts := m.exts ++ [⟨numR (hd (tx vl)), bs (tl (tx vl))⟩] } := by
 unfold rd
 simp only [hl]
 rw [if_neg (by decide), if_neg (by decide), if_neg (by decide), if_neg (by decide), if_pos trivial]
 rfl
theorem rdR_rid (hl : tx nm = nRid) : rd rR m ⟨nm, vl⟩ = { m with rids := m.rids ++ [bs (hd (tx vl))], sending := decide (tl (tx vl) = wSend) } := by
 unfold rd
 simp only [hl]
 rw [if_neg (by decide), if_neg (by decide), if_neg (by decide), if_neg (by decide), if_neg (by decide), if_pos trivial]
theorem rdR_ssrc (hl : tx nm = nSource) : rd rR m ⟨nm, vl⟩ = { m with sources := m.sources ++ [srcR (tx vl)] } := by
 unfold rd
 simp only [hl]
 rw [if_neg (by decide), if_neg (by decide), if_neg (by decide), if_neg (by decide), if_neg (by decide), if_neg (by decide), if_neg (by decide), if_pos trivial]
 rfl
theorem rdR_cry (hl : tx nm = nCrypto) : rd rR m ⟨nm, vl⟩ = { m with crypto := m.crypto ++ [cryR (tx vl)] } := by
 unfold rd
 simp only [hl]
 rw [if_neg (by decide), if_neg (by decide), if_neg (by decide), if_neg (by decide), if_neg (by decide), if_neg (by decide), if_neg (by decide), if_neg (by decide), if_pos trivial]
 rfl
theorem rdR_sctp (hl : tx nm = nSctp) : rd rR m ⟨nm, vl⟩ = { m with sctp := numR (tx vl) } := by
 unfold rd
 simp only [hl]
 rw [if_neg (by decide), if_neg (by decide), if_neg (by decide), if_neg (by decide), if_neg (by decide), if_neg (by decide), if_neg (by decide), if_neg (by decide), if_neg (by decide), if_pos trivial]
 rfl
theorem rdR_else (h0 : tx nm ≠ nMid) (h1 : tx nm ≠ nSendonly) (h2 : tx nm ≠ nRecvonly) (h3 : tx nm ≠ nSendrecv) (h4 : tx nm ≠ nCodec) (h5 : tx nm ≠ nFormat) (h6 : tx nm ≠ nFeedback) (h7 : tx nm ≠ nExt) (h8 : tx nm ≠ nRid) (h9 : tx nm ≠ nSource) (h10 : tx nm ≠ nCrypto) (h11 : tx nm ≠ nSctp) : rd rR m ⟨nm, vl⟩ = m := by
 unfold rd
 simp only []
 rw [if_neg h0, if_neg h4, if_neg h5, if_neg h6, if_neg h7, if_neg h8]
 iterate 12 (all_goals (try first | rfl | contradiction | split))
end
theorem cut_small (s : ByteArray) (c : UInt8) (hs : s.size ≤ 140737488355328) : (bs (cutS [c] (tx s)).1).size ≤ 140737488355328 ∧ (bs (cutS [c] (tx s)).2.1).size ≤ 140737488355328 := by
 have h1 := (cutS_len [c] (tx s)).1
 have h2 := (cutS_len [c] (tx s)).2
 rw [tx_length] at h1 h2
 rw [bs_size, bs_size]
 omega
theorem put_defers (a : Act) (d : Option Tmp) (v : Value) : (a.put d v).defers = a.defers := by cases d <;> rfl
def findBlock (n : Nat) : Code → Option Code
 | .block m c => if m = n then some (.block m c) else findBlock n c
 | .seq a b => match findBlock n a with
   | some c => some c
   | none => findBlock n b
 | .cond _ a b => match findBlock n a with
   | some c => some c
   | none => findBlock n b
 | .loop c => findBlock n c
 | .scope c => findBlock n c
 | _ => none
noncomputable def rrSw : Code := (Tryz.f21.body.bind (findBlock 3)).getD .skip
set_option maxRecDepth 100000 in
def SwCase (H : ByteArray → Prop) : Prop := ∀ (w w10 : World) (P : Array Value) (ln cn nm vl hS tS : ByteArray) (fS : Bool) (m0 : MediaS) (L T : List AttrS) (g13 : Nat) (cs : List (CodecS × Value)) (vC vE vR vS vY : Value)
    (hT : T = L ++ [⟨nm, vl⟩]) (hvl : vl.size ≤ 140737488355328) (hL64 : L.length < 64) (hHT : hd (tx vl) = tx hS ∧ tl (tx vl) = tx tS ∧ bs (hd (tx vl)) = hS ∧ bs (tl (tx vl)) = tS ∧ hS.size ≤ 140737488355328 ∧ tS.size ≤ 140737488355328)
    (h10 : RX w P ln cn (L ++ [⟨nm, vl⟩]) w10 ∧ MW w.heap.size (w.heap.size + 3) L.length w10 (L.foldl (rd rR) m0) cs vC vE vR vS vY ∧ Whole w10 g13 55 #[.string nm, .string vl]) (hn : H nm)
    (J K' : Act → World → Prop) (Q' : Exit → Act → World → Prop) (hK : ∀ (a' : Act) (w' : World), Met J a' w' → K' a' w') (hP : ∀ c (a a' : Act) (w : World), a.defers = a'.defers → Q' (Exit.panic c) a w → Q' (Exit.panic c) a' w) (v0 v1 v2 v3 v4 v6 v7 v8 v9 v10 v11 v12 v17 v18 v19 v20 v21 v22 v23 v24 v25 v26 v27 v28 v29 v30 v31 v32 v33 v34 v35 v36 v37 v38 v39 v40 v41 v42 v43 v44 v45 v46 v47 v48 v49 v50 v51 v52 v53 v54 v55 v56 v57 v58 v59 v60 v61 v62 v63 v64 v65 v66 v67 v68 v69 v70 v71 v72 v73 v74 v75 v76 v77 v78 v79 v80 v81 v82 v83 v84 v85 v86 v87 v88 v89 v90 v91 v92 v93 v94 v95 v96 v97 v99 v100 v101 v102 v103 v104 v105 v106 v107 v108 v109 v110 v111 v112 v113 v114 v115 v116 v117 v118 v119 v120 v121 v122 v123 v124 v125 v126 v127 v128 v129 v130 v131 v132 v133 v134 v135 v136 v137 v138 v139 v140 v141 v142 v143 v144 v145 v146 v147 v148 v149 v150 v151 v152 v153 v154 v155 v156 v157 v158 v159 v160 v161 v162 v163 v164 v165 v166 v167 v168 v169 v170 v171 v172 v173 v174 v175 v176 v177 v178 v179 v180 v181 v182 v183 v184 v185 v186 v187 v188 v189 v190 v191 v192 v193 v194 v195 v196 v197 v198 v199 v200 v201 v202 v203 v204 v205 v206 v207 v208 v209 v210 v211 v212 v213 v214 v215 v216 v217 v218 v219 v220 v221 v222 v223 v224 v225 v226 v227 v228 v229 v230 v231 v232 v233 v234 v235 v236 v237 v238 v239 v240 v241 v242 v243 v244 v245 v246 v247 v248 v249 v250 v251 v252 v253 v254 v255 v256 v257 v258 v259 v260 v261 v262 v263 v264 : Value)
    (hJ : ∀ (a' : Act) (w' : World), (∃ u3 u12 u13 u14 u15 u16 u17 u18 u19 u20 u21 u22 u23 u24 u25 u26 u27 u28 u29 u68 u69 u70 u71 u72 u73 u74 u75 u76 u77 u78 u79 u80 u81 u82 u83 u84 u85 u86 u87 u88 u89 u90 u91 u92 u93 u94 u95 u96 u97 u98 u99 u100 u101 u102 u103 u104 u105 u106 u107 u108 u109 u110 u111 u112 u113 u114 u115 u116 u117 u118 u119 u120 u121 u122 u123 u124 u125 u126 u127 u128 u129 u130 u131 u132 u133 u134 u135 u136 u137 u138 u139 u140 u141 u142 u143 u144 u145 u146 u147 u148 u149 u150 u151 u152 u153 u154 u155 u156 u157 u158 u159 u160 u161 u162 u163 u164 u165 u166 u167 u168 u169 u170 u171 u172 u173 u174 u175 u176 u177 u178 u179 u180 u181 u182 u183 u184 u185 u186 u187 u188 u189 u190 u191 u192 u193 u194 u195 u196 u197 u198 u199 u200 u201 u202 u203 u204 u205 u206 u207 u208 u209 u210 u211 u212 u213 u214 u215 u216 u217 u218 u219 u220 u221 u222 u223 u224 u225 u226 u227 u228 u229 u230 u231 u232 u233 u234 u235 u236 u237 u238 u239 u240 u241 u242 u243 u244 u245 u246 u247 u248 u249 : Value, RRI w P ln cn m0 T w' ∧ a' = ⟨#[v0, v1, v2, u3, v4, .pointer (some ⟨w.heap.size + 3, 0, none⟩), v6, v7, v8, v9, v10, v11, u12, u13, u14, u15, u16, u17, u18, u19, u20, u21, u22, u23, u24, u25, u26, u27, u28, u29, v30, v31, v32, v33, v34, v35, v36, v37, v38, v39, v40, v41, v42, v43, v44, v45, v46, v47, v48, v49, v50, v51, v52, v53, v54, v55, v56, v57, v58, v59, v60, v61, v62, v63, v64, v65, v66, v67, u68, u69, u70, u71, u72, u73, u74, u75, u76, u77, u78, u79, u80, u81, u82, u83, u84, u85, u86, u87, u88, u89, u90, u91, u92, u93, u94, u95, u96, u97, u98, u99, u100, u101, u102, u103, u104, u105, u106, u107, u108, u109, u110, u111, u112, u113, u114, u115, u116, u117, u118, u119, u120, u121, u122, u123, u124, u125, u126, u127, u128, u129, u130, u131, u132, u133, u134, u135, u136, u137, u138, u139, u140, u141, u142, u143, u144, u145, u146, u147, u148, u149, u150, u151, u152, u153, u154, u155, u156, u157, u158, u159, u160, u161, u162, u163, u164, u165, u166, u167, u168, u169, u170, u171, u172, u173, u174, u175, u176, u177, u178, u179, u180, u181, u182, u183, u184, u185, u186, u187, u188, u189, u190, u191, u192, u193, u194, u195, u196, u197, u198, u199, u200, u201, u202, u203, u204, u205, u206, u207, u208, u209, u210, u211, u212, u213, u214, u215, u216, u217, u218, u219, u220, u221, u222, u223, u224, u225, u226, u227, u228, u229, u230, u231, u232, u233, u234, u235, u236, u237, u238, u239, u240, u241, u242, u243, u244, u245, u246, u247, u248, u249, v250, v251, v252, v253, v254, v255, v256, v257, v258, v259, v260, v261, v262, v263, v264], []⟩) → J a' w'),
    Code.wp Tryz.prog rrSw (Exit.inBlock 2 (Exit.then K' Q')) ⟨#[v0, v1, v2, v3, v4, .pointer (some ⟨w.heap.size + 3, 0, none⟩), v6, v7, v8, v9, v10, v11, v12, .pointer (some ⟨g13, 0, none⟩), .string hS, .string tS, .bool fS, v17, v18, v19, v20, v21, v22, v23, v24, v25, v26, v27, v28, v29, v30, v31, v32, v33, v34, v35, v36, v37, v38, v39, v40, v41, v42, v43, v44, v45, v46, v47, v48, v49, v50, v51, v52, v53, v54, v55, v56, v57, v58, v59, v60, v61, v62, v63, v64, v65, v66, v67, v68, v69, v70, v71, v72, v73, v74, v75, v76, v77, v78, v79, v80, v81, v82, v83, v84, v85, v86, v87, v88, v89, v90, v91, v92, v93, v94, v95, v96, v97, .string nm, v99, v100, v101, v102, v103, v104, v105, v106, v107, v108, v109, v110, v111, v112, v113, v114, v115, v116, v117, v118, v119, v120, v121, v122, v123, v124, v125, v126, v127, v128, v129, v130, v131, v132, v133, v134, v135, v136, v137, v138, v139, v140, v141, v142, v143, v144, v145, v146, v147, v148, v149, v150, v151, v152, v153, v154, v155, v156, v157, v158, v159, v160, v161, v162, v163, v164, v165, v166, v167, v168, v169, v170, v171, v172, v173, v174, v175, v176, v177, v178, v179, v180, v181, v182, v183, v184, v185, v186, v187, v188, v189, v190, v191, v192, v193, v194, v195, v196, v197, v198, v199, v200, v201, v202, v203, v204, v205, v206, v207, v208, v209, v210, v211, v212, v213, v214, v215, v216, v217, v218, v219, v220, v221, v222, v223, v224, v225, v226, v227, v228, v229, v230, v231, v232, v233, v234, v235, v236, v237, v238, v239, v240, v241, v242, v243, v244, v245, v246, v247, v248, v249, v250, v251, v252, v253, v254, v255, v256, v257, v258, v259, v260, v261, v262, v263, v264], []⟩ w10
end Go.Proofs.YtbbedhecfipdjaaGreatDoor
