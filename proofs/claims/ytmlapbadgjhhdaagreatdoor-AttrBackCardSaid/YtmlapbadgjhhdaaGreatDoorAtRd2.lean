/- A text cut at its first byte of a kind, as the program does it. -/
import Derived.Test.YtmlapbadgjhhdaaGreatDoorAtRd1
namespace Go.Proofs.YtmlapbadgjhhdaaGreatDoor
open Go.RowKit
set_option linter.unusedVariables false
set_option linter.unusedSimpArgs false

theorem cut_none {l : Tx} {c : UInt8} (h : Lib.indexByte l c = -1) : cutS [c] l = (l, [], false) := by
  have h1 := Lib.indexByte_none h
  exact cutS_free (c0 := c) (t := []) l (fun d hd e => by
    subst e
    obtain ⟨k, hk⟩ := List.mem_iff_getElem?.1 hd
    exact h1 k hk)
theorem cut_some {l : Tx} {c : UInt8} {k : Nat} (h : Lib.indexByte l c = k) : cutS [c] l = (l.take k, l.drop (k + 1), true) ∧ k < l.length := by
  obtain ⟨h1, h2⟩ := Lib.indexByte_some h
  have hk : k < l.length := (List.getElem?_eq_some_iff.1 h1).1
  have e : l = l.take k ++ c :: l.drop (k + 1) := by
    have h3 : l[k] = c := by rw [List.getElem?_eq_getElem hk] at h1; exact Option.some.inj h1
    rw [← h3, ← List.drop_eq_getElem_cons hk, List.take_append_drop]
  refine ⟨?_, hk⟩
  conv => lhs; rw [e]
  exact cut_at _ _ (fun d hd e2 => by
    subst e2
    obtain ⟨j, hj⟩ := List.mem_iff_getElem?.1 hd
    have hjl : j < k := by
      have := (List.getElem?_eq_some_iff.1 hj).1
      rw [List.length_take] at this
      omega
    rw [List.getElem?_take, if_pos hjl] at hj
    exact h2 j hjl hj)
set_option maxHeartbeats 800000 in
set_option maxRecDepth 10000 in
theorem slCut_any (s : ByteArray) (c : UInt8) (w : World) (hs : s.size ≤ 281474976710656) : Calls Tryz.prog 127 #[.string s, .string ⟨#[c]⟩] w fun e w' => e = .returned (.tuple #[.string (bs (cutS [c] (tx s)).1), .string (bs (cutS [c] (tx s)).2.1), .bool (cutS [c] (tx s)).2.2]) ∧ Below w.heap.size w w' := by
  have HI := Lib.hid (Tryz.stringslite_Index_one s c w)
  have hge := Lib.indexByte_ge s.data.toList c
  by_cases h : Lib.indexByte s.data.toList c = -1
  · have HC : Hid (cutS [c] (tx s) = (tx s, [], false)) := Lib.hid (cut_none h)
    rw [HC.out]
    rw [h] at HI
    clear HC h hge
    go_enter Tryz.func127, Tryz.ntmps127
    go_wp2_with (go_at_call 143; (with_reducible refine HI.out.mono ?_); rintro e w1 ⟨rfl, rfl⟩)
    go_ret3
    exact ⟨by rw [bs_tx]; rfl, Below.refl _ _⟩
  · obtain ⟨k, hk⟩ : ∃ k : Nat, Lib.indexByte s.data.toList c = k := ⟨(Lib.indexByte s.data.toList c).toNat, by omega⟩
    obtain ⟨h1, h2⟩ := cut_some (l := tx s) hk
    have HC : Hid (cutS [c] (tx s) = ((tx s).take k, (tx s).drop (k + 1), true)) := Lib.hid h1
    rw [tx_length] at h2
    rw [HC.out]
    rw [hk] at HI
    have HT : Hid (∀ a b : ByteArray, a = s.extract 0 k → b = s.extract (k + 1) s.size → Ending.returned (.tuple #[.string a, .string b, .bool true]) = .returned (.tuple #[.string (bs ((tx s).take k)), .string (bs ((tx s).drop (k + 1))), .bool true])) := Lib.hid fun a b ha hb => by
      have e1 : a = bs ((tx s).take k) := tx_inj (by rw [ha, tx_extract, tx_bs, List.drop_zero, Nat.sub_zero])
      have e2 : b = bs ((tx s).drop (k + 1)) := tx_inj (by rw [hb, tx_extract, tx_bs, List.take_of_length_le (by rw [List.length_drop, tx_length]; exact Nat.le_refl _)])
      rw [e1, e2]
    have hk0 : (0 : Int) ≤ (k : Int) := by omega
    have hk1 : (k : Int) < (s.size : Int) := by omega
    have hk2 : (k : Int) + 1 ≤ (s.size : Int) := by omega
    have hkw : IntKind.i64.wrap ((k : Int) + 1) = ((k + 1 : Nat) : Int) := (IntWalk.i64_in _ (by omega)).trans (by omega)
    have hk3 : ((k + 1 : Nat) : Int) ≤ (s.size : Int) := by omega
    have hk4 : (0 : Int) ≤ ((k + 1 : Nat) : Int) := by omega
    have hk5 : k ≤ s.size := by omega
    have hk6 : k + 1 ≤ s.size := by omega
    clear HC h hge hk h1
    go_enter Tryz.func127, Tryz.ntmps127
    go_upto_region 3 with (go_at_call 143; (with_reducible refine HI.out.mono ?_); rintro e w1 ⟨rfl, rfl⟩)
    go_quiet (fail)
    go_wp2
    go_ret3
    exact ⟨HT.out _ _ rfl rfl, below_drewN' (Below.refl _ _) _⟩
set_option maxHeartbeats 800000 in
theorem cut1_any (s : ByteArray) (c : UInt8) (w : World) (hs : s.size ≤ 281474976710656) : Calls Tryz.prog 97 #[.string s, .string ⟨#[c]⟩] w fun e w' => e = .returned (.tuple #[.string (bs (cutS [c] (tx s)).1), .string (bs (cutS [c] (tx s)).2.1), .bool (cutS [c] (tx s)).2.2]) ∧ Below w.heap.size w w' := by
  have HC := Lib.hid (slCut_any s c w hs)
  generalize bs (cutS [c] (tx s)).1 = a at *
  generalize bs (cutS [c] (tx s)).2.1 = b at *
  generalize (cutS [c] (tx s)).2.2 = f at *
  go_enter Tryz.func97, Tryz.ntmps97
  go_wp2_with (go_at_call 127; (with_reducible refine HC.out.mono ?_); rintro e w1 ⟨rfl, hb1⟩)
  go_ret3
  exact ⟨rfl, hb1⟩
set_option maxHeartbeats 800000 in
theorem cut_any (s : ByteArray) (w : World) (hs : s.size ≤ 281474976710656) : Calls Tryz.prog 70 #[.string s] w fun e w' => e = .returned (.tuple #[.string (bs (hd (tx s))), .string (bs (tl (tx s)))]) ∧ Below w.heap.size w w' := by
  have HC := Lib.hid (cut1_any s 32 w hs)
  have e1 : (cutS [32] (tx s)).1 = hd (tx s) := rfl
  have e2 : (cutS [32] (tx s)).2.1 = tl (tx s) := rfl
  rw [e1, e2] at HC
  clear e1 e2
  generalize bs (hd (tx s)) = a at *
  generalize bs (tl (tx s)) = b at *
  generalize (cutS [32] (tx s)).2.2 = f at *
  go_enter Tryz.func70, Tryz.ntmps70
  go_wp2_with (go_at_call 97; (with_reducible refine HC.out.mono ?_); rintro e w1 ⟨rfl, hb1⟩)
  go_ret2
  exact ⟨rfl, hb1⟩
end Go.Proofs.YtmlapbadgjhhdaaGreatDoor
