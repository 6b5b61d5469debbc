/- What is laid at the start (tables of numbers, kinds, directions); the program's small tests of numbers and texts; numbers as texts. -/
import Derived.Test.YtmlapbadgjhhdaaGreatDoorAtM
import Derived.Test.YtmlapbadgjhhdaaGreatDoorShelf
import Derived.Lib.SmallJoins
import Derived.Lib.AppendIntMem
namespace Go.Proofs.YtmlapbadgjhhdaaGreatDoor
open Go.RowKit
set_option linter.unusedVariables false
set_option linter.unusedSimpArgs false

/-! What lies in the package's tables. -/
structure Env (w : World) : Prop where
  tab : Lib.TabIs Tryz.prog w "internal/strconv.uint64pow10" .u64 Lib.pow10Tab
  dirs : ∀ j, j < 4 → w.cell? ⟨0, j, none⟩ = some (.string (bs (dirW j)))
  kinds : ∀ j, 1 ≤ j → j < 4 → w.cell? ⟨1, j, none⟩ = some (.string (bs (kindW j)))
  none : w.cell? ⟨1, 0, none⟩ = some (.string (bs []))
theorem gPow : Tryz.prog.globalNamed "internal/strconv.uint64pow10" = some 2 := by kernel_rfl
theorem Env.under {w w' : World} (h : Env w) (hb : Below w.heap.size w w') : Env w' := by
  have hd : 0 < w.heap.size := block_lt_of_cell (h.dirs 0 (by decide))
  have hk : 1 < w.heap.size := block_lt_of_cell h.none
  exact ⟨Go.Joins.tab_stays gPow h.tab hb (Nat.le_refl _), fun j hj => (hb.cell (p := ⟨0, j, Option.none⟩) hd).trans (h.dirs j hj), fun j h1 hj => (hb.cell (p := ⟨1, j, Option.none⟩) hk).trans (h.kinds j h1 hj),
    (hb.cell (p := ⟨1, 0, Option.none⟩) hk).trans h.none⟩
theorem Env.on {w w' : World} {B : Nat} (h : Env w) (hB : w.heap.size ≤ B) (hb : Below B w w') : Env w' := h.under (hb.mono hB)

theorem dec_eq (n : Nat) : dec n = Lib.decDigits n := by
  induction n using Nat.strongRecOn with
  | _ n ih =>
    unfold dec Lib.decDigits
    split
    · rfl
    · rw [ih (n / 10) (by omega)]
theorem itoa_dec {n : Int} (h : 0 ≤ n) : Lib.itoa n = decI n := by
  unfold Lib.itoa decI
  rw [if_neg (by omega), dec_eq]
theorem itoa_any (n : Int) (w : World) (hE : Env w) (h0 : 0 ≤ n) (h1 : n ≤ 9223372036854775807) : Calls Tryz.prog 47 #[.int .i64 n] w fun e w' => e = .returned (.string (bs (decI n))) ∧ Below w.heap.size w w' :=
  (Tryz.strconv_Itoa n (by omega) h1 w hE.tab).mono fun e w' ⟨he, k, os, hw⟩ => by
    subst hw
    rw [itoa_dec h0] at he
    exact ⟨he, Lib.below_grow _ w (Nat.le_refl _) k os⟩

/-! Tests. -/
set_option maxHeartbeats 800000 in
theorem within_any (n a b : Int) (w : World) : Calls Tryz.prog 27 #[.int .i64 n, .int .i64 a, .int .i64 b] w fun e w' => e = .returned (.bool (decide (a ≤ n) && decide (n ≤ b))) ∧ w = w' := by
  by_cases h1 : a ≤ n
  · rw [decide_eq_true h1, Bool.true_and]
    go_enter Tryz.func27, Tryz.ntmps27
    go_wp2
    go_ret
    exact ⟨rfl, rfl⟩
  · have h1 : n < a := by omega
    rw [decide_eq_false (by omega), Bool.false_and]
    go_enter Tryz.func27, Tryz.ntmps27
    go_wp2
    go_ret
    exact ⟨rfl, rfl⟩
theorem wordP_cut {l : Tx} {m : Nat} (hm : m ≤ 32) : wordP 1 m l = (decide ((l.length : Int) ≤ (m : Int)) && wordP 1 32 l) := by
  unfold wordP
  rw [Bool.eq_iff_iff]
  simp only [Bool.and_eq_true, decide_eq_true_eq]
  constructor
  · rintro ⟨h1, h2, h3⟩
    exact ⟨by omega, h1, h2, by omega⟩
  · rintro ⟨h1, h2, h3, h4⟩
    exact ⟨h2, h3, by omega⟩
set_option maxHeartbeats 800000 in
theorem wordOf_any (s : ByteArray) (m : Nat) (w : World) (hs : s.size ≤ maxLen) (hm : m ≤ 32) : Calls Tryz.prog 26 #[.string s, .int .i64 m] w fun e w' => e = .returned (.bool (wordP 1 m (tx s))) ∧ w = w' := by
  have HW := Lib.hid (word_any s w hs)
  unfold maxLen at hs
  have HE : Hid (wordP 1 m (tx s) = (decide ((s.size : Int) ≤ (m : Int)) && wordP 1 32 (tx s))) := Lib.hid (by rw [← tx_length]; exact wordP_cut hm)
  generalize wordP 1 m (tx s) = r at *
  generalize wordP 1 32 (tx s) = q at *
  by_cases h1 : (s.size : Int) ≤ (m : Int)
  · have HR : Hid (q = r) := Lib.hid (by rw [HE.out]; simp [h1])
    go_enter Tryz.func26, Tryz.ntmps26
    go_wp2_with (go_at_call 52; (with_reducible refine HW.out.mono ?_); rintro e w' ⟨rfl, rfl⟩)
    go_ret
    exact ⟨ret_bool HR.out, rfl⟩
  · have HR : Hid (false = r) := Lib.hid (by rw [HE.out]; simp [h1])
    have h1 : (m : Int) < (s.size : Int) := by omega
    go_enter Tryz.func26, Tryz.ntmps26
    go_wp2_with (go_at_call 52; (with_reducible refine HW.out.mono ?_); rintro e w' ⟨rfl, rfl⟩)
    go_ret
    exact ⟨ret_bool HR.out, rfl⟩

theorem prefix_blank (l : Tx) : Lib.hasPrefix l [32] = (l.head? == some 32) := by
  unfold Lib.hasPrefix
  cases l with
  | nil => rfl
  | cons c r => rw [Bool.eq_iff_iff]; simp only [List.isPrefixOf, Bool.and_true, beq_iff_eq, List.head?_cons, Option.some.injEq]; exact eq_comm
theorem suffix_blank (l : Tx) : Lib.hasSuffix l [32] = (l.getLast? == some 32) := by
  unfold Lib.hasSuffix List.isSuffixOf
  rw [List.getLast?_eq_head?_reverse]
  show List.isPrefixOf [32] l.reverse = _
  cases l.reverse with
  | nil => rfl
  | cons c r => rw [Bool.eq_iff_iff]; simp only [List.isPrefixOf, Bool.and_true, beq_iff_eq, List.head?_cons, Option.some.injEq]; exact eq_comm
theorem has_blank (l : Tx) : decide (0 ≤ Lib.indexByte l 32) = !(l.all (fun c => c != 32)) := by
  induction l with
  | nil => rfl
  | cons c r ih =>
    unfold Lib.indexByte
    rw [List.all_cons]
    by_cases h : c = 32
    · subst h; rfl
    · have h1 : (c == 32) = false := by simpa using h
      have h2 : (c != 32) = true := by simpa using h
      rw [h1, h2, Bool.true_and, ← ih]
      have hn : Lib.indexByte r 32 = -1 ∨ 0 ≤ Lib.indexByte r 32 := by
        clear ih
        induction r with
        | nil => exact .inl rfl
        | cons d r ih =>
          unfold Lib.indexByte
          by_cases hd : d == 32
          · rw [if_pos hd]; exact .inr (by omega)
          · rw [if_neg hd]
            rcases ih with ih | ih
            · rw [ih]; exact .inl rfl
            · rw [if_neg (by simp; omega)]; exact .inr (by omega)
      rcases hn with hn | hn
      · rw [hn]; rfl
      · have : (Lib.indexByte r 32 == -1) = false := by simp; omega
        rw [this]
        simp
        omega
set_option maxHeartbeats 1600000 in
theorem goodFormat_any (s : ByteArray) (w : World) (hs : s.size ≤ maxLen) : Calls Tryz.prog 85 #[.string s] w fun e w' => e = .returned (.bool (plainP (tx s))) ∧ w = w' := by
  have HV := Lib.hid (value_any s w hs)
  unfold maxLen at hs
  have HP : Hid (Calls Tryz.prog 119 #[.string s, .string ⟨#[32]⟩] w fun e w' => e = .returned (.bool ((tx s).head? == some 32)) ∧ w = w') := Lib.hid ((Tryz.strings_HasPrefix s ⟨#[32]⟩ w).mono fun e w' ⟨he, hw⟩ => ⟨by rw [he]; exact ret_bool (prefix_blank (tx s)), hw.symm⟩)
  have HS : Hid (Calls Tryz.prog 120 #[.string s, .string ⟨#[32]⟩] w fun e w' => e = .returned (.bool ((tx s).getLast? == some 32)) ∧ w = w') := Lib.hid ((Tryz.strings_HasSuffix s ⟨#[32]⟩ w (by omega)).mono fun e w' ⟨he, hw⟩ => ⟨by rw [he]; exact ret_bool (suffix_blank (tx s)), hw.symm⟩)
  have HE : Hid (plainP (tx s) = (valP (tx s) && decide ((s.size : Int) ≤ 100) && !((tx s).head? == some 32) && !((tx s).getLast? == some 32))) := Lib.hid (by
    unfold plainP
    congr 3
    rw [decide_eq_decide, tx_length]
    omega)
  generalize plainP (tx s) = r at *
  generalize ((tx s).head? == some 32) = p at *
  generalize ((tx s).getLast? == some 32) = q at *
  generalize valP (tx s) = v at *
  cases v with
  | false =>
    have HR : Hid (false = r) := Lib.hid (by rw [HE.out]; rfl)
    go_enter Tryz.func85, Tryz.ntmps85
    go_wp2_with (go_at_call 90; (with_reducible refine HV.out.mono ?_); rintro e w' ⟨rfl, rfl⟩)
    go_ret
    exact ⟨ret_bool HR.out, rfl⟩
  | true =>
    by_cases h1 : (s.size : Int) ≤ 100
    · cases p with
      | true =>
        have HR : Hid (false = r) := Lib.hid (by rw [HE.out]; simp)
        go_enter Tryz.func85, Tryz.ntmps85
        go_wp2_with (first
          | (go_at_call 90; (with_reducible refine HV.out.mono ?_); rintro e w' ⟨rfl, rfl⟩)
          | (go_at_call 119; (with_reducible refine HP.out.mono ?_); rintro e w' ⟨rfl, rfl⟩))
        go_ret
        exact ⟨ret_bool HR.out, rfl⟩
      | false =>
        have HR : Hid ((!q) = r) := Lib.hid (by rw [HE.out]; simp [h1])
        go_enter Tryz.func85, Tryz.ntmps85
        go_wp2_with (first
          | (go_at_call 90; (with_reducible refine HV.out.mono ?_); rintro e w' ⟨rfl, rfl⟩)
          | (go_at_call 119; (with_reducible refine HP.out.mono ?_); rintro e w' ⟨rfl, rfl⟩)
          | (go_at_call 120; (with_reducible refine HS.out.mono ?_); rintro e w' ⟨rfl, rfl⟩))
        go_ret
        exact ⟨ret_bool HR.out, rfl⟩
    · have HR : Hid (false = r) := Lib.hid (by rw [HE.out]; simp [h1])
      have h1 : 100 < (s.size : Int) := by omega
      go_enter Tryz.func85, Tryz.ntmps85
      go_wp2_with (go_at_call 90; (with_reducible refine HV.out.mono ?_); rintro e w' ⟨rfl, rfl⟩)
      go_ret
      exact ⟨ret_bool HR.out, rfl⟩
set_option maxHeartbeats 800000 in
theorem badFormat_any (s : ByteArray) (w : World) (hs : s.size ≤ maxLen) : Calls Tryz.prog 87 #[.string s] w fun e w' => e = .returned (.bool (!plainP (tx s))) ∧ w = w' := by
  have HV := Lib.hid (goodFormat_any s w hs)
  generalize plainP (tx s) = r at *
  go_enter Tryz.func87, Tryz.ntmps87
  go_wp2_with (go_at_call 85; (with_reducible refine HV.out.mono ?_); rintro e w' ⟨rfl, rfl⟩)
  go_ret
  exact ⟨rfl, rfl⟩
set_option maxHeartbeats 800000 in
theorem goodRid_any (s : ByteArray) (w : World) (hs : s.size ≤ maxLen) : Calls Tryz.prog 61 #[.string s] w fun e w' => e = .returned (.bool (goodR s)) ∧ w = w' := by
  have HV : Hid (Calls Tryz.prog 26 #[.string s, .int .i64 8] w fun e w' => e = .returned (.bool (wordP 1 8 (tx s))) ∧ w = w') := Lib.hid (wordOf_any s 8 w hs (by decide))
  have HE : Hid (goodR s = wordP 1 8 (tx s)) := Lib.hid rfl
  rw [HE.out]
  generalize wordP 1 8 (tx s) = r at *
  go_enter Tryz.func61, Tryz.ntmps61
  go_wp2_with (go_at_call 26; (with_reducible refine HV.out.mono ?_); rintro e w' ⟨rfl, rfl⟩)
  go_ret
  exact ⟨rfl, rfl⟩
theorem anySource_any (v : Value) (w : World) : Calls Tryz.prog 64 #[v] w fun e w' => e = .returned (.bool true) ∧ w = w' := by
  go_enter Tryz.func64, Tryz.ntmps64
  go_wp2
  go_ret
  exact ⟨rfl, rfl⟩
theorem itselfS_any (v : Value) (w : World) : Calls Tryz.prog 60 #[v] w fun e w' => e = .returned v ∧ w = w' := by
  go_enter Tryz.func60, Tryz.ntmps60
  go_wp2
  go_ret
  exact ⟨rfl, rfl⟩
theorem itselfU_any (v : Value) (w : World) : Calls Tryz.prog 63 #[v] w fun e w' => e = .returned v ∧ w = w' := by
  go_enter Tryz.func63, Tryz.ntmps63
  go_wp2
  go_ret
  exact ⟨rfl, rfl⟩
theorem codecType_any (n : Int) (a b c d e : Value) (w : World) : Calls Tryz.prog 54 #[.agg #[.int .i64 n, a, b, c, d, e]] w fun e w' => e = .returned (.int .i64 n) ∧ Below w.heap.size w w' := by
  go_enter Tryz.func54, Tryz.ntmps54
  go_wp2
  go_ret
  exact ⟨rfl, (Below.refl _ w).alloc (Nat.le_refl _) _⟩
theorem extID_any (n : Int) (a : Value) (w : World) : Calls Tryz.prog 57 #[.agg #[.int .i64 n, a]] w fun e w' => e = .returned (.int .i64 n) ∧ Below w.heap.size w w' := by
  go_enter Tryz.func57, Tryz.ntmps57
  go_wp2
  go_ret
  exact ⟨rfl, (Below.refl _ w).alloc (Nat.le_refl _) _⟩
set_option maxHeartbeats 1600000 in
theorem goodExt_any (x : ExtS) (w : World) (hs : x.uri.size ≤ maxLen) : Calls Tryz.prog 58 #[.agg #[.int .i64 x.id, .string x.uri]] w fun e w' => e = .returned (.bool (goodE x)) ∧ Below w.heap.size w w' := by
  obtain ⟨n, s⟩ := x
  have hs : s.size ≤ maxLen := hs
  have hb0 : Below w.heap.size w (w.alloc (.cells #[.int .i64 n, .string s] 69)) := (Below.refl _ w).alloc (Nat.le_refl _) _
  have hz := Whole.new w 69 #[.int .i64 n, .string s]
  have c0 := hz.cell 0
  have c1 := hz.cell 1
  have HB := Lib.hid hb0
  have HE : Hid (goodE ⟨n, s⟩ = ((decide ((1 : Int) ≤ n) && decide (n ≤ 14)) && (valP (tx s) && (decide ((s.size : Int) ≤ 100) && !decide (0 ≤ Lib.indexByte (tx s) 32))))) := Lib.hid (by
    unfold goodE uriP
    rw [has_blank, Bool.not_not, tx_length]
    have : decide (s.size ≤ 100) = decide ((s.size : Int) ≤ 100) := by rw [decide_eq_decide]; omega
    rw [this]
    simp only [Bool.and_assoc])
  clear hb0 hz
  show Calls _ _ _ _ fun e w' => e = .returned (.bool (goodE ⟨n, s⟩)) ∧ _
  obtain ⟨N, hN⟩ : ∃ N, w.heap.size = N := ⟨_, rfl⟩
  rw [hN] at c0 c1 HB ⊢
  generalize goodE ⟨n, s⟩ = r at *
  go_enter Tryz.func58, Tryz.ntmps58
  go_upto_region 1 with fail
  generalize w.alloc (.cells #[.int .i64 n, .string s] 69) = W at *
  have HT := Lib.hid (within_any n 1 14 W)
  have HV := Lib.hid (value_any s W hs)
  have HC : Hid (Calls Tryz.prog 91 #[.string s, .string ⟨#[32]⟩] W fun e w' => e = .returned (.bool (decide (0 ≤ Lib.indexByte (tx s) 32))) ∧ W = w') := Lib.hid ((Tryz.strings_Contains_one s 32 W).mono fun e w' ⟨he, hw⟩ => ⟨he, hw.symm⟩)
  unfold maxLen at hs
  generalize decide (0 ≤ Lib.indexByte (tx s) 32) = p at *
  generalize valP (tx s) = v at *
  generalize (decide ((1 : Int) ≤ n) && decide (n ≤ 14)) = t at *
  clear hN
  cases t with
  | false =>
    have HR : Hid (false = r) := Lib.hid (by rw [HE.out]; rfl)
    go_wp2_with (go_at_call 27; (with_reducible refine HT.out.mono ?_); rintro e w' ⟨rfl, rfl⟩)
    go_ret
    exact ⟨ret_bool HR.out, HB.out⟩
  | true =>
    cases v with
    | false =>
      have HR : Hid (false = r) := Lib.hid (by rw [HE.out]; rfl)
      go_wp2_with (first
        | (go_at_call 27; (with_reducible refine HT.out.mono ?_); rintro e w' ⟨rfl, rfl⟩)
        | (go_at_call 90; (with_reducible refine HV.out.mono ?_); rintro e w' ⟨rfl, rfl⟩))
      go_ret
      exact ⟨ret_bool HR.out, HB.out⟩
    | true =>
      by_cases h1 : (s.size : Int) ≤ 100
      · have HR : Hid ((!p) = r) := Lib.hid (by rw [HE.out]; simp [h1])
        go_wp2_with (first
          | (go_at_call 27; (with_reducible refine HT.out.mono ?_); rintro e w' ⟨rfl, rfl⟩)
          | (go_at_call 90; (with_reducible refine HV.out.mono ?_); rintro e w' ⟨rfl, rfl⟩)
          | (go_at_call 91; (with_reducible refine HC.out.mono ?_); rintro e w' ⟨rfl, rfl⟩))
        go_ret
        exact ⟨ret_bool HR.out, HB.out⟩
      · have HR : Hid (false = r) := Lib.hid (by rw [HE.out]; simp [h1])
        have h1 : 100 < (s.size : Int) := by omega
        go_wp2_with (first
          | (go_at_call 27; (with_reducible refine HT.out.mono ?_); rintro e w' ⟨rfl, rfl⟩)
          | (go_at_call 90; (with_reducible refine HV.out.mono ?_); rintro e w' ⟨rfl, rfl⟩))
        go_ret
        exact ⟨ret_bool HR.out, HB.out⟩
set_option maxHeartbeats 800000 in
theorem goodCrypto_any (n : Int) (ks : List Value) (w : World) (hk : ks.length = 30) : Calls Tryz.prog 67 #[.agg (Value.int .i64 n :: ks).toArray] w fun e w' => e = .returned (.bool (decide (1 ≤ n) && decide (n ≤ 9))) ∧ Below w.heap.size w w' := by
  have hb0 : Below w.heap.size w (w.alloc (.cells (Value.int .i64 n :: ks).toArray 73)) := (Below.refl _ w).alloc (Nat.le_refl _) _
  have hz := Whole.new w 73 (Value.int .i64 n :: ks).toArray
  have c0 : (w.alloc (.cells (Value.int .i64 n :: ks).toArray 73)).cell? ⟨w.heap.size, 0, none⟩ = some (.int .i64 n) := hz.cell 0
  have HB := Lib.hid hb0
  clear hb0 hz
  obtain ⟨N, hN⟩ : ∃ N, w.heap.size = N := ⟨_, rfl⟩
  rw [hN] at c0 HB ⊢
  have HTT : Hid (∀ W, Calls Tryz.prog 27 #[.int .i64 n, .int .i64 1, .int .i64 9] W fun e w' => e = .returned (.bool (decide ((1 : Int) ≤ n) && decide (n ≤ 9))) ∧ W = w') := Lib.hid fun W => within_any n 1 9 W
  generalize (decide ((1 : Int) ≤ n) && decide (n ≤ 9)) = t at *
  go_enter Tryz.func67, Tryz.ntmps67
  go_upto_region 1 with fail
  generalize w.alloc (.cells (Value.int .i64 n :: ks).toArray 73) = W at *
  have HT := Lib.hid (HTT.out W)
  clear hN
  go_wp2_with (go_at_call 27; (with_reducible refine HT.out.mono ?_); rintro e w' ⟨rfl, rfl⟩)
  go_ret
  exact ⟨rfl, HB.out⟩
end Go.Proofs.YtmlapbadgjhhdaaGreatDoor
