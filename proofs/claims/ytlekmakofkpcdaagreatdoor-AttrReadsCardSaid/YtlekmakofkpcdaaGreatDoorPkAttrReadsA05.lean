import Derived.Test.YtlekmakofkpcdaaGreatDoorPkAttrReadsA03
import Derived.Test.YtlekmakofkpcdaaGreatDoorPkAttrReadsA04
import Derived.Lib.SmallJoins
import Derived.Lib.AppendIntMem
namespace Go.Proofs.YtlekmakofkpcdaaGreatDoor
open Go.RowKit
set_option linter.unusedVariables false
set_option linter.unusedSimpArgs false
structure Env (w : World) : Prop where
 tab : Lib.TabIs Tryz.prog w "internal/strconv.uint64pow10" .u64 Lib.pow10Tab
 dirs : ∀ j, j < 4 → w.cell? ⟨1, j, none⟩ = some (.string (bs (dirW j)))
 kinds : ∀ j, 1 ≤ j → j < 4 → w.cell? ⟨0, j, none⟩ = some (.string (bs (kindW j)))
 none : w.cell? ⟨0, 0, none⟩ = some (.string (bs []))
theorem gPow : Tryz.prog.globalNamed "internal/strconv.uint64pow10" = some 2 := by kernel_rfl
theorem Env.under {w w' : World} (h : Env w) (hb : Below w.heap.size w w') : Env w' := by
 have hd : 1 < w.heap.size := block_lt_of_cell (h.dirs 0 (by decide))
 have hk : 0 < w.heap.size := block_lt_of_cell h.none
 exact ⟨Go.Joins.tab_stays gPow h.tab hb (Nat.le_refl _), fun j hj => (hb.cell (p := ⟨1, j, Option.none⟩) hd).trans (h.dirs j hj), fun j h1 hj => (hb.cell (p := ⟨0, j, Option.none⟩) hk).trans (h.kinds j h1 hj),
  (hb.cell (p := ⟨0, 0, Option.none⟩) hk).trans h.none⟩
theorem Env.on {w w' : World} {B : Nat} (h : Env w) (hB : w.heap.size ≤ B) (hb : Below B w w') : Env w' := h.under (hb.mono hB)
theorem dec_eq (n : Nat) : dec n = Lib.decDigits n := by
 induction n using Nat.strongRecOn with
 | _ n ih =>
   unfold dec Lib.decDigits
   split
   · rfl
   · rw [ih (n / 10) (by omega)]
theorem itoa_dec {n : Int} (h : 0 ≤ n) : Lib.itoa n = decI n := by
 unfold Lib.itoa decI
 rw [if_neg (by omega), dec_eq]
theorem itoa_any (n : Int) (w : World) (hE : Env w) (h0 : 0 ≤ n) (h1 : n ≤ 9223372036854775807) : Calls Tryz.prog 80 #[.int .i64 n] w fun e w' => e = .returned (.string (bs (decI n))) ∧ Below w.heap.size w w' :=
 (Tryz.strconv_Itoa n (by omega) h1 w hE.tab).mono fun e w' ⟨he, k, os, hw⟩ => by
  subst hw
  rw [itoa_dec h0] at he
  exact ⟨he, Lib.below_grow _ w (Nat.le_refl _) k os⟩
set_option maxHeartbeats 800000 in
theorem within_any (n a b : Int) (w : World) : Calls Tryz.prog 64 #[.int .i64 n, .int .i64 a, .int .i64 b] w fun e w' => e = .returned (.bool (decide (a ≤ n) && decide (n ≤ b))) ∧ w = w' := by
 by_cases h1 : a ≤ n
 · rw [decide_eq_true h1, Bool.true_and]
   go_enter Tryz.func64, Tryz.ntmps64
   go_wp2
   go_ret
   exact ⟨rfl, rfl⟩
 · have h1 : n < a := by omega
   rw [decide_eq_false (by omega), Bool.false_and]
   go_enter Tryz.func64, Tryz.ntmps64
   go_wp2
   go_ret
   exact ⟨rfl, rfl⟩
theorem wordP_cut {l : Tx} {m : Nat} (hm : m ≤ 32) : wordP 1 m l = (decide ((l.length : Int) ≤ (m : Int)) && wordP 1 32 l) := by
 unfold wordP
 rw [Bool.eq_iff_iff]
 simp only [Bool.and_eq_true, decide_eq_true_eq]
 constructor
 · rintro ⟨h1, h2, h3⟩
   exact ⟨by omega, h1, h2, by omega⟩
 · rintro ⟨h1, h2, h3, h4⟩
   exact ⟨h2, h3, by omega⟩
set_option maxHeartbeats 800000 in
theorem wordOf_any (s : ByteArray) (m : Nat) (w : World) (hs : s.size ≤ maxLen) (hm : m ≤ 32) : Calls Tryz.prog 63 #[.string s, .int .i64 m] w fun e w' => e = .returned (.bool (wordP 1 m (tx s))) ∧ w = w' := by
 have HW := Lib.hid (word_any s w hs)
 unfold maxLen at hs
 have HE : Hid (wordP 1 m (tx s) = (decide ((s.size : Int) ≤ (m : Int)) && wordP 1 32 (tx s))) := Lib.hid (by rw [← tx_length]; exact wordP_cut hm)
 generalize wordP 1 m (tx s) = r at *
 generalize wordP 1 32 (tx s) = q at *
 by_cases h1 : (s.size : Int) ≤ (m : Int)
 · have HR : Hid (q = r) := Lib.hid (by rw [HE.out]; simp [h1])
   go_enter Tryz.func63, Tryz.ntmps63
   go_wp2_with (go_at_call 89; (with_reducible refine HW.out.mono ?_); rintro e w' ⟨rfl, rfl⟩)
   go_ret
   exact ⟨ret_bool HR.out, rfl⟩
 · have HR : Hid (false = r) := Lib.hid (by rw [HE.out]; simp [h1])
   have h1 : (m : Int) < (s.size : Int) := by omega
   go_enter Tryz.func63, Tryz.ntmps63
   go_wp2_with (go_at_call 89; (with_reducible refine HW.out.mono ?_); rintro e w' ⟨rfl, rfl⟩)
   go_ret
   exact ⟨ret_bool HR.out, rfl⟩
theorem prefix_blank (l : Tx) : Lib.hasPrefix l [32] = (l.head? == some 32) := by
 unfold Lib.hasPrefix
 cases l with
 | nil => rfl
 | cons c r => rw [Bool.eq_iff_iff]; simp only [List.isPrefixOf, Bool.and_true, beq_iff_eq, List.head?_cons, Option.some.injEq]; exact eq_comm
theorem suffix_blank (l : Tx) : Lib.hasSuffix l [32] = (l.getLast? == some 32) := by
 unfold Lib.hasSuffix List.isSuffixOf
 rw [List.getLast?_eq_head?_reverse]
 show List.isPrefixOf [32] l.reverse = _
 cases l.reverse with
 | nil => rfl
 | cons c r => rw [Bool.eq_iff_iff]; simp only [List.isPrefixOf, Bool.and_true, beq_iff_eq, List.head?_cons, Option.some.injEq]; exact eq_comm
theorem has_blank (l : Tx) : decide (0 ≤ Lib.indexByte l 32) = !(l.all (fun c => c != 32)) := by
 induction l with
 | nil => rfl
 | cons c r ih =>
   unfold Lib.indexByte
   rw [List.all_cons]
   by_cases h : c = 32
   · subst h; rfl
   · have h1 : (c == 32) = false := by simpa using h
     have h2 : (c != 32) = true := by simpa using h
     rw [h1, h2, Bool.true_and, ← ih]
     have hn : Lib.indexByte r 32 = -1 ∨ 0 ≤ Lib.indexByte r 32 := by
      clear ih
      induction r with
      | nil => exact .inl rfl
      | cons d r ih =>
        unfold Lib.indexByte
        by_cases hd : d == 32
        · rw [if_pos hd]; exact .inr (by omega)
        · rw [if_neg hd]
          rcases ih with ih | ih
          · rw [ih]; exact .inl rfl
          · rw [if_neg (by simp; omega)]; exact .inr (by omega)
     rcases hn with hn | hn
     · rw [hn]; rfl
     · have : (Lib.indexByte r 32 == -1) = false := by simp; omega
       rw [this]
       simp
       omega
set_option maxHeartbeats 1600000 in
theorem goodFormat_any (s : ByteArray) (w : World) (hs : s.size ≤ maxLen) : Calls Tryz.prog 160 #[.string s] w fun e w' => e = .returned (.bool (plainP (tx s))) ∧ w = w' := by
 have HV := Lib.hid (value_any s w hs)
 unfold maxLen at hs
 have HP : Hid (Calls Tryz.prog 188 #[.string s, .string ⟨#[32]⟩] w fun e w' => e = .returned (.bool ((tx s).head? == some 32)) ∧ w = w') := Lib.hid ((Tryz.strings_HasPrefix s ⟨#[32]⟩ w).mono fun e w' ⟨he, hw⟩ => ⟨by rw [he]; exact ret_bool (prefix_blank (tx s)), hw.symm⟩)
 have HS : Hid (Calls Tryz.prog 189 #[.string s, .string ⟨#[32]⟩] w fun e w' => e = .returned (.bool ((tx s).getLast? == some 32)) ∧ w = w') := Lib.hid ((Tryz.strings_HasSuffix s ⟨#[32]⟩ w (by omega)).mono fun e w' ⟨he, hw⟩ => ⟨by rw [he]; exact ret_bool (suffix_blank (tx s)), hw.symm⟩)
 have HE : Hid (plainP (tx s) = (valP (tx s) && decide ((s.size : Int) ≤ 100) && !((tx s).head? == some 32) && !((tx s).getLast? == some 32))) := Lib.hid (by
  unfold plainP
  congr 3
  rw [decide_eq_decide, tx_length]
  omega)
 generalize plainP (tx s) = r at *
 generalize ((tx s).head? == some 32) = p at *
 generalize ((tx s).getLast? == some 32) = q at *
 generalize valP (tx s) = v at *
 cases v with
 | false =>
   have HR : Hid (false = r) := Lib.hid (by rw [HE.out]; rfl)
   go_enter Tryz.func160, Tryz.ntmps160
   go_wp2_with (go_at_call 98; (with_reducible refine HV.out.mono ?_); rintro e w' ⟨rfl, rfl⟩)
   go_ret
   exact ⟨ret_bool HR.out, rfl⟩
 | true =>
   by_cases h1 : (s.size : Int) ≤ 100
   · cases p with
     | true =>
       have HR : Hid (false = r) := Lib.hid (by rw [HE.out]; simp)
       go_enter Tryz.func160, Tryz.ntmps160
       go_wp2_with (first
        | (go_at_call 98; (with_reducible refine HV.out.mono ?_); rintro e w' ⟨rfl, rfl⟩)
        | (go_at_call 188; (with_reducible refine HP.out.mono ?_); rintro e w' ⟨rfl, rfl⟩))
       go_ret
       exact ⟨ret_bool HR.out, rfl⟩
     | false =>
       have HR : Hid ((!q) = r) := Lib.hid (by rw [HE.out]; simp [h1])
       go_enter Tryz.func160, Tryz.ntmps160
       go_wp2_with (first
        | (go_at_call 98; (with_reducible refine HV.out.mono ?_); rintro e w' ⟨rfl, rfl⟩)
        | (go_at_call 188; (with_reducible refine HP.out.mono ?_); rintro e w' ⟨rfl, rfl⟩)
        | (go_at_call 189; (with_reducible refine HS.out.mono ?_); rintro e w' ⟨rfl, rfl⟩))
       go_ret
       exact ⟨ret_bool HR.out, rfl⟩
   · have HR : Hid (false = r) := Lib.hid (by rw [HE.out]; simp [h1])
     have h1 : 100 < (s.size : Int) := by omega
     go_enter Tryz.func160, Tryz.ntmps160
     go_wp2_with (go_at_call 98; (with_reducible refine HV.out.mono ?_); rintro e w' ⟨rfl, rfl⟩)
     go_ret
     exact ⟨ret_bool HR.out, rfl⟩
set_option maxHeartbeats 800000 in
theorem badFormat_any (s : ByteArray) (w : World) (hs : s.size ≤ maxLen) : Calls Tryz.prog 162 #[.string s] w fun e w' => e = .returned (.bool (!plainP (tx s))) ∧ w = w' := by
 have HV := Lib.hid (goodFormat_any s w hs)
 generalize plainP (tx s) = r at *
 go_enter Tryz.func162, Tryz.ntmps162
 go_wp2_with (go_at_call 160; (with_reducible refine HV.out.mono ?_); rintro e w' ⟨rfl, rfl⟩)
 go_ret
 exact ⟨rfl, rfl⟩
set_option maxHeartbeats 800000 in
theorem goodRid_any (s : ByteArray) (w : World) (hs : s.size ≤ maxLen) : Calls Tryz.prog 117 #[.string s] w fun e w' => e = .returned (.bool (goodR s)) ∧ w = w' := by
 have HV : Hid (Calls Tryz.prog 63 #[.string s, .int .i64 8] w fun e w' => e = .returned (.bool (wordP 1 8 (tx s))) ∧ w = w') := Lib.hid (wordOf_any s 8 w hs (by decide))
 have HE : Hid (goodR s = wordP 1 8 (tx s)) := Lib.hid rfl
 rw [HE.out]
 generalize wordP 1 8 (tx s) = r at *
 go_enter Tryz.func117, Tryz.ntmps117
 go_wp2_with (go_at_call 63; (with_reducible refine HV.out.mono ?_); rintro e w' ⟨rfl, rfl⟩)
 go_ret
 exact ⟨rfl, rfl⟩
theorem anySource_any (v : Value) (w : World) : Calls Tryz.prog 120 #[v] w fun e w' => e = .returned (.bool true) ∧ w = w' := by
 go_enter Tryz.func120, Tryz.ntmps120
 go_wp2
 go_ret
 exact ⟨rfl, rfl⟩
theorem itselfS_any (v : Value) (w : World) : Calls Tryz.prog 116 #[v] w fun e w' => e = .returned v ∧ w = w' := by
 go_enter Tryz.func116, Tryz.ntmps116
 go_wp2
 go_ret
 exact ⟨rfl, rfl⟩
theorem itselfU_any (v : Value) (w : World) : Calls Tryz.prog 119 #[v] w fun e w' => e = .returned v ∧ w = w' := by
 go_enter Tryz.func119, Tryz.ntmps119
 go_wp2
 go_ret
 exact ⟨rfl, rfl⟩
theorem codecType_any (n : Int) (a b c d e : Value) (w : World) : Calls Tryz.prog 110 #[.agg #[.int .i64 n, a, b, c, d, e]] w fun e w' => e = .returned (.int .i64 n) ∧ Below w.heap.size w w' := by
 go_enter Tryz.func110, Tryz.ntmps110
 go_wp2
 go_ret
 exact ⟨rfl, (Below.refl _ w).alloc (Nat.le_refl _) _⟩
theorem extID_any (n : Int) (a : Value) (w : World) : Calls Tryz.prog 113 #[.agg #[.int .i64 n, a]] w fun e w' => e = .returned (.int .i64 n) ∧ Below w.heap.size w w' := by
 go_enter Tryz.func113, Tryz.ntmps113
 go_wp2
 go_ret
 exact ⟨rfl, (Below.refl _ w).alloc (Nat.le_refl _) _⟩
set_option maxHeartbeats 1600000 in
theorem goodExt_any (x : ExtS) (w : World) (hs : x.uri.size ≤ maxLen) : Calls Tryz.prog 114 #[.agg #[.int .i64 x.id, .string x.uri]] w fun e w' => e = .returned (.bool (goodE x)) ∧ Below w.heap.size w w' := by
 obtain ⟨n, s⟩ := x
 have hs : s.size ≤ maxLen := hs
 have hb0 : Below w.heap.size w (w.alloc (.cells #[.int .i64 n, .string s] 76)) := (Below.refl _ w).alloc (Nat.le_refl _) _
 have hz := Whole.new w 76 #[.int .i64 n, .string s]
 have c0 := hz.cell 0
 have c1 := hz.cell 1
 have HB := Lib.hid hb0
 have HE : Hid (goodE ⟨n, s⟩ = ((decide ((1 : Int) ≤ n) && decide (n ≤ 14)) && (valP (tx s) && (decide ((s.size : Int) ≤ 100) && !decide (0 ≤ Lib.indexByte (tx s) 32))))) := Lib.hid (by
  unfold goodE uriP
  rw [has_blank, Bool.not_not, tx_length]
  have : decide (s.size ≤ 100) = decide ((s.size : Int) ≤ 100) := by rw [decide_eq_decide]; omega
  rw [this]
  simp only [Bool.and_assoc])
 clear hb0 hz
 show Calls _ _ _ _ fun e w' => e = .returned (.bool (goodE ⟨n, s⟩)) ∧ _
 obtain ⟨N, hN⟩ : ∃ N, w.heap.size = N := ⟨_, rfl⟩
 rw [hN] at c0 c1 HB ⊢
 generalize goodE ⟨n, s⟩ = r at *
 go_enter Tryz.func114, Tryz.ntmps114
 go_upto_region 1 with fail
 generalize w.alloc (.cells #[.int .i64 n, .string s] 76) = W at *
 have HT := Lib.hid (within_any n 1 14 W)
 have HV := Lib.hid (value_any s W hs)
 have HC : Hid (Calls Tryz.prog 165 #[.string s, .string ⟨#[32]⟩] W fun e w' => e = .returned (.bool (decide (0 ≤ Lib.indexByte (tx s) 32))) ∧ W = w') := Lib.hid ((Tryz.strings_Contains_one s 32 W).mono fun e w' ⟨he, hw⟩ => ⟨he, hw.symm⟩)
 unfold maxLen at hs
 generalize decide (0 ≤ Lib.indexByte (tx s) 32) = p at *
 generalize valP (tx s) = v at *
 generalize (decide ((1 : Int) ≤ n) && decide (n ≤ 14)) = t at *
 clear hN
 cases t with
 | false =>
   have HR : Hid (false = r) := Lib.hid (by rw [HE.out]; rfl)
   go_wp2_with (go_at_call 64; (with_reducible refine HT.out.mono ?_); rintro e w' ⟨rfl, rfl⟩)
   go_ret
   exact ⟨ret_bool HR.out, HB.out⟩
 | true =>
   cases v with
   | false =>
     have HR : Hid (false = r) := Lib.hid (by rw [HE.out]; rfl)
     go_wp2_with (first
      | (go_at_call 64; (with_reducible refine HT.out.mono ?_); rintro e w' ⟨rfl, rfl⟩)
      | (go_at_call 98; (with_reducible refine HV.out.mono ?_); rintro e w' ⟨rfl, rfl⟩))
     go_ret
     exact ⟨ret_bool HR.out, HB.out⟩
   | true =>
     by_cases h1 : (s.size : Int) ≤ 100
     · have HR : Hid ((!p) = r) := Lib.hid (by rw [HE.out]; simp [h1])
       go_wp2_with (first
        | (go_at_call 64; (with_reducible refine HT.out.mono ?_); rintro e w' ⟨rfl, rfl⟩)
        | (go_at_call 98; (with_reducible refine HV.out.mono ?_); rintro e w' ⟨rfl, rfl⟩)
        | (go_at_call 165; (with_reducible refine HC.out.mono ?_); rintro e w' ⟨rfl, rfl⟩))
       go_ret
       exact ⟨ret_bool HR.out, HB.out⟩
     · have HR : Hid (false = r) := Lib.hid (by rw [HE.out]; simp [h1])
       have h1 : 100 < (s.size : Int) := by omega
       go_wp2_with (first
        | (go_at_call 64; (with_reducible refine HT.out.mono ?_); rintro e w' ⟨rfl, rfl⟩)
        | (go_at_call 98; (with_reducible refine HV.out.mono ?_); rintro e w' ⟨rfl, rfl⟩))
       go_ret
       exact ⟨ret_bool HR.out, HB.out⟩
set_option maxHeartbeats 800000 in
theorem goodCrypto_any (n : Int) (ks : List Value) (w : World) (hk : ks.length = 30) : Calls Tryz.prog 123 #[.agg (Value.int .i64 n :: ks).toArray] w fun e w' => e = .returned (.bool (decide (1 ≤ n) && decide (n ≤ 9))) ∧ Below w.heap.size w w' := by
 have hb0 : Below w.heap.size w (w.alloc (.cells (Value.int .i64 n :: ks).toArray 82)) := (Below.refl _ w).alloc (Nat.le_refl _) _
 have hz := Whole.new w 82 (Value.int .i64 n :: ks).toArray
 have c0 : (w.alloc (.cells (Value.int .i64 n :: ks).toArray 82)).cell? ⟨w.heap.size, 0, none⟩ = some (.int .i64 n) := hz.cell 0
 have HB := Lib.hid hb0
 clear hb0 hz
 obtain ⟨N, hN⟩ : ∃ N, w.heap.size = N := ⟨_, rfl⟩
 rw [hN] at c0 HB ⊢
 have HTT : Hid (∀ W, Calls Tryz.prog 64 #[.int .i64 n, .int .i64 1, .int .i64 9] W fun e w' => e = .returned (.bool (decide ((1 : Int) ≤ n) && decide (n ≤ 9))) ∧ W = w') := Lib.hid fun W => within_any n 1 9 W
 generalize (decide ((1 : Int) ≤ n) && decide (n ≤ 9)) = t at *
 go_enter Tryz.func123, Tryz.ntmps123
 go_upto_region 1 with fail
 generalize w.alloc (.cells (Value.int .i64 n :: ks).toArray 82) = W at *
 have HT := Lib.hid (HTT.out W)
 clear hN
 go_wp2_with (go_at_call 64; (with_reducible refine HT.out.mono ?_); rintro e w' ⟨rfl, rfl⟩)
 go_ret
 exact ⟨rfl, HB.out⟩
def numP (l : Tx) : Int := match Lib.atoiAll l with
 | .ok v => v
 | Lib.NumEnd.syntax => 0
 | .range => Lib.atoiSat l
def srcP (l : Tx) : Nat := match Lib.parseUintB 32 l with
 | .ok u => u
 | Lib.NumEnd.syntax => 0
 | .range => 4294967295
def valD (acc : Nat) : Tx → Nat
 | [] => acc
 | c :: r => valD (acc * 10 + (c.toNat - 48)) r
theorem valD_ge (l : Tx) : ∀ acc, acc ≤ valD acc l := by
 induction l with
 | nil => exact fun acc => Nat.le_refl _
 | cons c r ih =>
   intro acc
   have := ih (acc * 10 + (c.toNat - 48))
   show acc ≤ valD (acc * 10 + (c.toNat - 48)) r
   omega
theorem valD_append (a b : Tx) : ∀ acc, valD acc (a ++ b) = valD (valD acc a) b := by
 induction a with
 | nil => exact fun acc => rfl
 | cons c r ih => exact fun acc => ih _
theorem valD_dec (n : Nat) : valD 0 (dec n) = n := by
 induction n using Nat.strongRecOn with
 | _ n ih =>
   unfold dec
   split
   · next h =>
     show 0 * 10 + ((UInt8.ofNat (48 + n)).toNat - 48) = n
     rw [UInt8.toNat_ofNat']
     omega
   · next h =>
     rw [valD_append, ih (n / 10) (by omega)]
     show n / 10 * 10 + ((UInt8.ofNat (48 + n % 10)).toNat - 48) = n
     rw [UInt8.toNat_ofNat']
     omega
theorem parse10_ok : ∀ (l : Tx) (acc : Nat), (∀ c ∈ l, 48 ≤ c.toNat ∧ c.toNat ≤ 57) → valD acc l < 1000000000000000000 → Lib.parseUint10 acc l = .ok (valD acc l)
 | [], acc, _, _ => rfl
 | c :: r, acc, h, hv => by
   have hc := h c (by simp)
   have hv' : valD (acc * 10 + (c.toNat - 48)) r < 1000000000000000000 := hv
   have hg := valD_ge r (acc * 10 + (c.toNat - 48))
   unfold Lib.parseUint10
   rw [if_pos hc, if_neg (by omega), if_neg (by omega)]
   exact parse10_ok r _ (fun d hd => h d (by simp [hd])) hv'
theorem parseM_ok (M : Nat) : ∀ (l : Tx) (acc : Nat), (∀ c ∈ l, 48 ≤ c.toNat ∧ c.toNat ≤ 57) → valD acc l ≤ M → M < 1000000000000000000 → Lib.parseUintM M acc l = .ok (valD acc l)
 | [], acc, _, _, _ => rfl
 | c :: r, acc, h, hv, hM => by
   have hc := h c (by simp)
   have hv' : valD (acc * 10 + (c.toNat - 48)) r ≤ M := hv
   have hg := valD_ge r (acc * 10 + (c.toNat - 48))
   unfold Lib.parseUintM
   rw [if_pos hc, if_neg (by omega), if_neg (by omega)]
   exact parseM_ok M r _ (fun d hd => h d (by simp [hd])) hv' hM
theorem numP_dec {n : Nat} (h : n ≤ 1000000) : numP (dec n) = n := by
 have hd := dec_digit n
 have h1 : Lib.atoiAll (dec n) = .ok (n : Int) := by
  have hp : Lib.parseMag (dec n) = .ok n := by
   unfold Lib.parseMag
   rw [if_neg (dec_ne n), parse10_ok _ 0 hd (by rw [valD_dec]; omega), valD_dec]
  cases hl : dec n with
  | nil => exact (dec_ne n hl).elim
  | cons c r =>
    rw [hl] at hp hd
    have hc := hd c (by simp)
    unfold Lib.atoiAll
    simp only
    rw [if_neg (by omega), hp]
    simp only
    rw [if_neg (by omega), if_neg (by omega), if_neg (by omega)]
 unfold numP
 rw [h1]
theorem srcP_dec {n : Nat} (h : n < 4294967296) : srcP (dec n) = n := by
 have h1 : Lib.parseUintB 32 (dec n) = .ok n := by
  unfold Lib.parseUintB
  rw [if_neg (dec_ne n), parseM_ok _ _ 0 (dec_digit n) (by rw [valD_dec]; omega) (by decide), valD_dec]
 unfold srcP
 rw [h1]
theorem srcP_lt (l : Tx) : srcP l < 4294967296 := by
 unfold srcP
 cases h : Lib.parseUintB 32 l with
 | ok u =>
   have := Lib.parseUintB_le h
   show u < _
   omega
 | range => decide
 | _ => decide
structure EnvR (w : World) : Prop where
 env : Env w
 syn : ∃ ev, w.cell? ⟨4, 0, none⟩ = some ev ∧ (ev = .nilIface ∨ ∃ te pe, ev = .iface te pe)
 rng : ∃ ev, w.cell? ⟨5, 0, none⟩ = some ev ∧ (ev = .nilIface ∨ ∃ te pe, ev = .iface te pe)
theorem EnvR.under {w w' : World} (h : EnvR w) (hb : Below w.heap.size w w') : EnvR w' := by
 obtain ⟨e1, h1, k1⟩ := h.syn
 obtain ⟨e2, h2, k2⟩ := h.rng
 exact ⟨h.env.under hb, ⟨e1, (hb.cell (p := ⟨4, 0, Option.none⟩) (block_lt_of_cell h1)).trans h1, k1⟩, ⟨e2, (hb.cell (p := ⟨5, 0, Option.none⟩) (block_lt_of_cell h2)).trans h2, k2⟩⟩
theorem bytes_below (w : World) (t : ByteArray) : Below w.heap.size w (Lib.bytesWorld w 5 t) := Go.Joins.below_bytesWorld _ w _ t (Nat.le_refl _)
set_option maxHeartbeats 800000 in
theorem atoi_any (s : ByteArray) (w : World) (hE : EnvR w) (hs : s.size ≤ 281474976710656) : Calls Tryz.prog 124 #[.string s] w fun e w' => (∃ er, e = .returned (.tuple #[.int .i64 (numP (tx s)), er])) ∧ Below w.heap.size w w' := by
 cases h : Lib.atoiAll s.data.toList with
 | ok v =>
   have hn : numP (tx s) = v := by
    show (match Lib.atoiAll s.data.toList with | .ok v => v | Lib.NumEnd.syntax => 0 | .range => Lib.atoiSat s.data.toList) = v
    rw [h]
   rw [hn]
   refine (Tryz.strconv_Atoi_ok s (by omega) v h w).mono fun e w' hh => ⟨⟨_, hh.1⟩, ?_⟩
   rcases hh.2 with rfl | ⟨t, rfl⟩
   · exact Below.refl _ _
   · exact bytes_below w t
 | range =>
   have hn : numP (tx s) = Lib.atoiSat s.data.toList := by
    show (match Lib.atoiAll s.data.toList with | .ok v => v | Lib.NumEnd.syntax => 0 | .range => Lib.atoiSat s.data.toList) = Lib.atoiSat s.data.toList
    rw [h]
   rw [hn]
   obtain ⟨ev, hv, hev⟩ := hE.rng
   exact (Tryz.strconv_Atoi_range s hs h ev w hv hev).mono fun e w' ⟨N, h1, _, _, h4⟩ => ⟨⟨_, h1⟩, h4⟩
 | _ =>
   have hn : numP (tx s) = 0 := by
    show (match Lib.atoiAll s.data.toList with | .ok v => v | Lib.NumEnd.syntax => 0 | .range => Lib.atoiSat s.data.toList) = 0
    rw [h]
   rw [hn]
   obtain ⟨ev, hv, hev⟩ := hE.syn
   exact (Tryz.strconv_Atoi_syntax s hs h ev w hv hev).mono fun e w' ⟨N, h1, _, _, h4⟩ => ⟨⟨_, h1⟩, h4⟩
set_option maxHeartbeats 800000 in
theorem parseU_any (s : ByteArray) (w : World) (hE : EnvR w) (hs : s.size ≤ 281474976710656) : Calls Tryz.prog 174 #[.string s, .int .i64 10, .int .i64 32] w fun e w' => (∃ er, e = .returned (.tuple #[.int .u64 (srcP (tx s) : Nat), er])) ∧ Below w.heap.size w w' := by
 cases h : Lib.parseUintB 32 s.data.toList with
 | ok v =>
   have hn : srcP (tx s) = v := by
    show (match Lib.parseUintB 32 s.data.toList with | .ok v => v | Lib.NumEnd.syntax => 0 | .range => 4294967295) = v
    rw [h]
   rw [hn]
   refine (Tryz.strconv_ParseUint_10_at32_ok s (by omega) v h w).mono fun e w' hh => ⟨⟨_, hh.1⟩, ?_⟩
   rcases hh.2 with rfl | rfl
   · exact Below.refl _ _
   · exact bytes_below w s
 | range =>
   have hn : srcP (tx s) = 4294967295 := by
    show (match Lib.parseUintB 32 s.data.toList with | .ok v => v | Lib.NumEnd.syntax => 0 | .range => 4294967295) = 4294967295
    rw [h]
   rw [hn]
   obtain ⟨ev, hv, hev⟩ := hE.rng
   exact (Tryz.strconv_ParseUint_10_at32_range s hs h ev w hv hev).mono fun e w' ⟨N, h1, _, _, h4⟩ => ⟨⟨_, h1⟩, h4⟩
 | _ =>
   have hn : srcP (tx s) = 0 := by
    show (match Lib.parseUintB 32 s.data.toList with | .ok v => v | Lib.NumEnd.syntax => 0 | .range => 4294967295) = 0
    rw [h]
   rw [hn]
   obtain ⟨ev, hv, hev⟩ := hE.syn
   exact (Tryz.strconv_ParseUint_10_at32_syntax s hs h ev w hv hev).mono fun e w' ⟨N, h1, _, _, h4⟩ => ⟨⟨_, h1⟩, h4⟩
set_option maxHeartbeats 800000 in
theorem number_any (s : ByteArray) (w : World) (hE : EnvR w) (hs : s.size ≤ 281474976710656) : Calls Tryz.prog 69 #[.string s] w fun e w' => e = .returned (.int .i64 (numP (tx s))) ∧ Below w.heap.size w w' := by
 have HC := Lib.hid (atoi_any s w hE hs)
 generalize numP (tx s) = n at *
 go_enter Tryz.func69, Tryz.ntmps69
 go_wp2_with (go_at_call 124; (with_reducible refine HC.out.mono ?_); rintro e w1 ⟨⟨er, rfl⟩, hb1⟩)
 go_ret
 exact ⟨rfl, hb1⟩
theorem any_no {α : Type} [Inhabited α] {L : List α} {q : α → Bool} {n : Nat} (hn : L.length = n) (h : ∀ j, j < n → q (L.getD j default) = false) : L.any q = false := by
 rw [List.any_eq_false]
 intro a ha
 obtain ⟨j, hj, rfl⟩ := List.getElem_of_mem ha
 have := h j (by omega)
 simpa [List.getD, hj] using this
theorem any_yes {α : Type} [Inhabited α] {L : List α} {q : α → Bool} {j : Nat} (hj : j < L.length) (h : q (L.getD j default) = true) : L.any q = true := by
 rw [List.any_eq_true]
 exact ⟨_, getD_mem hj, h⟩
set_option maxHeartbeats 1600000 in
set_option maxRecDepth 100000 in
theorem indexB_any (A : Option Addr) (n c : Nat) (L : List ByteArray) (q : ByteArray → Bool) (w : World) (h : TextsV w w.heap.size (.slice A n c) L) (hn : L.length = n) (hl : n ≤ 4611686018427387904)
 (hp : ∀ (W : World) (x : ByteArray), Below w.heap.size w W → x ∈ L → Calls Tryz.prog 162 #[.string x] W fun e w' => e = .returned (.bool (q x)) ∧ Below W.heap.size W w') :
 Calls Tryz.prog 190 #[.slice A n c, .func (.func 162) #[] #[]] w fun e w' => ∃ r : Int, e = .returned (.int .i64 r) ∧ decide (0 ≤ r) = L.any q ∧ Below w.heap.size w w' := by
 have HA := Lib.hid h
 have HP := Lib.hid hp
 have HE := Lib.hid hn
 clear h hn hp
 go_enter Tryz.func190, Tryz.ntmps190
 go_wp2
 go_loopw [8] (fun s8 wr => ∃ k : Nat, k ≤ n ∧ s8 = .int .i64 k ∧ (∀ j, j < k → q (L.getD j default) = false) ∧ Below w.heap.size w wr) (fun s8 _ => n - (intOf s8).toNat)
 case atStart => exact ⟨0, by omega, rfl, (fun j hj => by omega), Below.refl _ w⟩
 case round =>
  obtain ⟨k, hk, rfl, hno, hb⟩ := hrel
  have HNO := Lib.hid hno
  clear hno
  by_cases hlt : k < n
  · have hlt' : k < L.length := by rw [HE.out]; exact hlt
    obtain ⟨ad, c', e1, had, c0⟩ := (HA.out.below hb).at_ hlt'
    injection e1 with e1 e1n e1c
    clear e1n e1c
    subst e1
    obtain ⟨x, hx⟩ : ∃ x, L.getD k default = x := ⟨_, rfl⟩
    have HM : Hid (x ∈ L) := Lib.hid (by rw [← hx]; exact getD_mem hlt')
    rw [hx] at c0
    have HX := Lib.hid hx
    have HB := Lib.hid (And.intro hb hlt')
    obtain ⟨b, hbb⟩ : ∃ b, q x = b := ⟨_, rfl⟩
    have HS := Lib.hid (HP.out wr x hb HM.out)
    rw [hbb] at HS
    have HBT := Lib.hid hbb
    clear hbb hx hb hlt' had
    have hk0 : (0 : Int) ≤ (k : Int) := by omega
    have hk1 : (k : Int) < (n : Int) := by omega
    cases b with
    | true =>
      go_wp2_with (go_at_call 162; (with_reducible refine HS.out.mono ?_); rintro e w2 ⟨rfl, hb2⟩)
      go_ret
      exact ⟨_, rfl, by rw [any_yes HB.out.2 (by rw [HX.out]; exact HBT.out)]; exact decide_eq_true hk0, HB.out.1.trans (hb2.mono HB.out.1.size)⟩
    | false =>
      go_wp2_with (go_at_call 162; (with_reducible refine HS.out.mono ?_); rintro e w2 ⟨rfl, hb2⟩)
      go_roundw
      case rel =>
       refine ⟨k + 1, by omega, by go_num, fun j hj => ?_, HB.out.1.trans (hb2.mono HB.out.1.size)⟩
       by_cases e : j = k
       · subst e
         rw [HX.out]
         exact HBT.out
       · exact HNO.out j (by omega)
      case measure => simp [intOf]; omega
  · have e : k = n := by omega
    subst e
    have HN : Hid (L.any q = false) := Lib.hid (any_no HE.out HNO.out)
    have HB := Lib.hid hb
    clear hb
    go_wp2
    go_ret
    exact ⟨_, rfl, by rw [HN.out]; rfl, HB.out⟩
set_option maxHeartbeats 800000 in
theorem containsB_any (A : Option Addr) (n c : Nat) (L : List ByteArray) (q : ByteArray → Bool) (w : World) (h : TextsV w w.heap.size (.slice A n c) L) (hn : L.length = n) (hl : n ≤ 4611686018427387904)
 (hp : ∀ (W : World) (x : ByteArray), Below w.heap.size w W → x ∈ L → Calls Tryz.prog 162 #[.string x] W fun e w' => e = .returned (.bool (q x)) ∧ Below W.heap.size W w') :
 Calls Tryz.prog 161 #[.slice A n c, .func (.func 162) #[] #[]] w fun e w' => e = .returned (.bool (L.any q)) ∧ Below w.heap.size w w' := by
 have HC := Lib.hid (indexB_any A n c L q  w h hn hl hp)
 clear h hp
 generalize L.any q = r at *
 go_enter Tryz.func161, Tryz.ntmps161
 go_wp2_with (go_at_call 190; (with_reducible refine HC.out.mono ?_); rintro e w2 ⟨i, rfl, hi, hb2⟩)
 go_ret
 first | exact ⟨rfl, hb2⟩ | exact ⟨ret_bool hi, hb2⟩
set_option maxHeartbeats 1600000 in
set_option maxRecDepth 100000 in
theorem indexS_any (A : Option Addr) (n c : Nat) (L : List ByteArray) (q : ByteArray → Bool) (p1 : Value) (p2 : Value) (w : World) (h : TextsV w w.heap.size (.slice A n c) L) (hn : L.length = n) (hl : n ≤ 4611686018427387904)
 (hp : ∀ (W : World) (x : ByteArray), Below w.heap.size w W → x ∈ L → Calls Tryz.prog 166 #[.string x, p1, p2] W fun e w' => e = .returned (.bool (q x)) ∧ Below W.heap.size W w') :
 Calls Tryz.prog 190 #[.slice A n c, .func (.func 166) #[] #[p1, p2]] w fun e w' => ∃ r : Int, e = .returned (.int .i64 r) ∧ decide (0 ≤ r) = L.any q ∧ Below w.heap.size w w' := by
 have HA := Lib.hid h
 have HP := Lib.hid hp
 have HE := Lib.hid hn
 clear h hn hp
 go_enter Tryz.func190, Tryz.ntmps190
 go_wp2
 go_loopw [8] (fun s8 wr => ∃ k : Nat, k ≤ n ∧ s8 = .int .i64 k ∧ (∀ j, j < k → q (L.getD j default) = false) ∧ Below w.heap.size w wr) (fun s8 _ => n - (intOf s8).toNat)
 case atStart => exact ⟨0, by omega, rfl, (fun j hj => by omega), Below.refl _ w⟩
 case round =>
  obtain ⟨k, hk, rfl, hno, hb⟩ := hrel
  have HNO := Lib.hid hno
  clear hno
  by_cases hlt : k < n
  · have hlt' : k < L.length := by rw [HE.out]; exact hlt
    obtain ⟨ad, c', e1, had, c0⟩ := (HA.out.below hb).at_ hlt'
    injection e1 with e1 e1n e1c
    clear e1n e1c
    subst e1
    obtain ⟨x, hx⟩ : ∃ x, L.getD k default = x := ⟨_, rfl⟩
    have HM : Hid (x ∈ L) := Lib.hid (by rw [← hx]; exact getD_mem hlt')
    rw [hx] at c0
    have HX := Lib.hid hx
    have HB := Lib.hid (And.intro hb hlt')
    obtain ⟨b, hbb⟩ : ∃ b, q x = b := ⟨_, rfl⟩
    have HS := Lib.hid (HP.out wr x hb HM.out)
    rw [hbb] at HS
    have HBT := Lib.hid hbb
    clear hbb hx hb hlt' had
    have hk0 : (0 : Int) ≤ (k : Int) := by omega
    have hk1 : (k : Int) < (n : Int) := by omega
    cases b with
    | true =>
      go_wp2_with (go_at_call 166; (with_reducible refine HS.out.mono ?_); rintro e w2 ⟨rfl, hb2⟩)
      go_ret
      exact ⟨_, rfl, by rw [any_yes HB.out.2 (by rw [HX.out]; exact HBT.out)]; exact decide_eq_true hk0, HB.out.1.trans (hb2.mono HB.out.1.size)⟩
    | false =>
      go_wp2_with (go_at_call 166; (with_reducible refine HS.out.mono ?_); rintro e w2 ⟨rfl, hb2⟩)
      go_roundw
      case rel =>
       refine ⟨k + 1, by omega, by go_num, fun j hj => ?_, HB.out.1.trans (hb2.mono HB.out.1.size)⟩
       by_cases e : j = k
       · subst e
         rw [HX.out]
         exact HBT.out
       · exact HNO.out j (by omega)
      case measure => simp [intOf]; omega
  · have e : k = n := by omega
    subst e
    have HN : Hid (L.any q = false) := Lib.hid (any_no HE.out HNO.out)
    have HB := Lib.hid hb
    clear hb
    go_wp2
    go_ret
    exact ⟨_, rfl, by rw [HN.out]; rfl, HB.out⟩
set_option maxHeartbeats 800000 in
theorem containsS_any (A : Option Addr) (n c : Nat) (L : List ByteArray) (q : ByteArray → Bool) (p1 : Value) (p2 : Value) (w : World) (h : TextsV w w.heap.size (.slice A n c) L) (hn : L.length = n) (hl : n ≤ 4611686018427387904)
 (hp : ∀ (W : World) (x : ByteArray), Below w.heap.size w W → x ∈ L → Calls Tryz.prog 166 #[.string x, p1, p2] W fun e w' => e = .returned (.bool (q x)) ∧ Below W.heap.size W w') :
 Calls Tryz.prog 161 #[.slice A n c, .func (.func 166) #[] #[p1, p2]] w fun e w' => e = .returned (.bool (L.any q)) ∧ Below w.heap.size w w' := by
 have HC := Lib.hid (indexS_any A n c L q p1 p2 w h hn hl hp)
 clear h hp
 generalize L.any q = r at *
 go_enter Tryz.func161, Tryz.ntmps161
 go_wp2_with (go_at_call 190; (with_reducible refine HC.out.mono ?_); rintro e w2 ⟨i, rfl, hi, hb2⟩)
 go_ret
 first | exact ⟨rfl, hb2⟩ | exact ⟨ret_bool hi, hb2⟩
set_option maxHeartbeats 1600000 in
set_option maxRecDepth 100000 in
theorem indexU_any (A : Option Addr) (n c : Nat) (L : List Nat) (q : Nat → Bool) (p1 : Value) (p2 : Value) (w : World) (h : NumsV w w.heap.size (.slice A n c) L) (hn : L.length = n) (hl : n ≤ 4611686018427387904)
 (hp : ∀ (W : World) (x : Nat), Below w.heap.size w W → x ∈ L → Calls Tryz.prog 167 #[.int .u32 (x : Nat), p1, p2] W fun e w' => e = .returned (.bool (q x)) ∧ Below W.heap.size W w') :
 Calls Tryz.prog 193 #[.slice A n c, .func (.func 167) #[] #[p1, p2]] w fun e w' => ∃ r : Int, e = .returned (.int .i64 r) ∧ decide (0 ≤ r) = L.any q ∧ Below w.heap.size w w' := by
 have HA := Lib.hid h
 have HP := Lib.hid hp
 have HE := Lib.hid hn
 clear h hn hp
 go_enter Tryz.func193, Tryz.ntmps193
 go_wp2
 go_loopw [8] (fun s8 wr => ∃ k : Nat, k ≤ n ∧ s8 = .int .i64 k ∧ (∀ j, j < k → q (L.getD j default) = false) ∧ Below w.heap.size w wr) (fun s8 _ => n - (intOf s8).toNat)
 case atStart => exact ⟨0, by omega, rfl, (fun j hj => by omega), Below.refl _ w⟩
 case round =>
  obtain ⟨k, hk, rfl, hno, hb⟩ := hrel
  have HNO := Lib.hid hno
  clear hno
  by_cases hlt : k < n
  · have hlt' : k < L.length := by rw [HE.out]; exact hlt
    obtain ⟨ad, c', e1, had, c0⟩ := (HA.out.below hb).at_ hlt'
    injection e1 with e1 e1n e1c
    clear e1n e1c
    subst e1
    obtain ⟨x, hx⟩ : ∃ x, L.getD k default = x := ⟨_, rfl⟩
    have HM : Hid (x ∈ L) := Lib.hid (by rw [← hx]; exact getD_mem hlt')
    rw [hx] at c0
    have HX := Lib.hid hx
    have HB := Lib.hid (And.intro hb hlt')
    obtain ⟨b, hbb⟩ : ∃ b, q x = b := ⟨_, rfl⟩
    have HS := Lib.hid (HP.out wr x hb HM.out)
    rw [hbb] at HS
    have HBT := Lib.hid hbb
    clear hbb hx hb hlt' had
    have hk0 : (0 : Int) ≤ (k : Int) := by omega
    have hk1 : (k : Int) < (n : Int) := by omega
    cases b with
    | true =>
      go_wp2_with (go_at_call 167; (with_reducible refine HS.out.mono ?_); rintro e w2 ⟨rfl, hb2⟩)
      go_ret
      exact ⟨_, rfl, by rw [any_yes HB.out.2 (by rw [HX.out]; exact HBT.out)]; exact decide_eq_true hk0, HB.out.1.trans (hb2.mono HB.out.1.size)⟩
    | false =>
      go_wp2_with (go_at_call 167; (with_reducible refine HS.out.mono ?_); rintro e w2 ⟨rfl, hb2⟩)
      go_roundw
      case rel =>
       refine ⟨k + 1, by omega, by go_num, fun j hj => ?_, HB.out.1.trans (hb2.mono HB.out.1.size)⟩
       by_cases e : j = k
       · subst e
         rw [HX.out]
         exact HBT.out
       · exact HNO.out j (by omega)
      case measure => simp [intOf]; omega
  · have e : k = n := by omega
    subst e
    have HN : Hid (L.any q = false) := Lib.hid (any_no HE.out HNO.out)
    have HB := Lib.hid hb
    clear hb
    go_wp2
    go_ret
    exact ⟨_, rfl, by rw [HN.out]; rfl, HB.out⟩
set_option maxHeartbeats 800000 in
theorem containsU_any (A : Option Addr) (n c : Nat) (L : List Nat) (q : Nat → Bool) (p1 : Value) (p2 : Value) (w : World) (h : NumsV w w.heap.size (.slice A n c) L) (hn : L.length = n) (hl : n ≤ 4611686018427387904)
 (hp : ∀ (W : World) (x : Nat), Below w.heap.size w W → x ∈ L → Calls Tryz.prog 167 #[.int .u32 (x : Nat), p1, p2] W fun e w' => e = .returned (.bool (q x)) ∧ Below W.heap.size W w') :
 Calls Tryz.prog 168 #[.slice A n c, .func (.func 167) #[] #[p1, p2]] w fun e w' => e = .returned (.bool (L.any q)) ∧ Below w.heap.size w w' := by
 have HC := Lib.hid (indexU_any A n c L q p1 p2 w h hn hl hp)
 clear h hp
 generalize L.any q = r at *
 go_enter Tryz.func168, Tryz.ntmps168
 go_wp2_with (go_at_call 193; (with_reducible refine HC.out.mono ?_); rintro e w2 ⟨i, rfl, hi, hb2⟩)
 go_ret
 first | exact ⟨rfl, hb2⟩ | exact ⟨ret_bool hi, hb2⟩
set_option maxHeartbeats 1600000 in
set_option maxRecDepth 100000 in
theorem indexE_any (A : Option Addr) (n c : Nat) (L : List ExtS) (q : ExtS → Bool) (p1 : Value) (p2 : Value) (w : World) (h : ExtsV w w.heap.size (.slice A n c) L) (hn : L.length = n) (hl : n ≤ 4611686018427387904)
 (hp : ∀ (W : World) (x : ExtS), Below w.heap.size w W → x ∈ L → Calls Tryz.prog 163 #[.agg #[.int .i64 x.id, .string x.uri], p1, p2] W fun e w' => e = .returned (.bool (q x)) ∧ Below W.heap.size W w') :
 Calls Tryz.prog 191 #[.slice A n c, .func (.func 163) #[] #[p1, p2]] w fun e w' => ∃ r : Int, e = .returned (.int .i64 r) ∧ decide (0 ≤ r) = L.any q ∧ Below w.heap.size w w' := by
 have HA := Lib.hid h
 have HP := Lib.hid hp
 have HE := Lib.hid hn
 clear h hn hp
 go_enter Tryz.func191, Tryz.ntmps191
 go_wp2
 go_loopw [8] (fun s8 wr => ∃ k : Nat, k ≤ n ∧ s8 = .int .i64 k ∧ (∀ j, j < k → q (L.getD j default) = false) ∧ Below w.heap.size w wr) (fun s8 _ => n - (intOf s8).toNat)
 case atStart => exact ⟨0, by omega, rfl, (fun j hj => by omega), Below.refl _ w⟩
 case round =>
  obtain ⟨k, hk, rfl, hno, hb⟩ := hrel
  have HNO := Lib.hid hno
  clear hno
  by_cases hlt : k < n
  · have hlt' : k < L.length := by rw [HE.out]; exact hlt
    obtain ⟨ad, c', e1, had, c0, c1⟩ := (HA.out.below hb).at_ hlt'
    injection e1 with e1 e1n e1c
    clear e1n e1c
    subst e1
    obtain ⟨x, hx⟩ : ∃ x, L.getD k default = x := ⟨_, rfl⟩
    have HM : Hid (x ∈ L) := Lib.hid (by rw [← hx]; exact getD_mem hlt')
    rw [hx] at c0 c1
    have HX := Lib.hid hx
    have HB := Lib.hid (And.intro hb hlt')
    obtain ⟨b, hbb⟩ : ∃ b, q x = b := ⟨_, rfl⟩
    have HS := Lib.hid (HP.out wr x hb HM.out)
    rw [hbb] at HS
    have HBT := Lib.hid hbb
    clear hbb hx hb hlt' had
    have hk0 : (0 : Int) ≤ (k : Int) := by omega
    have hk1 : (k : Int) < (n : Int) := by omega
    cases b with
    | true =>
      go_wp2_with (go_at_call 163; (with_reducible refine HS.out.mono ?_); rintro e w2 ⟨rfl, hb2⟩)
      go_ret
      exact ⟨_, rfl, by rw [any_yes HB.out.2 (by rw [HX.out]; exact HBT.out)]; exact decide_eq_true hk0, HB.out.1.trans (hb2.mono HB.out.1.size)⟩
    | false =>
      go_wp2_with (go_at_call 163; (with_reducible refine HS.out.mono ?_); rintro e w2 ⟨rfl, hb2⟩)
      go_roundw
      case rel =>
       refine ⟨k + 1, by omega, by go_num, fun j hj => ?_, HB.out.1.trans (hb2.mono HB.out.1.size)⟩
       by_cases e : j = k
       · subst e
         rw [HX.out]
         exact HBT.out
       · exact HNO.out j (by omega)
      case measure => simp [intOf]; omega
  · have e : k = n := by omega
    subst e
    have HN : Hid (L.any q = false) := Lib.hid (any_no HE.out HNO.out)
    have HB := Lib.hid hb
    clear hb
    go_wp2
    go_ret
    exact ⟨_, rfl, by rw [HN.out]; rfl, HB.out⟩
set_option maxHeartbeats 800000 in
theorem containsE_any (A : Option Addr) (n c : Nat) (L : List ExtS) (q : ExtS → Bool) (p1 : Value) (p2 : Value) (w : World) (h : ExtsV w w.heap.size (.slice A n c) L) (hn : L.length = n) (hl : n ≤ 4611686018427387904)
 (hp : ∀ (W : World) (x : ExtS), Below w.heap.size w W → x ∈ L → Calls Tryz.prog 163 #[.agg #[.int .i64 x.id, .string x.uri], p1, p2] W fun e w' => e = .returned (.bool (q x)) ∧ Below W.heap.size W w') :
 Calls Tryz.prog 164 #[.slice A n c, .func (.func 163) #[] #[p1, p2]] w fun e w' => e = .returned (.bool (L.any q)) ∧ Below w.heap.size w w' := by
 have HC := Lib.hid (indexE_any A n c L q p1 p2 w h hn hl hp)
 clear h hp
 generalize L.any q = r at *
 go_enter Tryz.func164, Tryz.ntmps164
 go_wp2_with (go_at_call 191; (with_reducible refine HC.out.mono ?_); rintro e w2 ⟨i, rfl, hi, hb2⟩)
 go_ret
 first | exact ⟨rfl, hb2⟩ | exact ⟨ret_bool hi, hb2⟩
set_option maxHeartbeats 1600000 in
set_option maxRecDepth 100000 in
theorem indexC_any (A : Option Addr) (n c : Nat) (L : List CodecS) (q : CodecS → Bool) (p1 : Value) (p2 : Value) (w : World) (h : CodecsV w w.heap.size (.slice A n c) L) (hn : L.length = n) (hl : n ≤ 4611686018427387904)
 (hp : ∀ (W : World) (x : CodecS) (vf : Value), Below w.heap.size w W → x ∈ L → Calls Tryz.prog 158 #[.agg #[.int .i64 x.type, .string x.name, .int .i64 x.clock, .int .i64 x.chans, .string x.format, vf], p1, p2] W fun e w' => e = .returned (.bool (q x)) ∧ Below W.heap.size W w') :
 Calls Tryz.prog 187 #[.slice A n c, .func (.func 158) #[] #[p1, p2]] w fun e w' => ∃ r : Int, e = .returned (.int .i64 r) ∧ decide (0 ≤ r) = L.any q ∧ Below w.heap.size w w' := by
 have HA := Lib.hid h
 have HP := Lib.hid hp
 have HE := Lib.hid hn
 clear h hn hp
 go_enter Tryz.func187, Tryz.ntmps187
 go_wp2
 go_loopw [8] (fun s8 wr => ∃ k : Nat, k ≤ n ∧ s8 = .int .i64 k ∧ (∀ j, j < k → q (L.getD j default) = false) ∧ Below w.heap.size w wr) (fun s8 _ => n - (intOf s8).toNat)
 case atStart => exact ⟨0, by omega, rfl, (fun j hj => by omega), Below.refl _ w⟩
 case round =>
  obtain ⟨k, hk, rfl, hno, hb⟩ := hrel
  have HNO := Lib.hid hno
  clear hno
  by_cases hlt : k < n
  · have hlt' : k < L.length := by rw [HE.out]; exact hlt
    obtain ⟨ad, c', vf, e1, had, c0, c1, c2, c3, c4, c5, -⟩ := (HA.out.below hb).at_ hlt'
    injection e1 with e1 e1n e1c
    clear e1n e1c
    subst e1
    obtain ⟨x, hx⟩ : ∃ x, L.getD k default = x := ⟨_, rfl⟩
    have HM : Hid (x ∈ L) := Lib.hid (by rw [← hx]; exact getD_mem hlt')
    rw [hx] at c0 c1 c2 c3 c4
    have HX := Lib.hid hx
    have HB := Lib.hid (And.intro hb hlt')
    obtain ⟨b, hbb⟩ : ∃ b, q x = b := ⟨_, rfl⟩
    have HS := Lib.hid (HP.out wr x vf hb HM.out)
    rw [hbb] at HS
    have HBT := Lib.hid hbb
    clear hbb hx hb hlt' had
    have hk0 : (0 : Int) ≤ (k : Int) := by omega
    have hk1 : (k : Int) < (n : Int) := by omega
    cases b with
    | true =>
      go_wp2_with (go_at_call 158; (with_reducible refine HS.out.mono ?_); rintro e w2 ⟨rfl, hb2⟩)
      go_ret
      exact ⟨_, rfl, by rw [any_yes HB.out.2 (by rw [HX.out]; exact HBT.out)]; exact decide_eq_true hk0, HB.out.1.trans (hb2.mono HB.out.1.size)⟩
    | false =>
      go_wp2_with (go_at_call 158; (with_reducible refine HS.out.mono ?_); rintro e w2 ⟨rfl, hb2⟩)
      go_roundw
      case rel =>
       refine ⟨k + 1, by omega, by go_num, fun j hj => ?_, HB.out.1.trans (hb2.mono HB.out.1.size)⟩
       by_cases e : j = k
       · subst e
         rw [HX.out]
         exact HBT.out
       · exact HNO.out j (by omega)
      case measure => simp [intOf]; omega
  · have e : k = n := by omega
    subst e
    have HN : Hid (L.any q = false) := Lib.hid (any_no HE.out HNO.out)
    have HB := Lib.hid hb
    clear hb
    go_wp2
    go_ret
    exact ⟨_, rfl, by rw [HN.out]; rfl, HB.out⟩
set_option maxHeartbeats 800000 in
theorem containsC_any (A : Option Addr) (n c : Nat) (L : List CodecS) (q : CodecS → Bool) (p1 : Value) (p2 : Value) (w : World) (h : CodecsV w w.heap.size (.slice A n c) L) (hn : L.length = n) (hl : n ≤ 4611686018427387904)
 (hp : ∀ (W : World) (x : CodecS) (vf : Value), Below w.heap.size w W → x ∈ L → Calls Tryz.prog 158 #[.agg #[.int .i64 x.type, .string x.name, .int .i64 x.clock, .int .i64 x.chans, .string x.format, vf], p1, p2] W fun e w' => e = .returned (.bool (q x)) ∧ Below W.heap.size W w') :
 Calls Tryz.prog 159 #[.slice A n c, .func (.func 158) #[] #[p1, p2]] w fun e w' => e = .returned (.bool (L.any q)) ∧ Below w.heap.size w w' := by
 have HC := Lib.hid (indexC_any A n c L q p1 p2 w h hn hl hp)
 clear h hp
 generalize L.any q = r at *
 go_enter Tryz.func159, Tryz.ntmps159
 go_wp2_with (go_at_call 187; (with_reducible refine HC.out.mono ?_); rintro e w2 ⟨i, rfl, hi, hb2⟩)
 go_ret
 first | exact ⟨rfl, hb2⟩ | exact ⟨ret_bool hi, hb2⟩
set_option maxHeartbeats 800000 in
theorem indexY_none (A : Option Addr) (c : Nat) (f : Value) (w : World) : Calls Tryz.prog 194 #[.slice A 0 c, f] w fun e w' => e = .returned (.int .i64 (-1)) ∧ w = w' := by
 go_enter Tryz.func194, Tryz.ntmps194
 go_wp2
 go_loopw [8] (fun s8 wr => s8 = .int .i64 0 ∧ w = wr) (fun s8 _ => 0)
 case atStart => exact ⟨rfl, rfl⟩
 case round =>
  obtain ⟨rfl, rfl⟩ := hrel
  go_wp2
  go_ret
  exact ⟨rfl, rfl⟩
set_option maxHeartbeats 800000 in
theorem containsY_none (A : Option Addr) (c : Nat) (f : Value) (w : World) : Calls Tryz.prog 170 #[.slice A 0 c, f] w fun e w' => e = .returned (.bool false) ∧ w = w' := by
 have HC := Lib.hid (indexY_none A c f w)
 go_enter Tryz.func170, Tryz.ntmps170
 go_wp2_with (go_at_call 194; (with_reducible refine HC.out.mono ?_); rintro e w2 ⟨rfl, rfl⟩)
 go_ret
 exact ⟨rfl, rfl⟩
end Go.Proofs.YtlekmakofkpcdaaGreatDoor
