/- SdpLines: texts with one wrong line. -/
import Derived.Test.YthijpfnfkelmbaaSdpLimW
namespace Go.Proofs.Ythijpfnfkelmbaa
open Go.RowKit
set_option linter.unusedVariables false
set_option linter.unusedSimpArgs false

def lineC : Tx := [97, 61, 98, 58, 99]
def attrC : AttrS := ⟨bs [98], bs [99]⟩
def textN (n : Nat) : Tx := textL (headS ++ List.replicate n lineC)
theorem textN_len (n : Nat) : (textN n).length = 22 + n * 7 := by
  unfold textN
  rw [textL_append, List.length_append, textL_rep]
  rfl
theorem textN_succ (k : Nat) : textN (k + 1) = textN k ++ [97, 61, 98, 58, 99, 13, 10] := by
  unfold textN
  rw [show List.replicate (k + 1) lineC = List.replicate k lineC ++ [lineC] from List.replicate_succ', ← List.append_assoc, textL_append _ [lineC]]
  rfl
theorem c_steps : ∀ (j : Nat) (st : PSt) (k : Nat), 4 < k → st.here.length + j ≤ 64 → ∃ st', Steps st k (List.replicate j lineC) st'
  | 0, st, k, _, _ => ⟨st, .nil⟩
  | j + 1, st, k, hk, hl => by
    have h1 : stepP st k lineC = .go (st.push attrC) := step_attr hk (a := attrC) (by decide) (by omega)
    have hp : (st.push attrC).here.length = st.here.length + 1 := by rw [here_push]; simp
    obtain ⟨st', h2⟩ := c_steps j (st.push attrC) (k + 1) (by omega) (by omega)
    exact ⟨st', .cons h1 h2⟩
theorem bad_a {b : Tx} (st : PSt) (h1 : b.take 2 = [97, 61]) (h2 : (wordP 1 32 (cutS [58] (b.drop 2)).1 && (!(cutS [58] (b.drop 2)).2.2 || valP (cutS [58] (b.drop 2)).2.1)) = false) (h3 : b.take 2 ≠ [109, 61] ∧ b.take 2 ≠ [99, 61]) : bodyP st b = .bad 2 := by
  unfold bodyP
  rw [if_neg h3.1, if_neg h3.2, if_pos h1]
  have : attrP (b.drop 2) = none := by
    unfold attrP
    rw [if_neg (by rw [h2]; decide)]
  rw [this]
theorem parsed_bad {n : Nat} (hn : n < 60) {beh : Tx} (hb : beh.length ≤ 3000) {b : Tx} (hc : Clean b) (hl : b.length ≤ 4) (hs : ∀ st, bodyP st b = .bad 2) : Parsed (textN n ++ (b ++ crlf) ++ beh) (.err (5 + n) 2) := by
  refine .inr ⟨by simp [textN_len]; omega, ?_⟩
  obtain ⟨st, h1⟩ := c_steps n stH 5 (by omega) (by simp [stH, PSt.here]; omega)
  have h4 : Steps PSt.init 1 (headS ++ List.replicate n lineC) st := head_steps.append h1
  have hk : 1 + (headS ++ List.replicate n lineC).length = 5 + n := by simp [head_len]; omega
  have := h4.runs (l := b ++ crlf ++ beh) (r := .err (1 + (headS ++ List.replicate n lineC).length) 2) (fun a ha => by
    rcases List.mem_append.1 ha with h | h
    · exact clean_head a h
    · exact clean_rep (by intro c hc; revert c; decide) n a h) (.bad (cut_line b hc beh) (by
      rw [hk]
      unfold stepP
      rw [if_neg (by omega), if_neg (by omega), if_neg (by omega), if_neg (by omega)]
      exact hs st))
  rw [hk] at this
  rw [List.append_assoc]
  exact this
set_option maxHeartbeats 3200000 in
set_option maxRecDepth 100000 in
theorem lines6_any (a : Int) (beh : ByteArray) (w : World) (hm : MaxL w) (ha : (Lit.int .u8 a).wf = true) (hbz : beh.size ≤ 140737488351232) : Calls Try.prog 7 #[.int .u8 a, .string beh] w fun e w' => e = .returned (.bool true) ∧ Below w.heap.size w w' := by
  obtain ⟨an, rfl, ha⟩ := u8_nat ha
  have HAW := Lib.hid (awake_any w hm)
  have HM := Lib.hid hm
  clear hm
  by_cases hbl : 3000 < beh.size
  · have hbl' : (3000 : Int) < (beh.size : Int) := by omega
    go_enter Try.func7, Try.ntmps7
    go_wp2_with (go_at_call 8; (with_reducible refine HAW.out.mono ?_); rintro e w2 ⟨rfl, hb2⟩; have HM2 := Lib.hid (HM.out.under hb2); have HB2 := Lib.hid hb2; clear hb2)
    go_ret
    exact ⟨rfl, HB2.out⟩
  have hbl' : ¬ (3000 : Int) < (beh.size : Int) := by omega
  have hbl2 : decide ((3000 : Int) < (beh.size : Int)) = false := decide_eq_false hbl'
  have HBH : Hid (beh.size ≤ 3000) := Lib.hid (by omega)
  go_enter Try.func7, Try.ntmps7
  go_upto_region 7 with (go_at_call 8; (with_reducible refine HAW.out.mono ?_); rintro e w2 ⟨rfl, hb2⟩; have HM2 := Lib.hid (HM.out.under hb2); have HB2 := Lib.hid hb2; clear hb2)
  obtain ⟨j, hj, hj60⟩ : ∃ j : Nat, (an : Int) % 60 = (j : Int) ∧ j < 60 := ⟨an % 60, by omega, by omega⟩
  rw [hj]
  have HJ := Lib.hid hj
  have HN60 := Lib.hid hj60
  clear hj hbl hbl' hbl2
  go_loop [5, 19] (fun s5 s19 => ∃ (t : ByteArray) (k : Nat), k ≤ j ∧ s5 = .string t ∧ s19 = .int .i64 k ∧ tx t = textN k) (fun _ s19 => j - (intOf s19).toNat)
  case atStart => exact ⟨headT, 0, Nat.zero_le _, rfl, rfl, by decide⟩
  case round =>
    obtain ⟨t, k, hk, rfl, rfl, ht⟩ := hrel
    have HT := Lib.hid ht
    have hts : t.size = 22 + k * 7 := by rw [← tx_length, ht, textN_len]
    clear ht
    by_cases hlt : k < j
    · have hlt' : (k : Int) < (j : Int) := by omega
      have hmx : ¬ (9223372036854775807 < t.size + 7) := by omega
      have HN : Hid (tx (t ++ ⟨#[97, 61, 98, 58, 99, 13, 10]⟩ : ByteArray) = textN (k + 1)) := Lib.hid (by rw [tx_append, HT.out, textN_succ]; rfl)
      clear hts
      go_wp2
      go_round
      case rel => exact ⟨_, k + 1, by omega, rfl, by go_num, HN.out⟩
      case measure => simp [intOf]; omega
    · obtain rfl : k = j := by omega
      have HTZ := Lib.hid hts
      clear hts
      go_wp2
      go_loopw [24] (fun s24 wr => ∃ k : Nat, k ≤ 3 ∧ s24 = .int .i64 k ∧ MaxL wr ∧ Below w.heap.size w wr) (fun s24 _ => 3 - (intOf s24).toNat)
      case atStart => exact ⟨0, by omega, rfl, HM2.out, HB2.out⟩
      case round =>
        obtain ⟨i, hi, rfl, hs1, hs2⟩ := hrel
        have HS := Lib.hid (And.intro hs1 hs2)
        clear hs1 hs2
        have hj := HJ.out
        have hts := HTZ.out
        have hbz2 := HBH.out
        have hne : ((5 : Int) + (k : Int) == 5 + (k : Int)) = true := by simp
        have e5 : IntKind.i64.wrap ((5 : Int) + (k : Int)) = 5 + (k : Int) := IntWalk.i64_in _ (by omega)
        rcases (by omega : i = 0 ∨ i = 1 ∨ i = 2 ∨ i = 3) with hk0 | hk1 | hk2 | hk3
        · subst hk0
          rw [show ((0 : Nat) : Int) = 0 from rfl]
          have hsz1 : ¬ (9223372036854775807 < t.size + 5) := by omega
          have hsz2 : ¬ (9223372036854775807 < t.size + 5 + beh.size) := by omega
          have HP : Hid (∀ W, MaxL W → Calls Try.prog 10 #[.string (t ++ ⟨#[120, 61, 49, 13, 10]⟩ ++ beh)] W (ErrO W (5 + k) 2)) := Lib.hid fun W hW => (parse_any _ W hW (by rw [ByteArray.size_append, ByteArray.size_append]; show _ + 5 + _ ≤ _; unfold maxLen; omega)).mono fun e w' h => h.err (by
            rw [tx_append, tx_append, HT.out, show tx (⟨#[120, 61, 49, 13, 10]⟩ : ByteArray) = [120, 61, 49] ++ crlf from rfl]
            exact parsed_bad HN60.out (by rw [tx_length]; exact HBH.out) (by intro c hc; revert c; decide) (by decide) (fun st => by rfl))
          have hwz : wr.heap.size < (wr.alloc (.cells #[.string ⟨#[120, 61, 49, 13, 10]⟩, .string ⟨#[97, 61, 13, 10]⟩, .string ⟨#[97, 61, 98, 58, 13, 10]⟩] 9)).heap.size := by rw [World.size_alloc]; omega
          go_wp2_with (first
            | (go_at_call 10; (with_reducible refine (HP.out _ (HS.out.1.under ((Below.refl _ _).alloc (Nat.le_refl _) _))).mono ?_); rintro e w5 ⟨A, P, ca, cp, rfl, -, -, -, hb5⟩; have HW5 : Hid (Whole (w5.alloc (.cells #[.string ⟨#[]⟩, .string ⟨#[]⟩, .string ⟨#[]⟩, .slice none 0 0, .slice none 0 0] 33)) w5.heap.size 33 #[.string ⟨#[]⟩, .string ⟨#[]⟩, .string ⟨#[]⟩, .slice none 0 0, .slice none 0 0]) := Lib.hid (Whole.new _ _ _); have hb6 := (((Below.refl wr.heap.size wr).alloc (Nat.le_refl _) _).trans (hb5.mono (Nat.le_of_lt hwz))).trans ((below_row ((Below.refl w5.heap.size w5).alloc (Nat.le_refl _) (.cells #[.string ⟨#[]⟩, .string ⟨#[]⟩, .string ⟨#[]⟩, .slice none 0 0, .slice none 0 0] 33)) (Nat.le_refl _) #[.string (bs []), .string (bs []), .string (bs []), .slice A 0 ca, .slice P 0 cp]).mono (Nat.le_trans (Nat.le_of_lt hwz) hb5.size)); have HB6 : Hid (MaxL ((w5.alloc (.cells #[.string ⟨#[]⟩, .string ⟨#[]⟩, .string ⟨#[]⟩, .slice none 0 0, .slice none 0 0] 33)).setRow w5.heap.size #[.string (bs []), .string (bs []), .string (bs []), .slice A 0 ca, .slice P 0 cp]) ∧ Below w.heap.size w ((w5.alloc (.cells #[.string ⟨#[]⟩, .string ⟨#[]⟩, .string ⟨#[]⟩, .slice none 0 0, .slice none 0 0] 33)).setRow w5.heap.size #[.string (bs []), .string (bs []), .string (bs []), .slice A 0 ca, .slice P 0 cp])) := Lib.hid ⟨HS.out.1.under hb6, HS.out.2.trans (hb6.mono HS.out.2.size)⟩; clear hb5 hb6)
            | ((with_reducible refine wpList_storeS #[.string (bs []), .string (bs []), .string (bs []), .slice A 0 ca, .slice P 0 cp] ?_ 33 (.tmp 8) (.tmp 38) ?_ ?_ ?_ HW5.out Try.sizeSSes ?_ ?_ ?_ ?_); (with_reducible rfl); (with_reducible rfl); rfl; rfl; rfl; rfl; rfl))
          go_roundw
          case rel => exact ⟨1, by omega, by go_num, HB6.out⟩
          case measure => simp [intOf]
        · subst hk1
          rw [show ((1 : Nat) : Int) = 1 from rfl]
          have hsz1 : ¬ (9223372036854775807 < t.size + 4) := by omega
          have hsz2 : ¬ (9223372036854775807 < t.size + 4 + beh.size) := by omega
          have HP : Hid (∀ W, MaxL W → Calls Try.prog 10 #[.string (t ++ ⟨#[97, 61, 13, 10]⟩ ++ beh)] W (ErrO W (5 + k) 2)) := Lib.hid fun W hW => (parse_any _ W hW (by rw [ByteArray.size_append, ByteArray.size_append]; show _ + 4 + _ ≤ _; unfold maxLen; omega)).mono fun e w' h => h.err (by
            rw [tx_append, tx_append, HT.out, show tx (⟨#[97, 61, 13, 10]⟩ : ByteArray) = [97, 61] ++ crlf from rfl]
            exact parsed_bad HN60.out (by rw [tx_length]; exact HBH.out) (by intro c hc; revert c; decide) (by decide) (fun st => by exact bad_a _ (by decide) (by decide) (by decide)))
          have hwz : wr.heap.size < (wr.alloc (.cells #[.string ⟨#[120, 61, 49, 13, 10]⟩, .string ⟨#[97, 61, 13, 10]⟩, .string ⟨#[97, 61, 98, 58, 13, 10]⟩] 9)).heap.size := by rw [World.size_alloc]; omega
          go_wp2_with (first
            | (go_at_call 10; (with_reducible refine (HP.out _ (HS.out.1.under ((Below.refl _ _).alloc (Nat.le_refl _) _))).mono ?_); rintro e w5 ⟨A, P, ca, cp, rfl, -, -, -, hb5⟩; have HW5 : Hid (Whole (w5.alloc (.cells #[.string ⟨#[]⟩, .string ⟨#[]⟩, .string ⟨#[]⟩, .slice none 0 0, .slice none 0 0] 33)) w5.heap.size 33 #[.string ⟨#[]⟩, .string ⟨#[]⟩, .string ⟨#[]⟩, .slice none 0 0, .slice none 0 0]) := Lib.hid (Whole.new _ _ _); have hb6 := (((Below.refl wr.heap.size wr).alloc (Nat.le_refl _) _).trans (hb5.mono (Nat.le_of_lt hwz))).trans ((below_row ((Below.refl w5.heap.size w5).alloc (Nat.le_refl _) (.cells #[.string ⟨#[]⟩, .string ⟨#[]⟩, .string ⟨#[]⟩, .slice none 0 0, .slice none 0 0] 33)) (Nat.le_refl _) #[.string (bs []), .string (bs []), .string (bs []), .slice A 0 ca, .slice P 0 cp]).mono (Nat.le_trans (Nat.le_of_lt hwz) hb5.size)); have HB6 : Hid (MaxL ((w5.alloc (.cells #[.string ⟨#[]⟩, .string ⟨#[]⟩, .string ⟨#[]⟩, .slice none 0 0, .slice none 0 0] 33)).setRow w5.heap.size #[.string (bs []), .string (bs []), .string (bs []), .slice A 0 ca, .slice P 0 cp]) ∧ Below w.heap.size w ((w5.alloc (.cells #[.string ⟨#[]⟩, .string ⟨#[]⟩, .string ⟨#[]⟩, .slice none 0 0, .slice none 0 0] 33)).setRow w5.heap.size #[.string (bs []), .string (bs []), .string (bs []), .slice A 0 ca, .slice P 0 cp])) := Lib.hid ⟨HS.out.1.under hb6, HS.out.2.trans (hb6.mono HS.out.2.size)⟩; clear hb5 hb6)
            | ((with_reducible refine wpList_storeS #[.string (bs []), .string (bs []), .string (bs []), .slice A 0 ca, .slice P 0 cp] ?_ 33 (.tmp 8) (.tmp 38) ?_ ?_ ?_ HW5.out Try.sizeSSes ?_ ?_ ?_ ?_); (with_reducible rfl); (with_reducible rfl); rfl; rfl; rfl; rfl; rfl))
          go_roundw
          case rel => exact ⟨2, by omega, by go_num, HB6.out⟩
          case measure => simp [intOf]
        · subst hk2
          rw [show ((2 : Nat) : Int) = 2 from rfl]
          have hsz1 : ¬ (9223372036854775807 < t.size + 6) := by omega
          have hsz2 : ¬ (9223372036854775807 < t.size + 6 + beh.size) := by omega
          have HP : Hid (∀ W, MaxL W → Calls Try.prog 10 #[.string (t ++ ⟨#[97, 61, 98, 58, 13, 10]⟩ ++ beh)] W (ErrO W (5 + k) 2)) := Lib.hid fun W hW => (parse_any _ W hW (by rw [ByteArray.size_append, ByteArray.size_append]; show _ + 6 + _ ≤ _; unfold maxLen; omega)).mono fun e w' h => h.err (by
            rw [tx_append, tx_append, HT.out, show tx (⟨#[97, 61, 98, 58, 13, 10]⟩ : ByteArray) = [97, 61, 98, 58] ++ crlf from rfl]
            exact parsed_bad HN60.out (by rw [tx_length]; exact HBH.out) (by intro c hc; revert c; decide) (by decide) (fun st => by exact bad_a _ (by decide) (by decide) (by decide)))
          have hwz : wr.heap.size < (wr.alloc (.cells #[.string ⟨#[120, 61, 49, 13, 10]⟩, .string ⟨#[97, 61, 13, 10]⟩, .string ⟨#[97, 61, 98, 58, 13, 10]⟩] 9)).heap.size := by rw [World.size_alloc]; omega
          go_wp2_with (first
            | (go_at_call 10; (with_reducible refine (HP.out _ (HS.out.1.under ((Below.refl _ _).alloc (Nat.le_refl _) _))).mono ?_); rintro e w5 ⟨A, P, ca, cp, rfl, -, -, -, hb5⟩; have HW5 : Hid (Whole (w5.alloc (.cells #[.string ⟨#[]⟩, .string ⟨#[]⟩, .string ⟨#[]⟩, .slice none 0 0, .slice none 0 0] 33)) w5.heap.size 33 #[.string ⟨#[]⟩, .string ⟨#[]⟩, .string ⟨#[]⟩, .slice none 0 0, .slice none 0 0]) := Lib.hid (Whole.new _ _ _); have hb6 := (((Below.refl wr.heap.size wr).alloc (Nat.le_refl _) _).trans (hb5.mono (Nat.le_of_lt hwz))).trans ((below_row ((Below.refl w5.heap.size w5).alloc (Nat.le_refl _) (.cells #[.string ⟨#[]⟩, .string ⟨#[]⟩, .string ⟨#[]⟩, .slice none 0 0, .slice none 0 0] 33)) (Nat.le_refl _) #[.string (bs []), .string (bs []), .string (bs []), .slice A 0 ca, .slice P 0 cp]).mono (Nat.le_trans (Nat.le_of_lt hwz) hb5.size)); have HB6 : Hid (MaxL ((w5.alloc (.cells #[.string ⟨#[]⟩, .string ⟨#[]⟩, .string ⟨#[]⟩, .slice none 0 0, .slice none 0 0] 33)).setRow w5.heap.size #[.string (bs []), .string (bs []), .string (bs []), .slice A 0 ca, .slice P 0 cp]) ∧ Below w.heap.size w ((w5.alloc (.cells #[.string ⟨#[]⟩, .string ⟨#[]⟩, .string ⟨#[]⟩, .slice none 0 0, .slice none 0 0] 33)).setRow w5.heap.size #[.string (bs []), .string (bs []), .string (bs []), .slice A 0 ca, .slice P 0 cp])) := Lib.hid ⟨HS.out.1.under hb6, HS.out.2.trans (hb6.mono HS.out.2.size)⟩; clear hb5 hb6)
            | ((with_reducible refine wpList_storeS #[.string (bs []), .string (bs []), .string (bs []), .slice A 0 ca, .slice P 0 cp] ?_ 33 (.tmp 8) (.tmp 38) ?_ ?_ ?_ HW5.out Try.sizeSSes ?_ ?_ ?_ ?_); (with_reducible rfl); (with_reducible rfl); rfl; rfl; rfl; rfl; rfl))
          go_roundw
          case rel => exact ⟨3, by omega, by go_num, HB6.out⟩
          case measure => simp [intOf]
        · subst hk3
          rw [show ((3 : Nat) : Int) = 3 from rfl]
          go_wp2
          go_ret
          exact ⟨rfl, HS.out.2⟩
end Go.Proofs.Ythijpfnfkelmbaa
