/- The document's print: the lines of attributes. -/
import Derived.Test.YthijpfnfkelmbaaSdpSame
namespace Go.Proofs.Ythijpfnfkelmbaa
open Go.RowKit
set_option linter.unusedVariables false
set_option linter.unusedSimpArgs false

theorem textL_take (ls : List Tx) (k : Nat) : (textL (ls.take k)).length ≤ (textL ls).length := by
  have e : textL ls = textL (ls.take k) ++ textL (ls.drop k) := by rw [← textL_append, List.take_append_drop]
  rw [e, List.length_append]
  omega
theorem linesA_take (L : List AttrS) (k : Nat) : linesA (L.take k) = (linesA L).take k := by simp [linesA, List.map_take]
theorem textA_next {L : List AttrS} {k : Nat} {a : AttrS} (h : L[k]? = some a) : textL (linesA (L.take (k + 1))) = textL (linesA (L.take k)) ++ (lineA a ++ crlf) := by
  rw [List.take_add_one, h, linesA_append, textL_append]
  congr 1
  simp [linesA, textL]
set_option maxHeartbeats 1600000 in
theorem rattrs_any (v : Value) (L : List AttrS) (w : World) (h : AttrsV w w.heap.size v L) (hb : (textL (linesA L)).length ≤ 1099511627776) :
    Calls Try.prog 41 #[v] w fun e w' => ∃ t : ByteArray, e = .returned (.string t) ∧ tx t = textL (linesA L) ∧ w' = w := by
  obtain ⟨A, c, rfl, hc, hm, -⟩ := h.form
  have H := Lib.hid h
  obtain ⟨n, hn⟩ : ∃ n, L.length = n := ⟨_, rfl⟩
  have HNN := Lib.hid hn
  have HB := Lib.hid hb
  rw [hn] at hc ⊢
  unfold maxLen at hm
  clear h hn hb
  go_enter Try.func41, Try.ntmps41
  go_wp2
  go_loopw [3, 7] (fun s3 s7 wr => ∃ (k : Nat) (t : ByteArray), k ≤ n ∧ s7 = .int .i64 k ∧ s3 = .string t ∧ tx t = textL (linesA (L.take k)) ∧ wr = w) (fun _ s7 _ => n - (intOf s7).toNat)
  case atStart => exact ⟨0, ⟨#[]⟩, Nat.zero_le _, rfl, rfl, rfl, rfl⟩
  case round =>
    obtain ⟨k, t, hk, rfl, rfl, ht, rfl⟩ := hrel
    have HT := Lib.hid ht
    clear ht
    by_cases hlt : k < n
    · obtain ⟨ad, c', e1, b1, x0, x1⟩ := H.out.at_ (i := k) (by rw [HNN.out]; exact hlt)
      injection e1 with e1 e1n e1c
      clear e1n e1c
      subst e1
      have gL := getD_of (L := L) (i := k) (by rw [HNN.out]; exact hlt)
      obtain ⟨a, ha⟩ : ∃ a, L.getD k default = a := ⟨_, rfl⟩
      rw [ha] at x0 x1 gL
      have hnx := textA_next gL
      have hk0 : (0 : Int) ≤ (k : Int) := by omega
      have hk1 : (k : Int) < (n : Int) := by omega
      have e1 : IntKind.i64.wrap ((k : Int) + 1) = (k : Int) + 1 := IntWalk.i64_in _ (by omega)
      obtain ⟨nm, vl⟩ := a
      simp only at x0 x1 hnx
      have hlen := textL_take (linesA L) (k + 1)
      rw [← linesA_take, hnx, ← HT.out] at hlen
      clear gL ha b1
      cases hq : vl.toList.isEmpty with
      | true =>
        have hla : lineA ⟨nm, vl⟩ = tx (⟨#[97, 61]⟩ ++ nm) := by
          rw [toList_tx] at hq
          unfold lineA valTail
          rw [if_pos hq, tx_append, List.append_nil]
          rfl
        rw [hla] at hlen hnx
        have hsz : t.size + 2 + nm.size + 2 ≤ 1099511627776 := by
          have := HB.out
          simp only [List.length_append, tx_append, tx_length] at hlen
          have s2 : (⟨#[97, 61]⟩ : ByteArray).size = 2 := rfl
          have s1 : (⟨#[58]⟩ : ByteArray).size = 1 := rfl
          have sc : crlf.length = 2 := rfl
          omega
        have z1 : ¬ (9223372036854775807 < t.size + 2) := by omega
        have z2 : ¬ (9223372036854775807 < t.size + 2 + nm.size) := by omega
        have z3 : ¬ (9223372036854775807 < t.size + 2 + nm.size + 2) := by omega
        have HNX : Hid (tx (t ++ ⟨#[97, 61]⟩ ++ nm ++ ⟨#[13, 10]⟩) = textL (linesA (L.take (k + 1)))) := Lib.hid (by
          rw [hnx, ← HT.out]
          simp only [tx_append, List.append_assoc]
          rfl)
        clear hlen hnx hla hsz
        go_wp2
        go_roundw
        case rel => exact ⟨k + 1, _, by omega, by go_num, rfl, HNX.out, trivial⟩
        case measure => simp [intOf]; omega
      | false =>
        have hla : lineA ⟨nm, vl⟩ = tx (⟨#[97, 61]⟩ ++ nm ++ (⟨#[58]⟩ ++ vl)) := by
          rw [toList_tx] at hq
          unfold lineA valTail
          rw [if_neg (by rw [hq]; decide), tx_append, tx_append, tx_append]
          rfl
        rw [hla] at hlen hnx
        have hsz : t.size + 2 + nm.size + 1 + vl.size + 2 ≤ 1099511627776 := by
          have := HB.out
          simp only [List.length_append, tx_append, tx_length] at hlen
          have s2 : (⟨#[97, 61]⟩ : ByteArray).size = 2 := rfl
          have s1 : (⟨#[58]⟩ : ByteArray).size = 1 := rfl
          have sc : crlf.length = 2 := rfl
          omega
        have z1 : ¬ (9223372036854775807 < t.size + 2) := by omega
        have z2 : ¬ (9223372036854775807 < t.size + 2 + nm.size) := by omega
        have z3 : ¬ (9223372036854775807 < t.size + 2 + nm.size + 1) := by omega
        have z4 : ¬ (9223372036854775807 < t.size + 2 + nm.size + 1 + vl.size) := by omega
        have z5 : ¬ (9223372036854775807 < t.size + 2 + nm.size + 1 + vl.size + 2) := by omega
        have HNX : Hid (tx (t ++ ⟨#[97, 61]⟩ ++ nm ++ ⟨#[58]⟩ ++ vl ++ ⟨#[13, 10]⟩) = textL (linesA (L.take (k + 1)))) := Lib.hid (by
          rw [hnx, ← HT.out]
          simp only [tx_append, List.append_assoc]
          rfl)
        clear hlen hnx hla hsz
        go_wp2
        go_roundw
        case rel => exact ⟨k + 1, _, by omega, by go_num, rfl, HNX.out, trivial⟩
        case measure => simp [intOf]; omega
    · obtain rfl : k = n := by omega
      have HF : Hid (tx t = textL (linesA L)) := Lib.hid (by rw [HT.out, List.take_of_length_le (by rw [HNN.out]; exact Nat.le_refl _)])
      go_wp2
      go_ret
      exact ⟨_, rfl, HF.out, rfl⟩
end Go.Proofs.Ythijpfnfkelmbaa
