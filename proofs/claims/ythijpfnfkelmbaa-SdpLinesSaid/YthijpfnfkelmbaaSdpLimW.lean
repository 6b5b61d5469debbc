/- SdpLimits: the law's walk. -/
import Derived.Test.YthijpfnfkelmbaaSdpLim
namespace Go.Proofs.Ythijpfnfkelmbaa
open Go.RowKit
set_option linter.unusedVariables false
set_option linter.unusedSimpArgs false

theorem u8_nat {n : Int} (h : (Lit.int .u8 n).wf = true) : ∃ k : Nat, n = k ∧ k < 256 := by
  simp [Lit.wf, IntKind.min, IntKind.max, IntKind.signed, IntKind.bits] at h
  exact ⟨n.toNat, by omega, by omega⟩
def headT : ByteArray := ⟨#[118, 61, 48, 13, 10, 111, 61, 120, 13, 10, 115, 61, 45, 13, 10, 116, 61, 48, 32, 48, 13, 10]⟩
theorem textPN_M (k : Nat) : textPN (k + 1) 0 = textPN k 0 ++ [109, 61, 120, 13, 10] := by
  unfold textPN
  rw [List.replicate_zero, List.append_nil, List.append_nil, show List.replicate (k + 1) lineM = List.replicate k lineM ++ [lineM] from List.replicate_succ' , ← List.append_assoc, textL_append _ [lineM]]
  rfl
theorem textPN_B (p k : Nat) : textPN p (k + 1) = textPN p k ++ [97, 61, 98, 13, 10] := by
  unfold textPN
  rw [show List.replicate (k + 1) lineB = List.replicate k lineB ++ [lineB] from List.replicate_succ', ← List.append_assoc, textL_append _ [lineB]]
  rfl
/-- What the third loop's text comes to. -/
def LimO (w : World) (p n : Nat) (e : Ending) (w' : World) : Prop := ∃ (M : Array Value) (x : SesS) (A P : Option Addr) (ca cp np k : Nat) (er : Int), e = .returned (.tuple #[.agg #[.string x.origin, .string x.name, .string x.time, .slice A x.attrs.length ca, .slice P np cp], .int .i64 k, .int .i64 er]) ∧ Below w.heap.size w w' ∧
  (8 < p → er = 3 ∧ k = 13) ∧ (p ≤ 8 → 64 < n → er = 3 ∧ k = 4 + p + 65) ∧ (p ≤ 8 → n ≤ 64 → er = 0 ∧ np = p)
theorem limO {w w' : World} {l : Tx} {e : Ending} {p n : Nat} (hl : l = textPN p n) (hp : p < 12) (hn : n < 70) (h : ParseO w l e w') : LimO w p n e w' := by
  subst hl
  by_cases h8 : 8 < p
  · obtain ⟨A, P, ca, cp, h1, _, _, _, h5⟩ := h.err (parsed_many h8 ⟨hp, hn⟩)
    exact ⟨#[], SesS.none, A, P, ca, cp, 0, 13, 3, h1, h5, fun _ => ⟨rfl, rfl⟩, fun _ => by omega, fun _ => by omega⟩
  · by_cases h64 : 64 < n
    · obtain ⟨A, P, ca, cp, h1, _, _, _, h5⟩ := h.err (parsed_long (by omega) h64 hn)
      exact ⟨#[], SesS.none, A, P, ca, cp, 0, 4 + p + 65, 3, h1, h5, fun _ => by omega, fun _ _ => ⟨rfl, rfl⟩, fun _ _ => by omega⟩
    · obtain ⟨x, hx, hpx⟩ := parsed_right (p := p) (n := n) (by omega) (by omega)
      obtain ⟨A, P, ca, cp, h1, _, _, h5⟩ := h.ok hx
      exact ⟨#[], x, A, P, ca, cp, x.parts.length, 0, 0, h1, h5, fun _ => by omega, fun _ _ => by omega, fun _ _ => ⟨rfl, hpx⟩⟩
set_option maxHeartbeats 3200000 in
set_option maxRecDepth 100000 in
theorem limits_any (a b : Int) (w : World) (hm : MaxL w) (ha : (Lit.int .u8 a).wf = true) (hb : (Lit.int .u8 b).wf = true) : Calls Try.prog 6 #[.int .u8 a, .int .u8 b] w fun e w' => e = .returned (.bool true) ∧ Below w.heap.size w w' := by
  obtain ⟨an, rfl, ha⟩ := u8_nat ha
  obtain ⟨bn, rfl, hb⟩ := u8_nat hb
  have HAW := Lib.hid (awake_any w hm)
  have HM := Lib.hid hm
  clear hm
  go_enter Try.func6, Try.ntmps6
  go_upto_region 5 with (go_at_call 8; (with_reducible refine HAW.out.mono ?_); rintro e w2 ⟨rfl, hb2⟩; have HM2 := Lib.hid (HM.out.under hb2); have HB2 := Lib.hid hb2; clear hb2)
  obtain ⟨p, hp, hp12⟩ : ∃ p : Nat, (an : Int) % 12 = (p : Int) ∧ p < 12 := ⟨an % 12, by omega, by omega⟩
  obtain ⟨n, hn, hn70⟩ : ∃ n : Nat, (bn : Int) % 70 = (n : Int) ∧ n < 70 := ⟨bn % 70, by omega, by omega⟩
  rw [hp, hn]
  have HPN := Lib.hid (And.intro hp12 hn70)
  clear hp hn
  go_wp2
  go_loop [7, 20] (fun s7 s20 => ∃ (t : ByteArray) (k : Nat), k ≤ p ∧ s7 = .string t ∧ s20 = .int .i64 k ∧ tx t = textPN k 0) (fun _ s20 => p - (intOf s20).toNat)
  case atStart => exact ⟨headT, 0, Nat.zero_le _, rfl, rfl, by decide⟩
  case round =>
    obtain ⟨t, k, hk, rfl, rfl, ht⟩ := hrel
    have HT := Lib.hid ht
    have hts : t.size = 22 + k * 5 := by rw [← tx_length, ht, textPN_len]; omega
    clear ht
    by_cases hlt : k < p
    · have hlt' : (k : Int) < (p : Int) := by omega
      have hmx : ¬ (9223372036854775807 < t.size + 5) := by omega
      have HN : Hid (tx (t ++ ⟨#[109, 61, 120, 13, 10]⟩ : ByteArray) = textPN (k + 1) 0) := Lib.hid (by rw [tx_append, HT.out, textPN_M]; rfl)
      clear hts
      go_wp2
      go_round
      case rel => exact ⟨_, k + 1, by omega, rfl, by go_num, HN.out⟩
      case measure => simp [intOf]; omega
    · obtain rfl : k = p := by omega
      have HT0 := Lib.hid hts
      clear hts
      go_wp2
      go_loop [7, 26] (fun s7 s26 => ∃ (t : ByteArray) (j : Nat), j ≤ n ∧ s7 = .string t ∧ s26 = .int .i64 j ∧ tx t = textPN k j) (fun _ s26 => n - (intOf s26).toNat)
      case atStart => exact ⟨t, 0, Nat.zero_le _, rfl, rfl, HT.out⟩
      case round =>
        obtain ⟨t, j, hj, rfl, rfl, ht⟩ := hrel
        clear HT HT0
        have HT := Lib.hid ht
        have hts : t.size = 22 + k * 5 + j * 5 := by rw [← tx_length, ht, textPN_len]
        clear ht
        by_cases hlt : j < n
        · have hlt' : (j : Int) < (n : Int) := by omega
          have hmx : ¬ (9223372036854775807 < t.size + 5) := by omega
          have HN : Hid (tx (t ++ ⟨#[97, 61, 98, 13, 10]⟩ : ByteArray) = textPN k (j + 1)) := Lib.hid (by rw [tx_append, HT.out, textPN_B]; rfl)
          clear hts
          go_wp2
          go_round
          case rel => exact ⟨_, j + 1, by omega, rfl, by go_num, HN.out⟩
          case measure => simp [intOf]; omega
        · obtain rfl : j = n := by omega
          have HP : Hid (Calls Try.prog 10 #[.string t] w2 (LimO w2 k j)) := Lib.hid ((parse_any t w2 HM2.out (by unfold maxLen; omega)).mono fun e w' h => limO HT.out HPN.out.1 HPN.out.2 h)
          clear hts HT
          go_upto_region 14 with (first
            | (go_at_call 10; (with_reducible refine HP.out.mono ?_); rintro e w5 ⟨M0, x, A, P, ca, cp, np, K, er, rfl, hb5, h1, h2, h3⟩; have HW5 : Hid (Whole (w5.alloc (.cells #[.string ⟨#[]⟩, .string ⟨#[]⟩, .string ⟨#[]⟩, .slice none 0 0, .slice none 0 0] 33)) w5.heap.size 33 #[.string ⟨#[]⟩, .string ⟨#[]⟩, .string ⟨#[]⟩, .slice none 0 0, .slice none 0 0]) := Lib.hid (Whole.new _ _ _); have HX := Lib.hid (And.intro hb5 (And.intro h1 (And.intro h2 h3))); clear hb5 h1 h2 h3)
            | ((with_reducible refine wpList_storeS #[.string x.origin, .string x.name, .string x.time, .slice A x.attrs.length ca, .slice P np cp] ?_ 33 (.tmp 8) (.tmp 34) ?_ ?_ ?_ HW5.out Try.sizeSSes ?_ ?_ ?_ ?_); (with_reducible rfl); (with_reducible rfl); rfl; rfl; rfl; rfl; rfl))
          have hr := HW5.out.row #[.string x.origin, .string x.name, .string x.time, .slice A x.attrs.length ca, .slice P np cp]
          have hbl := (HB2.out.trans (HX.out.1.mono HB2.out.size)).trans ((below_row ((Below.refl w5.heap.size w5).alloc (Nat.le_refl _) (.cells #[.string ⟨#[]⟩, .string ⟨#[]⟩, .string ⟨#[]⟩, .slice none 0 0, .slice none 0 0] 33)) (Nat.le_refl _) #[.string x.origin, .string x.name, .string x.time, .slice A x.attrs.length ca, .slice P np cp]).mono (Nat.le_trans HB2.out.size HX.out.1.size))
          generalize ((w5.alloc (.cells #[.string ⟨#[]⟩, .string ⟨#[]⟩, .string ⟨#[]⟩, .slice none 0 0, .slice none 0 0] 33)).setRow w5.heap.size #[.string x.origin, .string x.name, .string x.time, .slice A x.attrs.length ca, .slice P np cp]) = W at *
          generalize w5.heap.size = g at *
          have c4 := hr.cell 4
          simp only [List.getElem?_toArray, List.getElem?_cons_zero, List.getElem?_cons_succ] at c4
          have HF := Lib.hid hbl
          clear hr hbl HW5
          by_cases h8 : 8 < k
          · obtain ⟨e1, e2⟩ := HX.out.2.1 h8
            subst e1 e2
            have h8' : (8 : Int) < (k : Int) := by omega
            clear HX h8
            go_wp2
            go_ret
            exact ⟨rfl, HF.out⟩
          · have h8' : ¬ (8 : Int) < (k : Int) := by omega
            by_cases h64 : 64 < j
            · obtain ⟨e1, e2⟩ := HX.out.2.2.1 (by omega) h64
              subst e1 e2
              have h64' : (64 : Int) < (j : Int) := by omega
              have e3 : IntKind.i64.wrap ((4 : Int) + (k : Int)) = 4 + (k : Int) := IntWalk.i64_in _ (by omega)
              have e4 : IntKind.i64.wrap ((4 : Int) + (k : Int) + 65) = 4 + (k : Int) + 65 := IntWalk.i64_in _ (by omega)
              clear HX h8 h64
              go_wp2
              go_ret
              exact ⟨rfl, HF.out⟩
            · obtain ⟨e1, e2⟩ := HX.out.2.2.2 (by omega) (by omega)
              subst e1 e2
              have h64' : ¬ (64 : Int) < (j : Int) := by omega
              have hz : ((np : Int) == (np : Int)) = true := by simp
              clear HX h8 h64
              go_wp2
              go_ret
              exact ⟨rfl, HF.out⟩
end Go.Proofs.Ythijpfnfkelmbaa
