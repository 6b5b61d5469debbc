/- perhaps, validAttrs: what may stand in lines. -/
import Derived.Test.YthijpfnfkelmbaaOpenSdp
import Derived.Test.YthijpfnfkelmbaaSdpAwake
namespace Go.Proofs.Ythijpfnfkelmbaa
open Go.RowKit
set_option linter.unusedVariables false
set_option linter.unusedSimpArgs false

set_option maxHeartbeats 400000 in
theorem perhaps_any (s : ByteArray) (w : World) (hs : s.size ≤ maxLen) : Calls Try.prog 43 #[.string s] w fun e w' => e = .returned (.bool (maybeP (tx s))) ∧ w = w' := by
  have HV := Lib.hid (value_any s w hs)
  clear hs
  have HE : Hid (maybeP (tx s) = (s.toList.isEmpty || valP (tx s))) := Lib.hid (by rw [toList_tx]; rfl)
  generalize maybeP (tx s) = r at *
  generalize valP (tx s) = y at *
  cases hq : s.toList.isEmpty with
  | true =>
    have HR : Hid (true = r) := Lib.hid (by rw [HE.out, hq]; rfl)
    clear HE
    go_enter Try.func43, Try.ntmps43
    go_wp2
    go_ret
    exact ⟨ret_bool HR.out, rfl⟩
  | false =>
    have HR : Hid (y = r) := Lib.hid (by rw [HE.out, hq]; rfl)
    clear HE
    go_enter Try.func43, Try.ntmps43
    go_wp2_with (go_at_call 23; (with_reducible refine HV.out.mono ?_); rintro e w' ⟨rfl, rfl⟩)
    go_ret
    exact ⟨ret_bool HR.out, rfl⟩
theorem okA_bad {L : List AttrS} {k : Nat} {a : AttrS} (h : L[k]? = some a) (ha : okAt a = false) : okA L = false := by
  unfold okA
  rw [Bool.and_eq_false_iff]
  right
  rw [List.all_eq_false]
  exact ⟨a, List.mem_of_getElem? h, by rw [ha]; decide⟩
theorem okA_many {L : List AttrS} (h : 64 < L.length) : okA L = false := by
  unfold okA
  rw [Bool.and_eq_false_iff]
  left
  exact decide_eq_false (by omega)
theorem okA_yes {L : List AttrS} (h : L.length ≤ 64) (ha : ∀ (j : Nat) (a : AttrS), L[j]? = some a → okAt a = true) : okA L = true := by
  unfold okA
  rw [Bool.and_eq_true, List.all_eq_true]
  refine ⟨decide_eq_true h, fun a hm => ?_⟩
  obtain ⟨j, hj⟩ := List.getElem?_of_mem hm
  exact ha j a hj
set_option maxHeartbeats 1600000 in
set_option maxRecDepth 100000 in
theorem validAttrs_any (v : Value) (L : List AttrS) (w : World) (h : AttrsV w w.heap.size v L) (hz : SizA L) : Calls Try.prog 42 #[v] w fun e w' => e = .returned (.bool (okA L)) ∧ Below w.heap.size w w' := by
  obtain ⟨A, c, rfl, hc, hm, -⟩ := h.form
  obtain ⟨N, hN⟩ : ∃ N, w.heap.size = N := ⟨_, rfl⟩
  have HN := Lib.hid hN
  have H := Lib.hid h
  have HZ := Lib.hid hz
  obtain ⟨n, hn⟩ : ∃ n, L.length = n := ⟨_, rfl⟩
  have HNN := Lib.hid hn
  rw [hn] at hc ⊢
  clear h hn hN hz
  unfold maxLen at hm
  by_cases h64 : 64 < n
  · have h64' : (64 : Int) < (n : Int) := by omega
    have HR : Hid (false = okA L) := Lib.hid (okA_many (by rw [HNN.out]; exact h64)).symm
    generalize okA L = r at *
    go_enter Try.func42, Try.ntmps42
    go_wp2
    go_ret
    exact ⟨ret_bool HR.out, Below.refl _ _⟩
  have h64' : ¬ (64 : Int) < (n : Int) := by omega
  go_enter Try.func42, Try.ntmps42
  go_wp2
  go_loopw [10] (fun s10 wr => ∃ k : Nat, k ≤ n ∧ s10 = .int .i64 k ∧ (∀ (j : Nat) (a : AttrS), j < k → L[j]? = some a → okAt a = true) ∧ Below N w wr) (fun s10 _ => n - (intOf s10).toNat)
  case atStart => exact ⟨0, Nat.zero_le _, rfl, fun j a hj => by omega, Below.refl _ w⟩
  case round =>
    obtain ⟨k, hk, rfl, hsame, hb⟩ := hrel
    have HS := Lib.hid (And.intro hsame hb)
    by_cases hlt : k < n
    · obtain ⟨ad, c', e1, b1, x0, x1⟩ := H.out.at_ (i := k) (by rw [HNN.out]; exact hlt)
      injection e1 with e1 e1n e1c
      clear e1n e1c
      subst e1
      have gL := getD_of (L := L) (i := k) (by rw [HNN.out]; exact hlt)
      obtain ⟨a, ha⟩ : ∃ a, L.getD k default = a := ⟨_, rfl⟩
      rw [ha] at x0 x1 gL
      rw [HN.out] at b1
      have x0' := (hb.cell (p := ad.add (k * 2)) (by rw [add_block]; exact b1)).trans x0
      have x1' := (hb.cell (p := ⟨(ad.add (k * 2)).block, (ad.add (k * 2)).off + 1, none⟩) (by show (ad.add (k * 2)).block < _; rw [add_block]; exact b1)).trans x1
      have HG := Lib.hid gL
      have hza := HZ.out k a gL
      have hNr : N ≤ wr.heap.size := by have := hb.size; rw [HN.out] at this; exact this
      have hal := (hb.alloc hNr (.cells #[.string ⟨#[]⟩, .string ⟨#[]⟩] 49))
      have HW1 : Hid (Whole (wr.alloc (.cells #[.string ⟨#[]⟩, .string ⟨#[]⟩] 49)) wr.heap.size 49 #[.string ⟨#[]⟩, .string ⟨#[]⟩]) := Lib.hid (Whole.new _ _ _)
      have HB1 := Lib.hid (And.intro hNr hal)
      have hk0 : (0 : Int) ≤ (k : Int) := by omega
      have hk1 : (k : Int) < (n : Int) := by omega
      have e1 : IntKind.i64.wrap ((k : Int) + 1) = (k : Int) + 1 := IntWalk.i64_in _ (by omega)
      clear x0 x1 gL ha b1 hb hsame hNr hal
      obtain ⟨nm, vl⟩ := a
      have HWD : Hid (∀ W, Calls Try.prog 40 #[.string nm] W fun e w' => e = .returned (.bool (wordP 1 32 (tx nm))) ∧ W = w') := Lib.hid fun W => word_any nm W (by have := hza.1; unfold maxLen; simp only at this; omega)
      have HMB : Hid (∀ W, Calls Try.prog 43 #[.string vl] W fun e w' => e = .returned (.bool (maybeP (tx vl))) ∧ W = w') := Lib.hid fun W => perhaps_any vl W (by have := hza.2; unfold maxLen; simp only at this; omega)
      have HO : Hid (okAt ⟨nm, vl⟩ = (wordP 1 32 (tx nm) && maybeP (tx vl))) := Lib.hid rfl
      generalize wordP 1 32 (tx nm) = x at *
      generalize maybeP (tx vl) = y at *
      clear hza
      go_upto_region 6 with ((with_reducible refine wpList_storeS #[.string nm, .string vl] ?_ 49 (.tmp 4) (.tmp 13) ?_ ?_ ?_ HW1.out Try.sizeSAttr ?_ ?_ ?_ ?_); (with_reducible rfl); (with_reducible rfl); rfl; rfl; rfl; rfl; rfl)
      have hr := HW1.out.row #[.string nm, .string vl]
      have hb2 := below_row HB1.out.2 HB1.out.1 #[.string nm, .string vl]
      generalize (wr.alloc (.cells #[.string ⟨#[]⟩, .string ⟨#[]⟩] 49)).setRow wr.heap.size #[.string nm, .string vl] = W2 at *
      generalize wr.heap.size = g at *
      have c0 := hr.cell 0
      have c1 := hr.cell 1
      simp only [List.getElem?_toArray, List.getElem?_cons_zero, List.getElem?_cons_succ] at c0 c1
      have HB2 := Lib.hid hb2
      clear hr hb2 HW1 HB1 x0' x1'
      cases x with
      | false =>
        have HR : Hid (false = okA L) := Lib.hid (okA_bad HG.out (by rw [HO.out]; rfl)).symm
        go_wp2_with (go_at_call 40; (with_reducible refine (HWD.out _).mono ?_); rintro e w' ⟨rfl, rfl⟩)
        go_ret
        exact ⟨ret_bool HR.out, by rw [HN.out]; exact HB2.out⟩
      | true =>
        cases y with
        | false =>
          have HR : Hid (false = okA L) := Lib.hid (okA_bad HG.out (by rw [HO.out]; rfl)).symm
          go_wp2_with (first
            | (go_at_call 40; (with_reducible refine (HWD.out _).mono ?_); rintro e w' ⟨rfl, rfl⟩)
            | (go_at_call 43; (with_reducible refine (HMB.out _).mono ?_); rintro e w' ⟨rfl, rfl⟩))
          go_ret
          exact ⟨ret_bool HR.out, by rw [HN.out]; exact HB2.out⟩
        | true =>
          have HR : Hid (∀ (j : Nat) (a : AttrS), j < k + 1 → L[j]? = some a → okAt a = true) := Lib.hid fun j a hj e => by
            by_cases e2 : j = k
            · subst e2
              rw [HG.out] at e
              injection e with e
              subst e
              rw [HO.out]
              rfl
            · exact HS.out.1 j a (by omega) e
          go_wp2_with (first
            | (go_at_call 40; (with_reducible refine (HWD.out _).mono ?_); rintro e w' ⟨rfl, rfl⟩)
            | (go_at_call 43; (with_reducible refine (HMB.out _).mono ?_); rintro e w' ⟨rfl, rfl⟩))
          go_roundw
          case rel => exact ⟨k + 1, by omega, by go_num, HR.out, HB2.out⟩
          case measure => simp [intOf]; omega
    · obtain rfl : k = n := by omega
      have HR : Hid (true = okA L) := Lib.hid (okA_yes (by rw [HNN.out]; omega) fun j a e => HS.out.1 j a (by have := (List.getElem?_eq_some_iff.1 e).1; rw [HNN.out] at this; exact this) e).symm
      clear hsame hb
      go_wp2
      go_ret
      exact ⟨ret_bool HR.out, by rw [HN.out]; exact HS.out.2⟩
end Go.Proofs.Ythijpfnfkelmbaa
