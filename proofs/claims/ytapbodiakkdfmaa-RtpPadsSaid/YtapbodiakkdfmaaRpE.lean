/- A payload and what lies behind it are read. -/
import Derived.Test.YtapbodiakkdfmaaRpD
namespace Go.Proofs.Ytapbodiakkdfmaa
open Go.RowKit
set_option linter.unusedVariables false
set_option linter.unusedSimpArgs false

/-- What reading the rest comes to. -/
def RestO (b : Nat) (ys : List Int) (pad : Nat) (w : World) (e : Ending) (w' : World) : Prop :=
  ∃ P, e = .returned (.tuple #[P, .int .i64 pad, .bool true]) ∧ V8 w' w'.heap.size P ys ∧ Only (fun k => k = b) w w' ∧ ∀ ad m c, P = .slice (some ad) m c → w.heap.size ≤ ad.block

theorem Own8.new {w : World} {base : Nat} {xs : List Int} {ad : Addr} {m c : Nat} (h : Own8 w base (.slice (some ad) m c) xs) : base ≤ ad.block := by
  rcases h.2 with ⟨e, _⟩ | ⟨g, cap, cur, e, h2, _⟩
  · cases e
  · cases e; exact h2
/-- Bytes are kept where their block is. -/
theorem Bs.only {w w' : World} {B : Nat} {A : Option Addr} {n : Nat} {xs : List Int} {S : Nat → Prop} (h : Bs w B A n xs) (k : Only S w w') (hB : B ≤ w.heap.size) (hS : ∀ ad, A = some ad → ¬ S ad.block) : Bs w' B A n xs :=
  ⟨h.1, fun hn => by
    obtain ⟨ad, h1, h2, h3⟩ := h.2 hn
    exact ⟨ad, h1, h2, fun i hi => (World.cell?_of_block (w := w) (k.block _ (by rw [add_block]; omega) (by rw [add_block]; exact hS ad h1))).trans (h3 i hi)⟩⟩

theorem padB_last {pad : Nat} (h : pad ≠ 0) (ys : List Int) : (ys ++ padB pad).getD (ys.length + pad - 1) 0 = pad := by
  have e : padB pad = List.replicate (pad - 1) 0 ++ [(pad : Int)] := if_neg h
  rw [e, ← List.append_assoc]
  simp only [List.getD]
  rw [List.getElem?_append_right (by simp; omega)]
  simp only [List.length_append, List.length_replicate]
  rw [show ys.length + pad - 1 - (ys.length + (pad - 1)) = 0 by omega]
  rfl
theorem padB_mid {pad : Nat} (h : pad ≠ 0) (i : Nat) (hi : i < pad - 1) : (padB pad).getD i 0 = 0 := by
  have e : padB pad = List.replicate (pad - 1) 0 ++ [(pad : Int)] := if_neg h
  rw [e]
  simp only [List.getD]
  rw [List.getElem?_append_left (by simp; omega)]
  simp [hi]

set_option maxHeartbeats 1600000 in
set_option maxRecDepth 100000 in
theorem rest_any (b : Nat) (v : Value) (ys : List Int) (pad : Nat) (w : World) (h : RdV w b v (ys ++ padB pad) false) (hy : ys.length ≤ 100000) (hp : pad ≤ 255) (q : Bool) (hq : q = decide (pad ≠ 0)) :
    Calls Try.prog 26 #[.pointer (some ⟨b, 0, none⟩), .bool q] w fun e w' => RestO b ys pad w e w' := by
  have hlen : (ys ++ padB pad).length = ys.length + pad := by rw [List.length_append, padB_length]
  obtain ⟨n, hn⟩ : ∃ n, ys.length + pad = n := ⟨_, rfl⟩
  have HLF : Hid (Calls Try.prog 32 #[.pointer (some ⟨b, 0, none⟩)] w fun e w' => e = .returned (.int .i64 n) ∧ w = w') := Lib.hid (by have := left_at b v _ false w h; rwa [hlen, hn] at this)
  have HT0 := take_any b v _ false n w h (by omega)
  obtain ⟨e1, e2, e3⟩ := takeP_ok (n := n) (xs := ys ++ padB pad) (by omega)
  rw [e1, e2, e3, List.take_of_length_le (by omega)] at HT0
  have HT := Lib.hid HT0
  have HL := Lib.hid (And.intro hlen hn)
  clear h e1 e2 e3 HT0
  by_cases h0 : pad = 0
  · subst h0
    obtain rfl : q = false := by simpa using hq
    have hb0 : ys ++ padB 0 = ys := by simp [padB]
    rw [hb0] at HT
    clear hlen hn hb0 hq
    go_enter Try.func26, Try.ntmps26
    go_wp2_with (first
      | (go_at_call 32; (with_reducible refine HLF.out.mono ?_); rintro e w1 ⟨rfl, rfl⟩)
      | (go_at_call 31; (with_reducible refine HT.out.mono ?_); rintro e w1 ⟨v1, rfl, ho, -, hon⟩))
    go_ret3
    exact ⟨v1, rfl, ho.v8, hon, fun ad m c e => by subst e; exact ho.new⟩
  · obtain rfl : q = true := by rw [hq]; exact decide_eq_true h0
    clear hq
    obtain ⟨m, hm⟩ : ∃ m, ys.length = m := ⟨_, rfl⟩
    have HM := Lib.hid hm
    rw [hm] at hn
    have hmn : m < n := by omega
    have hnn : n ≤ 200000 := by omega
    have hlast : (ys ++ padB pad).getD (n - 1) 0 = pad := by have := padB_last h0 ys; rwa [HM.out, hn] at this
    have HLAST := Lib.hid hlast
    have hpn : ¬ (pad : Int) > n := by omega
    have hp0 : ¬ (pad : Int) = 0 := by omega
    have hpz : ((pad : Int) == 0) = false := by simp; omega
    have hpn' : ¬ n < pad := by omega
    have hsub : (n : Int) - pad = m := by omega
    have hn1 : IntKind.i64.wrap ((n : Int) - 1) = ((n - 1 : Nat) : Int) := by rw [IntKind.wrap_i64]; omega
    have hng : ¬ ((n - 1 : Nat) : Int) < 0 := by omega
    obtain ⟨L, hL⟩ : ∃ L, ys ++ padB pad = L := ⟨_, rfl⟩
    rw [hL] at HT hlen HLAST
    have hLn : L.length = n := by rw [hlen]; omega
    have HLE := Lib.hid hL
    clear hlast hlen hL
    go_enter Try.func26, Try.ntmps26
    go_upto_region 2 with (first
      | (go_at_call 32; (with_reducible refine HLF.out.mono ?_); rintro e w1 ⟨rfl, rfl⟩)
      | (go_at_call 31; (with_reducible refine HT.out.mono ?_); rintro e w1 ⟨v1, rfl, ho, -, hon⟩; obtain ⟨A, c, rfl, hnc, hcm, -, hbs⟩ := ho.form))
    rw [hLn] at hnc hbs
    obtain ⟨ad, rfl, had, hc⟩ := hbs.2 (by omega)
    have hcell := hc (n - 1) (by omega)
    rw [HLAST.out] at hcell
    have hcmne : ¬ c = m := by omega
    have hcut := (hbs.head (k := n - 1) (by omega)).cut (k := m) (cap := c) (by omega) (by omega)
    rw [if_neg hcmne] at hcut
    have HNO : Hid (∀ W, Below w1.heap.size w1 W → Calls Try.prog 33 #[.slice (some (ad.add m)) (n - 1 - m) (c - m)] W fun e w' => e = .returned (.bool true) ∧ w' = W) := Lib.hid fun W hW =>
      (noughts_yes _ _ _ _ _ W (hcut.below hW) (fun i hi => by
        rw [← HLE.out, ← HM.out]
        have hi' : i < pad - 1 := by have := HM.out; omega
        have e1 : (((ys ++ padB pad).take (n - 1)).drop ys.length).getD i 0 = (padB pad).getD i 0 := by
          simp only [List.getD]
          rw [List.getElem?_drop, List.getElem?_take, if_pos (by have := HM.out; omega), List.getElem?_append_right (by omega), Nat.add_sub_cancel_left]
        rw [e1]
        exact padB_mid h0 i hi') (by omega)).mono fun e w' h => ⟨h.1, h.2.symm⟩
    have hhead := hbs.head (k := m) (by omega)
    have hres : V8 w1 w1.heap.size (.slice (some ad) m c) ys := by
      refine ⟨some ad, c, by rw [HM.out], by rw [HM.out]; omega, hcm, (fun e => by cases e), ?_⟩
      rw [HM.out]
      have e2 : L.take m = ys := by rw [← HLE.out, ← HM.out, List.take_left]
      rw [e2] at hhead
      exact hhead
    have hnew := ho.new
    have HRES := Lib.hid (And.intro hres (And.intro hon (And.intro had hnew)))
    clear hcut hhead hres hc hbs ho hon hnew
    go_upto_region 11 with fail
    go_quiet ((go_at_call 33; exact Calls.quiet_of_same (HNO.out _ (below_drewN' (Below.refl _ _) _))))
    go_wp2
    go_ret3
    refine ⟨.slice (some ad) m c, rfl, ?_, HRES.out.2.1.over (below_drewN' (Below.refl w1.heap.size w1) _) HRES.out.2.1.size, fun ad2 m2 c2 e => by injection e with e1 _ _; injection e1 with e1; rw [← e1]; exact HRES.out.2.2.2⟩
    exact HRES.out.1.below (below_drewN' (Below.refl w1.heap.size w1) _)
end Go.Proofs.Ytapbodiakkdfmaa
