/- How many bytes a message has (size), and whether it is one (valid). -/
import Derived.Test.YtladojbppfmkpaaStLeaf
namespace Go.Proofs.Ytladojbppfmkpaa
open Go.RowKit
set_option linter.unusedVariables false

theorem Ats.at_ {w : World} {B : Nat} {A : Option Addr} {L : List At} (h : Ats w B A L) {i : Nat} (hi : i < L.length) : ∃ ad A' c', A = some ad ∧ ad.block < B ∧ w.cell? (ad.add (i * 2)) = some (.int .u16 (L.getD i default).ty) ∧
    w.cell? ⟨(ad.add (i * 2)).block, (ad.add (i * 2)).off + 1, none⟩ = some (.slice A' (L.getD i default).val.length c') ∧ (L.getD i default).val.length ≤ c' ∧ c' ≤ maxLen ∧ (A' = none → c' = 0) ∧ Bs w B A' (L.getD i default).val.length (L.getD i default).val := by
  obtain ⟨ad, h1, h2, h3⟩ := h (by omega)
  obtain ⟨h4, v, h5, A', c', rfl, h6, h7, h8, h9⟩ := h3 i hi
  exact ⟨ad, A', c', h1, h2, h4, h5, h6, h7, h8, h9⟩
theorem bodySize_take (L : List At) (k : Nat) (hk : k < L.length) : bodySize (L.take (k + 1)) = bodySize (L.take k) + atSize (L.getD k default) := by
  rw [List.take_succ_eq_append_getElem hk, bodySize_append]
  simp [bodySize, List.getD, hk]
theorem getD_mem {L : List At} {k : Nat} (hk : k < L.length) : L.getD k default ∈ L := by
  simp [List.getD, hk]
theorem bodySize_le (L : List At) (hv : ∀ a ∈ L, a.val.length ≤ 512) : bodySize L ≤ 520 * L.length := by
  induction L with
  | nil => simp [bodySize]
  | cons a r ih =>
    have h1 := ih (fun x hx => hv x (List.mem_cons_of_mem _ hx))
    have h2 := hv a List.mem_cons_self
    have h3 := padN_lt a.val.length
    simp [bodySize, atSize]
    omega

set_option maxHeartbeats 800000 in
set_option maxRecDepth 100000 in
theorem size_any (M : Array Value) (m : Msg) (A : Option Addr) (c : Nat) (w : World) (h : MsgV w w.heap.size M m A c) (h16 : m.at_.length ≤ 16) (hv : ∀ a ∈ m.at_, a.val.length ≤ 512) :
    Calls Try.prog 53 #[.agg M] w fun e w' => e = .returned (.int .i64 (szN m)) ∧ Below w.heap.size w w' := by
  have hg := Whole.new w 34 M
  have h14 := h.sl hg
  have hb0 : Below w.heap.size w (w.alloc (.cells M 34)) := (Below.refl _ w).alloc (Nat.le_refl _) _
  have HA := Lib.hid (And.intro h.ats (And.intro hv hb0))
  have HP : Hid (∀ n W, n ≤ 512 → Calls Try.prog 55 #[.int .i64 (n : Nat)] W fun e w' => e = .returned (.int .i64 (padN n)) ∧ w' = W) := Lib.hid fun n W hn => (padding_any n (by omega) W).mono fun e w' h => ⟨h.1, h.2.symm⟩
  clear h hg hb0 hv
  obtain ⟨L, hL⟩ : ∃ L, m.at_ = L := ⟨_, rfl⟩
  have HS : Hid (szN m = 20 + bodySize L) := Lib.hid (by rw [← hL]; rfl)
  rw [hL] at h14 HA h16
  clear hL
  go_enter Try.func53, Try.ntmps53
  go_wp2
  go_loopw [3, 9] (fun s3 s9 wr => ∃ k : Nat, k ≤ L.length ∧ s9 = .int .i64 k ∧ s3 = .int .i64 ((20 + bodySize (L.take k) : Nat) : Int) ∧ Below w.heap.size w wr) (fun _ s9 _ => L.length - (intOf s9).toNat)
  case atStart => exact ⟨0, by omega, rfl, rfl, HA.out.2.2⟩
  case round =>
    obtain ⟨k, hk, rfl, rfl, hb⟩ := hrel
    by_cases hlt : k < L.length
    · obtain ⟨ad, A', c', rfl, had, c0, c1, _⟩ := (HA.out.1.below hb).at_ hlt
      have hvl := HA.out.2.1 _ (getD_mem hlt)
      have hst := bodySize_take L k hlt
      have hle := bodySize_le (L.take k) (fun a ha => HA.out.2.1 a (List.mem_of_mem_take ha))
      rw [List.length_take] at hle
      have hpl := padN_lt (L.getD k default).val.length
      have hat : atSize (L.getD k default) = 4 + (L.getD k default).val.length + padN (L.getD k default).val.length := rfl
      rw [hat] at hst
      obtain ⟨a, ha⟩ : ∃ a, L.getD k default = a := ⟨_, rfl⟩
      rw [ha] at c0 c1 hvl hst hpl
      obtain ⟨n, hn⟩ : ∃ n, a.val.length = n := ⟨_, rfl⟩
      rw [hn] at c1 hvl hst hpl
      obtain ⟨b, hbb⟩ : ∃ b, bodySize (L.take k) = b := ⟨_, rfl⟩
      rw [hbb] at hst hle ⊢
      have hpd := HP.out n
      obtain ⟨p, hp⟩ : ∃ p, padN n = p := ⟨_, rfl⟩
      simp only [hp] at hst hpl hpd
      have HQ := Lib.hid hpd
      have HB := Lib.hid (And.intro hb hst)
      have hbig : b ≤ 10000 := by omega
      clear hst hat ha hn hbb hp hpd hb hle
      go_upto_region 5 with fail
      have hW := Whole.new wr 71 #[.int .u16 a.ty, .slice A' n c']
      have d1 : (wr.alloc (.cells #[.int .u16 a.ty, .slice A' n c'] 71)).cell? ⟨wr.heap.size, 1, none⟩ = some (.slice A' n c') := hW.cell 1
      have hB1 := HB.out.1.alloc HB.out.1.size (.cells #[.int .u16 a.ty, .slice A' n c'] 71)
      have HBB := Lib.hid hB1
      clear hB1 hW c0 c1
      generalize wr.alloc (.cells #[.int .u16 a.ty, .slice A' n c'] 71) = W1 at *
      generalize wr.heap.size = g5 at *
      go_quiet ((go_at_call 55; exact Calls.quiet_of_same (HQ.out _ hvl)))
      go_wp2
      go_roundw
      case rel => exact ⟨k + 1, by omega, by go_num, by rw [HB.out.2]; go_num, below_drewN' HBB.out _⟩
      case measure => simp [intOf]; omega
    · have e : bodySize (L.take k) = bodySize L := by rw [List.take_of_length_le (by omega)]
      rw [e, ← HS.out]
      obtain rfl : k = L.length := by omega
      clear e
      go_wp2
      go_ret
      exact ⟨rfl, hb⟩
end Go.Proofs.Ytladojbppfmkpaa
