/- How many bytes stand ahead of a payload: the program's Head. -/
import Derived.Test.YtapbodiakkdfmaaStRdr
import Derived.Test.YtapbodiakkdfmaaStRow
namespace Go.Proofs.Ytapbodiakkdfmaa
open Go.RowKit
set_option linter.unusedVariables false
set_option linter.unusedSimpArgs false

theorem all256 {p : Int → Prop} (h : ∀ n : Fin 256, p (n.val : Int)) (x : Int) (h0 : 0 ≤ x) (h1 : x < 256) : p x := by
  obtain ⟨n, rfl⟩ := Int.eq_ofNat_of_zero_le h0
  exact h ⟨n, by omega⟩
theorem and8_15 (x : Int) (h0 : 0 ≤ x) (h1 : x < 256) : bits .and .u8 x 15 = x % 16 := all256 (p := fun x => bits .and .u8 x 15 = x % 16) (by decide +kernel) x h0 h1
theorem and8_16 (x : Int) (h0 : 0 ≤ x) (h1 : x < 256) : bits .and .u8 x 16 = x / 16 % 2 * 16 := all256 (p := fun x => bits .and .u8 x 16 = x / 16 % 2 * 16) (by decide +kernel) x h0 h1
theorem and8_32 (x : Int) (h0 : 0 ≤ x) (h1 : x < 256) : bits .and .u8 x 32 = x / 32 % 2 * 32 := all256 (p := fun x => bits .and .u8 x 32 = x / 32 % 2 * 32) (by decide +kernel) x h0 h1
theorem and8_127 (x : Int) (h0 : 0 ≤ x) (h1 : x < 256) : bits .and .u8 x 127 = x % 128 := all256 (p := fun x => bits .and .u8 x 127 = x % 128) (by decide +kernel) x h0 h1
theorem and8_128 (x : Int) (h0 : 0 ≤ x) (h1 : x < 256) : bits .and .u8 x 128 = x / 128 * 128 := all256 (p := fun x => bits .and .u8 x 128 = x / 128 * 128) (by decide +kernel) x h0 h1
theorem and8_15' (x : Int) (h0 : 0 ≤ x) (h1 : x < 256) : bits .and .u8 x 15 = x % 16 := and8_15 x h0 h1

/-- What Head tells. -/
def hdV (xs : List Int) : Int × Int :=
  if xs.length < 12 then (0, 2) else if ¬ xs.getD 0 0 / 64 = 2 then (0, 2) else
  if xs.getD 0 0 / 16 % 2 = 0 then (if (xs.length : Int) < 12 + 4 * (xs.getD 0 0 % 16) then (0, 2) else (12 + 4 * (xs.getD 0 0 % 16), 0)) else
  if (xs.length : Int) < 16 + 4 * (xs.getD 0 0 % 16) then (0, 2) else
  if (xs.length : Int) < 16 + 4 * (xs.getD 0 0 % 16) + 4 * (xs.getD (14 + 4 * (xs.getD 0 0 % 16).toNat) 0 * 256 + xs.getD (15 + 4 * (xs.getD 0 0 % 16).toNat) 0) then (0, 2) else
  (16 + 4 * (xs.getD 0 0 % 16) + 4 * (xs.getD (14 + 4 * (xs.getD 0 0 % 16).toNat) 0 * 256 + xs.getD (15 + 4 * (xs.getD 0 0 % 16).toNat) 0), 0)

theorem ret_pair {a b c d : Int} (h : a = c) (k : b = d) : Ending.returned (.tuple #[.int .i64 a, .int .i64 b]) = .returned (.tuple #[.int .i64 c, .int .i64 d]) := by rw [h, k]

set_option maxHeartbeats 800000 in
set_option maxRecDepth 100000 in
theorem head_any (A : Option Addr) (c : Nat) (xs : List Int) (B : Nat) (w : World) (h : Bs w B A xs.length xs) (hx : In256 xs) (hl : xs.length ≤ 140737488355328) :
    Calls Try.prog 6 #[.slice A xs.length c] w fun e w' => e = .returned (.tuple #[.int .i64 (hdV xs).1, .int .i64 (hdV xs).2]) ∧ Below w.heap.size w w' := by
  obtain ⟨n, hn⟩ : ∃ n, xs.length = n := ⟨_, rfl⟩
  have HN := Lib.hid hn
  rw [hn] at h hl ⊢
  by_cases h12 : n < 12
  · have hv : hdV xs = (0, 2) := by unfold hdV; rw [if_pos (by omega)]
    rw [hv]
    have h12' : (n : Int) < 12 := by omega
    go_enter Try.func6, Try.ntmps6
    go_wp2
    go_ret2
    exact ⟨rfl, Below.refl _ _⟩
  have h12' : ¬ (n : Int) < 12 := by omega
  obtain ⟨ad, rfl, -, hc⟩ := h.2 (by omega)
  have HC := Lib.hid hc
  have hc0 := hc 0 (by omega)
  obtain ⟨b0, hb0⟩ : ∃ b, xs.getD 0 0 = b := ⟨_, rfl⟩
  have hr := hx 0
  have HX := Lib.hid hx
  rw [hb0] at hc0 hr
  have HB0 := Lib.hid hb0
  clear hc h hx
  have e0 : ad.add 0 = ad := by simp [Addr.add]
  rw [e0] at hc0
  obtain ⟨k, hk⟩ : ∃ k : Nat, b0 % 16 = k := ⟨(b0 % 16).toNat, by omega⟩
  have hk16 : k < 16 := by omega
  have e15 : bits .and .u8 b0 15 = k := by rw [and8_15 b0 hr.1 hr.2, hk]
  have q12 : ¬ xs.length < 12 := by omega
  have w1 : wrap64 (k : Int) = k := w64 (by omega) (by omega)
  have w2 : wrap64 (4 * (k : Int)) = 4 * k := w64 (by omega) (by omega)
  have w3 : wrap64 (12 + 4 * (k : Int)) = 12 + 4 * k := w64 (by omega) (by omega)
  by_cases hv2 : b0 / 64 = 2
  · by_cases h16 : b0 / 16 % 2 = 0
    · have e16 : bits .and .u8 b0 16 = 0 := by rw [and8_16 b0 hr.1 hr.2, h16]; rfl
      by_cases hbig : (n : Int) < 12 + 4 * k
      · have hv : hdV xs = (0, 2) := by unfold hdV; rw [if_neg q12, hb0, if_neg (by omega), if_pos h16, hk, hn, if_pos hbig]
        rw [hv]
        clear hn hb0 hv hr h16 hk
        go_enter Try.func6, Try.ntmps6
        go_wp2
        go_ret2
        exact ⟨rfl, Below.refl _ _⟩
      · have hv : hdV xs = (12 + 4 * (k : Int), 0) := by unfold hdV; rw [if_neg q12, hb0, if_neg (by omega), if_pos h16, hk, hn, if_neg hbig]
        rw [hv]
        clear hn hb0 hv hr h16 hk
        go_enter Try.func6, Try.ntmps6
        go_wp2
        go_ret2
        exact ⟨rfl, Below.refl _ _⟩
    · have h161 : b0 / 16 % 2 = 1 := by omega
      have e16 : bits .and .u8 b0 16 = 16 := by rw [and8_16 b0 hr.1 hr.2, h161]; rfl
      by_cases hbig : (n : Int) < 16 + 4 * k
      · have hv : hdV xs = (0, 2) := by unfold hdV; rw [if_neg q12, hb0, if_neg (by omega), if_neg h16, hk, hn, if_pos hbig]
        have hbig' : (12 + 4 * (k : Int) + 4 > n) := by omega
        rw [hv]
        clear hn hb0 hv hr h16 hk h161
        go_enter Try.func6, Try.ntmps6
        go_wp2
        go_ret2
        exact ⟨rfl, Below.refl _ _⟩
      · have hbig' : ¬ (12 + 4 * (k : Int) + 4 > n) := by omega
        have hx1 := HX.out (14 + 4 * k)
        have hx2 := HX.out (15 + 4 * k)
        have d1 := HC.out (14 + 4 * k) (by omega)
        have d2 := HC.out (15 + 4 * k) (by omega)
        obtain ⟨x1, hx1e⟩ : ∃ b, xs.getD (14 + 4 * k) 0 = b := ⟨_, rfl⟩
        obtain ⟨x2, hx2e⟩ : ∃ b, xs.getD (15 + 4 * k) 0 = b := ⟨_, rfl⟩
        rw [hx1e] at hx1 d1
        rw [hx2e] at hx2 d2
        have hv : hdV xs = if (n : Int) < 16 + 4 * k + 4 * (x1 * 256 + x2) then (0, 2) else (16 + 4 * (k : Int) + 4 * (x1 * 256 + x2), 0) := by
          unfold hdV; rw [if_neg q12, hb0, if_neg (by omega), if_neg h16, hk, hn, if_neg hbig, Int.toNat_natCast, hx1e, hx2e]
        have or1 : bits .or .i64 (x1 * 256) x2 = x1 * 256 + x2 := or64 (x1 * 256) x2 8 256 rfl (by omega) (by omega) (by omega) hx2.1 hx2.2 (by omega)
        have HV := Lib.hid hv
        have s0 : IntKind.i64.wrap (12 + 4 * (k : Int) + 4) = 16 + 4 * (k : Int) := by rw [IntKind.wrap_i64]; omega
        have s1 : IntKind.i64.wrap (16 + 4 * (k : Int) - 2) = ((14 + 4 * k : Nat) : Int) := by rw [IntKind.wrap_i64]; omega
        have s2 : IntKind.i64.wrap (16 + 4 * (k : Int) - 1) = ((15 + 4 * k : Nat) : Int) := by rw [IntKind.wrap_i64]; omega
        have s5 : 12 + 4 * (k : Int) + 4 = 16 + 4 * (k : Int) := by omega
        have s3 : IntKind.i64.wrap (4 * (x1 * 256 + x2)) = 4 * (x1 * 256 + x2) := by rw [IntKind.wrap_i64]; omega
        have s4 : IntKind.i64.wrap (16 + 4 * (k : Int) + 4 * (x1 * 256 + x2)) = 16 + 4 * (k : Int) + 4 * (x1 * 256 + x2) := by rw [IntKind.wrap_i64]; omega
        rw [s5] at hbig'
        clear hn hb0 hv hr h16 hk h161 hx1e hx2e hbig
        by_cases hend : (n : Int) < 16 + 4 * k + 4 * (x1 * 256 + x2)
        · have hve := HV.out
          rw [if_pos hend] at hve
          rw [hve]
          clear hve
          go_enter Try.func6, Try.ntmps6
          go_upto_region 8 with fail
          go_quiet (fail)
          go_wp2
          go_ret2
          exact ⟨rfl, below_drewN' (Below.refl _ _) _⟩
        · have hve := HV.out
          rw [if_neg hend] at hve
          rw [hve]
          clear hve
          go_enter Try.func6, Try.ntmps6
          go_upto_region 8 with fail
          go_quiet (fail)
          go_wp2
          go_ret2
          exact ⟨rfl, below_drewN' (Below.refl _ _) _⟩
  · have hv : hdV xs = (0, 2) := by unfold hdV; rw [if_neg q12, if_pos (by rw [hb0]; exact hv2)]
    rw [hv]
    clear hn hb0 hv hk
    go_enter Try.func6, Try.ntmps6
    go_wp2
    go_ret2
    exact ⟨rfl, Below.refl _ _⟩
end Go.Proofs.Ytapbodiakkdfmaa
