/- CRC-32, the program's and the document's (CRC, CRC). -/
import Derived.Test.YtloekfphkepafaaShaPlain
import Derived.Test.YtloekfphkepafaaArr
namespace Go.Proofs.Ytloekfphkepafaa
open Go.RowKit
set_option linter.unusedVariables false

def poly : Int := 3988292384
/-- One bit goes out. -/
def crc1 (x : Int) : Int := bits .xor .u32 (x / 2) (if x % 2 = 1 then 3988292384 else 0)
def crcN (x : Int) : Nat → Int
  | 0 => x
  | j + 1 => crc1 (crcN x j)
/-- The sum behind k bytes. -/
def crcL (xs : List Int) : Nat → Int
  | 0 => 4294967295
  | k + 1 => crcN (bits .xor .u32 (crcL xs k) (xs.getD k 0)) 8
def crc (xs : List Int) : Int := bits .xor .u32 IntKind.u32.max (crcL xs xs.length)

theorem xor_in (a b : Int) (ha : 0 ≤ a ∧ a < 4294967296) (hb : 0 ≤ b ∧ b < 4294967296) : 0 ≤ bits .xor .u32 a b ∧ bits .xor .u32 a b < 4294967296 := by
  rw [u32_xor a b ha.1 ha.2 hb.1 hb.2]
  have := Nat.xor_lt_two_pow (n := 32) (x := a.toNat) (y := b.toNat) (by omega) (by omega)
  omega
theorem crc1_in (x : Int) (h : 0 ≤ x ∧ x < 4294967296) : 0 ≤ crc1 x ∧ crc1 x < 4294967296 := by
  unfold crc1
  refine xor_in _ _ (by omega) ?_
  split <;> omega
theorem crcN_in (x : Int) (h : 0 ≤ x ∧ x < 4294967296) (j : Nat) : 0 ≤ crcN x j ∧ crcN x j < 4294967296 := by
  induction j with
  | zero => exact h
  | succ j ih => exact crc1_in _ ih
theorem crcL_in (xs : List Int) (hx : ∀ i, 0 ≤ xs.getD i 0 ∧ xs.getD i 0 < 256) (k : Nat) : 0 ≤ crcL xs k ∧ crcL xs k < 4294967296 := by
  induction k with
  | zero => show (0 : Int) ≤ 4294967295 ∧ (4294967295 : Int) < 4294967296; omega
  | succ k ih =>
    have := hx k
    exact crcN_in _ (xor_in _ _ ih (by omega)) 8

theorem and1 (x : Int) (h : 0 ≤ x ∧ x < 4294967296) : bits .and .u32 x 1 = x % 2 := by
  rw [u32_and x 1 h.1 h.2 (by omega) (by omega)]
  obtain ⟨n, rfl⟩ := Int.eq_ofNat_of_zero_le h.1
  simp [Nat.and_one_is_mod]
theorem step_prog (x : Int) (h : 0 ≤ x ∧ x < 4294967296) : bits .xor .u32 (x / 2) (bits .and .u32 3988292384 (-(bits .and .u32 x 1) % 4294967296)) = crc1 x := by
  rw [and1 x h, crc1]
  rcases (show x % 2 = 0 ∨ x % 2 = 1 by omega) with e | e
  · rw [e]
    rfl
  · rw [e]
    rfl
theorem step_ref (x : Int) (h : 0 ≤ x ∧ x < 4294967296) : bits .xor .u32 (x / 2) (3988292384 * (bits .and .u32 x 1) % 4294967296) = crc1 x := by
  rw [and1 x h, crc1]
  rcases (show x % 2 = 0 ∨ x % 2 = 1 by omega) with e | e
  · rw [e]
    rfl
  · rw [e]
    rfl

theorem ret_u32 {a b : Int} (h : a = b) : Ending.returned (.int .u32 a) = .returned (.int .u32 b) := by rw [h]

set_option maxHeartbeats 800000 in
set_option maxRecDepth 100000 in
theorem crc_any (A : Option Addr) (n cap : Nat) (xs : List Int) (B : Nat) (w : World) (h : Bs w B A n xs) (hx : ∀ i, 0 ≤ xs.getD i 0 ∧ xs.getD i 0 < 256) (hn : n ≤ 281474976710656) :
    Calls Try.prog 11 #[.slice A n cap] w fun e w' => e = .returned (.int .u32 (crc xs)) ∧ w = w' := by
  have HX := Lib.hid (And.intro h.1 hx)
  have HC := Lib.hid h.2
  clear h hx
  go_enter Try.func11, Try.ntmps11
  go_wp2
  go_loop [3, 8] (fun s3 s8 => ∃ k : Nat, k ≤ n ∧ s8 = .int .i64 k ∧ s3 = .int .u32 (crcL xs k)) (fun _ s8 => n - (intOf s8).toNat)
  case atStart => exact ⟨0, by omega, rfl, rfl⟩
  case round =>
    obtain ⟨k, hk, rfl, rfl⟩ := hrel
    by_cases hlt : k < n
    · obtain ⟨ad, rfl, _, hc⟩ := HC.out (by omega)
      have hcell := hc k hlt
      obtain ⟨hx0, hx1⟩ := HX.out.2 k
      have hci := crcL_in xs HX.out.2 k
      have hs : crcL xs (k + 1) = crcN (bits .xor .u32 (crcL xs k) (xs.getD k 0)) 8 := rfl
      have hxi := xor_in _ _ hci ⟨hx0, by omega⟩
      obtain ⟨x, hxe⟩ : ∃ x, xs.getD k 0 = x := ⟨_, rfl⟩
      obtain ⟨c, hce⟩ : ∃ c, crcL xs k = c := ⟨_, rfl⟩
      rw [hxe] at hcell hx0 hx1 hs hxi
      rw [hce] at hs hci hxi
      rw [hce]
      have H := Lib.hid (And.intro hs hxi)
      clear hc hs hxe hce hci hxi
      go_wp2
      go_loop [3, 16] (fun s3 s16 => ∃ j : Nat, j ≤ 8 ∧ s16 = .int .i64 j ∧ s3 = .int .u32 (crcN (bits .xor .u32 c x) j)) (fun _ s16 => 8 - (intOf s16).toNat)
      case atStart => exact ⟨0, by omega, rfl, rfl⟩
      case round =>
        obtain ⟨j, hj, rfl, rfl⟩ := hrel
        by_cases hlt2 : j < 8
        · have hq := step_prog (crcN (bits .xor .u32 c x) j) (crcN_in _ H.out.2 j)
          have e : crcN (bits .xor .u32 c x) (j + 1) = crc1 (crcN (bits .xor .u32 c x) j) := rfl
          rw [← e] at hq
          obtain ⟨y, hy⟩ : ∃ y, crcN (bits .xor .u32 c x) j = y := ⟨_, rfl⟩
          rw [hy] at hq
          rw [hy]
          have HQ := Lib.hid hq
          clear hq e hy
          go_wp2
          go_round
          case rel => exact ⟨j + 1, by omega, by go_num, by rw [HQ.out]⟩
          case measure => simp [intOf]; omega
        · obtain rfl : j = 8 := by omega
          rw [← H.out.1]
          rw [show ((8 : Nat) : Int) = 8 from rfl]
          obtain ⟨z, hz⟩ : ∃ z, crcL xs (k + 1) = z := ⟨_, rfl⟩
          rw [hz]
          have HZ := Lib.hid hz
          clear hz
          go_wp2
          go_round
          case rel => exact ⟨k + 1, by omega, by go_num, by rw [HZ.out]⟩
          case measure => simp [intOf]; omega
    · obtain rfl : k = n := by omega
      obtain ⟨c, hce⟩ : ∃ c, crcL xs k = c := ⟨_, rfl⟩
      rw [hce]
      have HE := Lib.hid hce
      clear hce
      go_wp2
      go_ret
      refine ⟨ret_u32 ?_, rfl⟩
      unfold crc
      rw [HX.out.1, HE.out]

set_option maxHeartbeats 800000 in
set_option maxRecDepth 100000 in
theorem rcrc_any (A : Option Addr) (n cap : Nat) (xs : List Int) (B : Nat) (w : World) (h : Bs w B A n xs) (hx : ∀ i, 0 ≤ xs.getD i 0 ∧ xs.getD i 0 < 256) (hn : n ≤ 281474976710656) :
    Calls Try.prog 12 #[.slice A n cap] w fun e w' => e = .returned (.int .u32 (crc xs)) ∧ w = w' := by
  have HX := Lib.hid (And.intro h.1 hx)
  have HC := Lib.hid h.2
  clear h hx
  go_enter Try.func12, Try.ntmps12
  go_wp2
  go_loop [3, 7] (fun s3 s8 => ∃ k : Nat, k ≤ n ∧ s8 = .int .i64 k ∧ s3 = .int .u32 (crcL xs k)) (fun _ s8 => n - (intOf s8).toNat)
  case atStart => exact ⟨0, by omega, rfl, rfl⟩
  case round =>
    obtain ⟨k, hk, rfl, rfl⟩ := hrel
    by_cases hlt : k < n
    · obtain ⟨ad, rfl, _, hc⟩ := HC.out (by omega)
      have hcell := hc k hlt
      obtain ⟨hx0, hx1⟩ := HX.out.2 k
      have hci := crcL_in xs HX.out.2 k
      have hs : crcL xs (k + 1) = crcN (bits .xor .u32 (crcL xs k) (xs.getD k 0)) 8 := rfl
      have hxi := xor_in _ _ hci ⟨hx0, by omega⟩
      obtain ⟨x, hxe⟩ : ∃ x, xs.getD k 0 = x := ⟨_, rfl⟩
      obtain ⟨c, hce⟩ : ∃ c, crcL xs k = c := ⟨_, rfl⟩
      rw [hxe] at hcell hx0 hx1 hs hxi
      rw [hce] at hs hci hxi
      rw [hce]
      have H := Lib.hid (And.intro hs hxi)
      clear hc hs hxe hce hci hxi
      go_wp2
      go_loop [3, 17] (fun s3 s16 => ∃ j : Nat, j ≤ 8 ∧ s16 = .int .i64 j ∧ s3 = .int .u32 (crcN (bits .xor .u32 c x) j)) (fun _ s16 => 8 - (intOf s16).toNat)
      case atStart => exact ⟨0, by omega, rfl, rfl⟩
      case round =>
        obtain ⟨j, hj, rfl, rfl⟩ := hrel
        by_cases hlt2 : j < 8
        · have hq := step_ref (crcN (bits .xor .u32 c x) j) (crcN_in _ H.out.2 j)
          have e : crcN (bits .xor .u32 c x) (j + 1) = crc1 (crcN (bits .xor .u32 c x) j) := rfl
          rw [← e] at hq
          obtain ⟨y, hy⟩ : ∃ y, crcN (bits .xor .u32 c x) j = y := ⟨_, rfl⟩
          rw [hy] at hq
          rw [hy]
          have HQ := Lib.hid hq
          clear hq e hy
          go_wp2
          go_round
          case rel => exact ⟨j + 1, by omega, by go_num, by rw [HQ.out]⟩
          case measure => simp [intOf]; omega
        · obtain rfl : j = 8 := by omega
          rw [← H.out.1]
          rw [show ((8 : Nat) : Int) = 8 from rfl]
          obtain ⟨z, hz⟩ : ∃ z, crcL xs (k + 1) = z := ⟨_, rfl⟩
          rw [hz]
          have HZ := Lib.hid hz
          clear hz
          go_wp2
          go_round
          case rel => exact ⟨k + 1, by omega, by go_num, by rw [HZ.out]⟩
          case measure => simp [intOf]; omega
    · obtain rfl : k = n := by omega
      obtain ⟨c, hce⟩ : ∃ c, crcL xs k = c := ⟨_, rfl⟩
      rw [hce]
      have HE := Lib.hid hce
      clear hce
      go_wp2
      go_ret
      refine ⟨ret_u32 ?_, rfl⟩
      unfold crc
      rw [HX.out.1, HE.out]

end Go.Proofs.Ytloekfphkepafaa
