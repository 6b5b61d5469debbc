/- The law ShaSums, walked. -/
import Derived.Test.YtloekfphkepafaaRSum
import Derived.Test.YtloekfphkepafaaArrEq
namespace Go.Proofs.Ytloekfphkepafaa
open Go.RowKit
set_option linter.unusedVariables false

theorem sha_len (xs : List Int) : (sha xs).length = 20 := by have := (fit20_sha xs).1; rwa [arr_size] at this
theorem In8.under {w W : World} {A : Option Addr} {n c : Nat} {xs : List Int} (h : In8 w A n c xs) (hb : Below w.heap.size w W) : In8 W A n c xs :=
  ⟨(h.bytes.below hb).more hb.size, h.fits, h.most, h.none, h.in8⟩

set_option maxHeartbeats 1600000 in
set_option maxRecDepth 100000 in
theorem sums_walk (A : Option Addr) (n c : Nat) (xs : List Int) (w : World) (h : In8 w A n c xs) (rn : n ≤ 140737488351232) :
    Calls Try.prog 3 #[.slice A n c] w fun e w' => e = .returned (.bool true) ∧ Below w.heap.size w w' := by
  have HS : Hid (∀ W, Below w.heap.size w W → Calls Try.prog 9 #[.slice A n c] W fun e w' => e = .returned (.agg (arr .u8 (sha xs))) ∧ Below W.heap.size W w') :=
    Lib.hid fun W hW => sum_any A n c xs W.heap.size W (h.under hW).bytes (Nat.le_refl _) h.fits h.most h.in8 (by omega)
  have HR : Hid (∀ W, Below w.heap.size w W → Calls Try.prog 10 #[.slice A n c] W fun e w' => e = .returned (.agg (arr .u8 (sha xs))) ∧ Below W.heap.size W w') :=
    Lib.hid fun W hW => rsum_any A n c xs W (h.under hW) (by omega)
  have HC : Hid (∀ W, Below w.heap.size w W → Calls Try.prog 11 #[.slice A n c] W fun e w' => e = .returned (.int .u32 (crc xs)) ∧ W = w') :=
    Lib.hid fun W hW => crc_any A n c xs W.heap.size W (h.under hW).bytes h.in8 (by omega)
  have HD : Hid (∀ W, Below w.heap.size w W → Calls Try.prog 12 #[.slice A n c] W fun e w' => e = .returned (.int .u32 (crc xs)) ∧ W = w') :=
    Lib.hid fun W hW => rcrc_any A n c xs W.heap.size W (h.under hW).bytes h.in8 (by omega)
  have heq := same20 (sha xs) (sha_len xs)
  have hgd := Try.guard24
  obtain ⟨d, hd⟩ : ∃ d, arr .u8 (sha xs) = d := ⟨_, rfl⟩
  obtain ⟨y, hy⟩ : ∃ y, crc xs = y := ⟨_, rfl⟩
  rw [hd] at HS HR heq
  rw [hy] at HC HD
  clear hd hy h
  go_enter Try.func3, Try.ntmps3
  go_wp2_with (first
    | (go_at_call 8; (with_reducible refine (awake_yes _).mono ?_); rintro e w1 ⟨rfl, hb1⟩)
    | (go_at_call 9; (with_reducible refine (HS.out _ hb1).mono ?_); rintro e w2 ⟨rfl, hb2⟩; have hb3 := hb1.trans (hb2.mono hb1.size))
    | (go_at_call 10; (with_reducible refine (HR.out _ hb3).mono ?_); rintro e w4 ⟨rfl, hb4⟩; have hb5 := hb3.trans (hb4.mono hb3.size))
    | (go_at_call 11; (with_reducible refine (HC.out _ hb5).mono ?_); rintro e w' ⟨rfl, rfl⟩)
    | (go_at_call 12; (with_reducible refine (HD.out _ hb5).mono ?_); rintro e w' ⟨rfl, rfl⟩))
  go_ret
  exact ⟨rfl, hb5⟩

end Go.Proofs.Ytloekfphkepafaa
