/- The law ShaMacs, walked. -/
import Derived.Test.YtloekfphkepafaaRMac
import Derived.Test.YtloekfphkepafaaShaSums
namespace Go.Proofs.Ytloekfphkepafaa
open Go.RowKit
set_option linter.unusedVariables false

theorem mac_len (ks ms : List Int) : (mac ks ms).length = 20 := by have := (fit20_mac ks ms).1; rwa [arr_size] at this

set_option maxHeartbeats 1600000 in
set_option maxRecDepth 100000 in
theorem macs_walk (Ak Am : Option Addr) (nk ck nm cm : Nat) (ks ms : List Int) (w : World) (hk : In8 w Ak nk ck ks) (hm : In8 w Am nm cm ms) (rk : nk ≤ 140737488351232) (rm : nm ≤ 140737488351232) :
    Calls Try.prog 4 #[.slice Ak nk ck, .slice Am nm cm] w fun e w' => e = .returned (.bool true) ∧ Below w.heap.size w w' := by
  have HS : Hid (∀ W, Below w.heap.size w W → Calls Try.prog 13 #[.slice Ak nk ck, .slice Am nm cm] W fun e w' => e = .returned (.agg (arr .u8 (mac ks ms))) ∧ Below W.heap.size W w') :=
    Lib.hid fun W hW => mac_walk Ak Am nk ck nm cm ks ms W.heap.size W (hk.under hW).bytes (hm.under hW).bytes (Nat.le_refl _) hk.fits hk.most hm.fits hm.most hk.in8 hm.in8 (by omega) (by omega)
  have HR : Hid (∀ W, Below w.heap.size w W → Calls Try.prog 14 #[.slice Ak nk ck, .slice Am nm cm] W fun e w' => e = .returned (.agg (arr .u8 (mac ks ms))) ∧ Below W.heap.size W w') :=
    Lib.hid fun W hW => rmac_any Ak Am nk ck nm cm ks ms W (hk.under hW) (hm.under hW) rk rm
  have heq := same20 (mac ks ms) (mac_len ks ms)
  have hgd := Try.guard24
  obtain ⟨d, hd⟩ : ∃ d, arr .u8 (mac ks ms) = d := ⟨_, rfl⟩
  rw [hd] at HS HR heq
  clear hd hk hm
  go_enter Try.func4, Try.ntmps4
  go_wp2_with (first
    | (go_at_call 8; (with_reducible refine (awake_yes _).mono ?_); rintro e w1 ⟨rfl, hb1⟩)
    | (go_at_call 13; (with_reducible refine (HS.out _ hb1).mono ?_); rintro e w2 ⟨rfl, hb2⟩; have hb3 := hb1.trans (hb2.mono hb1.size))
    | (go_at_call 14; (with_reducible refine (HR.out _ hb3).mono ?_); rintro e w4 ⟨rfl, hb4⟩; have hb5 := hb3.trans (hb4.mono hb3.size)))
  go_ret
  exact ⟨rfl, hb5⟩

end Go.Proofs.Ytloekfphkepafaa
