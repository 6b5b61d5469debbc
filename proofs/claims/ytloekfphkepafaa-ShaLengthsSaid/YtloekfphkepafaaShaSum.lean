/- Sum of any bytes. -/
import Derived.Test.YtloekfphkepafaaShaEnd
namespace Go.Proofs.Ytloekfphkepafaa
open Go.RowKit
set_option linter.unusedVariables false

set_option maxHeartbeats 800000 in
theorem sum_any (A : Option Addr) (n cap : Nat) (xs : List Int) (B : Nat) (w : World) (h : Bs w B A n xs) (hB : B ≤ w.heap.size) (hcap : n ≤ cap) (hmax : cap ≤ maxLen) (hx : ∀ i, 0 ≤ xs.getD i 0 ∧ xs.getD i 0 < 256) (hn : n ≤ 281474976710656) :
    Calls Try.prog 9 #[.slice A n cap] w fun e w' => e = .returned (.agg (arr .u8 (sha xs))) ∧ Below w.heap.size w w' := by
  have hz := Try.zero24
  have hE : ∀ W, Below w.heap.size w W → Calls Try.prog 16 #[.agg (arr .u32 s0.list), .int .u64 0, .slice A n cap] W fun e w' => e = .returned (.agg (arr .u8 (sha xs))) ∧ Below W.heap.size W w' := fun W hb =>
    end_any s0 0 A n cap xs B W (h.below (hb.mono hB)) (Nat.le_trans hB hb.size) hcap hmax hx (by omega) hn
  have H0 : Hid (Whole (w.alloc (.cells (arr .u8 z20) 24)) w.heap.size 24 (arr .u8 z20) ∧ Below w.heap.size w (w.alloc (.cells (arr .u8 z20) 24))) := Lib.hid ⟨Whole.new _ _ _, (Below.refl _ w).alloc (Nat.le_refl _) _⟩
  have HE := Lib.hid hE
  have HB := Lib.hid (fun W => begin_any W)
  have hl : (arr .u8 (sha xs)).size = 20 := by rw [arr_size]; exact digN_length _ _
  obtain ⟨R, hR⟩ : ∃ R, arr .u8 (sha xs) = R := ⟨_, rfl⟩
  have h1 : R.all (·.oneCell') = true := by rw [← hR]; exact arr_one _ _
  obtain ⟨S0, hS0⟩ : ∃ S0, arr .u32 s0.list = S0 := ⟨_, rfl⟩
  rw [hR] at HE hl ⊢
  rw [hS0] at HE HB
  have H1 := Lib.hid (And.intro hl h1)
  clear hE hR hS0 hl h1 h
  go_enter Try.func9, Try.ntmps9
  go_wp2_with (first
    | (go_at_call 15; (with_reducible refine (HB.out _).mono ?_); rintro e w1 ⟨rfl, hb1⟩)
    | (go_at_call 16; (with_reducible refine (HE.out _ (H0.out.2.trans (Below.mono (by assumption) H0.out.2.size))).mono ?_); rintro e w2 ⟨rfl, hb2⟩)
    | (refine wpList_store_whole rfl 24 (.tmp 2) (.tmp 5) rfl rfl rfl ((H0.out.1.under (by assumption)).under (by assumption)) Try.info24 H1.out.1 (by rfl) H1.out.2 ?_))
  refine bodyPost_ret (v := .agg R) ?_ rfl ?_
  · exact ret_whole (g := w.heap.size) rfl rfl (Whole.row ((H0.out.1.under hb1).under hb2) _) Try.underlying24 Try.info24 H1.out.1
  · have h3 := H0.out.2.trans (hb1.mono H0.out.2.size)
    exact ⟨rfl, below_row (h3.trans (hb2.mono h3.size)) (Nat.le_refl _) _⟩

end Go.Proofs.Ytloekfphkepafaa
