/- A message is written (write), built (Build). -/
import Derived.Test.YtapbodiakkdfmaaStBase
namespace Go.Proofs.Ytapbodiakkdfmaa
open Go.RowKit
set_option linter.unusedVariables false

/-- make([]byte, 0, n). -/
theorem make_room (n : Nat) (hn : n ≤ 281474976710656) (w : World) : (Instr.makeSlice 22 (.int .i64 0) (.int .i64 n)).run Try.prog w = .ok (.slice (some ⟨w.heap.size, 0, none⟩) 0 n) (w.alloc (.cells (arr .u8 (List.replicate n 0)) 5)) := by
  obtain ⟨i0, hi, hz0, hz1, hz2⟩ := info_parts Try.infoU8
  have h := run_make (P := Try.prog) w 22 5 i0 (.int .u8 0) Try.underlying22 hi hz0 .i64 .i64 0 n (by omega) (by omega) (by rw [hz2]; omega) (by omega)
  have e : madeCells (Value.int .u8 0).cells (n * i0.size) = arr .u8 (List.replicate n 0) := by
    rw [hz1]
    apply Array.ext
    · simp [madeCells, arr]
    · intro j h1 h2
      simp [madeCells, arr, Value.cells, Nat.mod_one]
  simp only [Int.toNat_natCast, e] at h
  exact h

theorem Own8.low {w : World} {base b : Nat} {v : Value} {xs : List Int} (h : Own8 w base v xs) (hb : b ≤ base) : Own8 w b v xs := by
  refine ⟨h.1, ?_⟩
  rcases h.2 with h0 | ⟨g, cap, cur, h1, h2, h3⟩
  · exact .inl h0
  · exact .inr ⟨g, cap, cur, h1, Nat.le_trans hb h2, h3⟩
section
variable {N : Nat} {M : Array Value} {w wr w' : World} {v v' : Value} {xs xs' : List Int}
end
end Go.Proofs.Ytapbodiakkdfmaa
