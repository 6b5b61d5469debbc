/- Addresses out of their values: plain facts. -/
import Derived.Test.YteloaidnfcmadaaStMapped
import Derived.Test.YteloaidnfcmadaaStRParseP
namespace Go.Proofs.Yteloaidnfcmadaa
open Go.RowKit
set_option linter.unusedVariables false
theorem Try.zeroAddr (w : World) : (zeroValue 33).run Try.prog w = .ok (.agg #[.int .u32 0, .int .u16 0]) w := by kernel_rfl
theorem Try.sizeAddr : (Try.prog.info? 33).map (·.size) = some 2 := by kernel_rfl
theorem built_addr0 : Try.prog.built 33 [] = some #[.int .u32 0, .int .u16 0] := by kernel_rfl
theorem build_addr0 (w : World) : (Instr.build 33 #[]).run Try.prog w = .ok (.agg #[.int .u32 0, .int .u16 0]) w := run_build w 33 _ _ built_addr0
theorem built_addr2 : ∀ a b : Int, Try.prog.built 33 [(0, .int .u32 a), (1, .int .u16 b)] = some #[.int .u32 a, .int .u16 b] := by intros; kernel_rfl
theorem build_addr2 (a b : Int) (w : World) : (Instr.build 33 #[(0, .int .u32 a), (1, .int .u16 b)]).run Try.prog w = .ok (.agg #[.int .u32 a, .int .u16 b]) w := run_build w 33 _ _ (built_addr2 a b)
theorem built_addr3 : ∀ a b : Int, Try.prog.built 33 [(1, .int .u16 b), (0, .int .u32 a)] = some #[.int .u32 a, .int .u16 b] := by intros; kernel_rfl
theorem build_addr3 (a b : Int) (w : World) : (Instr.build 33 #[(1, .int .u16 b), (0, .int .u32 a)]).run Try.prog w = .ok (.agg #[.int .u32 a, .int .u16 b]) w := run_build w 33 _ _ (built_addr3 a b)
theorem wpList_buildTwo {ops : Array Oper} {rest : List Oper} {o : Oper} {a : Act} {w : World} {Q : Exit → Act → World → Prop} (hgd : o.guard = none) (t : TypeId) (i j : Nat) (x y : Operand) (ho : o.op = .build t #[(i, x), (j, y)]) {u1 u2 v : Value} (hx : a.eval x = u1) (hy : a.eval y = u2)
    (hr : (Instr.build t #[(i, u1), (j, u2)]).run Try.prog w = .ok v w) (h : wpList Try.prog ops Q rest (a.put o.dst v) w) : wpList Try.prog ops Q (o :: rest) a w := by
  refine wpList_plain hgd fun K hK => ?_
  unfold Oper.wp execOp
  simp only [ho, Sem.run_bind, List.map_toArray, List.map_cons, List.map_nil, hx, hy, hr, Result.andThen_ok, Sem.run_pure]
  exact hK _ _ h
/-- Are these bytes an address's value; which. -/
def isAddr (xs : List Int) : Bool := decide (xs.length = 8) && (decide (xs.getD 0 0 = 0) && decide (xs.getD 1 0 = 1))
def rdIP (xs : List Int) : Int := bits .xor .u32 (((xs.getD 4 0 * 256 + xs.getD 5 0) * 256 + xs.getD 6 0) * 256 + xs.getD 7 0) 554869826
def rdPort (xs : List Int) : Int := bits .xor .u16 (xs.getD 2 0 * 256 + xs.getD 3 0) 8466
def readA (xs : List Int) : Array Value := if isAddr xs = true then #[.int .u32 (rdIP xs), .int .u16 (rdPort xs)] else #[.int .u32 0, .int .u16 0]
def readN (xs : List Int) : Int := if isAddr xs = true then 0 else 2
theorem eight {xs : List Int} (h : xs.length = 8) : ∃ a b c d e f g h, xs = [a, b, c, d, e, f, g, h] := by
  match xs, h with
  | [a, b, c, d, e, f, g, h], _ => exact ⟨a, b, c, d, e, f, g, h, rfl⟩
theorem in_of {xs : List Int} (h : In256 xs) (i : Nat) (x : Int) (e : xs.getD i 0 = x) : 0 ≤ x ∧ x < 256 := by have := h i; rw [e] at this; exact this

theorem cut_tail {A : Addr} {n c lo : Nat} {x : Int} (hx : x = lo) (h1 : lo ≤ n) (h2 : n ≤ c) (w : World) :
    (Instr.slice 22 (.slice (some A) n c) (some (.int .i64 x)) none none).run Try.prog w = .ok (.slice (if c = lo then some A else some (A.add lo)) (n - lo) (c - lo)) w := by
  subst hx
  have ht := Try.underlying22
  have ht' : Try.prog.underlying 22 = some (.slice (Try.prog.elem 22)) := by simp [Program.elem, ht]
  have he : Try.prog.elem 22 = 5 := by simp [Program.elem, ht]
  rw [run_slice_l w 22 _ _ _ ht' .i64 _ (by omega) (by omega), he, Try.sizeU8]
  simp [Result.andThen, sliced]
theorem flip_same {f : FuncId} {args : Array Value} {w : World} {v : Value} (h : Calls Try.prog f args w fun e w' => e = .returned v ∧ w = w') : Calls Try.prog f args w fun e w' => e = .returned v ∧ w' = w :=
  h.mono fun e w' h => ⟨h.1, h.2.symm⟩
end Go.Proofs.Yteloaidnfcmadaa
