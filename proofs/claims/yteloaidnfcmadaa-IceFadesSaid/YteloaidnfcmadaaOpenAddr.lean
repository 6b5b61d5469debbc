/- An address that came in by value, opened. -/
import Derived.Test.YteloaidnfcmadaaOpenMsg
namespace Go.Proofs.Yteloaidnfcmadaa
open Go.RowKit Go.ChangeShapes Go.WideShapes Go.ChangeAt Go.Deep
set_option linter.unusedVariables false

section
variable {H : Type} {enc : TypeId × Value → H} {W : World} {base : Nat} {sp : Nat → Bool} {held : Bool}
theorem Try.cellsU32 : Try.prog.cellsOf 30 = 1 := by kernel_rfl
theorem Try.cellsU16 : Try.prog.cellsOf 31 = 1 := by kernel_rfl
theorem Try.cellsAddr : Try.prog.cellsOf 33 = 2 := by kernel_rfl
set_option maxRecDepth 100000 in
theorem open_addr {fuel : Nat} {v : Value} {x : DataW H × List MemPlace} (hv : Value.okWide Try.prog W .any base 33 v) (h : DataW.trod enc Try.prog W 0 sp true fuel 33 v.cells.toList = some x) :
    ∃ ip po : Int, v = .agg #[.int .u32 ip, .int .u16 po] ∧ (Lit.int .u32 ip).wf = true ∧ (Lit.int .u16 po).wf = true := by
  obtain ⟨cs, rfl, hsz⟩ := okWide_struct Try.underlying33 hv
  rw [Try.cellsAddr] at hsz
  have h' : DataW.trod enc Try.prog W 0 sp true fuel 33 cs.toList = some x := h
  obtain ⟨ys, n, _, hx, _, hyl, hf⟩ := DataW.trod_struct Try.underlying33 h'
  have f0 : DataW.trod enc Try.prog W 0 sp true n 30 ((cs.toList.drop 0).take (Try.prog.cellsOf 30)) = ys[0]? := hf 0 _ rfl
  have f1 : DataW.trod enc Try.prog W 0 sp true n 31 ((cs.toList.drop 1).take (Try.prog.cellsOf 31)) = ys[1]? := hf 1 _ rfl
  have hy2 : ys.length = 2 := hyl
  rw [Try.cellsU32] at f0
  rw [Try.cellsU16] at f1
  clear hf hyl hv h h'
  obtain ⟨l⟩ := cs
  have hl : l.length = 2 := by simpa using hsz
  match l, hl with
  | [c0, c1], _ =>
    match ys, hy2 with
    | [y0, y1], _ =>
      simp only [List.drop_zero, List.take_succ_cons, List.take_zero, List.drop_succ_cons, List.getElem?_cons_zero, List.getElem?_cons_succ] at f0 f1
      obtain ⟨ip, e0, _, w0⟩ := DataW.trod_int Try.underlying30 f0
      obtain ⟨po, e1, _, w1⟩ := DataW.trod_int Try.underlying31 f1
      obtain rfl : c0 = .int .u32 ip := by simpa using e0
      obtain rfl : c1 = .int .u16 po := by simpa using e1
      exact ⟨ip, po, rfl, w0, w1⟩
end
end Go.Proofs.Yteloaidnfcmadaa
