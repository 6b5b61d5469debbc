/- An array of 16 bytes that came in by value, opened. -/
import Derived.Test.YtomnomopcpdpoaaAesArr
import Derived.ProofKit
import Derived.OpenShut
import Derived.ChangeOld
namespace Go.Proofs.Ytomnomopcpdpoaa
open Go.RowKit Go.ChangeShapes Go.WideShapes Go.ChangeAt
set_option linter.unusedVariables false

theorem Try.cells5 : Try.prog.cellsOf 5 = 1 := by kernel_rfl
theorem Try.cells22 : Try.prog.cellsOf 22 = 16 := by kernel_rfl

theorem byte_of_wf {x : Int} (h : (Lit.int .u8 x).wf = true) : nb (BitVec.ofNat 8 x.toNat) = x := by
  simp [Lit.wf, IntKind.min, IntKind.max, IntKind.signed, IntKind.bits] at h
  unfold nb
  rw [BitVec.toNat_ofNat]
  omega

theorem open_arr16 {H : Type} {enc : TypeId × Value → H} {W : World} {base : Nat} {sp : Nat → Bool} {v : Value} {x : DataW H × List MemPlace}
    (hv : Value.okWide Try.prog W .any base 22 v) {fuel : Nat} (hf : DataW.trod enc Try.prog W 0 sp true fuel 22 v.cells.toList = some x) : ∃ f : Nat → B, v = .agg (arr .u8 (fl 16 f)) := by
  obtain ⟨cs, rfl, hsz, _⟩ : ∃ cs, v = .agg cs ∧ cs.size = Try.prog.cellsOf 22 ∧ Row.okWide Try.prog W .any base 22 cs := by
    simpa [Value.okWide, Try.underlying22] using hv
  rw [Try.cells22] at hsz
  have hf' : DataW.trod enc Try.prog W 0 sp true fuel 22 cs.toList = some x := hf
  obtain ⟨xs, m, rfl, rfl, hl, hxs, hat⟩ := DataW.trod_array Try.underlying22 hf'
  have key : ∀ i, i < 16 → ∃ n : Int, cs[i]? = some (.int .u8 n) ∧ (Lit.int .u8 n).wf = true := by
    intro i hi
    have h1 := hat i hi
    rw [Try.cells5, Nat.mul_one] at h1
    have h2 : (cs.toList.drop i).take 1 = [cs[i]] := by
      rw [List.drop_eq_getElem_cons (by rw [Array.length_toList]; omega)]
      simp
    rw [h2, List.getElem?_eq_getElem (by omega)] at h1
    obtain ⟨n, e1, _, e3⟩ := DataW.trod_int Try.underlying5 h1
    refine ⟨n, ?_, e3⟩
    rw [Array.getElem?_eq_getElem (by omega)]
    simpa using e1
  refine ⟨fun i => BitVec.ofNat 8 ((cs.getD i undef).cells.toList.foldl (fun a c => match c with | .int _ n => n.toNat | _ => a) 0), ?_⟩
  congr 1
  apply Array.ext
  · rw [arr_size, fl_length]; exact hsz
  · intro i h1 h2
    rw [arr_size, fl_length] at h2
    obtain ⟨n, e1, e2⟩ := key i h2
    have e3 := arr_get (k := .u8) (ws := fl 16 (fun i => BitVec.ofNat 8 ((cs.getD i undef).cells.toList.foldl (fun a c => match c with | .int _ n => n.toNat | _ => a) 0))) (i := i) (by simpa using h2)
    rw [fl_get _ h2] at e3
    have e4 : cs.getD i undef = .int .u8 n := by rw [Array.getD_eq_getD_getElem?, e1]; rfl
    rw [e4] at e3
    have e5 : nb (BitVec.ofNat 8 ((Value.int .u8 n).cells.toList.foldl (fun a c => match c with | .int _ n => n.toNat | _ => a) 0)) = n := byte_of_wf e2
    rw [e5] at e3
    rw [Array.getElem?_eq_getElem (by rw [arr_size, fl_length]; exact h2)] at e3
    rw [Array.getElem?_eq_getElem h1] at e1
    exact (Option.some.inj e1).trans (Option.some.inj e3).symm
end Go.Proofs.Ytomnomopcpdpoaa
