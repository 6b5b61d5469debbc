/- A message that is being copied: plain facts. -/
import Derived.Test.YtapbodiakkdfmaaStRow
namespace Go.Proofs.Ytapbodiakkdfmaa
open Go.RowKit
set_option linter.unusedVariables false
set_option linter.unusedSimpArgs false
def zM : Array Value := mv 0 0 [0, 0, 0, 0, 0, 0, 0, 0, 0, 0, 0, 0] (.slice none 0 0)
theorem wpList_build3 {ops : Array Oper} {rest : List Oper} {o : Oper} {a : Act} {w : World} {Q : Exit → Act → World → Prop} (hgd : o.guard = none) (t : TypeId) (x y z : Operand) (ho : o.op = .build t #[(0, x), (1, y), (2, z)]) {u1 u2 u3 v : Value} (hx : a.eval x = u1) (hy : a.eval y = u2) (hz : a.eval z = u3)
    (hr : (Instr.build t #[(0, u1), (1, u2), (2, u3)]).run Try.prog w = .ok v w) (h : wpList Try.prog ops Q rest (a.put o.dst v) w) : wpList Try.prog ops Q (o :: rest) a w := by
  refine wpList_plain hgd fun K hK => ?_
  unfold Oper.wp execOp
  simp only [ho, Sem.run_bind, List.map_toArray, List.map_cons, List.map_nil, hx, hy, hz, hr, Result.andThen_ok, Sem.run_pure]
  exact hK _ _ h

/-- A struct's variable is handed back. -/
theorem ret_struct {fn : Func} {p : Tmp} {ty t : TypeId} {cs : Array Value} {n g : Nat} {tmps : Array Value} {w : World} (h : fn.results = #[.cell p ty]) (hp : tmps.getD p undef = .pointer (some ⟨g, 0, none⟩)) (hg : Whole w g t cs)
    {d : TypeDesc} (hu : Try.prog.underlying ty = some d) (hd : d.isRow = true) (hi : (Try.prog.info? ty).map (·.size) = some n) (hn : cs.size = n) : (results fn tmps).run Try.prog w = .ok (.agg cs) w :=
  results_cell_row h tmps w g t cs (0, 0) d hp hg hu (by cases d <;> simp_all [TypeDesc.isRow]) (by rw [hi, hn])
/-- .. and a value with it. -/
theorem ret_struct2 {fn : Func} {p s : Tmp} {ty t : TypeId} {cs : Array Value} {n g : Nat} {tmps : Array Value} {w : World} (h : fn.results = #[.cell p ty, .tmp s]) (hp : tmps.getD p undef = .pointer (some ⟨g, 0, none⟩)) (hg : Whole w g t cs)
    {d : TypeDesc} (hu : Try.prog.underlying ty = some d) (hd : d.isRow = true) (hi : (Try.prog.info? ty).map (·.size) = some n) (hn : cs.size = n) : (results fn tmps).run Try.prog w = .ok (.tuple #[.agg cs, tmps.getD s undef]) w := by
  have hp' : tmps[p]?.getD undef = .pointer (some ⟨g, 0, none⟩) := by simpa using hp
  have hl : (loadVar ty ⟨g, 0, none⟩).run Try.prog w = .ok (.agg cs) w := run_loadVar_row (P := Try.prog) w g t ty cs (0, 0) d hg hu (by cases d <;> simp_all [TypeDesc.isRow]) (by rw [hi, hn])
  simp [results, h, hp', asAddr, hl]

/-- What is known while a message is copied: its box in block N, the result's variable, the copy, the row of what is copied. -/
structure Cp (te tm t0 : TypeId) (N : Nat) (M : Array Value) (m : Msg) (w wr : World) (v : Value) (ps : List (Int × Value)) (L : List At) : Prop where
  box : Whole wr N t0 M
  res : Whole wr (N + 1) tm zM
  out : Whole wr (N + 2) tm (mv m.cl m.me m.id v)
  row : Row2 te wr (N + 3) v ps
  els : Els wr N ps L
  below : Below N w wr
section
variable {te tm t0 : TypeId} {N : Nat} {M : Array Value} {m : Msg} {w wr w' : World} {v v' : Value} {ps ps' : List (Int × Value)} {L : List At} {A : Option Addr} {c : Nat}
theorem Cp.size (h : Cp te tm t0 N M m w wr v ps L) : N + 3 ≤ wr.heap.size := h.out.lt
theorem Cp.drew (h : Cp te tm t0 N M m w wr v ps L) : Cp te tm t0 N M m w wr.drew v ps L := ⟨h.box, h.res, h.out, h.row, h.els.on (Below.refl _ _).drew (Kept8.refl _).drew, h.below.drew⟩
theorem Cp.under (h : Cp te tm t0 N M m w wr v ps L) (hb : Below wr.heap.size wr w') : Cp te tm t0 N M m w w' v ps L :=
  ⟨h.box.under hb, h.res.under hb, h.out.under hb, h.row.under hb, h.els.on (hb.mono (by have := h.size; omega)) (Kept8.under hb), h.below.trans (hb.mono (by have := h.size; omega))⟩
theorem Cp.alloc (h : Cp te tm t0 N M m w wr v ps L) (o : Obj) : Cp te tm t0 N M m w (wr.alloc o) v ps L := h.under ((Below.refl _ wr).alloc (Nat.le_refl _) o)
end
end Go.Proofs.Ytapbodiakkdfmaa
