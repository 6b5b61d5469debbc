/- A message that is being copied: plain facts. -/
import Derived.Test.YteloaidnfcmadaaStRow
namespace Go.Proofs.Yteloaidnfcmadaa
open Go.RowKit
set_option linter.unusedVariables false
set_option linter.unusedSimpArgs false
def zM : Array Value := mv 0 0 [0, 0, 0, 0, 0, 0, 0, 0, 0, 0, 0, 0] (.slice none 0 0)
theorem Try.zeroMsg (w : World) : (zeroValue 69).run Try.prog w = .ok (.agg zM) w := by kernel_rfl
theorem Try.zeroRMsg (w : World) : (zeroValue 40).run Try.prog w = .ok (.agg zM) w := by kernel_rfl
theorem zM_size : zM.size = 15 := rfl
theorem build_msg {T : TypeId} (hb : ∀ a0 a1 a2 a3 a4 a5 a6 a7 a8 a9 a10 a11 cl me : Int, Try.prog.built T [(0, .int .i64 cl), (1, .int .i64 me), (2, .agg (arr .u8 [a0, a1, a2, a3, a4, a5, a6, a7, a8, a9, a10, a11]))] = some (mv cl me [a0, a1, a2, a3, a4, a5, a6, a7, a8, a9, a10, a11] (.slice none 0 0))) (cl me : Int) (id : List Int) (h : id.length = 12) (w : World) :
    (Instr.build T #[(0, .int .i64 cl), (1, .int .i64 me), (2, .agg (id.map (Value.int .u8)).toArray)]).run Try.prog w = .ok (.agg (mv cl me id (.slice none 0 0))) w := by
  match id, h with
  | [a0, a1, a2, a3, a4, a5, a6, a7, a8, a9, a10, a11], _ => exact run_build w T _ _ (hb _ _ _ _ _ _ _ _ _ _ _ _ _ _)
theorem built_msg : ∀ a0 a1 a2 a3 a4 a5 a6 a7 a8 a9 a10 a11 cl me : Int, Try.prog.built 69 [(0, .int .i64 cl), (1, .int .i64 me), (2, .agg (arr .u8 [a0, a1, a2, a3, a4, a5, a6, a7, a8, a9, a10, a11]))] = some (mv cl me [a0, a1, a2, a3, a4, a5, a6, a7, a8, a9, a10, a11] (.slice none 0 0)) := by intros; kernel_rfl
theorem built_rmsg : ∀ a0 a1 a2 a3 a4 a5 a6 a7 a8 a9 a10 a11 cl me : Int, Try.prog.built 40 [(0, .int .i64 cl), (1, .int .i64 me), (2, .agg (arr .u8 [a0, a1, a2, a3, a4, a5, a6, a7, a8, a9, a10, a11]))] = some (mv cl me [a0, a1, a2, a3, a4, a5, a6, a7, a8, a9, a10, a11] (.slice none 0 0)) := by intros; kernel_rfl

theorem wpList_build3 {ops : Array Oper} {rest : List Oper} {o : Oper} {a : Act} {w : World} {Q : Exit → Act → World → Prop} (hgd : o.guard = none) (t : TypeId) (x y z : Operand) (ho : o.op = .build t #[(0, x), (1, y), (2, z)]) {u1 u2 u3 v : Value} (hx : a.eval x = u1) (hy : a.eval y = u2) (hz : a.eval z = u3)
    (hr : (Instr.build t #[(0, u1), (1, u2), (2, u3)]).run Try.prog w = .ok v w) (h : wpList Try.prog ops Q rest (a.put o.dst v) w) : wpList Try.prog ops Q (o :: rest) a w := by
  refine wpList_plain hgd fun K hK => ?_
  unfold Oper.wp execOp
  simp only [ho, Sem.run_bind, List.map_toArray, List.map_cons, List.map_nil, hx, hy, hz, hr, Result.andThen_ok, Sem.run_pure]
  exact hK _ _ h

/-- A struct's variable is handed back. -/
theorem ret_struct {fn : Func} {p : Tmp} {ty t : TypeId} {cs : Array Value} {n g : Nat} {tmps : Array Value} {w : World} (h : fn.results = #[.cell p ty]) (hp : tmps.getD p undef = .pointer (some ⟨g, 0, none⟩)) (hg : Whole w g t cs)
    {d : TypeDesc} (hu : Try.prog.underlying ty = some d) (hd : d.isRow = true) (hi : (Try.prog.info? ty).map (·.size) = some n) (hn : cs.size = n) : (results fn tmps).run Try.prog w = .ok (.agg cs) w :=
  results_cell_row h tmps w g t cs (0, 0) d hp hg hu (by cases d <;> simp_all [TypeDesc.isRow]) (by rw [hi, hn])
/-- .. and a value with it. -/
theorem ret_struct2 {fn : Func} {p s : Tmp} {ty t : TypeId} {cs : Array Value} {n g : Nat} {tmps : Array Value} {w : World} (h : fn.results = #[.cell p ty, .tmp s]) (hp : tmps.getD p undef = .pointer (some ⟨g, 0, none⟩)) (hg : Whole w g t cs)
    {d : TypeDesc} (hu : Try.prog.underlying ty = some d) (hd : d.isRow = true) (hi : (Try.prog.info? ty).map (·.size) = some n) (hn : cs.size = n) : (results fn tmps).run Try.prog w = .ok (.tuple #[.agg cs, tmps.getD s undef]) w := by
  have hp' : tmps[p]?.getD undef = .pointer (some ⟨g, 0, none⟩) := by simpa using hp
  have hl : (loadVar ty ⟨g, 0, none⟩).run Try.prog w = .ok (.agg cs) w := run_loadVar_row (P := Try.prog) w g t ty cs (0, 0) d hg hu (by cases d <;> simp_all [TypeDesc.isRow]) (by rw [hi, hn])
  simp [results, h, hp', asAddr, hl]

/-- What is known while a message is copied: its box in block N, the result's variable, the copy, the row of what is copied. -/
structure Cp (te tm t0 : TypeId) (N : Nat) (M : Array Value) (m : Msg) (w wr : World) (v : Value) (ps : List (Int × Value)) (L : List At) : Prop where
  box : Whole wr N t0 M
  res : Whole wr (N + 1) tm zM
  out : Whole wr (N + 2) tm (mv m.cl m.me m.id v)
  row : Row2 te wr (N + 3) v ps
  els : Els wr N ps L
  below : Below N w wr
section
variable {te tm t0 : TypeId} {N : Nat} {M : Array Value} {m : Msg} {w wr w' : World} {v v' : Value} {ps ps' : List (Int × Value)} {L : List At} {A : Option Addr} {c : Nat}
theorem Cp.size (h : Cp te tm t0 N M m w wr v ps L) : N + 3 ≤ wr.heap.size := h.out.lt
theorem Cp.drew (h : Cp te tm t0 N M m w wr v ps L) : Cp te tm t0 N M m w wr.drew v ps L := ⟨h.box, h.res, h.out, h.row, h.els.on (Below.refl _ _).drew (Kept8.refl _).drew, h.below.drew⟩
theorem Cp.under (h : Cp te tm t0 N M m w wr v ps L) (hb : Below wr.heap.size wr w') : Cp te tm t0 N M m w w' v ps L :=
  ⟨h.box.under hb, h.res.under hb, h.out.under hb, h.row.under hb, h.els.on (hb.mono (by have := h.size; omega)) (Kept8.under hb), h.below.trans (hb.mono (by have := h.size; omega))⟩
theorem Cp.alloc (h : Cp te tm t0 N M m w wr v ps L) (o : Obj) : Cp te tm t0 N M m w (wr.alloc o) v ps L := h.under ((Below.refl _ wr).alloc (Nat.le_refl _) o)
/-- The facts that the copying reads. -/
def Seen (N : Nat) (A : Addr) (n c k : Nat) (a : At) (A' : Option Addr) (c' : Nat) (W : World) : Prop :=
  W.cell? ⟨N, 14, none⟩ = some (.slice (some A) n c) ∧ W.cell? (A.add (k * 2)) = some (.int .u16 a.ty) ∧ W.cell? ⟨(A.add (k * 2)).block, (A.add (k * 2)).off + 1, none⟩ = some (.slice A' a.val.length c')
theorem seen_of {t : TypeId} {wr : World} {ad : Addr} {n : Nat} (hm : MsgV w N M m (some ad) c) (hg : Whole wr N t M) (hb : Below N w wr) (hn : m.at_.length = n) {k : Nat} {a : At} {A' : Option Addr} {c' : Nat} (had : ad.block < N) (x0 : w.cell? (ad.add (k * 2)) = some (.int .u16 a.ty)) (x1 : w.cell? ⟨(ad.add (k * 2)).block, (ad.add (k * 2)).off + 1, none⟩ = some (.slice A' a.val.length c')) : Seen N ad n c k a A' c' wr :=
  ⟨by rw [hm.sl hg, hn], (hb.cell (p := ad.add (k * 2)) (by rw [add_block]; exact had)).trans x0, (hb.cell (p := ⟨(ad.add (k * 2)).block, (ad.add (k * 2)).off + 1, none⟩) (by show (ad.add (k * 2)).block < N; rw [add_block]; exact had)).trans x1⟩
theorem Cp.outc (h : Cp te tm t0 N M m w wr v ps L) (h12 : m.id.length = 12) : wr.cell? ⟨N + 2, 14, none⟩ = some v := by rw [h.out.cell]; exact mv_14 _ _ _ _ h12
/-- The row has grown, and is stored. -/
theorem Cp.grow (h : Cp te tm t0 N M m w wr v ps L) (h12 : m.id.length = 12) (d1 : te ≠ t0) (d2 : te ≠ tm) (d3 : te ≠ 5) (d4 : tm ≠ 5) {a : At} {u : Value} (hr : Row2 te w' (N + 3) v' (ps ++ [(a.ty, u)])) (hg : wr.grownBy w' v.ownBlock) (hu : EV wr N u a.val) :
    Cp te tm t0 N M m w (w'.setCell ⟨N + 2, 14, none⟩ v') v' (ps ++ [(a.ty, u)]) (L ++ [a]) := by
  have hb : Below N wr w' := (Below.refl _ wr).grown hg (by have := h.size; omega) (fun k hk => by have := (h.row.lt hk).1; omega)
  have hk : Kept8 wr w' := h.row.kept d3 hg
  have b := h.box.grown hg (fun e => h.row.far h.box d1 e.symm)
  have r := h.res.grown hg (fun e => h.row.far h.res d2 e.symm)
  have o := h.out.grown hg (fun e => h.row.far h.out d2 e.symm)
  have hk2 : Kept8 w' (w'.setCell ⟨N + 2, 14, none⟩ v') := Kept8.put o d4 14 v'
  have hb2 : Below N w' (w'.setCell ⟨N + 2, 14, none⟩ v') := (Below.refl _ w').setCell (p := ⟨N + 2, 14, none⟩) (by show N ≤ N + 2; omega) _
  refine ⟨b.far (p := ⟨N + 2, 14, none⟩) (by show N ≠ N + 2; omega) _, r.far (p := ⟨N + 2, 14, none⟩) (by show N + 1 ≠ N + 2; omega) _, ?_, ?_, ?_, (h.below.trans hb).trans hb2⟩
  · have := o.set 14 v'
    rwa [mv_set _ _ _ _ _ h12] at this
  · exact hr.keep fun g cs hw => hw.far (p := ⟨N + 2, 14, none⟩) (fun e => (hw.ne o d2) e) _
  · exact ((h.els.on hb hk).on hb2 hk2).snoc ((hu.on hb hk).on hb2 hk2)
/-- What a copy is. -/
structure Copied (w w' : World) (m : Msg) (M' : Array Value) (A' : Option Addr) (c' : Nat) : Prop where
  msg : MsgV w' w'.heap.size M' m A' c'
  below : Below w.heap.size w w'
theorem Cp.copied (h : Cp te tm t0 N M m w wr (.slice A ps.length c) ps m.at_) (h12 : m.id.length = 12) (hN : w.heap.size = N) :
    Whole (wr.setRow (N + 1) (mv m.cl m.me m.id (.slice A ps.length c))) (N + 1) tm (mv m.cl m.me m.id (.slice A ps.length c)) ∧ (tm ≠ 5 → te ≠ tm → Copied w (wr.setRow (N + 1) (mv m.cl m.me m.id (.slice A ps.length c))) m (mv m.cl m.me m.id (.slice A ps.length c)) A c) := by
  refine ⟨h.res.row _, fun d1 d2 => ?_⟩
  have hs := h.size
  obtain ⟨A2, c2, e, f1, f2, f3⟩ := h.row.form
  cases e
  have hl := h.els.1
  have hb : Below N wr (wr.setRow (N + 1) (mv m.cl m.me m.id (.slice A ps.length c))) := below_row (Below.refl _ wr) (by omega) _
  have hk : Kept8 wr (wr.setRow (N + 1) (mv m.cl m.me m.id (.slice A ps.length c))) := Kept8.row h.res d1 _
  have hr : Row2 te (wr.setRow (N + 1) (mv m.cl m.me m.id (.slice A ps.length c))) (N + 3) (.slice A ps.length c) ps := h.row.keep fun g cs hw => hw.farRow (fun e => hw.ne h.res d2 e) _
  refine ⟨⟨by rw [hl], h12, by omega, f2, f3, hr.ats (h.els.on hb hk) (Nat.le_trans (by omega) hb.size)⟩, by rw [hN]; exact h.below.trans hb⟩
end
end Go.Proofs.Yteloaidnfcmadaa
