/- A packet that is being copied (theirs): plain facts. -/
import Derived.Test.YtapbodiakkdfmaaRpO
import Derived.Test.YtapbodiakkdfmaaRpD
namespace Go.Proofs.Ytapbodiakkdfmaa
open Go.RowKit
set_option linter.unusedVariables false
set_option linter.unusedSimpArgs false

def zP : Array Value := pk false 0 0 0 0 (.slice none 0 0) (.slice none 0 0) (.slice none 0 0) 0

/-- What is known while a packet is copied: its box in block N, the result's variable, the copy in block g, the row of what is copied. -/
structure CpX (N g : Nat) (M : Array Value) (X : PkX) (C P : Value) (w wr : World) (v : Value) (ps : List (Int × Value)) (L : List At) : Prop where
  box : Whole wr N 28 M
  res : Whole wr (N + 1) 37 zP
  out : Whole wr g 37 (pk X.mr X.ty X.sq X.ti X.so C v P X.pad)
  row : RowX 48 wr (N + 2) v ps
  els : Els wr N ps L
  below : Below N w wr
  gt : N + 1 < g
section
variable {N g : Nat} {M : Array Value} {X : PkX} {C P : Value} {w wr w' : World} {v v' : Value} {ps ps' : List (Int × Value)} {L : List At} {A : Option Addr} {c : Nat}
theorem CpX.size (h : CpX N g M X C P w wr v ps L) : g + 1 ≤ wr.heap.size := h.out.lt
theorem CpX.drew (h : CpX N g M X C P w wr v ps L) : CpX N g M X C P w wr.drew v ps L := ⟨h.box, h.res, h.out, h.row, h.els.on (Below.refl _ _).drew (Kept8.refl _).drew, h.below.drew, h.gt⟩
theorem CpX.under (h : CpX N g M X C P w wr v ps L) (hb : Below wr.heap.size wr w') : CpX N g M X C P w w' v ps L :=
  ⟨h.box.under hb, h.res.under hb, h.out.under hb, h.row.under hb, h.els.on (hb.mono (by have := h.size; have := h.gt; omega)) (Kept8.under hb), h.below.trans (hb.mono (by have := h.size; have := h.gt; omega)), h.gt⟩
theorem CpX.alloc (h : CpX N g M X C P w wr v ps L) (o : Obj) : CpX N g M X C P w (wr.alloc o) v ps L := h.under ((Below.refl _ wr).alloc (Nat.le_refl _) o)
/-- The facts that the copying reads. -/
def SeenX (N : Nat) (A : Addr) (n c k : Nat) (a : At) (A' : Option Addr) (c' : Nat) (W : World) : Prop :=
  W.cell? ⟨N, 6, none⟩ = some (.slice (some A) n c) ∧ W.cell? (A.add (k * 2)) = some (.int .i64 a.ty) ∧ W.cell? ⟨(A.add (k * 2)).block, (A.add (k * 2)).off + 1, none⟩ = some (.slice A' a.val.length c')
theorem seenX_of {wr : World} {ad : Addr} {n : Nat} (hm : M = pk X.mr X.ty X.sq X.ti X.so (.slice X.A5 X.us.length X.c5) (.slice (some ad) n c) (.slice X.A7 X.ys.length X.c7) X.pad) (hg : Whole wr N 28 M) (hb : Below N w wr) {k : Nat} {a : At} {A' : Option Addr} {c' : Nat} (had : ad.block < N) (x0 : w.cell? (ad.add (k * 2)) = some (.int .i64 a.ty)) (x1 : w.cell? ⟨(ad.add (k * 2)).block, (ad.add (k * 2)).off + 1, none⟩ = some (.slice A' a.val.length c')) : SeenX N ad n c k a A' c' wr :=
  ⟨by rw [hm] at hg; exact hg.cell 6, (hb.cell (p := ad.add (k * 2)) (by rw [add_block]; exact had)).trans x0, (hb.cell (p := ⟨(ad.add (k * 2)).block, (ad.add (k * 2)).off + 1, none⟩) (by show (ad.add (k * 2)).block < N; rw [add_block]; exact had)).trans x1⟩
theorem CpX.outc (h : CpX N g M X C P w wr v ps L) : wr.cell? ⟨g, 6, none⟩ = some v := h.out.cell 6
/-- The row has grown, and is stored. -/
theorem CpX.grow (h : CpX N g M X C P w wr v ps L) {a : At} {u : Value} (hr : RowX 48 w' (N + 2) v' (ps ++ [(a.ty, u)])) (hg : wr.grownBy w' v.ownBlock) (hu : EV wr N u a.val) :
    CpX N g M X C P w (w'.setCell ⟨g, 6, none⟩ v') v' (ps ++ [(a.ty, u)]) (L ++ [a]) := by
  have hs := h.size
  have hgt := h.gt
  have hb : Below N wr w' := (Below.refl _ wr).grown hg (by omega) (fun k hk => by have := (h.row.lt hk).1; omega)
  have hk : Kept8 wr w' := h.row.kept (by decide) hg
  have b := h.box.grown hg (fun e => h.row.far h.box (by decide) e.symm)
  have r := h.res.grown hg (fun e => h.row.far h.res (by decide) e.symm)
  have o := h.out.grown hg (fun e => h.row.far h.out (by decide) e.symm)
  have hk2 : Kept8 w' (w'.setCell ⟨g, 6, none⟩ v') := Kept8.put o (by decide) 6 v'
  have hb2 : Below N w' (w'.setCell ⟨g, 6, none⟩ v') := (Below.refl _ w').setCell (p := ⟨g, 6, none⟩) (by show N ≤ g; omega) _
  refine ⟨b.far (p := ⟨g, 6, none⟩) (by show N ≠ g; omega) _, r.far (p := ⟨g, 6, none⟩) (by show N + 1 ≠ g; omega) _, o.set 6 v', ?_, ?_, (h.below.trans hb).trans hb2, h.gt⟩
  · exact hr.keep fun g2 cs hw => hw.far (p := ⟨g, 6, none⟩) (fun e => (hw.ne o (by decide)) e) _
  · exact ((h.els.on hb hk).on hb2 hk2).snoc ((hu.on hb hk).on hb2 hk2)

/-- What theirs comes to. -/
def TheirsO (X : PkX) (w : World) (e : Ending) (w' : World) : Prop :=
  ∃ C P A' c', e = .returned (.agg (pk X.mr X.ty X.sq X.ti X.so C (.slice A' X.xs.length c') P X.pad)) ∧ AtX w' w'.heap.size A' X.xs ∧ X.xs.length ≤ c' ∧ c' ≤ maxLen ∧ (A' = none → c' = 0) ∧ C.oneCell' = true ∧ P.oneCell' = true ∧ Below w.heap.size w w'
theorem CpX.copied (h : CpX N g M X C P w wr (.slice A ps.length c) ps X.xs) (hN : w.heap.size = N) (hC : C.oneCell' = true) (hP : P.oneCell' = true) (R : Array Value) :
    Whole (wr.setRow (N + 1) R) (N + 1) 37 R ∧ TheirsO X w (.returned (.agg (pk X.mr X.ty X.sq X.ti X.so C (.slice A ps.length c) P X.pad))) (wr.setRow (N + 1) R) := by
  refine ⟨h.res.row _, ?_⟩
  have hs := h.size
  have hgt := h.gt
  obtain ⟨A2, c2, e, f1, f2, f3⟩ := h.row.form
  cases e
  have hl := h.els.1
  have hb : Below N wr (wr.setRow (N + 1) R) := below_row (Below.refl _ wr) (by omega) _
  have hk : Kept8 wr (wr.setRow (N + 1) R) := Kept8.row h.res (by decide) _
  have hr : RowX 48 (wr.setRow (N + 1) R) (N + 2) (.slice A ps.length c) ps := h.row.keep fun g cs hw => hw.farRow (fun e => hw.ne h.res (by decide) e) _
  refine ⟨C, P, A, c, by rw [hl], hr.ats (h.els.on hb hk) (Nat.le_trans (by omega) hb.size), by omega, f2, f3, hC, hP, by rw [hN]; exact h.below.trans hb⟩
end

/-- An append of numbers onto an empty row of one's own. -/
theorem Try.infoU32 : (Try.prog.info? 24).map (fun i => (i.zero, i.size, i.bytes)) = some (some (.int .u32 0), 1, 4) := by kernel_rfl
theorem wp_append32 {o : Oper} {a : Act} {K : Act → World → Prop} {Q : Exit → Act → World → Prop} {w : World} (s y : Operand) (ho : o.op = .call { callee := .builtin .append, args := #[s, y], argTypes := #[25, 25] })
    {g : Nat} (hs : a.eval s = .slice (some ⟨g, 0, none⟩) 0 0) (hw : Whole w g 24 #[]) {B : Nat} {A : Option Addr} {us : List Int} {n c : Nat} (hy : a.eval y = .slice A n c) (hn : us.length = n) (hu : U32s w B A us) (hA : A = none → c = 0) (h63 : n ≤ 35184372087808)
    (h : ∀ A' n' c' w', w.grownBy w' (some g) → K (a.put o.dst (.slice A' n' c')) w') : o.wp Try.prog a w K Q := by
  obtain ⟨i0, hi0, hz0, hz1, hz2⟩ := info_parts Try.infoU32
  have hown : w.ownsRow 0 24 1 (.slice (some ⟨g, 0, none⟩) 0 0) 0 [] := ⟨rfl, .inr ⟨g, 0, #[], rfl, Nat.zero_le _, hw, Nat.le_refl _, Nat.zero_le _, rfl, rfl⟩⟩
  have main : ∃ A' n' c' w', (Builtin.append_ #[25, 25] o.type #[.slice (some ⟨g, 0, none⟩) 0 0, .slice A n c]).run Try.prog w = .ok (.slice A' n' c') w' ∧ w.grownBy w' (some g) := by
    rcases A with _ | ad
    · have hn0 : n = 0 := by
        rcases Nat.eq_zero_or_pos n with h0 | h0
        · exact h0
        · obtain ⟨_, h, _⟩ := hu (by omega)
          cases h
      subst hn0
      obtain rfl := hA rfl
      exact ⟨_, _, _, w, run_append_owned_none (P := Try.prog) (w := w) 0 25 o.type 24 i0 1 Try.underlying25 hi0 _ 0 [] hown, ⟨rfl, rfl, rfl, Nat.le_refl _, fun _ _ _ => rfl⟩⟩
    · obtain ⟨v', w', hrun, h2, h3, _, h5⟩ := run_append_own_at (P := Try.prog) w 0 25 o.type 24 i0 (.int .u32 0) 1 4 Try.underlying25 hi0 hz0 hz1 hz2 rfl (by decide) _ 0 [] hown ad n c (us.map (Value.int .u32)) (by simp [hn])
        (fun j u hj => by
          have hjl : j < us.length := by have := (List.getElem?_eq_some_iff.1 hj).1; simpa using this
          obtain ⟨ad', e, _, hc⟩ := hu (by omega)
          cases e
          rw [hc j hjl, ← hj]
          simp [List.getD, hjl]) (fun u hu => by obtain ⟨x, _, rfl⟩ := List.mem_map.1 hu; rfl) (by unfold maxLen; omega) (by omega) (Nat.zero_le _)
      rcases h2.2 with ⟨e, _⟩ | ⟨g', cap, cur, e, _⟩
      · subst e; exact ⟨_, _, _, w', hrun, h3⟩
      · subst e; exact ⟨_, _, _, w', hrun, h3⟩
  obtain ⟨A', n', c', w', hrun, hgr⟩ := main
  unfold Oper.wp execOp
  simp only [ho, resolve, invoke, builtin, Sem.run_bind, Sem.run_pure, Result.andThen_ok, List.map_toArray, List.map_cons, List.map_nil, hs, hy, hrun]
  exact h A' n' c' w' hgr
end Go.Proofs.Ytapbodiakkdfmaa
