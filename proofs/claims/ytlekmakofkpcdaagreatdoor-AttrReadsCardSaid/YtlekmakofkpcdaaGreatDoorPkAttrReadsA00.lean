import Derived.OrdersHeld
import Derived.WalkKit
import Derived.Lib.Hide
import Derived.Test.YtlekmakofkpcdaaGreatDoorProg
import Derived.Deep.RegionHeld3
import Derived.Deep.MidRow
import Derived.ProofKit
import Derived.WalkSpells
import Derived.Below
import Derived.Deep.Draws
import Derived.Laws.Rows
import Derived.ArgAppend
import Derived.Laws.IdiomCopy
import Derived.Maps.AppendAt
import Derived.Deep.RegionLaw
import Derived.OwnWalk
import Derived.Outline
import Derived.Handy
import Derived.LoopTactic
import Derived.RegionTactic
import Derived.ChangeAlike
import Derived.BigRegion
import Derived.Deep.QuietTactic
import Derived.BigQuiet
import Derived.Deep.DeepMust
import Derived.Deep.CutRange
import Derived.Deep.DeepCutAuto
import Derived.Deep.LoopGhost
import Derived.StillTailTactics
import Derived.Laws.AppendOwnNone
import Derived.Lib.AppendZeros
import Derived.Laws.CopyOwn
import Derived.Laws.BytesArg
import Derived.Shelf.Abstract
import Derived.Laws.StructEq
import Derived.Lib.IndexMore
import Derived.Lib.Join
namespace Go.Proofs.YtlekmakofkpcdaaGreatDoor
open Go Go.RowKit
set_option linter.unusedVariables false
section
variable {P : Program} {ops : Array Oper} {Q : Exit → Act → World → Prop} {md : Region.Mode} {T : Array Bool → World → Prop}
def wpLate (P : Program) (md : Region.Mode) (ops : Array Oper) (Q : Exit → Act → World → Prop) (T : Array Bool → World → Prop) : Nat → Array Bool → Act → World → Prop
 | 0, L, a, w => Region.ready md ops L = [] ∧ Q .normal a w
 | n + 1, L, a, w => (Region.ready md ops L = [] → Q .normal a w) ∧
   ∀ i ∈ Region.ready md ops L, wpOp P ops Q i (fun a' w' => T (L.setIfInBounds i true) w' ∧ wpLate P md ops Q T n (L.setIfInBounds i true) a' w') a w
theorem wpLate.any : ∀ (n : Nat) (L : Array Bool) (a : Act) (w : World), wpLate P md ops Q T n L a w → wpAny P md ops Q n L a w
 | 0, _, _, _, h => h
 | n + 1, _, _, _, h => ⟨h.1, fun i hi => wpOp_mono (fun _ _ k => wpLate.any n _ _ _ k.2) (h.2 i hi)⟩
def Ahead (T : Array Bool → World → Prop) (q : Nat) (w : World) : Prop := ∃ L : Array Bool, L.getD q true = false ∧ T L w
def waits (md : Region.Mode) (ops : Array Oper) (q i : Nat) : Bool := (ops[q]?.map fun o => o.after.toList.any fun e => Region.binds md e && e.on == i) == some true
theorem waits_spec {q i : Nat} (h : waits md ops q i = true) : ∃ o, ops[q]? = some o ∧ ∃ e ∈ o.after, Region.binds md e = true ∧ e.on = i := by
 unfold waits at h
 cases ho : ops[q]? with
 | none => rw [ho] at h; simp at h
 | some o =>
   rw [ho] at h
   have h' : (o.after.toList.any fun e => Region.binds md e && e.on == i) = true := by simpa using h
   obtain ⟨e, he, h1⟩ := List.any_eq_true.1 h'
   rw [Bool.and_eq_true, beq_iff_eq] at h1
   exact ⟨o, rfl, e, by simpa using he, h1.1, h1.2⟩
theorem wpLate.first {i q : Nat} {oi : Oper} {v : Value} (hi : ops[i]? = some oi) (hs : ∀ (j : Nat) (o : Oper) cs b, ops[j]? = some o → o.op ≠ .select cs b)
 (hQ : ∀ c a w, Q (.panic c) (a.put oi.dst v) w → Q (.panic c) a w) (hw : waits md ops q i = true) (hT : ∀ L w, T (L.setIfInBounds i true) w ↔ T L w) :
 ∀ (n : Nat) (L : Array Bool) (a : Act) (w : World),
   (∀ j oj, ops[j]? = some oj → j ≠ i → L.getD j true = false → (∀ e ∈ oj.after, Region.binds md e = true → e.on ≠ i) → oi.apart ops oj = true) →
   i ∈ Region.ready md ops L → L.getD q true = false → YieldsIf P ops (Ahead T q) oi v a → T L w →
   wpLate P md ops Q T n (L.setIfInBounds i true) (a.put oi.dst v) w → wpLate P md ops Q T (n + 1) L a w := by
 obtain ⟨oq, hoq, eq, heq, hb, hon⟩ := waits_spec hw
 intro n
 induction n with
 | zero =>
   intro L a w _ hr hq hy hTw H
   refine ⟨fun h => (by rw [h] at hr; cases hr), fun j hj => ?_⟩
   by_cases hji : j = i
   · subst hji; exact hy.wpOp hi ⟨L, hq, hTw⟩ ⟨(hT L w).2 hTw, H⟩
   · have := ready_mono hj hji
     rw [H.1] at this
     cases this
 | succ n ih =>
   intro L a w hfree hr hq hy hTw H
   refine ⟨fun h => (by rw [h] at hr; cases hr), fun j hj => ?_⟩
   by_cases hji : j = i
   · subst hji; exact hy.wpOp hi ⟨L, hq, hTw⟩ ⟨(hT L w).2 hTw, H⟩
   · have h1 := H.2 j (ready_mono hj hji)
     obtain ⟨hjun, oj, hoj, hall⟩ := mem_ready.1 hj
     have hnot : ∀ e ∈ oj.after, Region.binds md e = true → e.on ≠ i := fun e he hb2 he2 => by
      have g1 := hall e he hb2
      have g0 := (mem_ready.1 hr).1
      rw [he2] at g1
      rcases Nat.lt_or_ge i L.size with h' | h'
      · simp [h'] at g0 g1; rw [g0] at g1; cases g1
      · simp [Array.getElem?_eq_none h'] at g1
     have hjq : j ≠ q := by
      rintro rfl
      rw [hoq] at hoj
      cases hoj
      exact hnot eq heq hb hon
     have h2 := wpOp_putIf hoj (hfree j oj hoj hji hjun hnot) (fun cs b => hs i oi cs b hi) (fun cs b => hs j oj cs b hoj) hQ hy h1
     refine wpOp_mono (fun a' w' h3 => ?_) h2
     rw [Array.setIfInBounds_comm _ _ (Ne.symm hji)] at h3
     have hT3 := (hT _ _).1 h3.2.1
     refine ⟨hT3, ih (L.setIfInBounds j true) a' w' (fun k ok hk hki hun hno => ?_) (ready_mono hr (Ne.symm hji)) (by rw [getD_set_ne true hjq]; exact hq) h3.1 hT3 h3.2.2⟩
     refine hfree k ok hk hki ?_ hno
     by_cases hjk : j = k
     · subst hjk; exact hjun
     · rw [getD_set_ne true hjk] at hun; exact hun
theorem wpLate.take {i q : Nat} {oi : Oper} {v : Value} {n : Nat} {L : Array Bool} {a : Act} {w : World} (hi : ops[i]? = some oi)
 (hs : Region.noSelect ops = true) (hf : Region.free md ops L i = true) (hr : (Region.ready md ops L).contains i = true) (hw : waits md ops q i = true) (hq : L.getD q true = false)
 (hQ : ∀ c a w, Q (.panic c) (a.put oi.dst v) w → Q (.panic c) a w) (hT : ∀ L w, T (L.setIfInBounds i true) w ↔ T L w) (hTw : T L w) (hy : YieldsIf P ops (Ahead T q) oi v a)
 (h : wpLate P md ops Q T n (L.setIfInBounds i true) (a.put oi.dst v) w) : wpLate P md ops Q T (n + 1) L a w :=
 wpLate.first hi (Region.noSelect_spec hs) hQ hw hT n L a w (Region.free_spec hi hf) (by simpa using hr) hq hy hTw h
def eachLate (P : Program) (md : Region.Mode) (ops : Array Oper) (Q : Exit → Act → World → Prop) (T : Array Bool → World → Prop) (n : Nat) (L : Array Bool) (a : Act) (w : World) (rs : List Nat) : Prop :=
 ∀ i ∈ rs, wpOp P ops Q i (fun a' w' => T (L.setIfInBounds i true) w' ∧ wpLate P md ops Q T n (L.setIfInBounds i true) a' w') a w
theorem eachLate.nil {n : Nat} {L : Array Bool} {a : Act} {w : World} : eachLate P md ops Q T n L a w [] := fun _ h => by cases h
theorem eachLate.cons {n : Nat} {L : Array Bool} {a : Act} {w : World} {i : Nat} {o : Oper} {rs : List Nat} (ho : ops[i]? = some o)
 (h : ∀ K' : Act → World → Prop, Hid (∀ a w, T (L.setIfInBounds i true) w → wpLate P md ops Q T n (L.setIfInBounds i true) a w → K' a w) → if Region.wanted o (yielded ops a.tmps) = true then Oper.wp P o a w K' Q else K' (a.put o.dst undef) w)
 (hs : eachLate P md ops Q T n L a w rs) : eachLate P md ops Q T n L a w (i :: rs) := fun j hj => by
 rcases List.mem_cons.1 hj with rfl | hj
 · exact wpOp_step ho (fun K' hK => h K' (Lib.hid fun a w h1 h2 => hK a w ⟨h1, h2⟩))
 · exact hs j hj
theorem wpLate.ready {rs : List Nat} {n : Nat} {L : Array Bool} {a : Act} {w : World} (hr : Region.ready md ops L = rs) (hne : rs ≠ []) (h : eachLate P md ops Q T n L a w rs) : wpLate P md ops Q T (n + 1) L a w :=
 ⟨fun h0 => absurd (hr ▸ h0) hne, hr ▸ h⟩
theorem wpLate.done {L : Array Bool} {a : Act} {w : World} (hr : Region.ready md ops L = []) (h : Q .normal a w) : ∀ n, wpLate P md ops Q T n L a w
 | 0 => ⟨hr, h⟩
 | _ + 1 => ⟨fun _ => h, by rw [hr]; simp⟩
theorem wp_region_late {id : Nat} {a : Act} {w : World} (T : Array Bool → World → Prop) (hm : P.follows .mixedOrders = true)
 (h : wpLate P .any ops Q T ops.size (Array.replicate ops.size false) a w.drew) : (Code.region id ops true).wp P Q a w :=
 wp_region_any hm (wpLate.any _ _ _ _ h)
def TillTwo (S0 S1 S2 : World → Prop) (q1 q2 : Nat) (L : Array Bool) (w : World) : Prop := S0 w ∧ (L.getD q1 true = false → S1 w) ∧ (L.getD q2 true = false → S2 w)
theorem TillTwo.set {S0 S1 S2 : World → Prop} {q1 q2 i : Nat} (h1 : i ≠ q1) (h2 : i ≠ q2) (L : Array Bool) (w : World) : TillTwo S0 S1 S2 q1 q2 (L.setIfInBounds i true) w ↔ TillTwo S0 S1 S2 q1 q2 L w := by
 unfold TillTwo
 rw [getD_set_ne true h1, getD_set_ne true h2]
theorem TillTwo.two {S0 S1 S2 : World → Prop} {q1 q2 : Nat} {w : World} (h : Ahead (TillTwo S0 S1 S2 q1 q2) q2 w) : S0 w ∧ S2 w := by
 obtain ⟨L, hL, h⟩ := h
 exact ⟨h.1, h.2.2 hL⟩
theorem TillTwo.mk {S0 S1 S2 : World → Prop} {q1 q2 : Nat} {L : Array Bool} {w : World} (h0 : S0 w) (h1 : L.getD q1 true = true ∨ S1 w) (h2 : L.getD q2 true = true ∨ S2 w) : TillTwo S0 S1 S2 q1 q2 L w :=
 ⟨h0, fun e => h1.elim (fun e2 => by rw [e] at e2; cases e2) id, fun e => h2.elim (fun e2 => by rw [e] at e2; cases e2) id⟩
end
end Go.Proofs.YtlekmakofkpcdaaGreatDoor
namespace Go.Proofs.YtlekmakofkpcdaaGreatDoor
open Go.RowKit
def Whole (w : World) (g : Nat) (t : TypeId) (cs : Array Value) : Prop := w.heap[g]? = some (Obj.cells cs t (0, 0))
section
variable {w w' : World} {g : Nat} {t : TypeId} {cs : Array Value}
theorem Whole.lt (h : Whole w g t cs) : g < w.heap.size := (Array.getElem?_eq_some_iff.1 h).1
theorem Whole.cell (h : Whole w g t cs) (i : Nat) : w.cell? ⟨g, i, none⟩ = cs[i]? := cell_of_row w g i cs t (0, 0) h
theorem Whole.frz (h : Whole w g t cs) (i : Nat) : w.frozen? ⟨g, i, none⟩ = false := by
 have h' : w.heap[g]? = some (Obj.cells cs t (0, 0)) := h
 simp [World.frozen?, h']
theorem Whole.new (w : World) (t : TypeId) (cs : Array Value) : Whole (w.alloc (.cells cs t)) w.heap.size t cs := by
 show (w.heap.push _)[w.heap.size]? = _
 simp
theorem Whole.drewN (h : Whole w g t cs) (n : Nat) : Whole (w.drewN n) g t cs := h
theorem Whole.drew (h : Whole w g t cs) : Whole w.drew g t cs := h
theorem Whole.alloc (h : Whole w g t cs) (o : Obj) : Whole (w.alloc o) g t cs := (Below.heap_alloc w o g h.lt).trans h
theorem Whole.set (h : Whole w g t cs) (i : Nat) (u : Value) : Whole (w.setCell ⟨g, i, none⟩ u) g t (cs.setIfInBounds i u) := by
 have h' : w.heap[g]? = some (Obj.cells cs t (0, 0)) := h
 show (w.setCell ⟨g, i, none⟩ u).heap[g]? = _
 simp [World.setCell, Array.getElem?_modify, h']
theorem Whole.far (h : Whole w g t cs) {p : Addr} (hp : g ≠ p.block) (u : Value) : Whole (w.setCell p u) g t cs := (Below.heap_setCell w p u g hp).trans h
theorem Whole.below {B : Nat} (h : Whole w g t cs) (hb : Below B w w') (hg : g < B) : Whole w' g t cs := (hb.block g hg).trans h
theorem Whole.under (h : Whole w g t cs) (hb : Below w.heap.size w w') : Whole w' g t cs := (hb.block g h.lt).trans h
theorem Whole.grown {row : Option Nat} (h : Whole w g t cs) (hb : w.grownBy w' row) (hg : some g ≠ row) : Whole w' g t cs := (hb.block g h.lt hg).trans h
theorem Whole.ne {g' : Nat} {t' : TypeId} {cs' : Array Value} (h : Whole w g t cs) (h' : Whole w g' t' cs') (hne : t ≠ t') : g ≠ g' := by
 intro e
 subst e
 have e1 : some (Obj.cells cs t (0, 0)) = some (Obj.cells cs' t' (0, 0)) := Eq.trans (Eq.symm h) h'
 injection e1 with e2
 injection e2 with _ e3
 exact hne e3
end
theorem take_get {cur : Array Value} {n : Nat} {xs : List Value} (h : cur.toList.take n = xs) {i : Nat} {u : Value} (hi : xs[i]? = some u) : cur[i]? = some u := by
 subst h
 rw [List.getElem?_take] at hi
 split at hi
 · simpa using hi
 · cases hi
theorem below_drewN' {B : Nat} {a w : World} (h : Below B a w) (n : Nat) : Below B a (w.drewN n) := ⟨h.os, h.tape, h.output, h.size, h.block⟩
end Go.Proofs.YtlekmakofkpcdaaGreatDoor
namespace Go.Proofs.YtlekmakofkpcdaaGreatDoor
open Go.RowKit
set_option linter.unusedVariables false
structure Only (S : Nat → Prop) (w w' : World) : Prop where
 os : w'.os = w.os
 tape : w'.tape = w.tape
 output : w'.output = w.output
 size : w.heap.size ≤ w'.heap.size
 block : ∀ k, k < w.heap.size → ¬ S k → w'.heap[k]? = w.heap[k]?
section
variable {S T : Nat → Prop} {a w w' : World}
theorem Only.refl (S : Nat → Prop) (w : World) : Only S w w := ⟨rfl, rfl, rfl, Nat.le_refl _, fun _ _ _ => rfl⟩
theorem Only.next (h : Only S a w) (k : Only T w w') (hs : ∀ j, T j → S j ∨ a.heap.size ≤ j) : Only S a w' :=
 ⟨k.os.trans h.os, k.tape.trans h.tape, k.output.trans h.output, Nat.le_trans h.size k.size, fun i hi hn =>
  (k.block i (Nat.lt_of_lt_of_le hi h.size) (fun ht => by
    rcases hs i ht with h1 | h1
    · exact hn h1
    · omega)).trans (h.block i hi hn)⟩
theorem Only.mono (h : Only S w w') (hs : ∀ j, S j → T j) : Only T w w' := ⟨h.os, h.tape, h.output, h.size, fun i hi hn => h.block i hi (fun e => hn (hs i e))⟩
theorem Only.drewN (h : Only S a w) (n : Nat) : Only S a (w.drewN n) := ⟨h.os, h.tape, h.output, h.size, h.block⟩
theorem Only.drew (h : Only S a w) : Only S a w.drew := ⟨h.os, h.tape, h.output, h.size, h.block⟩
theorem Only.alloc (h : Only S a w) (o : Obj) : Only S a (w.alloc o) :=
 ⟨h.os, h.tape, h.output, Nat.le_trans h.size (by simp), fun i hi hn => (Below.heap_alloc w o i (Nat.lt_of_lt_of_le hi h.size)).trans (h.block i hi hn)⟩
theorem Only.setCell (h : Only S a w) {p : Addr} (hp : S p.block ∨ a.heap.size ≤ p.block) (u : Value) : Only S a (w.setCell p u) :=
 ⟨h.os, h.tape, h.output, by simpa [World.setCell] using h.size, fun i hi hn => (Below.heap_setCell w p u i (by
  intro e
  subst e
  rcases hp with hp | hp
  · exact hn hp
  · omega)).trans (h.block i hi hn)⟩
theorem Only.grown {row : Option Nat} (h : Only S a w) (hg : w.grownBy w' row) (hr : ∀ k, row = some k → S k ∨ a.heap.size ≤ k) : Only S a w' :=
 h.next (T := fun k => row = some k) ⟨hg.os, hg.tape, hg.output, hg.size, fun i hi hn => hg.block i hi (fun e => hn e.symm)⟩ (fun j e => hr j e)
theorem Only.under (h : Only S a w) (hb : Below w.heap.size w w') : Only S a w' :=
 h.next (T := fun _ => False) ⟨hb.os, hb.tape, hb.output, hb.size, fun i hi _ => hb.block i hi⟩ (fun _ e => e.elim)
theorem Only.below {B : Nat} (h : Only S w w') (hs : ∀ k, S k → B ≤ k) (hB : B ≤ w.heap.size) : Below B w w' :=
 ⟨h.os, h.tape, h.output, h.size, fun k hk => h.block k (by omega) (fun e => by have := hs k e; omega)⟩
theorem Only.same (h : Only S w w') {o : Obj} {k : Nat} (hk : w.heap[k]? = some o) (hn : ¬ S k) : w'.heap[k]? = some o := (h.block k (Array.getElem?_eq_some_iff.1 hk).1 hn).trans hk
theorem Whole.only {g : Nat} {t : TypeId} {cs : Array Value} (h : Whole w g t cs) (k : Only S w w') (hn : ¬ S g) : Whole w' g t cs := k.same h hn
end
section
variable {w w' : World} {g : Nat} {t : TypeId}
theorem Whole.row {old : Array Value} (h : Whole w g t old) (cs : Array Value) : Whole (w.setRow g cs) g t cs := setRow_heap w g old cs t (0, 0) h
theorem Whole.farRow {cs : Array Value} (h : Whole w g t cs) {g' : Nat} (hne : g ≠ g') (cs' : Array Value) : Whole (w.setRow g' cs') g t cs := (setRow_other w g' g cs' hne).trans h
theorem below_row {B : Nat} {a w : World} (h : Below B a w) {g : Nat} (hg : B ≤ g) (cs : Array Value) : Below B a (w.setRow g cs) := below_setRow h hg cs
theorem Whole.new2 (w : World) (o : Obj) (t : TypeId) (cs : Array Value) : Whole ((w.alloc o).alloc (.cells cs t)) (w.heap.size + 1) t cs := by
 have := Whole.new (w.alloc o) t cs
 rw [World.size_alloc] at this
 exact this
end
theorem two_new {w : World} (t t' : TypeId) (cs cs' : Array Value) : Below w.heap.size w ((w.alloc (.cells cs t)).alloc (.cells cs' t')) := ((Below.refl _ w).alloc (Nat.le_refl _) _).alloc (by simp) _
section
variable {ops : Array Oper} {rest : List Oper} {o : Oper} {a : Act} {w : World} {Q : Exit → Act → World → Prop} {g : Nat} {t ty : TypeId} {cs : Array Value} {n : Nat}
theorem wpList_store_whole {old : Array Value} (hgd : o.guard = none) (ty : TypeId) (x y : Operand) (ho : o.op = .store ty x y) (hx : a.eval x = .pointer (some ⟨g, 0, none⟩)) (hy : a.eval y = .agg cs) (hg : Whole w g t old)
 (hi : (Tryz.prog.info? ty).map (·.size) = some n) (hn : cs.size = n) (hold : old.size = n) (h1 : cs.all (·.oneCell') = true)
 (h : wpList Tryz.prog ops Q rest (a.put o.dst undef) (w.setRow g cs)) : wpList Tryz.prog ops Q (o :: rest) a w :=
 wpList_store_row hgd ty x y ho g cs hx hy t old hg (by rw [hi, hn]) (by rw [hn, hold]) h1 h
end
theorem wp_store_whole {o : Oper} {a : Act} {w : World} {K : Act → World → Prop} {Q : Exit → Act → World → Prop} {g n : Nat} {t : TypeId} {cs old : Array Value} (ty : TypeId) (x y : Operand) (ho : o.op = .store ty x y) (hx : a.eval x = .pointer (some ⟨g, 0, none⟩)) (hy : a.eval y = .agg cs) (hg : Whole w g t old)
 (hi : (Tryz.prog.info? ty).map (·.size) = some n) (hn : cs.size = n) (hold : old.size = n) (h1 : cs.all (·.oneCell') = true)
 (h : K (a.put o.dst undef) (w.setRow g cs)) : o.wp Tryz.prog a w K Q :=
 wp_store_row ty x y ho g cs hx hy t old hg (by rw [hi, hn]) (by rw [hn, hold]) h1 h
theorem step_store_whole {ops : Array Oper} {o : Oper} {a : Act} {w : World} {K : Act → World → Prop} {Q : Exit → Act → World → Prop} {E : Prop} {g n : Nat} {t : TypeId} {cs old : Array Value} (hgd : o.guard = none) (ty : TypeId) (x y : Operand) (ho : o.op = .store ty x y) (hx : a.eval x = .pointer (some ⟨g, 0, none⟩)) (hy : a.eval y = .agg cs) (hg : Whole w g t old)
 (hi : (Tryz.prog.info? ty).map (·.size) = some n) (hn : cs.size = n) (hold : old.size = n) (h1 : cs.all (·.oneCell') = true)
 (h : K (a.put o.dst undef) (w.setRow g cs)) : if Region.wanted o (yielded ops a.tmps) = true then Oper.wp Tryz.prog o a w K Q else E := by
 have hw : Region.wanted o (yielded ops a.tmps) = true := by simp [Region.wanted, hgd]
 rw [if_pos hw]
 exact wp_store_whole ty x y ho hx hy hg hi hn hold h1 h
theorem all_list {cs : Array Value} (h : cs.toList.all (·.oneCell') = true) : cs.all (·.oneCell') = true := by rw [← Array.all_toList]; exact h
theorem wpList_storeS {ops : Array Oper} {rest : List Oper} {o : Oper} {a : Act} {w : World} {Q : Exit → Act → World → Prop} {g : Nat} {t : TypeId} {old : Array Value} (cs : Array Value) (hgd : o.guard = none) (ty : TypeId) (x y : Operand) (ho : o.op = .store ty x y) (hx : a.eval x = .pointer (some ⟨g, 0, none⟩)) (hy : a.eval y = .agg cs) (hg : Whole w g t old)
 {n : Nat} (hi : (Tryz.prog.info? ty).map (·.size) = some n) (hn : cs.size = n) (hold : old.size = n) (h1 : cs.toList.all (·.oneCell') = true)
 (h : wpList Tryz.prog ops Q rest (a.put o.dst undef) (w.setRow g cs)) : wpList Tryz.prog ops Q (o :: rest) a w :=
 wpList_store_whole hgd ty x y ho hx hy hg hi hn hold (all_list h1) h
theorem Whole.rangeA {w : World} {g : Nat} {t : TypeId} {cs : Array Value} (h : Whole w g t cs) : w.rangeAt g 0 cs.toList := fun j v hv => by
 rw [Nat.zero_add, h.cell]
 simpa using hv
theorem wpList_load_all {ops : Array Oper} {rest : List Oper} {o : Oper} {a : Act} {w : World} {Q : Exit → Act → World → Prop} (hgd : o.guard = none) (ty : TypeId) (x : Operand) (ho : o.op = .load ty x) {g : Nat} {t : TypeId} {cs : Array Value} (hg : Whole w g t cs)
 (hx : a.eval x = .pointer (some ⟨g, 0, none⟩)) {n : Nat} (hi : (Tryz.prog.info? ty).map (·.size) = some n) (hn : cs.size = n) {d : TypeDesc} (hu : Tryz.prog.underlying ty = some d) (hd : d.isRow = true)
 (h : wpList Tryz.prog ops Q rest (a.put o.dst (.agg cs)) w) : wpList Tryz.prog ops Q (o :: rest) a w := by
 have e : cs.toList.toArray = cs := by simp
 refine wpList_load_mid hgd ty x ho g 0 hx cs.toList d hg.rangeA hu hd (by rw [hi, ← hn]; simp) ?_
 rw [e]
 exact h
theorem ret_struct {fn : Func} {p : Tmp} {ty t : TypeId} {cs : Array Value} {n g : Nat} {tmps : Array Value} {w : World} (h : fn.results = #[.cell p ty]) (hp : tmps.getD p undef = .pointer (some ⟨g, 0, none⟩)) (hg : Whole w g t cs)
 {d : TypeDesc} (hu : Tryz.prog.underlying ty = some d) (hd : d.isRow = true) (hi : (Tryz.prog.info? ty).map (·.size) = some n) (hn : cs.size = n) : (results fn tmps).run Tryz.prog w = .ok (.agg cs) w :=
 results_cell_row h tmps w g t cs (0, 0) d hp hg hu (by cases d <;> simp_all [TypeDesc.isRow]) (by rw [hi, hn])
theorem ret_struct2 {fn : Func} {p s : Tmp} {ty t : TypeId} {cs : Array Value} {n g : Nat} {tmps : Array Value} {w : World} (h : fn.results = #[.cell p ty, .tmp s]) (hp : tmps.getD p undef = .pointer (some ⟨g, 0, none⟩)) (hg : Whole w g t cs)
 {d : TypeDesc} (hu : Tryz.prog.underlying ty = some d) (hd : d.isRow = true) (hi : (Tryz.prog.info? ty).map (·.size) = some n) (hn : cs.size = n) : (results fn tmps).run Tryz.prog w = .ok (.tuple #[.agg cs, tmps.getD s undef]) w := by
 have hp' : tmps[p]?.getD undef = .pointer (some ⟨g, 0, none⟩) := by simpa using hp
 have hl : (loadVar ty ⟨g, 0, none⟩).run Tryz.prog w = .ok (.agg cs) w := run_loadVar_row (P := Tryz.prog) w g t ty cs (0, 0) d hg hu (by cases d <;> simp_all [TypeDesc.isRow]) (by rw [hi, hn])
 simp [results, h, hp', asAddr, hl]
theorem step_of {ops : Array Oper} {o : Oper} {a : Act} {w : World} {K : Act → World → Prop} {Q : Exit → Act → World → Prop} {E : Prop} (hgd : o.guard = none) (h : o.wp Tryz.prog a w K Q) : if Region.wanted o (yielded ops a.tmps) = true then Oper.wp Tryz.prog o a w K Q else E := by
 have hw : Region.wanted o (yielded ops a.tmps) = true := by simp [Region.wanted, hgd]
 rw [if_pos hw]
 exact h
def TillOne (S0 S1 : World → Prop) (q : Nat) (L : Array Bool) (w : World) : Prop := S0 w ∧ (L.getD q true = false → S1 w)
theorem TillOne.set {S0 S1 : World → Prop} {q i : Nat} (h : i ≠ q) (L : Array Bool) (w : World) : TillOne S0 S1 q (L.setIfInBounds i true) w ↔ TillOne S0 S1 q L w := by
 unfold TillOne
 rw [getD_set_ne true h]
theorem TillOne.get {S0 S1 : World → Prop} {q : Nat} {w : World} (h : Ahead (TillOne S0 S1 q) q w) : S0 w ∧ S1 w := by
 obtain ⟨L, hL, h⟩ := h
 exact ⟨h.1, h.2 hL⟩
theorem TillOne.mk {S0 S1 : World → Prop} {q : Nat} {L : Array Bool} {w : World} (h0 : S0 w) (h1 : S1 w) : TillOne S0 S1 q L w := ⟨h0, fun _ => h1⟩
theorem TillOne.past {S0 S1 : World → Prop} {q : Nat} {L : Array Bool} {w : World} (h0 : S0 w) (h1 : L.getD q true = true) : TillOne S0 S1 q L w := ⟨h0, fun e => by rw [h1] at e; cases e⟩
theorem add_block (a : Addr) (n : Nat) : (a.add n).block = a.block := by unfold Addr.add; split <;> rfl
def Rows {α : Type} (w : World) (B : Nat) (sz : Nat) (R : (Nat → Option Value) → α → Prop) (v : Value) (L : List α) : Prop :=
 ∃ A c, v = .slice A L.length c ∧ L.length ≤ c ∧ c ≤ maxLen ∧ (A = none → c = 0) ∧
   (0 < L.length → ∃ ad, A = some ad ∧ ad.block < B ∧ ∀ i x, L[i]? = some x → R (fun j => w.cell? (ad.add (i * sz + j))) x)
section
variable {α : Type} {w w' : World} {B : Nat} {sz : Nat} {R R' : (Nat → Option Value) → α → Prop} {v : Value} {L : List α}
theorem Rows.nil (w : World) (B sz : Nat) (R : (Nat → Option Value) → α → Prop) : Rows w B sz R (.slice none 0 0) [] := ⟨none, 0, rfl, Nat.le_refl _, Nat.zero_le _, fun _ => rfl, fun h => by simp at h⟩
theorem Rows.more {B' : Nat} (h : Rows w B sz R v L) (hB : B ≤ B') : Rows w B' sz R v L := by
 obtain ⟨A, c, h1, h2, h3, h4, h5⟩ := h
 refine ⟨A, c, h1, h2, h3, h4, fun hn => ?_⟩
 obtain ⟨ad, e1, e2, e3⟩ := h5 hn
 exact ⟨ad, e1, by omega, e3⟩
theorem Rows.mono (h : Rows w B sz R v L) (hR : ∀ f x, x ∈ L → R f x → R' f x) : Rows w B sz R' v L := by
 obtain ⟨A, c, h1, h2, h3, h4, h5⟩ := h
 refine ⟨A, c, h1, h2, h3, h4, fun hn => ?_⟩
 obtain ⟨ad, e1, e2, e3⟩ := h5 hn
 exact ⟨ad, e1, e2, fun i x hx => hR _ x (List.mem_of_getElem? hx) (e3 i x hx)⟩
theorem Rows.below (h : Rows w B sz R v L) (hb : Below B w w') (hR : ∀ f x, x ∈ L → R f x → R' f x) : Rows w' B sz R' v L := by
 obtain ⟨A, c, h1, h2, h3, h4, h5⟩ := h
 refine ⟨A, c, h1, h2, h3, h4, fun hn => ?_⟩
 obtain ⟨ad, e1, e2, e3⟩ := h5 hn
 refine ⟨ad, e1, e2, fun i x hx => hR _ x (List.mem_of_getElem? hx) ?_⟩
 have e : (fun j => w'.cell? (ad.add (i * sz + j))) = fun j => w.cell? (ad.add (i * sz + j)) := by
  funext j
  exact hb.cell (p := ad.add (i * sz + j)) (by rw [add_block]; exact e2)
 rw [e]
 exact e3 i x hx
theorem Rows.at_ (h : Rows w B sz R v L) {i : Nat} {x : α} (hx : L[i]? = some x) : ∃ ad c, v = .slice (some ad) L.length c ∧ ad.block < B ∧ L.length ≤ c ∧ c ≤ maxLen ∧ R (fun j => w.cell? (ad.add (i * sz + j))) x := by
 obtain ⟨A, c, h1, h2, h3, h4, h5⟩ := h
 have hi : i < L.length := (List.getElem?_eq_some_iff.1 hx).1
 obtain ⟨ad, rfl, e2, e3⟩ := h5 (by omega)
 exact ⟨ad, c, h1, e2, h2, h3, e3 i x hx⟩
theorem Rows.form (h : Rows w B sz R v L) : ∃ A c, v = .slice A L.length c ∧ L.length ≤ c ∧ c ≤ maxLen ∧ (A = none → c = 0) := by
 obtain ⟨A, c, h1, h2, h3, h4, _⟩ := h
 exact ⟨A, c, h1, h2, h3, h4⟩
end
theorem add_next (a : Addr) (n k : Nat) (hk : k ≠ 0) : a.add (n + k) = ⟨(a.add n).block, (a.add n).off + k, none⟩ := by
 unfold Addr.add
 rw [if_neg (by omega)]
 split
 · next h => subst h; simp
 · simp [Nat.add_assoc]
def Own (w : World) (base : Nat) (e : TypeId) (sz : Nat) (v : Value) (rs : List (List Value)) : Prop := w.ownsRow base e sz v rs.length rs.flatten ∧ ∀ r ∈ rs, r.length = sz
section
variable {w w' : World} {base : Nat} {e : TypeId} {sz : Nat} {v : Value} {rs : List (List Value)}
theorem flatten_at {sz : Nat} : ∀ {rs : List (List Value)} (_ : ∀ r ∈ rs, r.length = sz) {i j : Nat} {r : List Value}, rs[i]? = some r → j < sz → rs.flatten[i * sz + j]? = r[j]?
 | [], _, i, j, r, h, _ => by simp at h
 | q :: rs, hl, i, j, r, h, hj => by
   have hq := hl q (by simp)
   cases i with
   | zero =>
     simp at h
     subst h
     rw [Nat.zero_mul, Nat.zero_add, List.flatten_cons, List.getElem?_append_left (by omega)]
   | succ i =>
     have := flatten_at (rs := rs) (fun r hr => hl r (by simp [hr])) (i := i) (j := j) (r := r) (by simpa using h) hj
     rw [List.flatten_cons, List.getElem?_append_right (by rw [hq, Nat.succ_mul]; omega), ← this, hq]
     congr 1
     rw [Nat.succ_mul]
     omega
theorem flatten_len {sz : Nat} : ∀ {rs : List (List Value)} (_ : ∀ r ∈ rs, r.length = sz), rs.flatten.length = rs.length * sz
 | [], _ => by simp
 | q :: rs, hl => by
   have := flatten_len (rs := rs) (fun r hr => hl r (by simp [hr]))
   rw [List.flatten_cons, List.length_append, this, hl q (by simp), List.length_cons, Nat.succ_mul]
   omega
theorem flatten_set {sz : Nat} : ∀ {rs : List (List Value)} (_ : ∀ r ∈ rs, r.length = sz) {i j : Nat} {r : List Value} (u : Value), rs[i]? = some r → j < sz → rs.flatten.set (i * sz + j) u = (rs.set i (r.set j u)).flatten
 | [], _, i, j, r, u, h, _ => by simp at h
 | q :: rs, hl, i, j, r, u, h, hj => by
   have hq := hl q (by simp)
   cases i with
   | zero =>
     simp at h
     subst h
     rw [Nat.zero_mul, Nat.zero_add, List.flatten_cons, List.set_cons_zero, List.flatten_cons, List.set_append_left _ _ (by omega)]
   | succ i =>
     have := flatten_set (rs := rs) (fun r hr => hl r (by simp [hr])) (i := i) (j := j) (r := r) u (by simpa using h) hj
     rw [List.flatten_cons, List.set_cons_succ, List.flatten_cons, ← this, List.set_append_right _ _ (by rw [hq, Nat.succ_mul]; omega), hq]
     congr 2
     rw [Nat.succ_mul]
     omega
theorem Own.nil (w : World) (base : Nat) (e : TypeId) (sz : Nat) : Own w base e sz (.slice none 0 0) [] := ⟨World.ownsRow_nil w base e sz, fun r hr => by cases hr⟩
theorem Own.keep (h : Own w base e sz v rs) (hk : ∀ g cs, v.ownBlock = some g → Whole w g e cs → Whole w' g e cs) : Own w' base e sz v rs := by
 refine ⟨⟨h.1.1, ?_⟩, h.2⟩
 rcases h.1.2 with h0 | ⟨g, cap, cur, h1, h2, h3, h4⟩
 · exact .inl h0
 · exact .inr ⟨g, cap, cur, h1, h2, hk g cur (by rw [h1]; rfl) h3, h4⟩
theorem Own.under (h : Own w base e sz v rs) (hb : Below w.heap.size w w') : Own w' base e sz v rs := h.keep fun g cs _ hg => hg.under hb
theorem Own.alloc (h : Own w base e sz v rs) (o : Obj) : Own (w.alloc o) base e sz v rs := h.keep fun g cs _ hg => hg.alloc o
theorem Own.drew (h : Own w base e sz v rs) : Own w.drew base e sz v rs := h
theorem Own.drewN (h : Own w base e sz v rs) (n : Nat) : Own (w.drewN n) base e sz v rs := h
theorem Own.far (h : Own w base e sz v rs) {p : Addr} (hp : v.ownBlock ≠ some p.block) (u : Value) : Own (w.setCell p u) base e sz v rs := h.keep fun g cs hg hw => hw.far (fun e => hp (by rw [hg, e])) u
theorem Own.farRow (h : Own w base e sz v rs) {g : Nat} (hp : v.ownBlock ≠ some g) (cs : Array Value) : Own (w.setRow g cs) base e sz v rs := h.keep fun g' cs' hg hw => hw.farRow (fun e => hp (by rw [hg, e])) cs
theorem Own.grown {row : Option Nat} (h : Own w base e sz v rs) (hg : w.grownBy w' row) (hne : v.ownBlock = none ∨ v.ownBlock ≠ row) : Own w' base e sz v rs := h.keep fun g cs hb hw => hw.grown hg (fun e => by
 rcases hne with hn | hn
 · rw [hn] at hb; cases hb
 · exact hn (hb.trans e))
theorem Own.lt (h : Own w base e sz v rs) {k : Nat} (hk : v.ownBlock = some k) : base ≤ k ∧ k < w.heap.size := World.ownsRow.lt h.1 k hk
theorem Own.base_le {b : Nat} (h : Own w base e sz v rs) (hb : b ≤ base) : Own w b e sz v rs := by
 refine ⟨⟨h.1.1, ?_⟩, h.2⟩
 rcases h.1.2 with h0 | ⟨g, cap, cur, h1, h2, h3, h4⟩
 · exact .inl h0
 · exact .inr ⟨g, cap, cur, h1, by omega, h3, h4⟩
theorem Own.whole (h : Own w base e sz v rs) {g : Nat} (hg : v.ownBlock = some g) : ∃ cs, Whole w g e cs := by
 rcases h.1.2 with ⟨rfl, _⟩ | ⟨g', cap, cur, rfl, _, h3, _⟩
 · cases hg
 · have : g' = g := by simpa [Value.ownBlock] using hg
   subst this
   exact ⟨cur, h3⟩
theorem Own.apart (h : Own w base e sz v rs) {g : Nat} {t : TypeId} {cs : Array Value} (hg : Whole w g t cs) (he : e ≠ t) : v.ownBlock ≠ some g := fun e2 => by
 obtain ⟨cs2, h2⟩ := h.whole e2
 exact (h2.ne hg he) rfl
theorem Own.apart2 {e' : TypeId} {sz' : Nat} {v' : Value} {rs' : List (List Value)} (h : Own w base e sz v rs) (h' : Own w base e' sz' v' rs') (he : e ≠ e') : v.ownBlock = none ∨ v.ownBlock ≠ v'.ownBlock := by
 cases hv : v.ownBlock with
 | none => exact .inl rfl
 | some g =>
   refine .inr fun e2 => ?_
   obtain ⟨cs, hc⟩ := h.whole hv
   exact h'.apart hc (Ne.symm he) e2.symm
theorem Own.form (h : Own w base e sz v rs) : ∃ A c, v = .slice A rs.length c ∧ rs.length ≤ c ∧ c ≤ maxLen ∧ (A = none → c = 0) := by
 rcases h.1.2 with ⟨rfl, h0⟩ | ⟨g, cap, cur, rfl, h2, h3, h4, h5, _⟩
 · exact ⟨none, 0, by rw [h0], by omega, Nat.zero_le _, fun _ => rfl⟩
 · exact ⟨_, cap, rfl, h4, h5, fun e => by cases e⟩
theorem Own.at_ (h : Own w base e sz v rs) {i : Nat} {r : List Value} (hr : rs[i]? = some r) : ∃ g c, v = .slice (some ⟨g, 0, none⟩) rs.length c ∧ v.ownBlock = some g ∧ base ≤ g ∧ g < w.heap.size ∧ rs.length ≤ c ∧ c ≤ maxLen ∧
 (∀ j, j < sz → w.cell? ⟨g, i * sz + j, none⟩ = r[j]?) ∧ ∀ j, w.frozen? ⟨g, j, none⟩ = false := by
 have hi : i < rs.length := (List.getElem?_eq_some_iff.1 hr).1
 rcases h.1.2 with ⟨rfl, h0⟩ | ⟨g, cap, cur, rfl, h2, h3, h4, h5, h6, h7⟩
 · omega
 · have h3 : Whole w g e cur := h3
   refine ⟨g, cap, rfl, rfl, h2, h3.lt, h4, h5, fun j hj => ?_, fun j => h3.frz j⟩
   have hf := flatten_at h.2 hr hj
   have hjr : j < r.length := by rw [h.2 r (List.mem_of_getElem? hr)]; exact hj
   have hx := List.getElem?_eq_getElem hjr
   rw [hx] at hf ⊢
   rw [h3.cell]
   exact take_get h7 hf
theorem Own.put (h : Own w base e sz v rs) {g : Nat} (hg : v.ownBlock = some g) {i j : Nat} {r : List Value} (hr : rs[i]? = some r) (hj : j < sz) (u : Value) : Own (w.setCell ⟨g, i * sz + j, none⟩ u) base e sz v (rs.set i (r.set j u)) := by
 have hi : i < rs.length := (List.getElem?_eq_some_iff.1 hr).1
 have hlen : ∀ q ∈ rs.set i (r.set j u), q.length = sz := fun q hq => by
  rcases List.mem_or_eq_of_mem_set hq with hq | rfl
  · exact h.2 q hq
  · rw [List.length_set]; exact h.2 r (List.mem_of_getElem? hr)
 refine ⟨⟨by rw [flatten_len hlen], ?_⟩, hlen⟩
 rcases h.1.2 with ⟨rfl, h0⟩ | ⟨g', cap, cur, rfl, h2, h3, h4, h5, h6, h7⟩
 · cases hg
 · have : g' = g := by simpa [Value.ownBlock] using hg
   subst this
   have h3 : Whole w g' e cur := h3
   refine .inr ⟨g', cap, _, by rw [List.length_set], h2, h3.set _ u, by rw [List.length_set]; exact h4, h5, by simpa using h6, ?_⟩
   rw [List.length_set, ← flatten_set h.2 u hr hj, ← h7]
   have hlt : i * sz + j < rs.length * sz := by
    have := Nat.mul_le_mul_right sz hi
    rw [Nat.succ_mul] at this
    omega
   apply List.ext_getElem?
   intro k
   simp only [Array.toList_setIfInBounds]
   rw [List.getElem?_take, List.getElem?_set, List.getElem?_set, List.getElem?_take]
   by_cases hk : k < rs.length * sz
   · simp [hk]
     by_cases he : i * sz + j = k
     · subst he
       have h6' : rs.length * sz ≤ cur.size := by rw [h6]; exact Nat.mul_le_mul_right sz h4
       have hs : i * sz + j < cur.size := by omega
       have hm : i * sz + j < min (rs.length * sz) cur.size := by omega
       simp [hs, hm]
     · simp [he]
   · simp [hk]
     intro he
     omega
theorem Own.rows {α : Type} {R : (Nat → Option Value) → α → Prop} {L : List α} (h : Own w base e sz v rs) {B : Nat} (hB : w.heap.size ≤ B) (hl : L.length = rs.length)
 (hR : ∀ (i : Nat) (r : List Value) (x : α) (f : Nat → Option Value), rs[i]? = some r → L[i]? = some x → (∀ j, j < sz → f j = r[j]?) → R f x) : Rows w B sz R v L := by
 obtain ⟨A, c, hv, h1, h2, h3⟩ := h.form
 refine ⟨A, c, by rw [hl]; exact hv, by omega, h2, h3, fun hn => ?_⟩
 have h0 : ∃ r0, rs[0]? = some r0 := ⟨_, List.getElem?_eq_getElem (by omega)⟩
 obtain ⟨r0, hr0⟩ := h0
 obtain ⟨g, c', hv', hg, _, hlt, _⟩ := h.at_ hr0
 rw [hv'] at hv
 injection hv with e1 e2 e3
 subst e1
 refine ⟨_, rfl, Nat.lt_of_lt_of_le hlt hB, fun i x hx => ?_⟩
 have hi : i < rs.length := by rw [← hl]; exact (List.getElem?_eq_some_iff.1 hx).1
 obtain ⟨g2, c2, hv2, hg2, _, _, _, _, hc, _⟩ := h.at_ (i := i) (r := rs[i]) (List.getElem?_eq_getElem hi)
 have : g2 = g := by rw [hg] at hg2; exact (Option.some.inj hg2).symm
 subst this
 refine hR i rs[i] x _ (List.getElem?_eq_getElem hi) hx fun j hj => ?_
 rw [Addr.add_lit, Nat.zero_add]
 exact hc j hj
theorem run_appendE {T : TypeId} {z : Value} {by_ : Nat} (ty : TypeId) (hT : Tryz.prog.underlying T = some (.slice e)) (hi : (Tryz.prog.info? e).map (fun i => (i.zero, i.size, i.bytes)) = some (some z, sz, by_)) (hz : z.cells.size = sz) (hsz : 0 < sz) (hown : Own w base e sz v rs) {g c : Nat} {r : List Value}
 (hg : Whole w g e r.toArray) (hrl : r.length = sz) (hu : ∀ u ∈ r, u.oneCell' = true) (h63 : (rs.length + 1) * by_ ≤ 140737488355328) (h64 : rs.length + 1 ≤ 140737488355328) (hbase : base ≤ w.heap.size) :
 ∃ v' w', (Builtin.append_ #[T, T] ty #[v, .slice (some ⟨g, 0, none⟩) 1 c]).run Tryz.prog w = .ok v' w' ∧ Own w' base e sz v' (rs ++ [r]) ∧ w.grownBy w' v.ownBlock ∧ (v'.ownBlock = v.ownBlock ∨ v'.ownBlock = some w.heap.size) := by
 obtain ⟨i0, hi0, hz0, hz1, hz2⟩ := info_parts hi
 obtain ⟨v', w', hrun, h2, h3, _, h5⟩ := run_append_own_at (P := Tryz.prog) w base T ty e i0 z sz by_ hT hi0 hz0 hz1 hz2 hz (by omega) v rs.length rs.flatten hown.1 ⟨g, 0, none⟩ 1 c r (by rw [hrl, Nat.one_mul])
  (fun j y hj => by
    rw [Addr.add_lit, Nat.zero_add, hg.cell]
    simpa using hj) hu (by unfold maxLen; omega) h63 hbase
 refine ⟨v', w', hrun, ⟨?_, fun q hq => ?_⟩, h3, h5⟩
 · rw [List.flatten_append, List.length_append]
   simpa using h2
 · rw [List.mem_append, List.mem_singleton] at hq
   rcases hq with hq | rfl
   · exact hown.2 q hq
   · exact hrl
theorem wp_appendE {o : Oper} {a : Act} {K : Act → World → Prop} {Q : Exit → Act → World → Prop} {T : TypeId} {z : Value} {by_ : Nat} (s y : Operand) (ho : o.op = .call { callee := .builtin .append, args := #[s, y], argTypes := #[T, T] })
 (hT : Tryz.prog.underlying T = some (.slice e)) (hi : (Tryz.prog.info? e).map (fun i => (i.zero, i.size, i.bytes)) = some (some z, sz, by_)) (hz : z.cells.size = sz) (hsz : 0 < sz) (hs : a.eval s = v) (hown : Own w base e sz v rs) {g c : Nat} (hy : a.eval y = .slice (some ⟨g, 0, none⟩) 1 c) {r : List Value}
 (hg : Whole w g e r.toArray) (hrl : r.length = sz) (hu : ∀ u ∈ r, u.oneCell' = true) (h63 : (rs.length + 1) * by_ ≤ 140737488355328) (h64 : rs.length + 1 ≤ 140737488355328) (hbase : base ≤ w.heap.size)
 (h : ∀ v' w', Own w' base e sz v' (rs ++ [r]) → w.grownBy w' v.ownBlock → (v'.ownBlock = v.ownBlock ∨ v'.ownBlock = some w.heap.size) → K (a.put o.dst v') w') : o.wp Tryz.prog a w K Q := by
 obtain ⟨v', w', hrun, h2, h3, h4⟩ := run_appendE o.type hT hi hz hsz hown (c := c) hg hrl hu h63 h64 hbase
 unfold Oper.wp execOp
 simp only [ho, resolve, invoke, builtin, Sem.run_bind, Sem.run_pure, Result.andThen_ok, List.map_toArray, List.map_cons, List.map_nil, hs, hy, hrun]
 exact h v' w' h2 h3 h4
theorem wpList_appendE {ops : Array Oper} {rest : List Oper} {o : Oper} {a : Act} {Q : Exit → Act → World → Prop} (hgd : o.guard = none) {T : TypeId} {z : Value} {by_ : Nat} (s y : Operand) (ho : o.op = .call { callee := .builtin .append, args := #[s, y], argTypes := #[T, T] })
 (hT : Tryz.prog.underlying T = some (.slice e)) (hi : (Tryz.prog.info? e).map (fun i => (i.zero, i.size, i.bytes)) = some (some z, sz, by_)) (hz : z.cells.size = sz) (hsz : 0 < sz) (hs : a.eval s = v) (hown : Own w base e sz v rs) {g c : Nat} (hy : a.eval y = .slice (some ⟨g, 0, none⟩) 1 c) {r : List Value}
 (hg : Whole w g e r.toArray) (hrl : r.length = sz) (hu : ∀ u ∈ r, u.oneCell' = true) (h63 : (rs.length + 1) * by_ ≤ 140737488355328) (h64 : rs.length + 1 ≤ 140737488355328) (hbase : base ≤ w.heap.size)
 (h : ∀ v' w', Own w' base e sz v' (rs ++ [r]) → w.grownBy w' v.ownBlock → (v'.ownBlock = v.ownBlock ∨ v'.ownBlock = some w.heap.size) → wpList Tryz.prog ops Q rest (a.put o.dst v') w') : wpList Tryz.prog ops Q (o :: rest) a w :=
 wpList_plain hgd fun _ hK => wp_appendE s y ho hT hi hz hsz hs hown hy hg hrl hu h63 h64 hbase fun v' w' h2 h3 h4 => hK _ _ (h v' w' h2 h3 h4)
end
end Go.Proofs.YtlekmakofkpcdaaGreatDoor
namespace Go.Proofs.YtlekmakofkpcdaaGreatDoor
set_option linter.unusedVariables false
abbrev Tx := List UInt8
def tx (s : ByteArray) : Tx := s.data.toList
def bs (l : Tx) : ByteArray := ⟨l.toArray⟩
@[simp] theorem tx_bs (l : Tx) : tx (bs l) = l := by simp [tx, bs]
@[simp] theorem bs_tx (s : ByteArray) : bs (tx s) = s := Lib.mk_data s
theorem tx_length (s : ByteArray) : (tx s).length = s.size := (Lib.size_eq s).symm
theorem tx_inj {s t : ByteArray} (h : tx s = tx t) : s = t := by rw [← bs_tx s, ← bs_tx t, h]
theorem tx_extract (s : ByteArray) (a b : Nat) : tx (s.extract a b) = ((tx s).drop a).take (b - a) := Lib.extract_data s a b
theorem toList_tx (s : ByteArray) : s.toList = tx s := Lib.toList_data s
theorem bs_size (l : Tx) : (bs l).size = l.length := by rw [← tx_length, tx_bs]
theorem tx_append (s t : ByteArray) : tx (s ++ t) = tx s ++ tx t := by
 obtain ⟨⟨l⟩⟩ := s
 obtain ⟨⟨k⟩⟩ := t
 simp [tx, ByteArray.data_append]
def cutS (sep : Tx) : Tx → Tx × Tx × Bool
 | [] => if sep.isEmpty then ([], [], true) else ([], [], false)
 | c :: r => if sep.isPrefixOf (c :: r) then ([], (c :: r).drop sep.length, true) else (c :: (cutS sep r).1, (cutS sep r).2.1, (cutS sep r).2.2)
theorem cutS_some (sep : Tx) : ∀ s, (cutS sep s).2.2 = true → s = (cutS sep s).1 ++ sep ++ (cutS sep s).2.1
 | [], h => by
   unfold cutS at h ⊢
   cases sep <;> simp at h ⊢
 | c :: r, h => by
   unfold cutS at h ⊢
   by_cases hp : sep.isPrefixOf (c :: r) = true
   · rw [if_pos hp]
     obtain ⟨t, ht⟩ := List.isPrefixOf_iff_prefix.1 hp
     simp [← ht]
   · rw [if_neg hp] at h ⊢
     have := cutS_some sep r h
     simp only [List.cons_append]
     rw [← this]
theorem cutS_none (sep : Tx) : ∀ s, (cutS sep s).2.2 = false → (cutS sep s).1 = s ∧ (cutS sep s).2.1 = []
 | [], h => by
   unfold cutS
   cases sep <;> simp
 | c :: r, h => by
   unfold cutS at h ⊢
   by_cases hp : sep.isPrefixOf (c :: r) = true
   · rw [if_pos hp] at h
     cases h
   · rw [if_neg hp] at h ⊢
     have := cutS_none sep r h
     simp only
     rw [this.1, this.2]
     exact ⟨rfl, rfl⟩
theorem cutS_len (sep : Tx) (s : Tx) : (cutS sep s).1.length ≤ s.length ∧ (cutS sep s).2.1.length ≤ s.length := by
 cases h : (cutS sep s).2.2 with
 | false => rw [(cutS_none sep s h).1, (cutS_none sep s h).2]; simp
 | true =>
   have := congrArg List.length (cutS_some sep s h)
   simp at this
   omega
theorem cutS_clean {c0 : UInt8} {t : Tx} (a b : Tx) (h : ∀ c ∈ a, c ≠ c0) : cutS (c0 :: t) (a ++ (c0 :: t) ++ b) = (a, b, true) := by
 induction a with
 | nil =>
   simp only [List.nil_append, List.cons_append]
   unfold cutS
   rw [if_pos (by simp)]
   simp
 | cons c r ih =>
   have hc := h c (by simp)
   have := ih (fun d hd => h d (by simp [hd]))
   simp only [List.cons_append] at this ⊢
   unfold cutS
   rw [if_neg (by simp [List.isPrefixOf, Ne.symm hc]), this]
theorem cutS_free {c0 : UInt8} {t : Tx} (a : Tx) (h : ∀ c ∈ a, c ≠ c0) : cutS (c0 :: t) a = (a, [], false) := by
 induction a with
 | nil => rfl
 | cons c r ih =>
   have hc := h c (by simp)
   have := ih (fun d hd => h d (by simp [hd]))
   unfold cutS
   rw [if_neg (by simp [List.isPrefixOf, Ne.symm hc]), this]
end Go.Proofs.YtlekmakofkpcdaaGreatDoor
