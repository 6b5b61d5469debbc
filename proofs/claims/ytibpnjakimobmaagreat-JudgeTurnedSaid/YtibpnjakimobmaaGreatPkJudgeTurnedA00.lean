import Derived.OrdersHeld
import Derived.WalkKit
import Derived.Lib.Hide
import Derived.Test.YtibpnjakimobmaaGreatProg
import Derived.Deep.RegionHeld3
import Derived.Deep.MidRow
import Derived.ProofKit
import Derived.WalkSpells
import Derived.Below
import Derived.Deep.Draws
import Derived.Laws.Rows
import Derived.ArgAppend
import Derived.Laws.IdiomCopy
import Derived.Maps.AppendAt
import Derived.Deep.RegionLaw
import Derived.OwnWalk
import Derived.Outline
import Derived.Handy
import Derived.LoopTactic
import Derived.RegionTactic
import Derived.ChangeAlike
import Derived.BigRegion
import Derived.Deep.QuietTactic
import Derived.BigQuiet
import Derived.Deep.DeepMust
import Derived.Deep.CutRange
import Derived.Deep.DeepCutAuto
import Derived.Deep.LoopGhost
import Derived.StillTailTactics
import Derived.Laws.AppendOwnNone
import Derived.Lib.AppendZeros
import Derived.Laws.CopyOwn
import Derived.Laws.BytesArg
import Derived.Shelf.Abstract
import Derived.Laws.StructEq
import Derived.Lib.IndexMore
import Derived.Lib.Join
import Derived.Shelf.Strings.Search1
import Derived.Shelf.Strings.Search2
import Derived.Shelf.Strings.Search3
import Derived.Shelf.LaysM
import Derived.Shelf.Strings.Shaped
import Derived.Shelf.Strings.Prefix
import Derived.Shelf.Slices.Equal
import Derived.Lib.SmallJoins
import Derived.Lib.AppendIntMem
import Derived.Deep.Slices
import Derived.Lib.SplitLaws
namespace Go.Proofs.YtibpnjakimobmaaGreat
open Go Go.RowKit
set_option linter.unusedVariables false
section
variable {P : Program} {ops : Array Oper} {Q : Exit → Act → World → Prop} {md : Region.Mode} {T : Array Bool → World → Prop}
def wpLate (P : Program) (md : Region.Mode) (ops : Array Oper) (Q : Exit → Act → World → Prop) (T : Array Bool → World → Prop) : Nat → Array Bool → Act → World → Prop
 | 0, L, a, w => Region.ready md ops L = [] ∧ Q .normal a w
 | n + 1, L, a, w => (Region.ready md ops L = [] → Q .normal a w) ∧
   ∀ i ∈ Region.ready md ops L, wpOp P ops Q i (fun a' w' => T (L.setIfInBounds i true) w' ∧ wpLate P md ops Q T n (L.setIfInBounds i true) a' w') a w
theorem wpLate.any : ∀ (n : Nat) (L : Array Bool) (a : Act) (w : World), wpLate P md ops Q T n L a w → wpAny P md ops Q n L a w
 | 0, _, _, _, h => h
 | n + 1, _, _, _, h => ⟨h.1, fun i hi => wpOp_mono (fun _ _ k => wpLate.any n _ _ _ k.2) (h.2 i hi)⟩
def Ahead (T : Array Bool → World → Prop) (q : Nat) (w : World) : Prop := ∃ L : Array Bool, L.getD q true = false ∧ T L w
def waits (md : Region.Mode) (ops : Array Oper) (q i : Nat) : Bool := (ops[q]?.map fun o => o.after.toList.any fun e => Region.binds md e && e.on == i) == some true
theorem waits_spec {q i : Nat} (h : waits md ops q i = true) : ∃ o, ops[q]? = some o ∧ ∃ e ∈ o.after, Region.binds md e = true ∧ e.on = i := by
 unfold waits at h
 cases ho : ops[q]? with
 | none => rw [ho] at h; simp at h
 | some o =>
   rw [ho] at h
   have h' : (o.after.toList.any fun e => Region.binds md e && e.on == i) = true := by simpa using h
   obtain ⟨e, he, h1⟩ := List.any_eq_true.1 h'
   rw [Bool.and_eq_true, beq_iff_eq] at h1
   exact ⟨o, rfl, e, by simpa using he, h1.1, h1.2⟩
theorem wpLate.first {i q : Nat} {oi : Oper} {v : Value} (hi : ops[i]? = some oi) (hs : ∀ (j : Nat) (o : Oper) cs b, ops[j]? = some o → o.op ≠ .select cs b)
 (hQ : ∀ c a w, Q (.panic c) (a.put oi.dst v) w → Q (.panic c) a w) (hw : waits md ops q i = true) (hT : ∀ L w, T (L.setIfInBounds i true) w ↔ T L w) :
 ∀ (n : Nat) (L : Array Bool) (a : Act) (w : World),
   (∀ j oj, ops[j]? = some oj → j ≠ i → L.getD j true = false → (∀ e ∈ oj.after, Region.binds md e = true → e.on ≠ i) → oi.apart ops oj = true) →
   i ∈ Region.ready md ops L → L.getD q true = false → YieldsIf P ops (Ahead T q) oi v a → T L w →
   wpLate P md ops Q T n (L.setIfInBounds i true) (a.put oi.dst v) w → wpLate P md ops Q T (n + 1) L a w := by
 obtain ⟨oq, hoq, eq, heq, hb, hon⟩ := waits_spec hw
 intro n
 induction n with
 | zero =>
   intro L a w _ hr hq hy hTw H
   refine ⟨fun h => (by rw [h] at hr; cases hr), fun j hj => ?_⟩
   by_cases hji : j = i
   · subst hji; exact hy.wpOp hi ⟨L, hq, hTw⟩ ⟨(hT L w).2 hTw, H⟩
   · have := ready_mono hj hji
     rw [H.1] at this
     cases this
 | succ n ih =>
   intro L a w hfree hr hq hy hTw H
   refine ⟨fun h => (by rw [h] at hr; cases hr), fun j hj => ?_⟩
   by_cases hji : j = i
   · subst hji; exact hy.wpOp hi ⟨L, hq, hTw⟩ ⟨(hT L w).2 hTw, H⟩
   · have h1 := H.2 j (ready_mono hj hji)
     obtain ⟨hjun, oj, hoj, hall⟩ := mem_ready.1 hj
     have hnot : ∀ e ∈ oj.after, Region.binds md e = true → e.on ≠ i := fun e he hb2 he2 => by
      have g1 := hall e he hb2
      have g0 := (mem_ready.1 hr).1
      rw [he2] at g1
      rcases Nat.lt_or_ge i L.size with h' | h'
      · simp [h'] at g0 g1; rw [g0] at g1; cases g1
      · simp [Array.getElem?_eq_none h'] at g1
     have hjq : j ≠ q := by
      rintro rfl
      rw [hoq] at hoj
      cases hoj
      exact hnot eq heq hb hon
     have h2 := wpOp_putIf hoj (hfree j oj hoj hji hjun hnot) (fun cs b => hs i oi cs b hi) (fun cs b => hs j oj cs b hoj) hQ hy h1
     refine wpOp_mono (fun a' w' h3 => ?_) h2
     rw [Array.setIfInBounds_comm _ _ (Ne.symm hji)] at h3
     have hT3 := (hT _ _).1 h3.2.1
     refine ⟨hT3, ih (L.setIfInBounds j true) a' w' (fun k ok hk hki hun hno => ?_) (ready_mono hr (Ne.symm hji)) (by rw [getD_set_ne true hjq]; exact hq) h3.1 hT3 h3.2.2⟩
     refine hfree k ok hk hki ?_ hno
     by_cases hjk : j = k
     · subst hjk; exact hjun
     · rw [getD_set_ne true hjk] at hun; exact hun
theorem wpLate.take {i q : Nat} {oi : Oper} {v : Value} {n : Nat} {L : Array Bool} {a : Act} {w : World} (hi : ops[i]? = some oi)
 (hs : Region.noSelect ops = true) (hf : Region.free md ops L i = true) (hr : (Region.ready md ops L).contains i = true) (hw : waits md ops q i = true) (hq : L.getD q true = false)
 (hQ : ∀ c a w, Q (.panic c) (a.put oi.dst v) w → Q (.panic c) a w) (hT : ∀ L w, T (L.setIfInBounds i true) w ↔ T L w) (hTw : T L w) (hy : YieldsIf P ops (Ahead T q) oi v a)
 (h : wpLate P md ops Q T n (L.setIfInBounds i true) (a.put oi.dst v) w) : wpLate P md ops Q T (n + 1) L a w :=
 wpLate.first hi (Region.noSelect_spec hs) hQ hw hT n L a w (Region.free_spec hi hf) (by simpa using hr) hq hy hTw h
def eachLate (P : Program) (md : Region.Mode) (ops : Array Oper) (Q : Exit → Act → World → Prop) (T : Array Bool → World → Prop) (n : Nat) (L : Array Bool) (a : Act) (w : World) (rs : List Nat) : Prop :=
 ∀ i ∈ rs, wpOp P ops Q i (fun a' w' => T (L.setIfInBounds i true) w' ∧ wpLate P md ops Q T n (L.setIfInBounds i true) a' w') a w
theorem eachLate.nil {n : Nat} {L : Array Bool} {a : Act} {w : World} : eachLate P md ops Q T n L a w [] := fun _ h => by cases h
theorem eachLate.cons {n : Nat} {L : Array Bool} {a : Act} {w : World} {i : Nat} {o : Oper} {rs : List Nat} (ho : ops[i]? = some o)
 (h : ∀ K' : Act → World → Prop, Hid (∀ a w, T (L.setIfInBounds i true) w → wpLate P md ops Q T n (L.setIfInBounds i true) a w → K' a w) → if Region.wanted o (yielded ops a.tmps) = true then Oper.wp P o a w K' Q else K' (a.put o.dst undef) w)
 (hs : eachLate P md ops Q T n L a w rs) : eachLate P md ops Q T n L a w (i :: rs) := fun j hj => by
 rcases List.mem_cons.1 hj with rfl | hj
 · exact wpOp_step ho (fun K' hK => h K' (Lib.hid fun a w h1 h2 => hK a w ⟨h1, h2⟩))
 · exact hs j hj
theorem wpLate.ready {rs : List Nat} {n : Nat} {L : Array Bool} {a : Act} {w : World} (hr : Region.ready md ops L = rs) (hne : rs ≠ []) (h : eachLate P md ops Q T n L a w rs) : wpLate P md ops Q T (n + 1) L a w :=
 ⟨fun h0 => absurd (hr ▸ h0) hne, hr ▸ h⟩
theorem wpLate.done {L : Array Bool} {a : Act} {w : World} (hr : Region.ready md ops L = []) (h : Q .normal a w) : ∀ n, wpLate P md ops Q T n L a w
 | 0 => ⟨hr, h⟩
 | _ + 1 => ⟨fun _ => h, by rw [hr]; simp⟩
theorem wp_region_late {id : Nat} {a : Act} {w : World} (T : Array Bool → World → Prop) (hm : P.follows .mixedOrders = true)
 (h : wpLate P .any ops Q T ops.size (Array.replicate ops.size false) a w.drew) : (Code.region id ops true).wp P Q a w :=
 wp_region_any hm (wpLate.any _ _ _ _ h)
def TillTwo (S0 S1 S2 : World → Prop) (q1 q2 : Nat) (L : Array Bool) (w : World) : Prop := S0 w ∧ (L.getD q1 true = false → S1 w) ∧ (L.getD q2 true = false → S2 w)
theorem TillTwo.set {S0 S1 S2 : World → Prop} {q1 q2 i : Nat} (h1 : i ≠ q1) (h2 : i ≠ q2) (L : Array Bool) (w : World) : TillTwo S0 S1 S2 q1 q2 (L.setIfInBounds i true) w ↔ TillTwo S0 S1 S2 q1 q2 L w := by
 unfold TillTwo
 rw [getD_set_ne true h1, getD_set_ne true h2]
theorem TillTwo.one {S0 S1 S2 : World → Prop} {q1 q2 : Nat} {w : World} (h : Ahead (TillTwo S0 S1 S2 q1 q2) q1 w) : S0 w ∧ S1 w := by
 obtain ⟨L, hL, h⟩ := h
 exact ⟨h.1, h.2.1 hL⟩
theorem TillTwo.two {S0 S1 S2 : World → Prop} {q1 q2 : Nat} {w : World} (h : Ahead (TillTwo S0 S1 S2 q1 q2) q2 w) : S0 w ∧ S2 w := by
 obtain ⟨L, hL, h⟩ := h
 exact ⟨h.1, h.2.2 hL⟩
theorem TillTwo.mk {S0 S1 S2 : World → Prop} {q1 q2 : Nat} {L : Array Bool} {w : World} (h0 : S0 w) (h1 : L.getD q1 true = true ∨ S1 w) (h2 : L.getD q2 true = true ∨ S2 w) : TillTwo S0 S1 S2 q1 q2 L w :=
 ⟨h0, fun e => h1.elim (fun e2 => by rw [e] at e2; cases e2) id, fun e => h2.elim (fun e2 => by rw [e] at e2; cases e2) id⟩
end
end Go.Proofs.YtibpnjakimobmaaGreat
namespace Go.Proofs.YtibpnjakimobmaaGreat
open Go.RowKit
def Whole (w : World) (g : Nat) (t : TypeId) (cs : Array Value) : Prop := w.heap[g]? = some (Obj.cells cs t (0, 0))
section
variable {w w' : World} {g : Nat} {t : TypeId} {cs : Array Value}
theorem Whole.lt (h : Whole w g t cs) : g < w.heap.size := (Array.getElem?_eq_some_iff.1 h).1
theorem Whole.cell (h : Whole w g t cs) (i : Nat) : w.cell? ⟨g, i, none⟩ = cs[i]? := cell_of_row w g i cs t (0, 0) h
theorem Whole.frz (h : Whole w g t cs) (i : Nat) : w.frozen? ⟨g, i, none⟩ = false := by
 have h' : w.heap[g]? = some (Obj.cells cs t (0, 0)) := h
 simp [World.frozen?, h']
theorem Whole.new (w : World) (t : TypeId) (cs : Array Value) : Whole (w.alloc (.cells cs t)) w.heap.size t cs := by
 show (w.heap.push _)[w.heap.size]? = _
 simp
theorem Whole.drewN (h : Whole w g t cs) (n : Nat) : Whole (w.drewN n) g t cs := h
theorem Whole.drew (h : Whole w g t cs) : Whole w.drew g t cs := h
theorem Whole.alloc (h : Whole w g t cs) (o : Obj) : Whole (w.alloc o) g t cs := (Below.heap_alloc w o g h.lt).trans h
theorem Whole.set (h : Whole w g t cs) (i : Nat) (u : Value) : Whole (w.setCell ⟨g, i, none⟩ u) g t (cs.setIfInBounds i u) := by
 have h' : w.heap[g]? = some (Obj.cells cs t (0, 0)) := h
 show (w.setCell ⟨g, i, none⟩ u).heap[g]? = _
 simp [World.setCell, Array.getElem?_modify, h']
theorem Whole.far (h : Whole w g t cs) {p : Addr} (hp : g ≠ p.block) (u : Value) : Whole (w.setCell p u) g t cs := (Below.heap_setCell w p u g hp).trans h
theorem Whole.below {B : Nat} (h : Whole w g t cs) (hb : Below B w w') (hg : g < B) : Whole w' g t cs := (hb.block g hg).trans h
theorem Whole.under (h : Whole w g t cs) (hb : Below w.heap.size w w') : Whole w' g t cs := (hb.block g h.lt).trans h
theorem Whole.grown {row : Option Nat} (h : Whole w g t cs) (hb : w.grownBy w' row) (hg : some g ≠ row) : Whole w' g t cs := (hb.block g h.lt hg).trans h
theorem Whole.ne {g' : Nat} {t' : TypeId} {cs' : Array Value} (h : Whole w g t cs) (h' : Whole w g' t' cs') (hne : t ≠ t') : g ≠ g' := by
 intro e
 subst e
 have e1 : some (Obj.cells cs t (0, 0)) = some (Obj.cells cs' t' (0, 0)) := Eq.trans (Eq.symm h) h'
 injection e1 with e2
 injection e2 with _ e3
 exact hne e3
end
theorem take_get {cur : Array Value} {n : Nat} {xs : List Value} (h : cur.toList.take n = xs) {i : Nat} {u : Value} (hi : xs[i]? = some u) : cur[i]? = some u := by
 subst h
 rw [List.getElem?_take] at hi
 split at hi
 · simpa using hi
 · cases hi
theorem below_drewN' {B : Nat} {a w : World} (h : Below B a w) (n : Nat) : Below B a (w.drewN n) := ⟨h.os, h.tape, h.output, h.size, h.block⟩
end Go.Proofs.YtibpnjakimobmaaGreat
namespace Go.Proofs.YtibpnjakimobmaaGreat
open Go.RowKit
set_option linter.unusedVariables false
structure Only (S : Nat → Prop) (w w' : World) : Prop where
 os : w'.os = w.os
 tape : w'.tape = w.tape
 output : w'.output = w.output
 size : w.heap.size ≤ w'.heap.size
 block : ∀ k, k < w.heap.size → ¬ S k → w'.heap[k]? = w.heap[k]?
section
variable {S T : Nat → Prop} {a w w' : World}
theorem Only.refl (S : Nat → Prop) (w : World) : Only S w w := ⟨rfl, rfl, rfl, Nat.le_refl _, fun _ _ _ => rfl⟩
theorem Only.next (h : Only S a w) (k : Only T w w') (hs : ∀ j, T j → S j ∨ a.heap.size ≤ j) : Only S a w' :=
 ⟨k.os.trans h.os, k.tape.trans h.tape, k.output.trans h.output, Nat.le_trans h.size k.size, fun i hi hn =>
  (k.block i (Nat.lt_of_lt_of_le hi h.size) (fun ht => by
    rcases hs i ht with h1 | h1
    · exact hn h1
    · omega)).trans (h.block i hi hn)⟩
theorem Only.mono (h : Only S w w') (hs : ∀ j, S j → T j) : Only T w w' := ⟨h.os, h.tape, h.output, h.size, fun i hi hn => h.block i hi (fun e => hn (hs i e))⟩
theorem Only.drewN (h : Only S a w) (n : Nat) : Only S a (w.drewN n) := ⟨h.os, h.tape, h.output, h.size, h.block⟩
theorem Only.drew (h : Only S a w) : Only S a w.drew := ⟨h.os, h.tape, h.output, h.size, h.block⟩
theorem Only.alloc (h : Only S a w) (o : Obj) : Only S a (w.alloc o) :=
 ⟨h.os, h.tape, h.output, Nat.le_trans h.size (by simp), fun i hi hn => (Below.heap_alloc w o i (Nat.lt_of_lt_of_le hi h.size)).trans (h.block i hi hn)⟩
theorem Only.setCell (h : Only S a w) {p : Addr} (hp : S p.block ∨ a.heap.size ≤ p.block) (u : Value) : Only S a (w.setCell p u) :=
 ⟨h.os, h.tape, h.output, by simpa [World.setCell] using h.size, fun i hi hn => (Below.heap_setCell w p u i (by
  intro e
  subst e
  rcases hp with hp | hp
  · exact hn hp
  · omega)).trans (h.block i hi hn)⟩
theorem Only.grown {row : Option Nat} (h : Only S a w) (hg : w.grownBy w' row) (hr : ∀ k, row = some k → S k ∨ a.heap.size ≤ k) : Only S a w' :=
 h.next (T := fun k => row = some k) ⟨hg.os, hg.tape, hg.output, hg.size, fun i hi hn => hg.block i hi (fun e => hn e.symm)⟩ (fun j e => hr j e)
theorem Only.under (h : Only S a w) (hb : Below w.heap.size w w') : Only S a w' :=
 h.next (T := fun _ => False) ⟨hb.os, hb.tape, hb.output, hb.size, fun i hi _ => hb.block i hi⟩ (fun _ e => e.elim)
theorem Only.below {B : Nat} (h : Only S w w') (hs : ∀ k, S k → B ≤ k) (hB : B ≤ w.heap.size) : Below B w w' :=
 ⟨h.os, h.tape, h.output, h.size, fun k hk => h.block k (by omega) (fun e => by have := hs k e; omega)⟩
theorem Only.same (h : Only S w w') {o : Obj} {k : Nat} (hk : w.heap[k]? = some o) (hn : ¬ S k) : w'.heap[k]? = some o := (h.block k (Array.getElem?_eq_some_iff.1 hk).1 hn).trans hk
theorem Whole.only {g : Nat} {t : TypeId} {cs : Array Value} (h : Whole w g t cs) (k : Only S w w') (hn : ¬ S g) : Whole w' g t cs := k.same h hn
end
section
variable {w w' : World} {g : Nat} {t : TypeId}
theorem Whole.row {old : Array Value} (h : Whole w g t old) (cs : Array Value) : Whole (w.setRow g cs) g t cs := setRow_heap w g old cs t (0, 0) h
theorem Whole.farRow {cs : Array Value} (h : Whole w g t cs) {g' : Nat} (hne : g ≠ g') (cs' : Array Value) : Whole (w.setRow g' cs') g t cs := (setRow_other w g' g cs' hne).trans h
theorem below_row {B : Nat} {a w : World} (h : Below B a w) {g : Nat} (hg : B ≤ g) (cs : Array Value) : Below B a (w.setRow g cs) := below_setRow h hg cs
theorem Whole.new2 (w : World) (o : Obj) (t : TypeId) (cs : Array Value) : Whole ((w.alloc o).alloc (.cells cs t)) (w.heap.size + 1) t cs := by
 have := Whole.new (w.alloc o) t cs
 rw [World.size_alloc] at this
 exact this
end
theorem two_new {w : World} (t t' : TypeId) (cs cs' : Array Value) : Below w.heap.size w ((w.alloc (.cells cs t)).alloc (.cells cs' t')) := ((Below.refl _ w).alloc (Nat.le_refl _) _).alloc (by simp) _
section
variable {ops : Array Oper} {rest : List Oper} {o : Oper} {a : Act} {w : World} {Q : Exit → Act → World → Prop} {g : Nat} {t ty : TypeId} {cs : Array Value} {n : Nat}
theorem wpList_store_whole {old : Array Value} (hgd : o.guard = none) (ty : TypeId) (x y : Operand) (ho : o.op = .store ty x y) (hx : a.eval x = .pointer (some ⟨g, 0, none⟩)) (hy : a.eval y = .agg cs) (hg : Whole w g t old)
 (hi : (Tryz.prog.info? ty).map (·.size) = some n) (hn : cs.size = n) (hold : old.size = n) (h1 : cs.all (·.oneCell') = true)
 (h : wpList Tryz.prog ops Q rest (a.put o.dst undef) (w.setRow g cs)) : wpList Tryz.prog ops Q (o :: rest) a w :=
 wpList_store_row hgd ty x y ho g cs hx hy t old hg (by rw [hi, hn]) (by rw [hn, hold]) h1 h
end
theorem wp_store_whole {o : Oper} {a : Act} {w : World} {K : Act → World → Prop} {Q : Exit → Act → World → Prop} {g n : Nat} {t : TypeId} {cs old : Array Value} (ty : TypeId) (x y : Operand) (ho : o.op = .store ty x y) (hx : a.eval x = .pointer (some ⟨g, 0, none⟩)) (hy : a.eval y = .agg cs) (hg : Whole w g t old)
 (hi : (Tryz.prog.info? ty).map (·.size) = some n) (hn : cs.size = n) (hold : old.size = n) (h1 : cs.all (·.oneCell') = true)
 (h : K (a.put o.dst undef) (w.setRow g cs)) : o.wp Tryz.prog a w K Q :=
 wp_store_row ty x y ho g cs hx hy t old hg (by rw [hi, hn]) (by rw [hn, hold]) h1 h
theorem step_store_whole {ops : Array Oper} {o : Oper} {a : Act} {w : World} {K : Act → World → Prop} {Q : Exit → Act → World → Prop} {E : Prop} {g n : Nat} {t : TypeId} {cs old : Array Value} (hgd : o.guard = none) (ty : TypeId) (x y : Operand) (ho : o.op = .store ty x y) (hx : a.eval x = .pointer (some ⟨g, 0, none⟩)) (hy : a.eval y = .agg cs) (hg : Whole w g t old)
 (hi : (Tryz.prog.info? ty).map (·.size) = some n) (hn : cs.size = n) (hold : old.size = n) (h1 : cs.all (·.oneCell') = true)
 (h : K (a.put o.dst undef) (w.setRow g cs)) : if Region.wanted o (yielded ops a.tmps) = true then Oper.wp Tryz.prog o a w K Q else E := by
 have hw : Region.wanted o (yielded ops a.tmps) = true := by simp [Region.wanted, hgd]
 rw [if_pos hw]
 exact wp_store_whole ty x y ho hx hy hg hi hn hold h1 h
theorem all_list {cs : Array Value} (h : cs.toList.all (·.oneCell') = true) : cs.all (·.oneCell') = true := by rw [← Array.all_toList]; exact h
theorem wpList_storeS {ops : Array Oper} {rest : List Oper} {o : Oper} {a : Act} {w : World} {Q : Exit → Act → World → Prop} {g : Nat} {t : TypeId} {old : Array Value} (cs : Array Value) (hgd : o.guard = none) (ty : TypeId) (x y : Operand) (ho : o.op = .store ty x y) (hx : a.eval x = .pointer (some ⟨g, 0, none⟩)) (hy : a.eval y = .agg cs) (hg : Whole w g t old)
 {n : Nat} (hi : (Tryz.prog.info? ty).map (·.size) = some n) (hn : cs.size = n) (hold : old.size = n) (h1 : cs.toList.all (·.oneCell') = true)
 (h : wpList Tryz.prog ops Q rest (a.put o.dst undef) (w.setRow g cs)) : wpList Tryz.prog ops Q (o :: rest) a w :=
 wpList_store_whole hgd ty x y ho hx hy hg hi hn hold (all_list h1) h
theorem Whole.rangeA {w : World} {g : Nat} {t : TypeId} {cs : Array Value} (h : Whole w g t cs) : w.rangeAt g 0 cs.toList := fun j v hv => by
 rw [Nat.zero_add, h.cell]
 simpa using hv
theorem wpList_load_all {ops : Array Oper} {rest : List Oper} {o : Oper} {a : Act} {w : World} {Q : Exit → Act → World → Prop} (hgd : o.guard = none) (ty : TypeId) (x : Operand) (ho : o.op = .load ty x) {g : Nat} {t : TypeId} {cs : Array Value} (hg : Whole w g t cs)
 (hx : a.eval x = .pointer (some ⟨g, 0, none⟩)) {n : Nat} (hi : (Tryz.prog.info? ty).map (·.size) = some n) (hn : cs.size = n) {d : TypeDesc} (hu : Tryz.prog.underlying ty = some d) (hd : d.isRow = true)
 (h : wpList Tryz.prog ops Q rest (a.put o.dst (.agg cs)) w) : wpList Tryz.prog ops Q (o :: rest) a w := by
 have e : cs.toList.toArray = cs := by simp
 refine wpList_load_mid hgd ty x ho g 0 hx cs.toList d hg.rangeA hu hd (by rw [hi, ← hn]; simp) ?_
 rw [e]
 exact h
theorem wpList_load_allG {ops : Array Oper} {rest : List Oper} {o : Oper} {a : Act} {w : World} {Q : Exit → Act → World → Prop} (hw : Region.wanted o (yielded ops a.tmps) = true) (ty : TypeId) (x : Operand) (ho : o.op = .load ty x) {g : Nat} {t : TypeId} {cs : Array Value} (hg : Whole w g t cs)
 (hx : a.eval x = .pointer (some ⟨g, 0, none⟩)) {n : Nat} (hi : (Tryz.prog.info? ty).map (·.size) = some n) (hn : cs.size = n) {d : TypeDesc} (hu : Tryz.prog.underlying ty = some d) (hd : d.isRow = true)
 (h : wpList Tryz.prog ops Q rest (a.put o.dst (.agg cs)) w) : wpList Tryz.prog ops Q (o :: rest) a w := by
 have e : cs.toList.toArray = cs := by simp
 refine wpList_step fun K hK => by
  rw [if_pos hw]
  refine wp_load_mid ty x ho g 0 hx cs.toList d hg.rangeA hu hd (by rw [hi, ← hn]; simp) (hK _ _ ?_)
  rw [e]
  exact h
theorem ret_struct {fn : Func} {p : Tmp} {ty t : TypeId} {cs : Array Value} {n g : Nat} {tmps : Array Value} {w : World} (h : fn.results = #[.cell p ty]) (hp : tmps.getD p undef = .pointer (some ⟨g, 0, none⟩)) (hg : Whole w g t cs)
 {d : TypeDesc} (hu : Tryz.prog.underlying ty = some d) (hd : d.isRow = true) (hi : (Tryz.prog.info? ty).map (·.size) = some n) (hn : cs.size = n) : (results fn tmps).run Tryz.prog w = .ok (.agg cs) w :=
 results_cell_row h tmps w g t cs (0, 0) d hp hg hu (by cases d <;> simp_all [TypeDesc.isRow]) (by rw [hi, hn])
theorem ret_struct2 {fn : Func} {p s : Tmp} {ty t : TypeId} {cs : Array Value} {n g : Nat} {tmps : Array Value} {w : World} (h : fn.results = #[.cell p ty, .tmp s]) (hp : tmps.getD p undef = .pointer (some ⟨g, 0, none⟩)) (hg : Whole w g t cs)
 {d : TypeDesc} (hu : Tryz.prog.underlying ty = some d) (hd : d.isRow = true) (hi : (Tryz.prog.info? ty).map (·.size) = some n) (hn : cs.size = n) : (results fn tmps).run Tryz.prog w = .ok (.tuple #[.agg cs, tmps.getD s undef]) w := by
 have hp' : tmps[p]?.getD undef = .pointer (some ⟨g, 0, none⟩) := by simpa using hp
 have hl : (loadVar ty ⟨g, 0, none⟩).run Tryz.prog w = .ok (.agg cs) w := run_loadVar_row (P := Tryz.prog) w g t ty cs (0, 0) d hg hu (by cases d <;> simp_all [TypeDesc.isRow]) (by rw [hi, hn])
 simp [results, h, hp', asAddr, hl]
theorem step_of {ops : Array Oper} {o : Oper} {a : Act} {w : World} {K : Act → World → Prop} {Q : Exit → Act → World → Prop} {E : Prop} (hgd : o.guard = none) (h : o.wp Tryz.prog a w K Q) : if Region.wanted o (yielded ops a.tmps) = true then Oper.wp Tryz.prog o a w K Q else E := by
 have hw : Region.wanted o (yielded ops a.tmps) = true := by simp [Region.wanted, hgd]
 rw [if_pos hw]
 exact h
def TillOne (S0 S1 : World → Prop) (q : Nat) (L : Array Bool) (w : World) : Prop := S0 w ∧ (L.getD q true = false → S1 w)
theorem TillOne.set {S0 S1 : World → Prop} {q i : Nat} (h : i ≠ q) (L : Array Bool) (w : World) : TillOne S0 S1 q (L.setIfInBounds i true) w ↔ TillOne S0 S1 q L w := by
 unfold TillOne
 rw [getD_set_ne true h]
theorem TillOne.get {S0 S1 : World → Prop} {q : Nat} {w : World} (h : Ahead (TillOne S0 S1 q) q w) : S0 w ∧ S1 w := by
 obtain ⟨L, hL, h⟩ := h
 exact ⟨h.1, h.2 hL⟩
theorem TillOne.mk {S0 S1 : World → Prop} {q : Nat} {L : Array Bool} {w : World} (h0 : S0 w) (h1 : S1 w) : TillOne S0 S1 q L w := ⟨h0, fun _ => h1⟩
theorem TillOne.past {S0 S1 : World → Prop} {q : Nat} {L : Array Bool} {w : World} (h0 : S0 w) (h1 : L.getD q true = true) : TillOne S0 S1 q L w := ⟨h0, fun e => by rw [h1] at e; cases e⟩
theorem add_block (a : Addr) (n : Nat) : (a.add n).block = a.block := by unfold Addr.add; split <;> rfl
def Rows {α : Type} (w : World) (B : Nat) (sz : Nat) (R : (Nat → Option Value) → α → Prop) (v : Value) (L : List α) : Prop :=
 ∃ A c, v = .slice A L.length c ∧ L.length ≤ c ∧ c ≤ maxLen ∧ (A = none → c = 0) ∧
   (0 < L.length → ∃ ad, A = some ad ∧ ad.block < B ∧ ∀ i x, L[i]? = some x → R (fun j => w.cell? (ad.add (i * sz + j))) x)
section
variable {α : Type} {w w' : World} {B : Nat} {sz : Nat} {R R' : (Nat → Option Value) → α → Prop} {v : Value} {L : List α}
theorem Rows.nil (w : World) (B sz : Nat) (R : (Nat → Option Value) → α → Prop) : Rows w B sz R (.slice none 0 0) [] := ⟨none, 0, rfl, Nat.le_refl _, Nat.zero_le _, fun _ => rfl, fun h => by simp at h⟩
theorem Rows.one (h : Rows w B sz R v L) : v.oneCell' = true := by
 obtain ⟨A, c, rfl, _⟩ := h
 rfl
theorem Rows.more {B' : Nat} (h : Rows w B sz R v L) (hB : B ≤ B') : Rows w B' sz R v L := by
 obtain ⟨A, c, h1, h2, h3, h4, h5⟩ := h
 refine ⟨A, c, h1, h2, h3, h4, fun hn => ?_⟩
 obtain ⟨ad, e1, e2, e3⟩ := h5 hn
 exact ⟨ad, e1, by omega, e3⟩
theorem Rows.mono (h : Rows w B sz R v L) (hR : ∀ f x, x ∈ L → R f x → R' f x) : Rows w B sz R' v L := by
 obtain ⟨A, c, h1, h2, h3, h4, h5⟩ := h
 refine ⟨A, c, h1, h2, h3, h4, fun hn => ?_⟩
 obtain ⟨ad, e1, e2, e3⟩ := h5 hn
 exact ⟨ad, e1, e2, fun i x hx => hR _ x (List.mem_of_getElem? hx) (e3 i x hx)⟩
theorem Rows.below (h : Rows w B sz R v L) (hb : Below B w w') (hR : ∀ f x, x ∈ L → R f x → R' f x) : Rows w' B sz R' v L := by
 obtain ⟨A, c, h1, h2, h3, h4, h5⟩ := h
 refine ⟨A, c, h1, h2, h3, h4, fun hn => ?_⟩
 obtain ⟨ad, e1, e2, e3⟩ := h5 hn
 refine ⟨ad, e1, e2, fun i x hx => hR _ x (List.mem_of_getElem? hx) ?_⟩
 have e : (fun j => w'.cell? (ad.add (i * sz + j))) = fun j => w.cell? (ad.add (i * sz + j)) := by
  funext j
  exact hb.cell (p := ad.add (i * sz + j)) (by rw [add_block]; exact e2)
 rw [e]
 exact e3 i x hx
theorem Rows.at_ (h : Rows w B sz R v L) {i : Nat} {x : α} (hx : L[i]? = some x) : ∃ ad c, v = .slice (some ad) L.length c ∧ ad.block < B ∧ L.length ≤ c ∧ c ≤ maxLen ∧ R (fun j => w.cell? (ad.add (i * sz + j))) x := by
 obtain ⟨A, c, h1, h2, h3, h4, h5⟩ := h
 have hi : i < L.length := (List.getElem?_eq_some_iff.1 hx).1
 obtain ⟨ad, rfl, e2, e3⟩ := h5 (by omega)
 exact ⟨ad, c, h1, e2, h2, h3, e3 i x hx⟩
theorem Rows.form (h : Rows w B sz R v L) : ∃ A c, v = .slice A L.length c ∧ L.length ≤ c ∧ c ≤ maxLen ∧ (A = none → c = 0) := by
 obtain ⟨A, c, h1, h2, h3, h4, _⟩ := h
 exact ⟨A, c, h1, h2, h3, h4⟩
end
theorem add_next (a : Addr) (n k : Nat) (hk : k ≠ 0) : a.add (n + k) = ⟨(a.add n).block, (a.add n).off + k, none⟩ := by
 unfold Addr.add
 rw [if_neg (by omega)]
 split
 · next h => subst h; simp
 · simp [Nat.add_assoc]
def Own (w : World) (base : Nat) (e : TypeId) (sz : Nat) (v : Value) (rs : List (List Value)) : Prop := w.ownsRow base e sz v rs.length rs.flatten ∧ ∀ r ∈ rs, r.length = sz
section
variable {w w' : World} {base : Nat} {e : TypeId} {sz : Nat} {v : Value} {rs : List (List Value)}
theorem flatten_at {sz : Nat} : ∀ {rs : List (List Value)} (_ : ∀ r ∈ rs, r.length = sz) {i j : Nat} {r : List Value}, rs[i]? = some r → j < sz → rs.flatten[i * sz + j]? = r[j]?
 | [], _, i, j, r, h, _ => by simp at h
 | q :: rs, hl, i, j, r, h, hj => by
   have hq := hl q (by simp)
   cases i with
   | zero =>
     simp at h
     subst h
     rw [Nat.zero_mul, Nat.zero_add, List.flatten_cons, List.getElem?_append_left (by omega)]
   | succ i =>
     have := flatten_at (rs := rs) (fun r hr => hl r (by simp [hr])) (i := i) (j := j) (r := r) (by simpa using h) hj
     rw [List.flatten_cons, List.getElem?_append_right (by rw [hq, Nat.succ_mul]; omega), ← this, hq]
     congr 1
     rw [Nat.succ_mul]
     omega
theorem flatten_len {sz : Nat} : ∀ {rs : List (List Value)} (_ : ∀ r ∈ rs, r.length = sz), rs.flatten.length = rs.length * sz
 | [], _ => by simp
 | q :: rs, hl => by
   have := flatten_len (rs := rs) (fun r hr => hl r (by simp [hr]))
   rw [List.flatten_cons, List.length_append, this, hl q (by simp), List.length_cons, Nat.succ_mul]
   omega
theorem flatten_set {sz : Nat} : ∀ {rs : List (List Value)} (_ : ∀ r ∈ rs, r.length = sz) {i j : Nat} {r : List Value} (u : Value), rs[i]? = some r → j < sz → rs.flatten.set (i * sz + j) u = (rs.set i (r.set j u)).flatten
 | [], _, i, j, r, u, h, _ => by simp at h
 | q :: rs, hl, i, j, r, u, h, hj => by
   have hq := hl q (by simp)
   cases i with
   | zero =>
     simp at h
     subst h
     rw [Nat.zero_mul, Nat.zero_add, List.flatten_cons, List.set_cons_zero, List.flatten_cons, List.set_append_left _ _ (by omega)]
   | succ i =>
     have := flatten_set (rs := rs) (fun r hr => hl r (by simp [hr])) (i := i) (j := j) (r := r) u (by simpa using h) hj
     rw [List.flatten_cons, List.set_cons_succ, List.flatten_cons, ← this, List.set_append_right _ _ (by rw [hq, Nat.succ_mul]; omega), hq]
     congr 2
     rw [Nat.succ_mul]
     omega
theorem Own.nil (w : World) (base : Nat) (e : TypeId) (sz : Nat) : Own w base e sz (.slice none 0 0) [] := ⟨World.ownsRow_nil w base e sz, fun r hr => by cases hr⟩
theorem Own.keep (h : Own w base e sz v rs) (hk : ∀ g cs, v.ownBlock = some g → Whole w g e cs → Whole w' g e cs) : Own w' base e sz v rs := by
 refine ⟨⟨h.1.1, ?_⟩, h.2⟩
 rcases h.1.2 with h0 | ⟨g, cap, cur, h1, h2, h3, h4⟩
 · exact .inl h0
 · exact .inr ⟨g, cap, cur, h1, h2, hk g cur (by rw [h1]; rfl) h3, h4⟩
theorem Own.under (h : Own w base e sz v rs) (hb : Below w.heap.size w w') : Own w' base e sz v rs := h.keep fun g cs _ hg => hg.under hb
theorem Own.alloc (h : Own w base e sz v rs) (o : Obj) : Own (w.alloc o) base e sz v rs := h.keep fun g cs _ hg => hg.alloc o
theorem Own.drew (h : Own w base e sz v rs) : Own w.drew base e sz v rs := h
theorem Own.drewN (h : Own w base e sz v rs) (n : Nat) : Own (w.drewN n) base e sz v rs := h
theorem Own.far (h : Own w base e sz v rs) {p : Addr} (hp : v.ownBlock ≠ some p.block) (u : Value) : Own (w.setCell p u) base e sz v rs := h.keep fun g cs hg hw => hw.far (fun e => hp (by rw [hg, e])) u
theorem Own.farRow (h : Own w base e sz v rs) {g : Nat} (hp : v.ownBlock ≠ some g) (cs : Array Value) : Own (w.setRow g cs) base e sz v rs := h.keep fun g' cs' hg hw => hw.farRow (fun e => hp (by rw [hg, e])) cs
theorem Own.grown {row : Option Nat} (h : Own w base e sz v rs) (hg : w.grownBy w' row) (hne : v.ownBlock = none ∨ v.ownBlock ≠ row) : Own w' base e sz v rs := h.keep fun g cs hb hw => hw.grown hg (fun e => by
 rcases hne with hn | hn
 · rw [hn] at hb; cases hb
 · exact hn (hb.trans e))
theorem Own.lt (h : Own w base e sz v rs) {k : Nat} (hk : v.ownBlock = some k) : base ≤ k ∧ k < w.heap.size := World.ownsRow.lt h.1 k hk
theorem Own.base_le {b : Nat} (h : Own w base e sz v rs) (hb : b ≤ base) : Own w b e sz v rs := by
 refine ⟨⟨h.1.1, ?_⟩, h.2⟩
 rcases h.1.2 with h0 | ⟨g, cap, cur, h1, h2, h3, h4⟩
 · exact .inl h0
 · exact .inr ⟨g, cap, cur, h1, by omega, h3, h4⟩
theorem Own.whole (h : Own w base e sz v rs) {g : Nat} (hg : v.ownBlock = some g) : ∃ cs, Whole w g e cs := by
 rcases h.1.2 with ⟨rfl, _⟩ | ⟨g', cap, cur, rfl, _, h3, _⟩
 · cases hg
 · have : g' = g := by simpa [Value.ownBlock] using hg
   subst this
   exact ⟨cur, h3⟩
theorem Own.apart (h : Own w base e sz v rs) {g : Nat} {t : TypeId} {cs : Array Value} (hg : Whole w g t cs) (he : e ≠ t) : v.ownBlock ≠ some g := fun e2 => by
 obtain ⟨cs2, h2⟩ := h.whole e2
 exact (h2.ne hg he) rfl
theorem Own.apart2 {e' : TypeId} {sz' : Nat} {v' : Value} {rs' : List (List Value)} (h : Own w base e sz v rs) (h' : Own w base e' sz' v' rs') (he : e ≠ e') : v.ownBlock = none ∨ v.ownBlock ≠ v'.ownBlock := by
 cases hv : v.ownBlock with
 | none => exact .inl rfl
 | some g =>
   refine .inr fun e2 => ?_
   obtain ⟨cs, hc⟩ := h.whole hv
   exact h'.apart hc (Ne.symm he) e2.symm
theorem Own.form (h : Own w base e sz v rs) : ∃ A c, v = .slice A rs.length c ∧ rs.length ≤ c ∧ c ≤ maxLen ∧ (A = none → c = 0) := by
 rcases h.1.2 with ⟨rfl, h0⟩ | ⟨g, cap, cur, rfl, h2, h3, h4, h5, _⟩
 · exact ⟨none, 0, by rw [h0], by omega, Nat.zero_le _, fun _ => rfl⟩
 · exact ⟨_, cap, rfl, h4, h5, fun e => by cases e⟩
theorem Own.one (h : Own w base e sz v rs) : v.oneCell' = true := by
 obtain ⟨A, c, rfl, _⟩ := h.form
 rfl
theorem Own.at_ (h : Own w base e sz v rs) {i : Nat} {r : List Value} (hr : rs[i]? = some r) : ∃ g c, v = .slice (some ⟨g, 0, none⟩) rs.length c ∧ v.ownBlock = some g ∧ base ≤ g ∧ g < w.heap.size ∧ rs.length ≤ c ∧ c ≤ maxLen ∧
 (∀ j, j < sz → w.cell? ⟨g, i * sz + j, none⟩ = r[j]?) ∧ ∀ j, w.frozen? ⟨g, j, none⟩ = false := by
 have hi : i < rs.length := (List.getElem?_eq_some_iff.1 hr).1
 rcases h.1.2 with ⟨rfl, h0⟩ | ⟨g, cap, cur, rfl, h2, h3, h4, h5, h6, h7⟩
 · omega
 · have h3 : Whole w g e cur := h3
   refine ⟨g, cap, rfl, rfl, h2, h3.lt, h4, h5, fun j hj => ?_, fun j => h3.frz j⟩
   have hf := flatten_at h.2 hr hj
   have hjr : j < r.length := by rw [h.2 r (List.mem_of_getElem? hr)]; exact hj
   have hx := List.getElem?_eq_getElem hjr
   rw [hx] at hf ⊢
   rw [h3.cell]
   exact take_get h7 hf
theorem Own.put (h : Own w base e sz v rs) {g : Nat} (hg : v.ownBlock = some g) {i j : Nat} {r : List Value} (hr : rs[i]? = some r) (hj : j < sz) (u : Value) : Own (w.setCell ⟨g, i * sz + j, none⟩ u) base e sz v (rs.set i (r.set j u)) := by
 have hi : i < rs.length := (List.getElem?_eq_some_iff.1 hr).1
 have hlen : ∀ q ∈ rs.set i (r.set j u), q.length = sz := fun q hq => by
  rcases List.mem_or_eq_of_mem_set hq with hq | rfl
  · exact h.2 q hq
  · rw [List.length_set]; exact h.2 r (List.mem_of_getElem? hr)
 refine ⟨⟨by rw [flatten_len hlen], ?_⟩, hlen⟩
 rcases h.1.2 with ⟨rfl, h0⟩ | ⟨g', cap, cur, rfl, h2, h3, h4, h5, h6, h7⟩
 · cases hg
 · have : g' = g := by simpa [Value.ownBlock] using hg
   subst this
   have h3 : Whole w g' e cur := h3
   refine .inr ⟨g', cap, _, by rw [List.length_set], h2, h3.set _ u, by rw [List.length_set]; exact h4, h5, by simpa using h6, ?_⟩
   rw [List.length_set, ← flatten_set h.2 u hr hj, ← h7]
   have hlt : i * sz + j < rs.length * sz := by
    have := Nat.mul_le_mul_right sz hi
    rw [Nat.succ_mul] at this
    omega
   apply List.ext_getElem?
   intro k
   simp only [Array.toList_setIfInBounds]
   rw [List.getElem?_take, List.getElem?_set, List.getElem?_set, List.getElem?_take]
   by_cases hk : k < rs.length * sz
   · simp [hk]
     by_cases he : i * sz + j = k
     · subst he
       have h6' : rs.length * sz ≤ cur.size := by rw [h6]; exact Nat.mul_le_mul_right sz h4
       have hs : i * sz + j < cur.size := by omega
       have hm : i * sz + j < min (rs.length * sz) cur.size := by omega
       simp [hs, hm]
     · simp [he]
   · simp [hk]
     intro he
     omega
theorem Own.rows {α : Type} {R : (Nat → Option Value) → α → Prop} {L : List α} (h : Own w base e sz v rs) {B : Nat} (hB : w.heap.size ≤ B) (hl : L.length = rs.length)
 (hR : ∀ (i : Nat) (r : List Value) (x : α) (f : Nat → Option Value), rs[i]? = some r → L[i]? = some x → (∀ j, j < sz → f j = r[j]?) → R f x) : Rows w B sz R v L := by
 obtain ⟨A, c, hv, h1, h2, h3⟩ := h.form
 refine ⟨A, c, by rw [hl]; exact hv, by omega, h2, h3, fun hn => ?_⟩
 have h0 : ∃ r0, rs[0]? = some r0 := ⟨_, List.getElem?_eq_getElem (by omega)⟩
 obtain ⟨r0, hr0⟩ := h0
 obtain ⟨g, c', hv', hg, _, hlt, _⟩ := h.at_ hr0
 rw [hv'] at hv
 injection hv with e1 e2 e3
 subst e1
 refine ⟨_, rfl, Nat.lt_of_lt_of_le hlt hB, fun i x hx => ?_⟩
 have hi : i < rs.length := by rw [← hl]; exact (List.getElem?_eq_some_iff.1 hx).1
 obtain ⟨g2, c2, hv2, hg2, _, _, _, _, hc, _⟩ := h.at_ (i := i) (r := rs[i]) (List.getElem?_eq_getElem hi)
 have : g2 = g := by rw [hg] at hg2; exact (Option.some.inj hg2).symm
 subst this
 refine hR i rs[i] x _ (List.getElem?_eq_getElem hi) hx fun j hj => ?_
 rw [Addr.add_lit, Nat.zero_add]
 exact hc j hj
theorem run_appendE {T : TypeId} {z : Value} {by_ : Nat} (ty : TypeId) (hT : Tryz.prog.underlying T = some (.slice e)) (hi : (Tryz.prog.info? e).map (fun i => (i.zero, i.size, i.bytes)) = some (some z, sz, by_)) (hz : z.cells.size = sz) (hsz : 0 < sz) (hown : Own w base e sz v rs) {g c : Nat} {r : List Value}
 (hg : Whole w g e r.toArray) (hrl : r.length = sz) (hu : ∀ u ∈ r, u.oneCell' = true) (h63 : (rs.length + 1) * by_ ≤ 140737488355328) (h64 : rs.length + 1 ≤ 140737488355328) (hbase : base ≤ w.heap.size) :
 ∃ v' w', (Builtin.append_ #[T, T] ty #[v, .slice (some ⟨g, 0, none⟩) 1 c]).run Tryz.prog w = .ok v' w' ∧ Own w' base e sz v' (rs ++ [r]) ∧ w.grownBy w' v.ownBlock ∧ (v'.ownBlock = v.ownBlock ∨ v'.ownBlock = some w.heap.size) := by
 obtain ⟨i0, hi0, hz0, hz1, hz2⟩ := info_parts hi
 obtain ⟨v', w', hrun, h2, h3, _, h5⟩ := run_append_own_at (P := Tryz.prog) w base T ty e i0 z sz by_ hT hi0 hz0 hz1 hz2 hz (by omega) v rs.length rs.flatten hown.1 ⟨g, 0, none⟩ 1 c r (by rw [hrl, Nat.one_mul])
  (fun j y hj => by
    rw [Addr.add_lit, Nat.zero_add, hg.cell]
    simpa using hj) hu (by unfold maxLen; omega) h63 hbase
 refine ⟨v', w', hrun, ⟨?_, fun q hq => ?_⟩, h3, h5⟩
 · rw [List.flatten_append, List.length_append]
   simpa using h2
 · rw [List.mem_append, List.mem_singleton] at hq
   rcases hq with hq | rfl
   · exact hown.2 q hq
   · exact hrl
theorem wp_appendE {o : Oper} {a : Act} {K : Act → World → Prop} {Q : Exit → Act → World → Prop} {T : TypeId} {z : Value} {by_ : Nat} (s y : Operand) (ho : o.op = .call { callee := .builtin .append, args := #[s, y], argTypes := #[T, T] })
 (hT : Tryz.prog.underlying T = some (.slice e)) (hi : (Tryz.prog.info? e).map (fun i => (i.zero, i.size, i.bytes)) = some (some z, sz, by_)) (hz : z.cells.size = sz) (hsz : 0 < sz) (hs : a.eval s = v) (hown : Own w base e sz v rs) {g c : Nat} (hy : a.eval y = .slice (some ⟨g, 0, none⟩) 1 c) {r : List Value}
 (hg : Whole w g e r.toArray) (hrl : r.length = sz) (hu : ∀ u ∈ r, u.oneCell' = true) (h63 : (rs.length + 1) * by_ ≤ 140737488355328) (h64 : rs.length + 1 ≤ 140737488355328) (hbase : base ≤ w.heap.size)
 (h : ∀ v' w', Own w' base e sz v' (rs ++ [r]) → w.grownBy w' v.ownBlock → (v'.ownBlock = v.ownBlock ∨ v'.ownBlock = some w.heap.size) → K (a.put o.dst v') w') : o.wp Tryz.prog a w K Q := by
 obtain ⟨v', w', hrun, h2, h3, h4⟩ := run_appendE o.type hT hi hz hsz hown (c := c) hg hrl hu h63 h64 hbase
 unfold Oper.wp execOp
 simp only [ho, resolve, invoke, builtin, Sem.run_bind, Sem.run_pure, Result.andThen_ok, List.map_toArray, List.map_cons, List.map_nil, hs, hy, hrun]
 exact h v' w' h2 h3 h4
theorem wpList_appendE {ops : Array Oper} {rest : List Oper} {o : Oper} {a : Act} {Q : Exit → Act → World → Prop} (hgd : o.guard = none) {T : TypeId} {z : Value} {by_ : Nat} (s y : Operand) (ho : o.op = .call { callee := .builtin .append, args := #[s, y], argTypes := #[T, T] })
 (hT : Tryz.prog.underlying T = some (.slice e)) (hi : (Tryz.prog.info? e).map (fun i => (i.zero, i.size, i.bytes)) = some (some z, sz, by_)) (hz : z.cells.size = sz) (hsz : 0 < sz) (hs : a.eval s = v) (hown : Own w base e sz v rs) {g c : Nat} (hy : a.eval y = .slice (some ⟨g, 0, none⟩) 1 c) {r : List Value}
 (hg : Whole w g e r.toArray) (hrl : r.length = sz) (hu : ∀ u ∈ r, u.oneCell' = true) (h63 : (rs.length + 1) * by_ ≤ 140737488355328) (h64 : rs.length + 1 ≤ 140737488355328) (hbase : base ≤ w.heap.size)
 (h : ∀ v' w', Own w' base e sz v' (rs ++ [r]) → w.grownBy w' v.ownBlock → (v'.ownBlock = v.ownBlock ∨ v'.ownBlock = some w.heap.size) → wpList Tryz.prog ops Q rest (a.put o.dst v') w') : wpList Tryz.prog ops Q (o :: rest) a w :=
 wpList_plain hgd fun _ hK => wp_appendE s y ho hT hi hz hsz hs hown hy hg hrl hu h63 h64 hbase fun v' w' h2 h3 h4 => hK _ _ (h v' w' h2 h3 h4)
end
end Go.Proofs.YtibpnjakimobmaaGreat
namespace Go.Proofs.YtibpnjakimobmaaGreat
set_option linter.unusedVariables false
abbrev Tx := List UInt8
def tx (s : ByteArray) : Tx := s.data.toList
def bs (l : Tx) : ByteArray := ⟨l.toArray⟩
@[simp] theorem tx_bs (l : Tx) : tx (bs l) = l := by simp [tx, bs]
@[simp] theorem bs_tx (s : ByteArray) : bs (tx s) = s := Lib.mk_data s
theorem tx_length (s : ByteArray) : (tx s).length = s.size := (Lib.size_eq s).symm
theorem tx_inj {s t : ByteArray} (h : tx s = tx t) : s = t := by rw [← bs_tx s, ← bs_tx t, h]
theorem toList_tx (s : ByteArray) : s.toList = tx s := Lib.toList_data s
def cutS (sep : Tx) : Tx → Tx × Tx × Bool
 | [] => if sep.isEmpty then ([], [], true) else ([], [], false)
 | c :: r => if sep.isPrefixOf (c :: r) then ([], (c :: r).drop sep.length, true) else (c :: (cutS sep r).1, (cutS sep r).2.1, (cutS sep r).2.2)
theorem cutS_clean {c0 : UInt8} {t : Tx} (a b : Tx) (h : ∀ c ∈ a, c ≠ c0) : cutS (c0 :: t) (a ++ (c0 :: t) ++ b) = (a, b, true) := by
 induction a with
 | nil =>
   simp only [List.nil_append, List.cons_append]
   unfold cutS
   rw [if_pos (by simp)]
   simp
 | cons c r ih =>
   have hc := h c (by simp)
   have := ih (fun d hd => h d (by simp [hd]))
   simp only [List.cons_append] at this ⊢
   unfold cutS
   rw [if_neg (by simp [List.isPrefixOf, Ne.symm hc]), this]
theorem cutS_free {c0 : UInt8} {t : Tx} (a : Tx) (h : ∀ c ∈ a, c ≠ c0) : cutS (c0 :: t) a = (a, [], false) := by
 induction a with
 | nil => rfl
 | cons c r ih =>
   have hc := h c (by simp)
   have := ih (fun d hd => h d (by simp [hd]))
   unfold cutS
   rw [if_neg (by simp [List.isPrefixOf, Ne.symm hc]), this]
end Go.Proofs.YtibpnjakimobmaaGreat
namespace Go.Proofs.YtibpnjakimobmaaGreat
set_option linter.unusedVariables false
set_option linter.unusedSimpArgs false
structure AttrS where
 name : ByteArray
 value : ByteArray
structure PartS where
 line : ByteArray
 conn : ByteArray
 attrs : List AttrS
structure SesS where
 origin : ByteArray
 name : ByteArray
 time : ByteArray
 attrs : List AttrS
 parts : List PartS
instance : Inhabited ByteArray := ⟨ByteArray.empty⟩
instance : Inhabited AttrS := ⟨⟨bs [], bs []⟩⟩
instance : Inhabited PartS := ⟨⟨bs [], bs [], []⟩⟩
def inVal (c : UInt8) : Bool := decide (32 ≤ c.toNat) && decide (c.toNat ≤ 126)
def inWd (c : UInt8) : Bool := (decide (97 ≤ c.toNat) && decide (c.toNat ≤ 122)) || (decide (65 ≤ c.toNat) && decide (c.toNat ≤ 90)) || (decide (48 ≤ c.toNat) && decide (c.toNat ≤ 57)) || c == 45 || c == 95
def valP (l : Tx) : Bool := l.all inVal && (decide (1 ≤ l.length) && decide (l.length ≤ 200))
def wordP (lo hi : Nat) (l : Tx) : Bool := l.all inWd && (decide (lo ≤ l.length) && decide (l.length ≤ hi))
def maybeP (l : Tx) : Bool := l.isEmpty || valP l
theorem valP_in {l : Tx} (h : valP l = true) : ∀ c ∈ l, inVal c = true := by
 unfold valP at h
 rw [Bool.and_eq_true, List.all_eq_true] at h
 exact h.1
theorem valP_len {l : Tx} (h : valP l = true) : 1 ≤ l.length ∧ l.length ≤ 200 := by
 unfold valP at h
 simp only [Bool.and_eq_true, decide_eq_true_eq] at h
 exact h.2
theorem wordP_in {lo hi : Nat} {l : Tx} (h : wordP lo hi l = true) : ∀ c ∈ l, inWd c = true := by
 unfold wordP at h
 rw [Bool.and_eq_true, List.all_eq_true] at h
 exact h.1
theorem inWd_not {c : UInt8} (h : inWd c = true) : c ≠ 13 ∧ c ≠ 58 ∧ c ≠ 32 := by
 unfold inWd at h
 refine ⟨?_, ?_, ?_⟩ <;> (intro e; subst e; simp at h)
def attrP (l : Tx) : Option AttrS :=
 if wordP 1 32 (cutS [58] l).1 && (!(cutS [58] l).2.2 || valP (cutS [58] l).2.1) then some ⟨bs (cutS [58] l).1, bs (cutS [58] l).2.1⟩ else none
structure PSt where
 o : ByteArray
 n : ByteArray
 t : ByteArray
 attrs : List AttrS
 done : List PartS
 cur : Option PartS
def PSt.init : PSt := ⟨bs [], bs [], bs [], [], [], none⟩
def PSt.parts (st : PSt) : List PartS := st.done ++ st.cur.toList
def PSt.ses (st : PSt) : SesS := ⟨st.o, st.n, st.t, st.attrs, st.parts⟩
def PSt.here (st : PSt) : List AttrS := match st.cur with
 | none => st.attrs
 | some p => p.attrs
def PSt.push (st : PSt) (a : AttrS) : PSt := match st.cur with
 | none => { st with attrs := st.attrs ++ [a] }
 | some p => { st with cur := some { p with attrs := p.attrs ++ [a] } }
def PSt.part (st : PSt) (v : Tx) : PSt := { st with done := st.done ++ st.cur.toList, cur := some ⟨bs v, bs [], []⟩ }
def PSt.conn (st : PSt) (v : Tx) : PSt := match st.cur with
 | none => st
 | some p => { st with cur := some { p with conn := bs v } }
def PSt.bare (st : PSt) : Bool := match st.cur with
 | none => false
 | some p => (tx p.conn).isEmpty && p.attrs.isEmpty
inductive Out where
 | go (st : PSt)
 | bad (e : Int)
def bodyP (st : PSt) (l : Tx) : Out :=
 if l.take 2 = [109, 61] then
  if valP (l.drop 2) then (if 8 ≤ st.parts.length then .bad 3 else .go (st.part (l.drop 2))) else .bad 2
 else if l.take 2 = [99, 61] then
  if valP (l.drop 2) && st.bare then .go (st.conn (l.drop 2)) else .bad 2
 else if l.take 2 = [97, 61] then
  match attrP (l.drop 2) with
  | none => .bad 2
  | some a => if 64 ≤ st.here.length then .bad 3 else .go (st.push a)
 else .bad 2
def stepP (st : PSt) (k : Nat) (l : Tx) : Out :=
 if k = 1 then (if l.take 2 = [118, 61] ∧ l.drop 2 = [48] then .go st else .bad 2)
 else if k = 2 then (if l.take 2 = [111, 61] ∧ valP (l.drop 2) = true then .go { st with o := bs (l.drop 2) } else .bad 2)
 else if k = 3 then (if l.take 2 = [115, 61] ∧ valP (l.drop 2) = true then .go { st with n := bs (l.drop 2) } else .bad 2)
 else if k = 4 then (if l.take 2 = [116, 61] ∧ valP (l.drop 2) = true then .go { st with t := bs (l.drop 2) } else .bad 2)
 else bodyP st l
inductive Res where
 | ok (x : SesS)
 | err (k : Nat) (e : Int)
abbrev crlf : Tx := [13, 10]
inductive Runs : PSt → Nat → Tx → Res → Prop
 | done {st : PSt} {k : Nat} (h : 4 < k) : Runs st k [] (.ok st.ses)
 | torn {st : PSt} {k : Nat} {l : Tx} (h : ¬ (4 < k ∧ l = [])) (hc : (cutS crlf l).2.2 = false) : Runs st k l (.err k 2)
 | bad {st : PSt} {k : Nat} {l a b : Tx} {e : Int} (hc : cutS crlf l = (a, b, true)) (hs : stepP st k a = .bad e) : Runs st k l (.err k e)
 | step {st st' : PSt} {k : Nat} {l a b : Tx} {r : Res} (hc : cutS crlf l = (a, b, true)) (hs : stepP st k a = .go st') (hr : Runs st' (k + 1) b r) : Runs st k l r
def Parsed (l : Tx) (r : Res) : Prop := (8192 < l.length ∧ r = .err 0 3) ∨ (l.length ≤ 8192 ∧ Runs PSt.init 1 l r)
theorem Runs.one {st : PSt} {k : Nat} {l : Tx} {r r' : Res} (h : Runs st k l r) (h' : Runs st k l r') : r = r' := by
 induction h with
 | done h =>
   cases h' with
   | done _ => rfl
   | torn h1 _ => exact (h1 ⟨h, rfl⟩).elim
   | bad hc _ => simp [cutS] at hc
   | step hc _ _ => simp [cutS] at hc
 | torn h hc =>
   cases h' with
   | done h1 => exact (h ⟨h1, rfl⟩).elim
   | torn _ _ => rfl
   | bad hc' _ => rw [hc'] at hc; cases hc
   | step hc' _ _ => rw [hc'] at hc; cases hc
 | bad hc hs =>
   cases h' with
   | done _ => simp [cutS] at hc
   | torn _ hc' => rw [hc] at hc'; cases hc'
   | bad hc' hs' =>
     rw [hc] at hc'
     cases hc'
     rw [hs] at hs'
     cases hs'
     rfl
   | step hc' hs' _ =>
     rw [hc] at hc'
     cases hc'
     rw [hs] at hs'
     cases hs'
 | step hc hs hr ih =>
   cases h' with
   | done _ => simp [cutS] at hc
   | torn _ hc' => rw [hc] at hc'; cases hc'
   | bad hc' hs' =>
     rw [hc] at hc'
     cases hc'
     rw [hs] at hs'
     cases hs'
   | step hc' hs' hr' =>
     rw [hc] at hc'
     cases hc'
     rw [hs] at hs'
     cases hs'
     exact ih hr'
theorem Parsed.one {l : Tx} {r r' : Res} (h : Parsed l r) (h' : Parsed l r') : r = r' := by
 rcases h with ⟨h, rfl⟩ | ⟨h, hr⟩
 · rcases h' with ⟨_, rfl⟩ | ⟨h1, _⟩
   · rfl
   · omega
 · rcases h' with ⟨h1, _⟩ | ⟨_, hr'⟩
   · omega
   · exact hr.one hr'
def okAt (a : AttrS) : Bool := wordP 1 32 (tx a.name) && maybeP (tx a.value)
def okA (L : List AttrS) : Bool := decide (L.length ≤ 64) && L.all okAt
def okP (p : PartS) : Bool := valP (tx p.line) && maybeP (tx p.conn) && okA p.attrs
structure PSt.Ok (st : PSt) (k : Nat) : Prop where
 o : 2 < k → valP (tx st.o) = true
 n : 3 < k → valP (tx st.n) = true
 t : 4 < k → valP (tx st.t) = true
 attrs : okA st.attrs = true
 parts : st.parts.length ≤ 8
 each : ∀ p ∈ st.parts, okP p = true
 early : k ≤ 4 → st.attrs = [] ∧ st.parts = []
 first : st.cur = none → st.done = []
theorem PSt.Ok.here {st : PSt} {k : Nat} (h : st.Ok k) : okA st.here = true := by
 unfold PSt.here
 cases hc : st.cur with
 | none => exact h.attrs
 | some p =>
   have := h.each p (by simp [PSt.parts, hc])
   unfold okP at this
   rw [Bool.and_eq_true] at this
   exact this.2
inductive Steps : PSt → Nat → List Tx → PSt → Prop
 | nil {st : PSt} {k : Nat} : Steps st k [] st
 | cons {st st' st2 : PSt} {k : Nat} {a : Tx} {ls : List Tx} (hs : stepP st k a = .go st') (h : Steps st' (k + 1) ls st2) : Steps st k (a :: ls) st2
theorem Steps.append {st st' st2 : PSt} {k : Nat} {a b : List Tx} (h : Steps st k a st') (h' : Steps st' (k + a.length) b st2) : Steps st k (a ++ b) st2 := by
 induction h with
 | nil => simpa using h'
 | cons hs h ih =>
   refine .cons hs (ih ?_)
   rw [List.length_cons] at h'
   rwa [Nat.add_assoc, Nat.add_comm 1]
end Go.Proofs.YtibpnjakimobmaaGreat
namespace Go.Proofs.YtibpnjakimobmaaGreat
open Go.RowKit
set_option linter.unusedVariables false
set_option linter.unusedSimpArgs false
theorem ret_bool {a b : Bool} (h : a = b) : Ending.returned (.bool a) = .returned (.bool b) := by rw [h]
set_option maxHeartbeats 800000 in
theorem inValue_any (c : UInt8) (w : World) : Calls Tryz.prog 108 #[.int .u8 (c.toNat : Int)] w fun e w' => e = .returned (.bool (inVal c)) ∧ w = w' := by
 have hc := c.toNat_lt
 have HE : Hid (inVal c = (decide (32 ≤ c.toNat) && decide (c.toNat ≤ 126))) := Lib.hid rfl
 generalize c.toNat = n at *
 by_cases h1 : 32 ≤ n
 · have HR : Hid (decide ((n : Int) ≤ 126) = inVal c) := Lib.hid (by rw [HE.out, Bool.eq_iff_iff]; simp [h1]; omega)
   have h1 : (32 : Int) ≤ (n : Int) := by omega
   clear HE
   go_enter Tryz.func108, Tryz.ntmps108
   go_wp2
   go_ret
   exact ⟨ret_bool HR.out, rfl⟩
 · have HR : Hid (inVal c = false) := Lib.hid (by rw [HE.out]; simp [h1])
   have h1 : (n : Int) < 32 := by omega
   clear HE
   go_enter Tryz.func108, Tryz.ntmps108
   go_wp2
   go_ret
   exact ⟨ret_bool HR.out.symm, rfl⟩
set_option maxHeartbeats 1600000 in
theorem inWord_any (c : UInt8) (w : World) : Calls Tryz.prog 71 #[.int .u8 (c.toNat : Int)] w fun e w' => e = .returned (.bool (inWd c)) ∧ w = w' := by
 have hc := c.toNat_lt
 have HE : Hid (inWd c = ((decide (97 ≤ c.toNat) && decide (c.toNat ≤ 122)) || (decide (65 ≤ c.toNat) && decide (c.toNat ≤ 90)) || (decide (48 ≤ c.toNat) && decide (c.toNat ≤ 57)) || decide (c.toNat = 45) || decide (c.toNat = 95))) := Lib.hid (by
  unfold inWd
  have e1 : (c == 45) = decide (c.toNat = 45) := by rw [Bool.eq_iff_iff]; simp [← UInt8.toNat_inj]
  have e2 : (c == 95) = decide (c.toNat = 95) := by rw [Bool.eq_iff_iff]; simp [← UInt8.toNat_inj]
  rw [e1, e2])
 generalize c.toNat = n at *
 have hn : (0 : Int) ≤ (n : Int) := by omega
 by_cases h1 : (97 ≤ n ∧ n ≤ 122) ∨ (65 ≤ n ∧ n ≤ 90) ∨ (48 ≤ n ∧ n ≤ 57)
 · have HR : Hid (inWd c = true) := Lib.hid (by rw [HE.out]; simp; omega)
   clear HE
   rcases h1 with ⟨ha, hb⟩ | ⟨ha, hb⟩ | ⟨ha, hb⟩
   all_goals
    go_enter Tryz.func71, Tryz.ntmps71
    go_wp2
    all_goals first
     | (exfalso; omega)
     | (go_ret; exact ⟨ret_bool HR.out.symm, rfl⟩)
 · by_cases h2 : n = 45
   · have HR : Hid (inWd c = true) := Lib.hid (by rw [HE.out]; simp [h2])
     clear HE h1
     subst h2
     go_enter Tryz.func71, Tryz.ntmps71
     go_wp2
     go_ret
     exact ⟨ret_bool HR.out.symm, rfl⟩
   · have HR : Hid (((n : Int) == 95) = inWd c) := Lib.hid (by rw [HE.out, Bool.eq_iff_iff]; simp; omega)
     clear HE
     have h3 : ((n : Int) == 45) = false := by rw [beq_eq_false_iff_ne]; omega
     go_enter Tryz.func71, Tryz.ntmps71
     go_wp2
     all_goals first
      | (exfalso; omega)
      | (go_ret; exact ⟨ret_bool HR.out, rfl⟩)
set_option maxHeartbeats 800000 in
theorem allValue_any (s : ByteArray) (w : World) (hs : s.size ≤ maxLen) : Calls Tryz.prog 70 #[.string s, .func (.func 108) #[] #[]] w fun e w' => e = .returned (.bool ((tx s).all inVal)) ∧ w = w' := by
 unfold maxLen at hs
 have HC : Hid (∀ c W, Calls Tryz.prog 108 #[.int .u8 ((c : UInt8).toNat : Int)] W fun e w' => e = .returned (.bool (inVal c)) ∧ W = w') := Lib.hid fun c W => inValue_any c W
 have HT : Hid (∀ k, s.size ≤ k → (tx s).take k = tx s) := Lib.hid fun k hk => List.take_of_length_le (by rw [tx_length]; exact hk)
 go_enter Tryz.func70, Tryz.ntmps70
 go_wp2
 go_loop [8] (fun i => ∃ k : Nat, k ≤ s.size ∧ i = .int .i64 k ∧ ((tx s).take k).all inVal = true) (fun i => s.size - (intOf i).toNat)
 case atStart => exact ⟨0, Nat.zero_le _, rfl, rfl⟩
 case round =>
  obtain ⟨k, hk, rfl, hall⟩ := hrel
  have HA := Lib.hid hall
  clear hall
  by_cases hlt : k < s.size
  · have HN : Hid ((tx s).take (k + 1) = (tx s).take k ++ [s[k]]) := Lib.hid (by
     have hk' : k < (tx s).length := by rw [tx_length]; exact hlt
     rw [List.take_succ_eq_append_getElem hk']
     rfl)
    have HM : Hid (s[k] ∈ tx s) := Lib.hid (by
     have hk' : k < (tx s).length := by rw [tx_length]; exact hlt
     exact List.getElem_mem (l := tx s) hk')
    obtain ⟨b, hb⟩ : ∃ b, inVal s[k] = b := ⟨_, rfl⟩
    have HB := Lib.hid hb
    have HCC := Lib.hid (HC.out s[k])
    rw [hb] at HCC
    clear hb
    cases b with
    | true =>
      go_wp2_with (go_at_call 108; (with_reducible refine (HCC.out _).mono ?_); rintro e w' ⟨rfl, rfl⟩)
      go_round
      case rel => exact ⟨k + 1, by omega, by go_num, by rw [HN.out, List.all_append, HA.out]; simp [HB.out]⟩
      case measure => simp [intOf]; omega
    | false =>
      have HR : Hid ((tx s).all inVal = false) := Lib.hid (by
       rw [Bool.eq_false_iff]
       intro h
       rw [List.all_eq_true] at h
       have := h _ HM.out
       rw [HB.out] at this
       cases this)
      go_wp2_with (go_at_call 108; (with_reducible refine (HCC.out _).mono ?_); rintro e w' ⟨rfl, rfl⟩)
      go_ret
      exact ⟨ret_bool HR.out.symm, rfl⟩
  · have HR : Hid ((tx s).all inVal = true) := Lib.hid (by have := HA.out; rwa [HT.out k (by omega)] at this)
    go_wp2
    go_ret
    exact ⟨ret_bool HR.out.symm, rfl⟩
set_option maxHeartbeats 800000 in
theorem allWord_any (s : ByteArray) (w : World) (hs : s.size ≤ maxLen) : Calls Tryz.prog 70 #[.string s, .func (.func 71) #[] #[]] w fun e w' => e = .returned (.bool ((tx s).all inWd)) ∧ w = w' := by
 unfold maxLen at hs
 have HC : Hid (∀ c W, Calls Tryz.prog 71 #[.int .u8 ((c : UInt8).toNat : Int)] W fun e w' => e = .returned (.bool (inWd c)) ∧ W = w') := Lib.hid fun c W => inWord_any c W
 have HT : Hid (∀ k, s.size ≤ k → (tx s).take k = tx s) := Lib.hid fun k hk => List.take_of_length_le (by rw [tx_length]; exact hk)
 go_enter Tryz.func70, Tryz.ntmps70
 go_wp2
 go_loop [8] (fun i => ∃ k : Nat, k ≤ s.size ∧ i = .int .i64 k ∧ ((tx s).take k).all inWd = true) (fun i => s.size - (intOf i).toNat)
 case atStart => exact ⟨0, Nat.zero_le _, rfl, rfl⟩
 case round =>
  obtain ⟨k, hk, rfl, hall⟩ := hrel
  have HA := Lib.hid hall
  clear hall
  by_cases hlt : k < s.size
  · have HN : Hid ((tx s).take (k + 1) = (tx s).take k ++ [s[k]]) := Lib.hid (by
     have hk' : k < (tx s).length := by rw [tx_length]; exact hlt
     rw [List.take_succ_eq_append_getElem hk']
     rfl)
    have HM : Hid (s[k] ∈ tx s) := Lib.hid (by
     have hk' : k < (tx s).length := by rw [tx_length]; exact hlt
     exact List.getElem_mem (l := tx s) hk')
    obtain ⟨b, hb⟩ : ∃ b, inWd s[k] = b := ⟨_, rfl⟩
    have HB := Lib.hid hb
    have HCC := Lib.hid (HC.out s[k])
    rw [hb] at HCC
    clear hb
    cases b with
    | true =>
      go_wp2_with (go_at_call 71; (with_reducible refine (HCC.out _).mono ?_); rintro e w' ⟨rfl, rfl⟩)
      go_round
      case rel => exact ⟨k + 1, by omega, by go_num, by rw [HN.out, List.all_append, HA.out]; simp [HB.out]⟩
      case measure => simp [intOf]; omega
    | false =>
      have HR : Hid ((tx s).all inWd = false) := Lib.hid (by
       rw [Bool.eq_false_iff]
       intro h
       rw [List.all_eq_true] at h
       have := h _ HM.out
       rw [HB.out] at this
       cases this)
      go_wp2_with (go_at_call 71; (with_reducible refine (HCC.out _).mono ?_); rintro e w' ⟨rfl, rfl⟩)
      go_ret
      exact ⟨ret_bool HR.out.symm, rfl⟩
  · have HR : Hid ((tx s).all inWd = true) := Lib.hid (by have := HA.out; rwa [HT.out k (by omega)] at this)
    go_wp2
    go_ret
    exact ⟨ret_bool HR.out.symm, rfl⟩
set_option maxHeartbeats 400000 in
theorem between_any (n : Nat) (m : Int) (w : World) (hn : n ≤ maxLen) : Calls Tryz.prog 69 #[.int .i64 n, .int .i64 m] w fun e w' => e = .returned (.bool (decide (1 ≤ n) && decide ((n : Int) ≤ m))) ∧ w = w' := by
 unfold maxLen at hn
 by_cases h1 : 1 ≤ n
 · have HR : Hid (decide ((n : Int) ≤ m) = (decide (1 ≤ n) && decide ((n : Int) ≤ m))) := Lib.hid (by simp [h1])
   have h1 : (1 : Int) ≤ (n : Int) := by omega
   go_enter Tryz.func69, Tryz.ntmps69
   go_wp2
   go_ret
   exact ⟨ret_bool HR.out, rfl⟩
 · obtain ⟨r, hr⟩ : ∃ r, (decide (1 ≤ n) && decide ((n : Int) ≤ m)) = r := ⟨_, rfl⟩
   have HR : Hid (r = false) := Lib.hid (by rw [← hr]; simp [h1])
   rw [hr]
   clear hr
   have h1 : (n : Int) < 1 := by omega
   go_enter Tryz.func69, Tryz.ntmps69
   go_wp2
   go_ret
   exact ⟨ret_bool HR.out.symm, rfl⟩
set_option maxHeartbeats 800000 in
theorem value_any (s : ByteArray) (w : World) (hs : s.size ≤ maxLen) : Calls Tryz.prog 99 #[.string s] w fun e w' => e = .returned (.bool (valP (tx s))) ∧ w = w' := by
 have HA := Lib.hid (allValue_any s w hs)
 have HB := Lib.hid (between_any s.size 200 w hs)
 have HE : Hid (valP (tx s) = ((tx s).all inVal && (decide (1 ≤ s.size) && decide ((s.size : Int) ≤ 200)))) := Lib.hid (by
  show ((tx s).all _ && (decide (1 ≤ (tx s).length) && decide ((tx s).length ≤ 200))) = _
  rw [tx_length]
  have : decide (s.size ≤ 200) = decide ((s.size : Int) ≤ 200) := by rw [Bool.eq_iff_iff]; simp; omega
  rw [this])
 generalize valP (tx s) = r at *
 generalize (tx s).all inVal = y at *
 generalize hb : (decide (1 ≤ s.size) && decide ((s.size : Int) ≤ 200)) = b at *
 clear hb
 unfold maxLen at hs
 cases b with
 | true =>
   have HR : Hid (y = r) := Lib.hid (by rw [HE.out]; simp)
   go_enter Tryz.func99, Tryz.ntmps99
   go_wp2_with (first | (go_at_call 69; (with_reducible refine HB.out.mono ?_); rintro e w' ⟨rfl, rfl⟩) | (go_at_call 70; (with_reducible refine HA.out.mono ?_); rintro e w' ⟨rfl, rfl⟩))
   go_ret
   exact ⟨ret_bool HR.out, rfl⟩
 | false =>
   have HR : Hid (false = r) := Lib.hid (by rw [HE.out]; simp)
   go_enter Tryz.func99, Tryz.ntmps99
   go_wp2_with (go_at_call 69; (with_reducible refine HB.out.mono ?_); rintro e w' ⟨rfl, rfl⟩)
   go_ret
   exact ⟨ret_bool HR.out, rfl⟩
set_option maxHeartbeats 800000 in
theorem word_any (s : ByteArray) (w : World) (hs : s.size ≤ maxLen) : Calls Tryz.prog 62 #[.string s] w fun e w' => e = .returned (.bool (wordP 1 32 (tx s))) ∧ w = w' := by
 have HA := Lib.hid (allWord_any s w hs)
 have HB := Lib.hid (between_any s.size 32 w hs)
 have HE : Hid (wordP 1 32 (tx s) = ((tx s).all inWd && (decide (1 ≤ s.size) && decide ((s.size : Int) ≤ 32)))) := Lib.hid (by
  show ((tx s).all _ && (decide (1 ≤ (tx s).length) && decide ((tx s).length ≤ 32))) = _
  rw [tx_length]
  have : decide (s.size ≤ 32) = decide ((s.size : Int) ≤ 32) := by rw [Bool.eq_iff_iff]; simp; omega
  rw [this])
 generalize wordP 1 32 (tx s) = r at *
 generalize (tx s).all inWd = y at *
 generalize hb : (decide (1 ≤ s.size) && decide ((s.size : Int) ≤ 32)) = b at *
 clear hb
 unfold maxLen at hs
 cases b with
 | true =>
   have HR : Hid (y = r) := Lib.hid (by rw [HE.out]; simp)
   go_enter Tryz.func62, Tryz.ntmps62
   go_wp2_with (first | (go_at_call 69; (with_reducible refine HB.out.mono ?_); rintro e w' ⟨rfl, rfl⟩) | (go_at_call 70; (with_reducible refine HA.out.mono ?_); rintro e w' ⟨rfl, rfl⟩))
   go_ret
   exact ⟨ret_bool HR.out, rfl⟩
 | false =>
   have HR : Hid (false = r) := Lib.hid (by rw [HE.out]; simp)
   go_enter Tryz.func62, Tryz.ntmps62
   go_wp2_with (go_at_call 69; (with_reducible refine HB.out.mono ?_); rintro e w' ⟨rfl, rfl⟩)
   go_ret
   exact ⟨ret_bool HR.out, rfl⟩
theorem inVal_iff (c : UInt8) : inVal c = true ↔ (32 : Int) ≤ (c.toNat : Int) ∧ (c.toNat : Int) ≤ 126 := by
 unfold inVal
 simp
 omega
theorem inWd_iff (c : UInt8) : inWd c = true ↔ ((97 : Int) ≤ (c.toNat : Int) ∧ (c.toNat : Int) ≤ 122) ∨ ((65 : Int) ≤ (c.toNat : Int) ∧ (c.toNat : Int) ≤ 90) ∨ ((48 : Int) ≤ (c.toNat : Int) ∧ (c.toNat : Int) ≤ 57) ∨ (c.toNat : Int) = 45 ∨ (c.toNat : Int) = 95 := by
 unfold inWd
 simp only [Bool.or_eq_true, Bool.and_eq_true, decide_eq_true_eq, beq_iff_eq, ← UInt8.toNat_inj]
 rw [show (45 : UInt8).toNat = 45 from rfl, show (95 : UInt8).toNat = 95 from rfl]
 omega
set_option maxHeartbeats 1600000 in
theorem r6Value_any (s : ByteArray) (m : Int) (w : World) (hs : s.size ≤ maxLen) : Calls Tryz.prog 52 #[.string s, .int .i64 m] w fun e w' => e = .returned (.bool ((tx s).all inVal && (decide (1 ≤ s.size) && decide ((s.size : Int) ≤ m)))) ∧ w = w' := by
 unfold maxLen at hs
 have HT : Hid (∀ k, s.size ≤ k → (tx s).take k = tx s) := Lib.hid fun k hk => List.take_of_length_le (by rw [tx_length]; exact hk)
 obtain ⟨r, hr⟩ : ∃ r, ((tx s).all inVal && (decide (1 ≤ s.size) && decide ((s.size : Int) ≤ m))) = r := ⟨_, rfl⟩
 have HR := Lib.hid hr
 rw [hr]
 clear hr
 go_enter Tryz.func52, Tryz.ntmps52
 go_wp2
 go_loop [5] (fun i => ∃ k : Nat, k ≤ s.size ∧ i = .int .i64 k ∧ ((tx s).take k).all inVal = true) (fun i => s.size - (intOf i).toNat)
 case atStart => exact ⟨0, Nat.zero_le _, rfl, rfl⟩
 case round =>
  obtain ⟨k, hk, rfl, hall⟩ := hrel
  have HA := Lib.hid hall
  clear hall
  by_cases hlt : k < s.size
  · have HN : Hid ((tx s).take (k + 1) = (tx s).take k ++ [s[k]]) := Lib.hid (by
     have hk' : k < (tx s).length := by rw [tx_length]; exact hlt
     rw [List.take_succ_eq_append_getElem hk']
     rfl)
    have HM : Hid (s[k] ∈ tx s) := Lib.hid (by
     have hk' : k < (tx s).length := by rw [tx_length]; exact hlt
     exact List.getElem_mem (l := tx s) hk')
    have HB : Hid (inVal s[k] = inVal s[k]) := Lib.hid rfl
    have HF : Hid (inVal s[k] = false → (tx s).all inVal = false) := Lib.hid (fun hf => by
     rw [Bool.eq_false_iff]
     intro h
     rw [List.all_eq_true] at h
     have := h _ HM.out
     rw [hf] at this
     cases this)
    have hb := (s[k]).toNat_lt
    by_cases h1 : ((s[k]).toNat : Int) < 32
    · have HQ : Hid (r = false) := Lib.hid (by rw [← HR.out, HF.out (by rw [Bool.eq_false_iff]; intro h; have := (inVal_iff _).1 h; omega)]; rfl)
      go_wp2
      go_ret
      exact ⟨ret_bool HQ.out.symm, rfl⟩
    · have h1 : (32 : Int) ≤ ((s[k]).toNat : Int) := by omega
      by_cases h2 : (126 : Int) < ((s[k]).toNat : Int)
      · have HQ : Hid (r = false) := Lib.hid (by rw [← HR.out, HF.out (by rw [Bool.eq_false_iff]; intro h; have := (inVal_iff _).1 h; omega)]; rfl)
        go_wp2
        go_ret
        exact ⟨ret_bool HQ.out.symm, rfl⟩
      · have h2 : ((s[k]).toNat : Int) ≤ 126 := by omega
        have HV : Hid (inVal s[k] = true) := Lib.hid ((inVal_iff _).2 ⟨h1, h2⟩)
        go_wp2
        go_round
        case rel => exact ⟨k + 1, by omega, by go_num, by rw [HN.out, List.all_append, HA.out]; simp [HV.out]⟩
        case measure => simp [intOf]; omega
  · have HQ : Hid ((decide (1 ≤ s.size) && decide ((s.size : Int) ≤ m)) = r) := Lib.hid (by
     have := HA.out
     rw [HT.out k (by omega)] at this
     rw [← HR.out, this]
     rfl)
    by_cases h1 : 1 ≤ s.size
    · have HQ2 : Hid (decide ((s.size : Int) ≤ m) = r) := Lib.hid (by rw [← HQ.out]; simp [h1])
      have h2 : (1 : Int) ≤ (s.size : Int) := by omega
      go_wp2
      go_ret
      exact ⟨ret_bool HQ2.out, rfl⟩
    · have HQ2 : Hid (r = false) := Lib.hid (by rw [← HQ.out]; simp [h1])
      have h2 : (s.size : Int) < 1 := by omega
      go_wp2
      go_ret
      exact ⟨ret_bool HQ2.out.symm, rfl⟩
set_option maxHeartbeats 3200000 in
theorem r1Word_any (s : ByteArray) (lo hi : Int) (w : World) (hs : s.size ≤ maxLen) : Calls Tryz.prog 15 #[.string s, .int .i64 lo, .int .i64 hi] w fun e w' => e = .returned (.bool ((tx s).all inWd && (decide (lo ≤ (s.size : Int)) && decide ((s.size : Int) ≤ hi)))) ∧ w = w' := by
 unfold maxLen at hs
 have HT : Hid (∀ k, s.size ≤ k → (tx s).take k = tx s) := Lib.hid fun k hk => List.take_of_length_le (by rw [tx_length]; exact hk)
 obtain ⟨r, hr⟩ : ∃ r, ((tx s).all inWd && (decide (lo ≤ (s.size : Int)) && decide ((s.size : Int) ≤ hi))) = r := ⟨_, rfl⟩
 have HR := Lib.hid hr
 rw [hr]
 clear hr
 go_enter Tryz.func15, Tryz.ntmps15
 go_wp2
 go_loop [7] (fun i => ∃ k : Nat, k ≤ s.size ∧ i = .int .i64 k ∧ ((tx s).take k).all inWd = true) (fun i => s.size - (intOf i).toNat)
 case atStart => exact ⟨0, Nat.zero_le _, rfl, rfl⟩
 case round =>
  obtain ⟨k, hk, rfl, hall⟩ := hrel
  have HA := Lib.hid hall
  clear hall
  by_cases hlt : k < s.size
  · have HN : Hid ((tx s).take (k + 1) = (tx s).take k ++ [s[k]]) := Lib.hid (by
     have hk' : k < (tx s).length := by rw [tx_length]; exact hlt
     rw [List.take_succ_eq_append_getElem hk']
     rfl)
    have HM : Hid (s[k] ∈ tx s) := Lib.hid (by
     have hk' : k < (tx s).length := by rw [tx_length]; exact hlt
     exact List.getElem_mem (l := tx s) hk')
    have HB : Hid (inWd s[k] = inWd s[k]) := Lib.hid rfl
    have HF : Hid (inWd s[k] = false → (tx s).all inWd = false) := Lib.hid (fun hf => by
     rw [Bool.eq_false_iff]
     intro h
     rw [List.all_eq_true] at h
     have := h _ HM.out
     rw [hf] at this
     cases this)
    have hb := (s[k]).toNat_lt
    obtain ⟨n, hn⟩ : ∃ n : Nat, (s[k]).toNat = n := ⟨_, rfl⟩
    have hI := inWd_iff s[k]
    rw [hn] at hb hI
    have HI := Lib.hid hI
    have HE := Lib.hid hn
    clear hI
    have hcls : (0 ≤ n ∧ n ≤ 44) ∨ (45 ≤ n ∧ n ≤ 45) ∨ (46 ≤ n ∧ n ≤ 47) ∨ (48 ≤ n ∧ n ≤ 57) ∨ (58 ≤ n ∧ n ≤ 64) ∨ (65 ≤ n ∧ n ≤ 90) ∨ (91 ≤ n ∧ n ≤ 94) ∨ (95 ≤ n ∧ n ≤ 95) ∨ (96 ≤ n ∧ n ≤ 96) ∨ (97 ≤ n ∧ n ≤ 122) ∨ (123 ≤ n ∧ n ≤ 255) := by omega
    rcases hcls with ⟨c1, c2⟩ | ⟨c1, c2⟩ | ⟨c1, c2⟩ | ⟨c1, c2⟩ | ⟨c1, c2⟩ | ⟨c1, c2⟩ | ⟨c1, c2⟩ | ⟨c1, c2⟩ | ⟨c1, c2⟩ | ⟨c1, c2⟩ | ⟨c1, c2⟩
    · have x97 : ((s[k]).toNat : Int) < 97 := by omega
      have y122 : ((s[k]).toNat : Int) ≤ 122 := by omega
      have x65 : ((s[k]).toNat : Int) < 65 := by omega
      have y90 : ((s[k]).toNat : Int) ≤ 90 := by omega
      have x48 : ((s[k]).toNat : Int) < 48 := by omega
      have y57 : ((s[k]).toNat : Int) ≤ 57 := by omega
      have z45 : (((s[k]).toNat : Int) == 45) = false := by rw [beq_eq_false_iff_ne]; omega
      have z95 : (((s[k]).toNat : Int) == 95) = false := by rw [beq_eq_false_iff_ne]; omega
      clear hn
      have HQ : Hid (r = false) := Lib.hid (by rw [← HR.out, HF.out (by rw [Bool.eq_false_iff]; intro h; have := HI.out.1 h; omega)]; rfl)
      clear c1 c2 HE
      go_wp2
      go_ret
      exact ⟨ret_bool HQ.out.symm, rfl⟩
    · have x97 : ((s[k]).toNat : Int) < 97 := by omega
      have y122 : ((s[k]).toNat : Int) ≤ 122 := by omega
      have x65 : ((s[k]).toNat : Int) < 65 := by omega
      have y90 : ((s[k]).toNat : Int) ≤ 90 := by omega
      have x48 : ((s[k]).toNat : Int) < 48 := by omega
      have y57 : ((s[k]).toNat : Int) ≤ 57 := by omega
      have z45 : (((s[k]).toNat : Int) == 45) = true := by rw [beq_iff_eq]; omega
      have z95 : (((s[k]).toNat : Int) == 95) = false := by rw [beq_eq_false_iff_ne]; omega
      clear hn
      have HV : Hid (inWd s[k] = true) := Lib.hid (HI.out.2 (by omega))
      clear c1 c2 HE
      go_wp2
      go_round
      case rel => exact ⟨k + 1, by omega, by go_num, by rw [HN.out, List.all_append, HA.out]; simp [HV.out]⟩
      case measure => simp [intOf]; omega
    · have x97 : ((s[k]).toNat : Int) < 97 := by omega
      have y122 : ((s[k]).toNat : Int) ≤ 122 := by omega
      have x65 : ((s[k]).toNat : Int) < 65 := by omega
      have y90 : ((s[k]).toNat : Int) ≤ 90 := by omega
      have x48 : ((s[k]).toNat : Int) < 48 := by omega
      have y57 : ((s[k]).toNat : Int) ≤ 57 := by omega
      have z45 : (((s[k]).toNat : Int) == 45) = false := by rw [beq_eq_false_iff_ne]; omega
      have z95 : (((s[k]).toNat : Int) == 95) = false := by rw [beq_eq_false_iff_ne]; omega
      clear hn
      have HQ : Hid (r = false) := Lib.hid (by rw [← HR.out, HF.out (by rw [Bool.eq_false_iff]; intro h; have := HI.out.1 h; omega)]; rfl)
      clear c1 c2 HE
      go_wp2
      go_ret
      exact ⟨ret_bool HQ.out.symm, rfl⟩
    · have x97 : ((s[k]).toNat : Int) < 97 := by omega
      have y122 : ((s[k]).toNat : Int) ≤ 122 := by omega
      have x65 : ((s[k]).toNat : Int) < 65 := by omega
      have y90 : ((s[k]).toNat : Int) ≤ 90 := by omega
      have x48 : (48 : Int) ≤ ((s[k]).toNat : Int) := by omega
      have y57 : ((s[k]).toNat : Int) ≤ 57 := by omega
      have z45 : (((s[k]).toNat : Int) == 45) = false := by rw [beq_eq_false_iff_ne]; omega
      have z95 : (((s[k]).toNat : Int) == 95) = false := by rw [beq_eq_false_iff_ne]; omega
      clear hn
      have HV : Hid (inWd s[k] = true) := Lib.hid (HI.out.2 (by omega))
      clear c1 c2 HE
      go_wp2
      go_round
      case rel => exact ⟨k + 1, by omega, by go_num, by rw [HN.out, List.all_append, HA.out]; simp [HV.out]⟩
      case measure => simp [intOf]; omega
    · have x97 : ((s[k]).toNat : Int) < 97 := by omega
      have y122 : ((s[k]).toNat : Int) ≤ 122 := by omega
      have x65 : ((s[k]).toNat : Int) < 65 := by omega
      have y90 : ((s[k]).toNat : Int) ≤ 90 := by omega
      have x48 : (48 : Int) ≤ ((s[k]).toNat : Int) := by omega
      have y57 : (57 : Int) < ((s[k]).toNat : Int) := by omega
      have d57 : decide (((s[k]).toNat : Int) ≤ 57) = false := by rw [decide_eq_false_iff_not]; omega
      have z45 : (((s[k]).toNat : Int) == 45) = false := by rw [beq_eq_false_iff_ne]; omega
      have z95 : (((s[k]).toNat : Int) == 95) = false := by rw [beq_eq_false_iff_ne]; omega
      clear hn
      have HQ : Hid (r = false) := Lib.hid (by rw [← HR.out, HF.out (by rw [Bool.eq_false_iff]; intro h; have := HI.out.1 h; omega)]; rfl)
      clear c1 c2 HE
      go_wp2
      go_ret
      exact ⟨ret_bool HQ.out.symm, rfl⟩
    · have x97 : ((s[k]).toNat : Int) < 97 := by omega
      have y122 : ((s[k]).toNat : Int) ≤ 122 := by omega
      have x65 : (65 : Int) ≤ ((s[k]).toNat : Int) := by omega
      have y90 : ((s[k]).toNat : Int) ≤ 90 := by omega
      have x48 : (48 : Int) ≤ ((s[k]).toNat : Int) := by omega
      have y57 : (57 : Int) < ((s[k]).toNat : Int) := by omega
      have d57 : decide (((s[k]).toNat : Int) ≤ 57) = false := by rw [decide_eq_false_iff_not]; omega
      have z45 : (((s[k]).toNat : Int) == 45) = false := by rw [beq_eq_false_iff_ne]; omega
      have z95 : (((s[k]).toNat : Int) == 95) = false := by rw [beq_eq_false_iff_ne]; omega
      clear hn
      have HV : Hid (inWd s[k] = true) := Lib.hid (HI.out.2 (by omega))
      clear c1 c2 HE
      go_wp2
      go_round
      case rel => exact ⟨k + 1, by omega, by go_num, by rw [HN.out, List.all_append, HA.out]; simp [HV.out]⟩
      case measure => simp [intOf]; omega
    · have x97 : ((s[k]).toNat : Int) < 97 := by omega
      have y122 : ((s[k]).toNat : Int) ≤ 122 := by omega
      have x65 : (65 : Int) ≤ ((s[k]).toNat : Int) := by omega
      have y90 : (90 : Int) < ((s[k]).toNat : Int) := by omega
      have d90 : decide (((s[k]).toNat : Int) ≤ 90) = false := by rw [decide_eq_false_iff_not]; omega
      have x48 : (48 : Int) ≤ ((s[k]).toNat : Int) := by omega
      have y57 : (57 : Int) < ((s[k]).toNat : Int) := by omega
      have d57 : decide (((s[k]).toNat : Int) ≤ 57) = false := by rw [decide_eq_false_iff_not]; omega
      have z45 : (((s[k]).toNat : Int) == 45) = false := by rw [beq_eq_false_iff_ne]; omega
      have z95 : (((s[k]).toNat : Int) == 95) = false := by rw [beq_eq_false_iff_ne]; omega
      clear hn
      have HQ : Hid (r = false) := Lib.hid (by rw [← HR.out, HF.out (by rw [Bool.eq_false_iff]; intro h; have := HI.out.1 h; omega)]; rfl)
      clear c1 c2 HE
      go_wp2
      go_ret
      exact ⟨ret_bool HQ.out.symm, rfl⟩
    · have x97 : ((s[k]).toNat : Int) < 97 := by omega
      have y122 : ((s[k]).toNat : Int) ≤ 122 := by omega
      have x65 : (65 : Int) ≤ ((s[k]).toNat : Int) := by omega
      have y90 : (90 : Int) < ((s[k]).toNat : Int) := by omega
      have d90 : decide (((s[k]).toNat : Int) ≤ 90) = false := by rw [decide_eq_false_iff_not]; omega
      have x48 : (48 : Int) ≤ ((s[k]).toNat : Int) := by omega
      have y57 : (57 : Int) < ((s[k]).toNat : Int) := by omega
      have d57 : decide (((s[k]).toNat : Int) ≤ 57) = false := by rw [decide_eq_false_iff_not]; omega
      have z45 : (((s[k]).toNat : Int) == 45) = false := by rw [beq_eq_false_iff_ne]; omega
      have z95 : (((s[k]).toNat : Int) == 95) = true := by rw [beq_iff_eq]; omega
      clear hn
      have HV : Hid (inWd s[k] = true) := Lib.hid (HI.out.2 (by omega))
      clear c1 c2 HE
      go_wp2
      go_round
      case rel => exact ⟨k + 1, by omega, by go_num, by rw [HN.out, List.all_append, HA.out]; simp [HV.out]⟩
      case measure => simp [intOf]; omega
    · have x97 : ((s[k]).toNat : Int) < 97 := by omega
      have y122 : ((s[k]).toNat : Int) ≤ 122 := by omega
      have x65 : (65 : Int) ≤ ((s[k]).toNat : Int) := by omega
      have y90 : (90 : Int) < ((s[k]).toNat : Int) := by omega
      have d90 : decide (((s[k]).toNat : Int) ≤ 90) = false := by rw [decide_eq_false_iff_not]; omega
      have x48 : (48 : Int) ≤ ((s[k]).toNat : Int) := by omega
      have y57 : (57 : Int) < ((s[k]).toNat : Int) := by omega
      have d57 : decide (((s[k]).toNat : Int) ≤ 57) = false := by rw [decide_eq_false_iff_not]; omega
      have z45 : (((s[k]).toNat : Int) == 45) = false := by rw [beq_eq_false_iff_ne]; omega
      have z95 : (((s[k]).toNat : Int) == 95) = false := by rw [beq_eq_false_iff_ne]; omega
      clear hn
      have HQ : Hid (r = false) := Lib.hid (by rw [← HR.out, HF.out (by rw [Bool.eq_false_iff]; intro h; have := HI.out.1 h; omega)]; rfl)
      clear c1 c2 HE
      go_wp2
      go_ret
      exact ⟨ret_bool HQ.out.symm, rfl⟩
    · have x97 : (97 : Int) ≤ ((s[k]).toNat : Int) := by omega
      have y122 : ((s[k]).toNat : Int) ≤ 122 := by omega
      have x65 : (65 : Int) ≤ ((s[k]).toNat : Int) := by omega
      have y90 : (90 : Int) < ((s[k]).toNat : Int) := by omega
      have d90 : decide (((s[k]).toNat : Int) ≤ 90) = false := by rw [decide_eq_false_iff_not]; omega
      have x48 : (48 : Int) ≤ ((s[k]).toNat : Int) := by omega
      have y57 : (57 : Int) < ((s[k]).toNat : Int) := by omega
      have d57 : decide (((s[k]).toNat : Int) ≤ 57) = false := by rw [decide_eq_false_iff_not]; omega
      have z45 : (((s[k]).toNat : Int) == 45) = false := by rw [beq_eq_false_iff_ne]; omega
      have z95 : (((s[k]).toNat : Int) == 95) = false := by rw [beq_eq_false_iff_ne]; omega
      clear hn
      have HV : Hid (inWd s[k] = true) := Lib.hid (HI.out.2 (by omega))
      clear c1 c2 HE
      go_wp2
      go_round
      case rel => exact ⟨k + 1, by omega, by go_num, by rw [HN.out, List.all_append, HA.out]; simp [HV.out]⟩
      case measure => simp [intOf]; omega
    · have x97 : (97 : Int) ≤ ((s[k]).toNat : Int) := by omega
      have y122 : (122 : Int) < ((s[k]).toNat : Int) := by omega
      have d122 : decide (((s[k]).toNat : Int) ≤ 122) = false := by rw [decide_eq_false_iff_not]; omega
      have x65 : (65 : Int) ≤ ((s[k]).toNat : Int) := by omega
      have y90 : (90 : Int) < ((s[k]).toNat : Int) := by omega
      have d90 : decide (((s[k]).toNat : Int) ≤ 90) = false := by rw [decide_eq_false_iff_not]; omega
      have x48 : (48 : Int) ≤ ((s[k]).toNat : Int) := by omega
      have y57 : (57 : Int) < ((s[k]).toNat : Int) := by omega
      have d57 : decide (((s[k]).toNat : Int) ≤ 57) = false := by rw [decide_eq_false_iff_not]; omega
      have z45 : (((s[k]).toNat : Int) == 45) = false := by rw [beq_eq_false_iff_ne]; omega
      have z95 : (((s[k]).toNat : Int) == 95) = false := by rw [beq_eq_false_iff_ne]; omega
      clear hn
      have HQ : Hid (r = false) := Lib.hid (by rw [← HR.out, HF.out (by rw [Bool.eq_false_iff]; intro h; have := HI.out.1 h; omega)]; rfl)
      clear c1 c2 HE
      go_wp2
      go_ret
      exact ⟨ret_bool HQ.out.symm, rfl⟩
  · have HQ : Hid ((decide (lo ≤ (s.size : Int)) && decide ((s.size : Int) ≤ hi)) = r) := Lib.hid (by
     have := HA.out
     rw [HT.out k (by omega)] at this
     rw [← HR.out, this]
     rfl)
    by_cases h1 : lo ≤ (s.size : Int)
    · have HQ2 : Hid (decide ((s.size : Int) ≤ hi) = r) := Lib.hid (by rw [← HQ.out]; simp [h1])
      go_wp2
      go_ret
      exact ⟨ret_bool HQ2.out, rfl⟩
    · have HQ2 : Hid (r = false) := Lib.hid (by rw [← HQ.out]; simp [h1])
      have h2 : (s.size : Int) < lo := by omega
      go_wp2
      go_ret
      exact ⟨ret_bool HQ2.out.symm, rfl⟩
theorem Tryz.infoStr : (Tryz.prog.info? 9).map (fun i => (i.zero, i.size, i.bytes)) = some (some (.string ⟨#[]⟩), 1, 16) := by kernel_rfl
def RAt (f : Nat → Option Value) (a : AttrS) : Prop := f 0 = some (.string a.name) ∧ f 1 = some (.string a.value)
def AttrsV (w : World) (B : Nat) (v : Value) (L : List AttrS) : Prop := Rows w B 2 RAt v L
def RPt (w : World) (B : Nat) (f : Nat → Option Value) (p : PartS) : Prop := f 0 = some (.string p.line) ∧ f 1 = some (.string p.conn) ∧ ∃ v, f 2 = some v ∧ AttrsV w B v p.attrs
def PartsV (w : World) (B : Nat) (v : Value) (L : List PartS) : Prop := Rows w B 3 (RPt w B) v L
theorem AttrsV.below {w w' : World} {B : Nat} {v : Value} {L : List AttrS} (h : AttrsV w B v L) (hb : Below B w w') : AttrsV w' B v L := Rows.below h hb fun _ _ _ h => h
theorem AttrsV.more {w : World} {B B' : Nat} {v : Value} {L : List AttrS} (h : AttrsV w B v L) (hB : B ≤ B') : AttrsV w B' v L := Rows.more h hB
theorem RPt.below {w w' : World} {B : Nat} {f : Nat → Option Value} {p : PartS} (h : RPt w B f p) (hb : Below B w w') : RPt w' B f p := by
 obtain ⟨h1, h2, v, h3, h4⟩ := h
 exact ⟨h1, h2, v, h3, h4.below hb⟩
theorem RPt.more {w : World} {B B' : Nat} {f : Nat → Option Value} {p : PartS} (h : RPt w B f p) (hB : B ≤ B') : RPt w B' f p := by
 obtain ⟨h1, h2, v, h3, h4⟩ := h
 exact ⟨h1, h2, v, h3, h4.more hB⟩
theorem PartsV.below {w w' : World} {B : Nat} {v : Value} {L : List PartS} (h : PartsV w B v L) (hb : Below B w w') : PartsV w' B v L := Rows.below h hb fun _ _ _ h => h.below hb
theorem PartsV.more {w : World} {B B' : Nat} {v : Value} {L : List PartS} (h : PartsV w B v L) (hB : B ≤ B') : PartsV w B' v L := Rows.more (Rows.mono h fun _ _ _ h => h.more hB) hB
theorem AttrsV.nil (w : World) (B : Nat) : AttrsV w B (.slice none 0 0) [] := Rows.nil _ _ _ _
theorem PartsV.nil (w : World) (B : Nat) : PartsV w B (.slice none 0 0) [] := Rows.nil _ _ _ _
theorem AttrsV.at_ {w : World} {B : Nat} {v : Value} {L : List AttrS} (h : AttrsV w B v L) {i : Nat} (hi : i < L.length) : ∃ ad c, v = .slice (some ad) L.length c ∧ ad.block < B ∧
 w.cell? (ad.add (i * 2)) = some (.string (L.getD i default).name) ∧ w.cell? ⟨(ad.add (i * 2)).block, (ad.add (i * 2)).off + 1, none⟩ = some (.string (L.getD i default).value) := by
 obtain ⟨ad, c, h1, h2, _, _, h3, h4⟩ := Rows.at_ h (List.getElem?_eq_getElem hi)
 have e : L.getD i default = L[i] := by simp [List.getD, hi]
 rw [e]
 refine ⟨ad, c, h1, h2, h3, ?_⟩
 rw [← add_next _ _ 1 (by decide)]
 exact h4
theorem PartsV.at_ {w : World} {B : Nat} {v : Value} {L : List PartS} (h : PartsV w B v L) {i : Nat} (hi : i < L.length) : ∃ ad c va, v = .slice (some ad) L.length c ∧ ad.block < B ∧
 w.cell? (ad.add (i * 3)) = some (.string (L.getD i default).line) ∧ w.cell? ⟨(ad.add (i * 3)).block, (ad.add (i * 3)).off + 1, none⟩ = some (.string (L.getD i default).conn) ∧
 w.cell? ⟨(ad.add (i * 3)).block, (ad.add (i * 3)).off + 2, none⟩ = some va ∧ AttrsV w B va (L.getD i default).attrs := by
 obtain ⟨ad, c, h1, h2, _, _, h3, h4, va, h5, h6⟩ := Rows.at_ h (List.getElem?_eq_getElem hi)
 have e : L.getD i default = L[i] := by simp [List.getD, hi]
 rw [e]
 refine ⟨ad, c, va, h1, h2, h3, ?_, ?_, h6⟩
 · rw [← add_next _ _ 1 (by decide)]
   exact h4
 · rw [← add_next _ _ 2 (by decide)]
   exact h5
structure SesV (w : World) (B : Nat) (M : Array Value) (x : SesS) (vA vP : Value) : Prop where
 form : M = #[.string x.origin, .string x.name, .string x.time, vA, vP]
 attrs : AttrsV w B vA x.attrs
 parts : PartsV w B vP x.parts
theorem SesV.below {w w' : World} {B : Nat} {M : Array Value} {x : SesS} {vA vP : Value} (h : SesV w B M x vA vP) (hb : Below B w w') : SesV w' B M x vA vP := ⟨h.form, h.attrs.below hb, h.parts.below hb⟩
theorem SesV.more {w : World} {B B' : Nat} {M : Array Value} {x : SesS} {vA vP : Value} (h : SesV w B M x vA vP) (hB : B ≤ B') : SesV w B' M x vA vP := ⟨h.form, h.attrs.more hB, h.parts.more hB⟩
theorem SesV.under {w w' : World} {M : Array Value} {x : SesS} {vA vP : Value} (h : SesV w w.heap.size M x vA vP) (hb : Below w.heap.size w w') : SesV w' w'.heap.size M x vA vP := (h.below hb).more hb.size
theorem getD_of {α : Type} [Inhabited α] {L : List α} {i : Nat} (hi : i < L.length) : L[i]? = some (L.getD i default) := by simp [List.getD, hi]
theorem getD_mem {α : Type} [Inhabited α] {L : List α} {i : Nat} (hi : i < L.length) : L.getD i default ∈ L := List.mem_of_getElem? (getD_of hi)
def acell (a : AttrS) : List Value := [.string a.name, .string a.value]
theorem AttrS.ext' {a b : AttrS} (h1 : a.name = b.name) (h2 : a.value = b.value) : a = b := by cases a; cases b; simp_all
theorem toList_beq {a b : ByteArray} : (a.toList == b.toList) = true ↔ a = b := by
 rw [beq_iff_eq, toList_tx, toList_tx]
 exact ⟨tx_inj, fun h => by rw [h]⟩
theorem toList_bne {a b : ByteArray} : (a.toList == b.toList) = false ↔ a ≠ b := by
 rw [← Bool.not_eq_true, Ne, toList_beq]
def SameB {α : Type} (w : World) (x y : α) (e : Ending) (w' : World) : Prop := ∃ b, e = .returned (.bool b) ∧ (b = true ↔ x = y) ∧ Below w.heap.size w w'
theorem AttrsV.form {w : World} {B : Nat} {v : Value} {L : List AttrS} (h : AttrsV w B v L) : ∃ A c, v = .slice A L.length c ∧ L.length ≤ c ∧ c ≤ maxLen ∧ (A = none → c = 0) := Rows.form h
theorem list_same {α : Type} {L M : List α} (hl : L.length = M.length) (h : ∀ j, j < L.length → L[j]? = M[j]?) : L = M := by
 apply List.ext_getElem?
 intro j
 by_cases hj : j < L.length
 · exact h j hj
 · rw [List.getElem?_eq_none (by omega), List.getElem?_eq_none (by omega)]
theorem PartS.ext' {a b : PartS} (h1 : a.line = b.line) (h2 : a.conn = b.conn) (h3 : a.attrs = b.attrs) : a = b := by cases a; cases b; simp_all
end Go.Proofs.YtibpnjakimobmaaGreat
namespace Go.Proofs.YtibpnjakimobmaaGreat
set_option linter.unusedVariables false
set_option linter.unusedSimpArgs false
abbrev nMid : Tx := [109, 105, 100]
abbrev nInactive : Tx := [105, 110, 97, 99, 116, 105, 118, 101]
abbrev nSendonly : Tx := [115, 101, 110, 100, 111, 110, 108, 121]
abbrev nRecvonly : Tx := [114, 101, 99, 118, 111, 110, 108, 121]
abbrev nSendrecv : Tx := [115, 101, 110, 100, 114, 101, 99, 118]
abbrev nCodec : Tx := [114, 116, 112, 109, 97, 112]
abbrev nFormat : Tx := [102, 109, 116, 112]
abbrev nFeedback : Tx := [114, 116, 99, 112, 45, 102, 98]
abbrev nExt : Tx := [101, 120, 116, 109, 97, 112]
abbrev nRid : Tx := [114, 105, 100]
abbrev nSimulcast : Tx := [115, 105, 109, 117, 108, 99, 97, 115, 116]
abbrev nSource : Tx := [115, 115, 114, 99]
abbrev nCrypto : Tx := [99, 114, 121, 112, 116, 111]
abbrev nSctp : Tx := [115, 99, 116, 112, 45, 112, 111, 114, 116]
abbrev wAudio : Tx := [97, 117, 100, 105, 111]
abbrev wVideo : Tx := [118, 105, 100, 101, 111]
abbrev wApplication : Tx := [97, 112, 112, 108, 105, 99, 97, 116, 105, 111, 110]
abbrev wStreams : Tx := [82, 84, 80, 47, 83, 65, 86, 80, 70]
abbrev wChannel : Tx := [85, 68, 80, 47, 83, 67, 84, 80, 32, 119, 101, 98, 114, 116, 99, 45, 100, 97, 116, 97, 99, 104, 97, 110, 110, 101, 108]
abbrev wConn : Tx := [73, 78, 32, 73, 80, 52, 32, 48, 46, 48, 46, 48, 46, 48]
abbrev wSend : Tx := [115, 101, 110, 100]
abbrev wRecv : Tx := [114, 101, 99, 118]
abbrev wInline : Tx := [32, 65, 69, 83, 95, 67, 77, 95, 49, 50, 56, 95, 72, 77, 65, 67, 95, 83, 72, 65, 49, 95, 56, 48, 32, 105, 110, 108, 105, 110, 101, 58]
abbrev wLetters : Tx := [65, 66, 67, 68, 69, 70, 71, 72, 73, 74, 75, 76, 77, 78, 79, 80, 81, 82, 83, 84, 85, 86, 87, 88, 89, 90, 97, 98, 99, 100, 101, 102, 103, 104, 105, 106, 107, 108, 109, 110, 111, 112, 113, 114, 115, 116, 117, 118, 119, 120, 121, 122, 48, 49, 50, 51, 52, 53, 54, 55, 56, 57, 43, 47]
structure CodecS where
 type : Int
 name : ByteArray
 clock : Int
 chans : Int
 format : ByteArray
 feedback : List ByteArray
structure ExtS where
 id : Int
 uri : ByteArray
structure CryptoS where
 tag : Int
 key : Tx
structure MediaS where
 kind : Int
 port : Int
 mid : ByteArray
 dir : Int
 codecs : List CodecS
 exts : List ExtS
 rids : List ByteArray
 sending : Bool
 sources : List Nat
 crypto : List CryptoS
 sctp : Int
instance : Inhabited CodecS := ⟨⟨0, bs [], 0, 0, bs [], []⟩⟩
instance : Inhabited ExtS := ⟨⟨0, bs []⟩⟩
instance : Inhabited CryptoS := ⟨⟨0, []⟩⟩
def MediaS.zero : MediaS := ⟨0, 0, bs [], 0, [], [], [], false, [], [], 0⟩
def dec (n : Nat) : Tx := if h : n < 10 then [UInt8.ofNat (48 + n)] else dec (n / 10) ++ [UInt8.ofNat (48 + n % 10)]
termination_by n
decreasing_by omega
def decI (n : Int) : Tx := dec n.toNat
theorem dec_digit (n : Nat) : ∀ c ∈ dec n, 48 ≤ c.toNat ∧ c.toNat ≤ 57 := by
 induction n using Nat.strongRecOn with
 | _ n ih =>
   intro c hc
   unfold dec at hc
   split at hc
   · next h =>
     rw [List.mem_singleton] at hc
     subst hc
     rw [UInt8.toNat_ofNat']
     omega
   · next h =>
     rw [List.mem_append, List.mem_singleton] at hc
     rcases hc with hc | rfl
     · exact ih (n / 10) (by omega) c hc
     · rw [UInt8.toNat_ofNat']
       omega
theorem dec_free (n : Nat) (d : UInt8) (hd : d.toNat < 48 ∨ 57 < d.toNat) : ∀ c ∈ dec n, c ≠ d := fun c hc e => by
 have := dec_digit n c hc
 subst e
 omega
theorem decI_free (n : Int) (d : UInt8) (hd : d.toNat < 48 ∨ 57 < d.toNat) : ∀ c ∈ decI n, c ≠ d := dec_free _ d hd
def plainP (l : Tx) : Bool := valP l && decide (l.length ≤ 100) && !(l.head? == some 32) && !(l.getLast? == some 32)
def uriP (l : Tx) : Bool := valP l && decide (l.length ≤ 100) && l.all (fun c => c != 32)
def goodC (c : CodecS) : Bool :=
 decide (0 ≤ c.type) && decide (c.type ≤ 127) && wordP 1 32 (tx c.name) && decide (1 ≤ c.clock) && decide (c.clock ≤ 1000000) && decide (1 ≤ c.chans) && decide (c.chans ≤ 2) &&
  ((tx c.format).isEmpty || plainP (tx c.format)) && (decide (c.feedback.length ≤ 8) && c.feedback.all fun f => plainP (tx f))
def goodE (x : ExtS) : Bool := decide (1 ≤ x.id) && decide (x.id ≤ 14) && uriP (tx x.uri)
def goodR (s : ByteArray) : Bool := wordP 1 8 (tx s)
def goodY (c : CryptoS) : Bool := decide (1 ≤ c.tag) && decide (c.tag ≤ 9)
def unlike {α κ : Type} [DecidableEq κ] (f : α → κ) (L : List α) : Bool := decide (L.map f).Nodup
def goodStreams (m : MediaS) : Bool :=
 decide (1 ≤ m.codecs.length) && (decide (m.codecs.length ≤ 16) && m.codecs.all goodC && unlike CodecS.type m.codecs) &&
  (decide (m.exts.length ≤ 14) && m.exts.all goodE && unlike ExtS.id m.exts) &&
  (decide (m.rids.length ≤ 3) && m.rids.all goodR && unlike tx m.rids) &&
  (decide (1 ≤ m.rids.length) || !m.sending) &&
  (decide (m.sources.length ≤ 16) && unlike id m.sources) &&
  (decide (m.crypto.length ≤ 1) && m.crypto.all goodY) &&
  decide (m.sctp = 0)
def goodChannel (m : MediaS) : Bool :=
 decide (m.codecs.length + m.exts.length + m.rids.length + m.sources.length + m.crypto.length = 0) && !m.sending && decide (1 ≤ m.sctp) && decide (m.sctp ≤ 65535)
def goodHead (m : MediaS) : Bool := (decide (m.port = 0) || decide (m.port = 9)) && wordP 1 16 (tx m.mid) && decide (0 ≤ m.dir) && decide (m.dir ≤ 3)
def goodM (m : MediaS) : Bool := goodHead m && ((decide (m.kind = 1) || decide (m.kind = 2)) && goodStreams m || decide (m.kind = 3) && goodChannel m)
def letter (v : Nat) : UInt8 := wLetters.getD v 0
def enc3 (a b c : UInt8) : Tx := let n := a.toNat * 65536 + b.toNat * 256 + c.toNat; [letter (n / 262144), letter (n / 4096 % 64), letter (n / 64 % 64), letter (n % 64)]
def encK : Tx → Tx
 | a :: b :: c :: r => enc3 a b c ++ encK r
 | _ => []
def kindW (k : Int) : Tx := if k = 1 then wAudio else if k = 2 then wVideo else wApplication
def dirW (d : Int) : Tx := if d = 1 then nSendonly else if d = 2 then nRecvonly else if d = 3 then nSendrecv else nInactive
def wayW (b : Bool) : Tx := if b then wSend else wRecv
def typesT (L : List CodecS) : Tx := L.flatMap fun c => 32 :: decI c.type
def lineM (m : MediaS) : Tx := kindW m.kind ++ 32 :: (decI m.port ++ 32 :: (if m.kind = 3 then wChannel else wStreams ++ typesT m.codecs))
def codecT (c : CodecS) : Tx := decI c.type ++ 32 :: (tx c.name ++ 47 :: (decI c.clock ++ (if c.chans = 2 then [47, 50] else [])))
def headT (n : Int) (t : Tx) : Tx := decI n ++ 32 :: t
def formatA (c : CodecS) : List AttrS := if (tx c.format).isEmpty then [] else [⟨bs nFormat, bs (headT c.type (tx c.format))⟩]
def attrsC (c : CodecS) : List AttrS := ⟨bs nCodec, bs (codecT c)⟩ :: (formatA c ++ c.feedback.map fun f => ⟨bs nFeedback, bs (headT c.type (tx f))⟩)
def attrE (x : ExtS) : AttrS := ⟨bs nExt, bs (headT x.id (tx x.uri))⟩
def attrR (b : Bool) (r : ByteArray) : AttrS := ⟨bs nRid, bs (tx r ++ 32 :: wayW b)⟩
def semi : List ByteArray → Tx
 | [] => []
 | [a] => tx a
 | a :: r => tx a ++ 59 :: semi r
def attrsR (b : Bool) (L : List ByteArray) : List AttrS := L.map (attrR b) ++ (if L.isEmpty then [] else [⟨bs nSimulcast, bs (wayW b ++ 32 :: semi L)⟩])
def attrO (n : Nat) : AttrS := ⟨bs nSource, bs (dec n)⟩
def cryptoT (c : CryptoS) : Tx := decI c.tag ++ (wInline ++ encK c.key)
def attrY (c : CryptoS) : AttrS := ⟨bs nCrypto, bs (cryptoT c)⟩
def attrsM (m : MediaS) : List AttrS :=
 ⟨bs nMid, m.mid⟩ :: ⟨bs (dirW m.dir), bs []⟩ :: (m.codecs.flatMap attrsC ++ (m.exts.map attrE ++ (attrsR m.sending m.rids ++ (m.sources.map attrO ++ (m.crypto.map attrY ++ (if m.kind = 3 then [⟨bs nSctp, bs (decI m.sctp)⟩] else []))))))
def partM (m : MediaS) : PartS := ⟨bs (lineM m), bs wConn, attrsM m⟩
def mayM (m : MediaS) : Bool := goodM m && decide ((attrsM m).length ≤ 64)
structure Rdr where
 num : Tx → Int
 src : Tx → Nat
 cry : Tx → CryptoS
 still : Int → Int
structure Rdr.Law (R : Rdr) : Prop where
 num : ∀ n, n ≤ 1000000 → R.num (dec n) = n
 src : ∀ n, n < 4294967296 → R.src (dec n) = n
 cry : ∀ c, 1 ≤ c.tag → c.tag ≤ 9 → c.key.length = 30 → R.cry (cryptoT c) = c
 still : R.still 0 = 0
theorem Rdr.Law.numI {R : Rdr} (h : R.Law) {n : Int} (h0 : 0 ≤ n) (h1 : n ≤ 1000000) : R.num (decI n) = n := by
 unfold decI
 rw [h.num _ (by omega)]
 omega
def hd (l : Tx) : Tx := (cutS [32] l).1
def tl (l : Tx) : Tx := (cutS [32] l).2.1
def kindOf (l : Tx) : Int := if l = wAudio then 1 else if l = wVideo then 2 else if l = wApplication then 3 else 0
def startM (R : Rdr) (line : Tx) : MediaS := { MediaS.zero with kind := kindOf (hd line), port := R.num (hd (tl line)) }
def codecOf (R : Rdr) (v : Tx) : CodecS :=
 let rest := cutS [47] (tl v)
 let more := cutS [47] rest.2.1
 ⟨R.num (hd v), bs rest.1, R.num more.1, if more.2.1 = [50] then 2 else 1, bs [], []⟩
def onLast (f : CodecS → CodecS) (L : List CodecS) : List CodecS := match L.getLast? with
 | none => L
 | some c => L.dropLast ++ [f c]
def rd (R : Rdr) (m : MediaS) (a : AttrS) : MediaS :=
 let n := tx a.name
 let v := tx a.value
 if n = nMid then { m with mid := a.value }
 else if n = nCodec then { m with codecs := m.codecs ++ [codecOf R v] }
 else if n = nFormat then { m with codecs := onLast (fun c => { c with format := bs (tl v) }) m.codecs }
 else if n = nFeedback then { m with codecs := onLast (fun c => { c with feedback := c.feedback ++ [bs (tl v)] }) m.codecs }
 else if n = nExt then { m with exts := m.exts ++ [⟨R.num (hd v), bs (tl v)⟩] }
 else if n = nRid then { m with rids := m.rids ++ [bs (hd v)], sending := decide (tl v = wSend) }
 else if n = nSimulcast then m
 else if n = nSource then { m with sources := m.sources ++ [R.src v] }
 else if n = nCrypto then { m with crypto := m.crypto ++ [R.cry v] }
 else if n = nSctp then { m with sctp := R.num v }
 else if n = nInactive then { m with dir := R.still m.dir }
 else if n = nSendonly then { m with dir := 1 }
 else if n = nRecvonly then { m with dir := 2 }
 else if n = nSendrecv then { m with dir := 3 }
 else m
def knownN : List Tx := [nMid, nInactive, nSendonly, nRecvonly, nSendrecv, nCodec, nFormat, nFeedback, nExt, nRid, nSimulcast, nSource, nCrypto, nSctp]
def known (a : AttrS) : Bool := knownN.contains (tx a.name)
def readM (R : Rdr) (p : PartS) : MediaS := (p.attrs.filter known).foldl (rd R) (startM R (tx p.line))
def IsM (p : PartS) (m : MediaS) : Prop := mayM m = true ∧ lineM m = tx p.line ∧ p.conn = bs wConn ∧ attrsM m = p.attrs.filter known
section
variable {R : Rdr}
theorem cut_at {c0 : UInt8} (a b : Tx) (h : ∀ c ∈ a, c ≠ c0) : cutS [c0] (a ++ c0 :: b) = (a, b, true) := by
 have := cutS_clean (c0 := c0) (t := []) a b h
 simpa using this
theorem hd_at (a b : Tx) (h : ∀ c ∈ a, c ≠ 32) : hd (a ++ 32 :: b) = a := by unfold hd; rw [cut_at a b h]
theorem tl_at (a b : Tx) (h : ∀ c ∈ a, c ≠ 32) : tl (a ++ 32 :: b) = b := by unfold tl; rw [cut_at a b h]
theorem decI_32 (n : Int) : ∀ c ∈ decI n, c ≠ 32 := decI_free n 32 (by decide)
theorem decI_47 (n : Int) : ∀ c ∈ decI n, c ≠ 47 := decI_free n 47 (by decide)
theorem word_47 {lo hi : Nat} {l : Tx} (h : wordP lo hi l = true) : ∀ c ∈ l, c ≠ 47 := fun c hc e => by
 have := wordP_in h c hc
 subst e
 revert this
 decide
theorem word_32 {lo hi : Nat} {l : Tx} (h : wordP lo hi l = true) : ∀ c ∈ l, c ≠ 32 := fun c hc => (inWd_not (wordP_in h c hc)).2.2
theorem goodC_parts {c : CodecS} (h : goodC c = true) : (0 ≤ c.type ∧ c.type ≤ 127) ∧ wordP 1 32 (tx c.name) = true ∧ (1 ≤ c.clock ∧ c.clock ≤ 1000000) ∧ (c.chans = 1 ∨ c.chans = 2) ∧ ((tx c.format).isEmpty = true ∨ plainP (tx c.format) = true) ∧ c.feedback.length ≤ 8 ∧ ∀ f ∈ c.feedback, plainP (tx f) = true := by
 unfold goodC at h
 simp only [Bool.and_eq_true, Bool.or_eq_true, decide_eq_true_eq, List.all_eq_true] at h
 obtain ⟨⟨⟨⟨⟨⟨⟨⟨h1, h2⟩, h3⟩, h4⟩, h5⟩, h6⟩, h7⟩, h8⟩, h9, h10⟩ := h
 exact ⟨⟨h1, h2⟩, h3, ⟨h4, h5⟩, by omega, h8, h9, h10⟩
theorem codecOf_text (hR : R.Law) {c : CodecS} (hc : goodC c = true) : codecOf R (codecT c) = { c with format := bs [], feedback := [] } := by
 obtain ⟨h1, h2, h3, h4, _⟩ := goodC_parts hc
 have e1 : hd (codecT c) = decI c.type := hd_at _ _ (decI_32 _)
 have e2 : tl (codecT c) = tx c.name ++ 47 :: (decI c.clock ++ (if c.chans = 2 then [47, 50] else [])) := tl_at _ _ (decI_32 _)
 have e3 := cut_at (c0 := 47) (tx c.name) (decI c.clock ++ (if c.chans = 2 then [47, 50] else [])) (word_47 h2)
 unfold codecOf
 rw [e1, e2, e3]
 simp only
 rcases h4 with h4 | h4
 · have e4 := cutS_free (c0 := 47) (t := []) (decI c.clock) (decI_47 _)
   rw [h4, if_neg (by decide), List.append_nil, e4]
   simp only
   rw [hR.numI (by omega) (by omega), hR.numI (by omega) (by omega), bs_tx, if_neg (by decide), ← h4]
 · have e4 := cut_at (c0 := 47) (decI c.clock) [50] (decI_47 _)
   rw [h4, if_pos rfl, e4]
   simp only
   rw [hR.numI (by omega) (by omega), hR.numI (by omega) (by omega), bs_tx, if_pos trivial, ← h4]
theorem onLast_snoc (f : CodecS → CodecS) (L : List CodecS) (c : CodecS) : onLast f (L ++ [c]) = L ++ [f c] := by
 unfold onLast
 rw [List.getLast?_concat]
 simp
theorem rd_mid (m : MediaS) (v : ByteArray) : rd R m ⟨bs nMid, v⟩ = { m with mid := v } := by unfold rd; simp [nMid]
theorem rd_codec (m : MediaS) (v : Tx) : rd R m ⟨bs nCodec, bs v⟩ = { m with codecs := m.codecs ++ [codecOf R v] } := by
 unfold rd
 simp only [tx_bs]
 rw [if_neg (by decide), if_pos trivial]
theorem rd_format (m : MediaS) (v : Tx) : rd R m ⟨bs nFormat, bs v⟩ = { m with codecs := onLast (fun c => { c with format := bs (tl v) }) m.codecs } := by
 unfold rd
 simp only [tx_bs]
 rw [if_neg (by decide), if_neg (by decide), if_pos trivial]
theorem rd_feedback (m : MediaS) (v : Tx) : rd R m ⟨bs nFeedback, bs v⟩ = { m with codecs := onLast (fun c => { c with feedback := c.feedback ++ [bs (tl v)] }) m.codecs } := by
 unfold rd
 simp only [tx_bs]
 rw [if_neg (by decide), if_neg (by decide), if_neg (by decide), if_pos trivial]
theorem rd_ext (m : MediaS) (v : Tx) : rd R m ⟨bs nExt, bs v⟩ = { m with exts := m.exts ++ [⟨R.num (hd v), bs (tl v)⟩] } := by
 unfold rd
 simp only [tx_bs]
 rw [if_neg (by decide), if_neg (by decide), if_neg (by decide), if_neg (by decide), if_pos trivial]
theorem rd_rid (m : MediaS) (v : Tx) : rd R m ⟨bs nRid, bs v⟩ = { m with rids := m.rids ++ [bs (hd v)], sending := decide (tl v = wSend) } := by
 unfold rd
 simp only [tx_bs]
 rw [if_neg (by decide), if_neg (by decide), if_neg (by decide), if_neg (by decide), if_neg (by decide), if_pos trivial]
theorem rd_simulcast (m : MediaS) (v : Tx) : rd R m ⟨bs nSimulcast, bs v⟩ = m := by
 unfold rd
 simp only [tx_bs]
 rw [if_neg (by decide), if_neg (by decide), if_neg (by decide), if_neg (by decide), if_neg (by decide), if_neg (by decide), if_pos trivial]
theorem rd_source (m : MediaS) (v : Tx) : rd R m ⟨bs nSource, bs v⟩ = { m with sources := m.sources ++ [R.src v] } := by
 unfold rd
 simp only [tx_bs]
 rw [if_neg (by decide), if_neg (by decide), if_neg (by decide), if_neg (by decide), if_neg (by decide), if_neg (by decide), if_neg (by decide), if_pos trivial]
theorem rd_crypto (m : MediaS) (v : Tx) : rd R m ⟨bs nCrypto, bs v⟩ = { m with crypto := m.crypto ++ [R.cry v] } := by
 unfold rd
 simp only [tx_bs]
 rw [if_neg (by decide), if_neg (by decide), if_neg (by decide), if_neg (by decide), if_neg (by decide), if_neg (by decide), if_neg (by decide), if_neg (by decide), if_pos trivial]
theorem rd_sctp (m : MediaS) (v : Tx) : rd R m ⟨bs nSctp, bs v⟩ = { m with sctp := R.num v } := by
 unfold rd
 simp only [tx_bs]
 rw [if_neg (by decide), if_neg (by decide), if_neg (by decide), if_neg (by decide), if_neg (by decide), if_neg (by decide), if_neg (by decide), if_neg (by decide), if_neg (by decide), if_pos trivial]
theorem rd_dir (hR : R.Law) (m : MediaS) {d : Int} (h0 : 0 ≤ d) (h3 : d ≤ 3) (hm : m.dir = 0) : rd R m ⟨bs (dirW d), bs []⟩ = { m with dir := d } := by
 have : d = 0 ∨ d = 1 ∨ d = 2 ∨ d = 3 := by omega
 rcases this with rfl | rfl | rfl | rfl
 · have e : rd R m ⟨bs (dirW 0), bs []⟩ = { m with dir := R.still m.dir } := by
    unfold rd
    simp only [tx_bs]
    rw [if_neg (by decide), if_neg (by decide), if_neg (by decide), if_neg (by decide), if_neg (by decide), if_neg (by decide), if_neg (by decide), if_neg (by decide), if_neg (by decide), if_neg (by decide), if_pos (by decide)]
   rw [e, hm, hR.still]
 · unfold rd
   simp only [tx_bs]
   rw [if_neg (by decide), if_neg (by decide), if_neg (by decide), if_neg (by decide), if_neg (by decide), if_neg (by decide), if_neg (by decide), if_neg (by decide), if_neg (by decide), if_neg (by decide), if_neg (by decide), if_pos (by decide)]
 · unfold rd
   simp only [tx_bs]
   rw [if_neg (by decide), if_neg (by decide), if_neg (by decide), if_neg (by decide), if_neg (by decide), if_neg (by decide), if_neg (by decide), if_neg (by decide), if_neg (by decide), if_neg (by decide), if_neg (by decide), if_neg (by decide), if_pos (by decide)]
 · unfold rd
   simp only [tx_bs]
   rw [if_neg (by decide), if_neg (by decide), if_neg (by decide), if_neg (by decide), if_neg (by decide), if_neg (by decide), if_neg (by decide), if_neg (by decide), if_neg (by decide), if_neg (by decide), if_neg (by decide), if_neg (by decide), if_neg (by decide), if_pos (by decide)]
theorem fold_fb (n : Int) : ∀ (F : List ByteArray) (m : MediaS) (L : List CodecS) (c : CodecS), m.codecs = L ++ [c] → (F.map fun f => (⟨bs nFeedback, bs (headT n (tx f))⟩ : AttrS)).foldl (rd R) m = { m with codecs := L ++ [{ c with feedback := c.feedback ++ F }] }
 | [], m, L, c, h => by
   cases m
   simp at h
   subst h
   simp
 | f :: F, m, L, c, h => by
   rw [List.map_cons, List.foldl_cons, rd_feedback, h, onLast_snoc]
   have e : tl (headT n (tx f)) = tx f := tl_at _ _ (decI_32 _)
   rw [e, bs_tx, fold_fb n F _ L { c with feedback := c.feedback ++ [f] } rfl]
   simp
theorem fold_codec (hR : R.Law) (m : MediaS) {c : CodecS} (hc : goodC c = true) : (attrsC c).foldl (rd R) m = { m with codecs := m.codecs ++ [c] } := by
 unfold attrsC
 rw [List.foldl_cons, rd_codec, codecOf_text hR hc, List.foldl_append]
 have e1 : (formatA c).foldl (rd R) { m with codecs := m.codecs ++ [{ c with format := bs [], feedback := [] }] } = { m with codecs := m.codecs ++ [{ c with feedback := [] }] } := by
  unfold formatA
  by_cases h : (tx c.format).isEmpty = true
  · rw [if_pos h]
    have : c.format = bs [] := by rw [← bs_tx c.format, List.isEmpty_iff.1 h]
    rw [← this]
    rfl
  · rw [if_neg h, List.foldl_cons, List.foldl_nil, rd_format, onLast_snoc]
    have e : tl (headT c.type (tx c.format)) = tx c.format := tl_at _ _ (decI_32 _)
    rw [e, bs_tx]
 rw [e1, fold_fb c.type c.feedback _ m.codecs { c with feedback := [] } rfl]
 simp
theorem fold_codecs (hR : R.Law) : ∀ (L : List CodecS) (m : MediaS), (∀ c ∈ L, goodC c = true) → (L.flatMap attrsC).foldl (rd R) m = { m with codecs := m.codecs ++ L }
 | [], m, _ => by simp
 | c :: L, m, h => by
   rw [List.flatMap_cons, List.foldl_append, fold_codec hR m (h c (by simp)), fold_codecs hR L _ (fun d hd => h d (by simp [hd]))]
   simp
theorem fold_exts (hR : R.Law) : ∀ (L : List ExtS) (m : MediaS), (∀ x ∈ L, goodE x = true) → (L.map attrE).foldl (rd R) m = { m with exts := m.exts ++ L }
 | [], m, _ => by simp
 | x :: L, m, h => by
   have hx := h x (by simp)
   unfold goodE at hx
   simp only [Bool.and_eq_true, decide_eq_true_eq] at hx
   have e1 : hd (headT x.id (tx x.uri)) = decI x.id := hd_at _ _ (decI_32 _)
   have e2 : tl (headT x.id (tx x.uri)) = tx x.uri := tl_at _ _ (decI_32 _)
   have e3 : rd R m (attrE x) = { m with exts := m.exts ++ [x] } := by
    show rd R m ⟨bs nExt, bs (headT x.id (tx x.uri))⟩ = _
    rw [rd_ext, e1, e2, hR.numI (by omega) (by omega), bs_tx]
   rw [List.map_cons, List.foldl_cons, e3, fold_exts hR L _ (fun d hd => h d (by simp [hd]))]
   simp
theorem fold_rids (b : Bool) : ∀ (L : List ByteArray) (m : MediaS), (∀ r ∈ L, goodR r = true) → (L.map (attrR b)).foldl (rd R) m = { m with rids := m.rids ++ L, sending := if L.isEmpty then m.sending else b }
 | [], m, _ => by simp
 | r :: L, m, h => by
   have hr := word_32 (h r (by simp))
   have e3 : rd R m (attrR b r) = { m with rids := m.rids ++ [r], sending := b } := by
    show rd R m ⟨bs nRid, bs (tx r ++ 32 :: wayW b)⟩ = _
    rw [rd_rid, hd_at _ _ hr, tl_at _ _ hr, bs_tx]
    cases b
    · rfl
    · rfl
   rw [List.map_cons, List.foldl_cons, e3, fold_rids b L _ (fun d hd => h d (by simp [hd]))]
   simp
theorem fold_ridsA (b : Bool) (L : List ByteArray) (m : MediaS) (h : ∀ r ∈ L, goodR r = true) : (attrsR b L).foldl (rd R) m = { m with rids := m.rids ++ L, sending := if L.isEmpty then m.sending else b } := by
 unfold attrsR
 rw [List.foldl_append, fold_rids b L m h]
 cases L with
 | nil => rfl
 | cons r L =>
   show List.foldl (rd R) _ [⟨bs nSimulcast, bs (wayW b ++ 32 :: semi (r :: L))⟩] = _
   rw [List.foldl_cons, List.foldl_nil, rd_simulcast]
theorem fold_sources (hR : R.Law) : ∀ (L : List Nat) (m : MediaS), (∀ n ∈ L, n < 4294967296) → (L.map attrO).foldl (rd R) m = { m with sources := m.sources ++ L }
 | [], m, _ => by simp
 | n :: L, m, h => by
   have e3 : rd R m (attrO n) = { m with sources := m.sources ++ [n] } := by
    show rd R m ⟨bs nSource, bs (dec n)⟩ = _
    rw [rd_source, hR.src n (h n (by simp))]
   rw [List.map_cons, List.foldl_cons, e3, fold_sources hR L _ (fun d hd => h d (by simp [hd]))]
   simp
theorem fold_cryptos (hR : R.Law) : ∀ (L : List CryptoS) (m : MediaS), (∀ c ∈ L, goodY c = true ∧ c.key.length = 30) → (L.map attrY).foldl (rd R) m = { m with crypto := m.crypto ++ L }
 | [], m, _ => by simp
 | c :: L, m, h => by
   obtain ⟨hc, hk⟩ := h c (by simp)
   unfold goodY at hc
   simp only [Bool.and_eq_true, decide_eq_true_eq] at hc
   have e3 : rd R m (attrY c) = { m with crypto := m.crypto ++ [c] } := by
    show rd R m ⟨bs nCrypto, bs (cryptoT c)⟩ = _
    rw [rd_crypto, hR.cry c hc.1 hc.2 hk]
   rw [List.map_cons, List.foldl_cons, e3, fold_cryptos hR L _ (fun d hd => h d (by simp [hd]))]
   simp
end
def TypedM (m : MediaS) : Prop := (∀ n ∈ m.sources, n < 4294967296) ∧ ∀ c ∈ m.crypto, c.key.length = 30
structure GoodS (m : MediaS) : Prop where
 codecs : ∀ c ∈ m.codecs, goodC c = true
 exts : ∀ x ∈ m.exts, goodE x = true
 rids : ∀ r ∈ m.rids, goodR r = true
 crypto : ∀ c ∈ m.crypto, goodY c = true
 sending : m.rids = [] → m.sending = false
 sctp : m.kind ≠ 3 → m.sctp = 0
 port : m.sctp ≤ 65535
 low : 0 ≤ m.sctp
 counts : m.codecs.length ≤ 16 ∧ m.exts.length ≤ 14 ∧ m.rids.length ≤ 3 ∧ m.sources.length ≤ 16 ∧ m.crypto.length ≤ 1
theorem goodM_parts {m : MediaS} (h : goodM m = true) : (m.port = 0 ∨ m.port = 9) ∧ wordP 1 16 (tx m.mid) = true ∧ (0 ≤ m.dir ∧ m.dir ≤ 3) ∧ (m.kind = 1 ∨ m.kind = 2 ∨ m.kind = 3) ∧ GoodS m := by
 unfold goodM goodHead at h
 simp only [Bool.and_eq_true, Bool.or_eq_true, decide_eq_true_eq] at h
 obtain ⟨⟨⟨⟨h1, h2⟩, h3⟩, h4⟩, h5⟩ := h
 refine ⟨h1, h2, ⟨h3, h4⟩, ?_, ?_⟩
 · rcases h5 with ⟨h5 | h5, _⟩ | ⟨h5, _⟩ <;> simp [h5]
 · rcases h5 with ⟨hk, h5⟩ | ⟨hk, h5⟩
   · unfold goodStreams at h5
     simp only [Bool.and_eq_true, Bool.or_eq_true, decide_eq_true_eq, List.all_eq_true, Bool.not_eq_true'] at h5
     obtain ⟨⟨⟨⟨⟨⟨⟨h1, ⟨h2, h3⟩, _⟩, ⟨h4, h5⟩, _⟩, ⟨h6, h7⟩, _⟩, h8⟩, h9, _⟩, h10, h11⟩, h12⟩ := h5
     refine ⟨h3, h5, h7, h11, fun e => ?_, fun _ => h12, by omega, by omega, h2, h4, h6, h9, h10⟩
     rcases h8 with h8 | h8
     · rw [e] at h8
       simp at h8
     · exact h8
   · unfold goodChannel at h5
     simp only [Bool.and_eq_true, decide_eq_true_eq, Bool.not_eq_true'] at h5
     obtain ⟨⟨⟨h1, h2⟩, h3⟩, h4⟩ := h5
     have e1 : m.codecs = [] := List.eq_nil_of_length_eq_zero (by omega)
     have e2 : m.exts = [] := List.eq_nil_of_length_eq_zero (by omega)
     have e3 : m.rids = [] := List.eq_nil_of_length_eq_zero (by omega)
     have e4 : m.crypto = [] := List.eq_nil_of_length_eq_zero (by omega)
     refine ⟨by rw [e1]; simp, by rw [e2]; simp, by rw [e3]; simp, by rw [e4]; simp, fun _ => h2, fun h => (h hk).elim, by omega, by omega, by omega, by omega, by omega, by omega, by omega⟩
theorem fold_all {R : Rdr} (hR : R.Law) {C : List CodecS} {E : List ExtS} {Q : List ByteArray} {b : Bool} {S : List Nat} {Y : List CryptoS} (T : List AttrS) (m : MediaS) (hC : ∀ c ∈ C, goodC c = true) (hE : ∀ x ∈ E, goodE x = true) (hQ : ∀ r ∈ Q, goodR r = true) (hS : ∀ n ∈ S, n < 4294967296)
 (hY : ∀ c ∈ Y, goodY c = true ∧ c.key.length = 30) : (C.flatMap attrsC ++ (E.map attrE ++ (attrsR b Q ++ (S.map attrO ++ (Y.map attrY ++ T))))).foldl (rd R) m =
 T.foldl (rd R) { m with codecs := m.codecs ++ C, exts := m.exts ++ E, rids := m.rids ++ Q, sending := if Q.isEmpty then m.sending else b, sources := m.sources ++ S, crypto := m.crypto ++ Y } := by
 rw [List.foldl_append, fold_codecs hR _ _ hC, List.foldl_append, fold_exts hR _ _ hE, List.foldl_append, fold_ridsA _ _ _ hQ, List.foldl_append, fold_sources hR _ _ hS, List.foldl_append, fold_cryptos hR _ _ hY]
theorem fold_two {R : Rdr} (hR : R.Law) (mid : ByteArray) {d : Int} (h0 : 0 ≤ d) (h3 : d ≤ 3) (T : List AttrS) (m : MediaS) (hm : m.dir = 0) : (⟨bs nMid, mid⟩ :: ⟨bs (dirW d), bs []⟩ :: T : List AttrS).foldl (rd R) m = T.foldl (rd R) { m with mid := mid, dir := d } := by
 rw [List.foldl_cons, rd_mid, List.foldl_cons, rd_dir hR { m with mid := mid } h0 h3 hm]
theorem read_write {R : Rdr} (hR : R.Law) {m : MediaS} (hg : goodM m = true) (ht : TypedM m) : (attrsM m).foldl (rd R) (startM R (lineM m)) = m := by
 obtain ⟨hp, hm, ⟨hd0, hd3⟩, hk, hs⟩ := goodM_parts hg
 have hkw : ∀ c ∈ kindW m.kind, c ≠ 32 := by
  rcases hk with hk | hk | hk <;> rw [hk] <;> decide
 have e1 : hd (lineM m) = kindW m.kind := hd_at _ _ hkw
 have e2 : tl (lineM m) = decI m.port ++ 32 :: (if m.kind = 3 then wChannel else wStreams ++ typesT m.codecs) := tl_at _ _ hkw
 have e3 : hd (tl (lineM m)) = decI m.port := by rw [e2]; exact hd_at _ _ (decI_32 _)
 have e4 : kindOf (kindW m.kind) = m.kind := by
  rcases hk with hk | hk | hk <;> rw [hk] <;> decide
 have hsend : (if m.rids.isEmpty then false else m.sending) = m.sending := by
  by_cases h : m.rids = []
  · rw [hs.sending h]
    simp
  · rw [if_neg (by simpa using h)]
 have est : startM R (lineM m) = ⟨m.kind, m.port, bs [], 0, [], [], [], false, [], [], 0⟩ := by
  unfold startM
  rw [e1, e3, e4, hR.numI (by omega) (by omega)]
  rfl
 rw [est]
 unfold attrsM
 rw [fold_two hR m.mid hd0 hd3 _ _ rfl, fold_all hR _ _ hs.codecs hs.exts hs.rids ht.1 (fun c hc => ⟨hs.crypto c hc, ht.2 c hc⟩)]
 simp only [List.nil_append]
 rw [hsend]
 by_cases h3 : m.kind = 3
 · rw [if_pos h3, List.foldl_cons, List.foldl_nil, rd_sctp, hR.numI hs.low (by have := hs.port; omega)]
 · rw [if_neg h3, List.foldl_nil, ← hs.sctp h3]
theorem IsM.read {R : Rdr} (hR : R.Law) {p : PartS} {m : MediaS} (h : IsM p m) (ht : TypedM m) : readM R p = m := by
 obtain ⟨h1, h2, _, h4⟩ := h
 unfold mayM at h1
 rw [Bool.and_eq_true] at h1
 unfold readM
 rw [← h4, ← h2, read_write hR h1.1 ht]
end Go.Proofs.YtibpnjakimobmaaGreat
namespace Go.Proofs.YtibpnjakimobmaaGreat
open Go.RowKit
set_option linter.unusedVariables false
set_option linter.unusedSimpArgs false
theorem Tryz.sizeMedia : (Tryz.prog.info? 44).map (·.size) = some 11 := by kernel_rfl
theorem Tryz.sizeCodec : (Tryz.prog.info? 47).map (·.size) = some 6 := by kernel_rfl
theorem Tryz.sizeExt : (Tryz.prog.info? 49).map (·.size) = some 2 := by kernel_rfl
theorem Tryz.sizeCrypto : (Tryz.prog.info? 51).map (·.size) = some 31 := by kernel_rfl
theorem Tryz.sizeKey : (Tryz.prog.info? 30).map (·.size) = some 30 := by kernel_rfl
structure PartV (w : World) (B : Nat) (P : Array Value) (p : PartS) (vA : Value) : Prop where
 form : P = #[.string p.line, .string p.conn, vA]
 attrs : AttrsV w B vA p.attrs
theorem PartV.below {w w' : World} {B : Nat} {P : Array Value} {p : PartS} {vA : Value} (h : PartV w B P p vA) (hb : Below B w w') : PartV w' B P p vA := ⟨h.form, h.attrs.below hb⟩
theorem PartV.more {w : World} {B B' : Nat} {P : Array Value} {p : PartS} {vA : Value} (h : PartV w B P p vA) (hB : B ≤ B') : PartV w B' P p vA := ⟨h.form, h.attrs.more hB⟩
theorem PartV.under {w w' : World} {P : Array Value} {p : PartS} {vA : Value} (h : PartV w w.heap.size P p vA) (hb : Below w.heap.size w w') : PartV w' w'.heap.size P p vA := (h.below hb).more hb.size
def RT (f : Nat → Option Value) (s : ByteArray) : Prop := f 0 = some (.string s)
def TextsV (w : World) (B : Nat) (v : Value) (L : List ByteArray) : Prop := Rows w B 1 RT v L
def RU (f : Nat → Option Value) (n : Nat) : Prop := f 0 = some (.int .u32 n)
def NumsV (w : World) (B : Nat) (v : Value) (L : List Nat) : Prop := Rows w B 1 RU v L
def RE (f : Nat → Option Value) (x : ExtS) : Prop := f 0 = some (.int .i64 x.id) ∧ f 1 = some (.string x.uri)
def ExtsV (w : World) (B : Nat) (v : Value) (L : List ExtS) : Prop := Rows w B 2 RE v L
def keyC (k : Tx) : List Value := k.map fun c => .int .u8 (c.toNat : Int)
def cryC (c : CryptoS) : List Value := .int .i64 c.tag :: keyC c.key
def RY (f : Nat → Option Value) (c : CryptoS) : Prop := c.key.length = 30 ∧ ∀ j, j < 31 → f j = (cryC c)[j]?
def CrysV (w : World) (B : Nat) (v : Value) (L : List CryptoS) : Prop := Rows w B 31 RY v L
def RC (w : World) (B : Nat) (f : Nat → Option Value) (c : CodecS) : Prop :=
 f 0 = some (.int .i64 c.type) ∧ f 1 = some (.string c.name) ∧ f 2 = some (.int .i64 c.clock) ∧ f 3 = some (.int .i64 c.chans) ∧ f 4 = some (.string c.format) ∧ ∃ v, f 5 = some v ∧ TextsV w B v c.feedback
def CodecsV (w : World) (B : Nat) (v : Value) (L : List CodecS) : Prop := Rows w B 6 (RC w B) v L
section
variable {w w' : World} {B B' : Nat} {v : Value}
theorem TextsV.below {L : List ByteArray} (h : TextsV w B v L) (hb : Below B w w') : TextsV w' B v L := Rows.below h hb fun _ _ _ h => h
theorem TextsV.more {L : List ByteArray} (h : TextsV w B v L) (hB : B ≤ B') : TextsV w B' v L := Rows.more h hB
theorem NumsV.below {L : List Nat} (h : NumsV w B v L) (hb : Below B w w') : NumsV w' B v L := Rows.below h hb fun _ _ _ h => h
theorem NumsV.more {L : List Nat} (h : NumsV w B v L) (hB : B ≤ B') : NumsV w B' v L := Rows.more h hB
theorem ExtsV.below {L : List ExtS} (h : ExtsV w B v L) (hb : Below B w w') : ExtsV w' B v L := Rows.below h hb fun _ _ _ h => h
theorem ExtsV.more {L : List ExtS} (h : ExtsV w B v L) (hB : B ≤ B') : ExtsV w B' v L := Rows.more h hB
theorem CrysV.below {L : List CryptoS} (h : CrysV w B v L) (hb : Below B w w') : CrysV w' B v L := Rows.below h hb fun _ _ _ h => h
theorem CrysV.more {L : List CryptoS} (h : CrysV w B v L) (hB : B ≤ B') : CrysV w B' v L := Rows.more h hB
theorem RC.below {f : Nat → Option Value} {c : CodecS} (h : RC w B f c) (hb : Below B w w') : RC w' B f c := by
 obtain ⟨h0, h1, h2, h3, h4, u, h5, h6⟩ := h
 exact ⟨h0, h1, h2, h3, h4, u, h5, h6.below hb⟩
theorem RC.more {f : Nat → Option Value} {c : CodecS} (h : RC w B f c) (hB : B ≤ B') : RC w B' f c := by
 obtain ⟨h0, h1, h2, h3, h4, u, h5, h6⟩ := h
 exact ⟨h0, h1, h2, h3, h4, u, h5, h6.more hB⟩
theorem CodecsV.below {L : List CodecS} (h : CodecsV w B v L) (hb : Below B w w') : CodecsV w' B v L := Rows.below h hb fun _ _ _ h => h.below hb
theorem CodecsV.more {L : List CodecS} (h : CodecsV w B v L) (hB : B ≤ B') : CodecsV w B' v L := Rows.more (Rows.mono h fun _ _ _ h => h.more hB) hB
theorem TextsV.at_ {L : List ByteArray} (h : TextsV w B v L) {i : Nat} (hi : i < L.length) : ∃ ad c, v = .slice (some ad) L.length c ∧ ad.block < B ∧ w.cell? (ad.add i) = some (.string (L.getD i default)) := by
 obtain ⟨ad, c, h1, h2, _, _, h3⟩ := Rows.at_ h (List.getElem?_eq_getElem hi)
 have e : L.getD i default = L[i] := by simp [List.getD, hi]
 rw [e]
 refine ⟨ad, c, h1, h2, ?_⟩
 have h3 : w.cell? (ad.add (i * 1 + 0)) = some (.string L[i]) := h3
 rwa [Nat.mul_one, Nat.add_zero] at h3
theorem NumsV.at_ {L : List Nat} (h : NumsV w B v L) {i : Nat} (hi : i < L.length) : ∃ ad c, v = .slice (some ad) L.length c ∧ ad.block < B ∧ w.cell? (ad.add i) = some (.int .u32 (L.getD i default : Nat)) := by
 obtain ⟨ad, c, h1, h2, _, _, h3⟩ := Rows.at_ h (List.getElem?_eq_getElem hi)
 have e : L.getD i default = L[i] := by simp [List.getD, hi]
 rw [e]
 refine ⟨ad, c, h1, h2, ?_⟩
 have h3 : w.cell? (ad.add (i * 1 + 0)) = some (.int .u32 (L[i] : Nat)) := h3
 rwa [Nat.mul_one, Nat.add_zero] at h3
theorem ExtsV.at_ {L : List ExtS} (h : ExtsV w B v L) {i : Nat} (hi : i < L.length) : ∃ ad c, v = .slice (some ad) L.length c ∧ ad.block < B ∧
 w.cell? (ad.add (i * 2)) = some (.int .i64 (L.getD i default).id) ∧ w.cell? ⟨(ad.add (i * 2)).block, (ad.add (i * 2)).off + 1, none⟩ = some (.string (L.getD i default).uri) := by
 obtain ⟨ad, c, h1, h2, _, _, h3, h4⟩ := Rows.at_ h (List.getElem?_eq_getElem hi)
 have e : L.getD i default = L[i] := by simp [List.getD, hi]
 rw [e]
 refine ⟨ad, c, h1, h2, h3, ?_⟩
 rw [← add_next _ _ 1 (by decide)]
 exact h4
theorem CodecsV.at_ {L : List CodecS} (h : CodecsV w B v L) {i : Nat} (hi : i < L.length) : ∃ ad c vf, v = .slice (some ad) L.length c ∧ ad.block < B ∧
 w.cell? (ad.add (i * 6)) = some (.int .i64 (L.getD i default).type) ∧ w.cell? ⟨(ad.add (i * 6)).block, (ad.add (i * 6)).off + 1, none⟩ = some (.string (L.getD i default).name) ∧
 w.cell? ⟨(ad.add (i * 6)).block, (ad.add (i * 6)).off + 2, none⟩ = some (.int .i64 (L.getD i default).clock) ∧ w.cell? ⟨(ad.add (i * 6)).block, (ad.add (i * 6)).off + 3, none⟩ = some (.int .i64 (L.getD i default).chans) ∧
 w.cell? ⟨(ad.add (i * 6)).block, (ad.add (i * 6)).off + 4, none⟩ = some (.string (L.getD i default).format) ∧ w.cell? ⟨(ad.add (i * 6)).block, (ad.add (i * 6)).off + 5, none⟩ = some vf ∧ TextsV w B vf (L.getD i default).feedback := by
 obtain ⟨ad, c, h1, h2, _, _, h3, h4, h5, h6, h7, vf, h8, h9⟩ := Rows.at_ h (List.getElem?_eq_getElem hi)
 have e : L.getD i default = L[i] := by simp [List.getD, hi]
 rw [e]
 refine ⟨ad, c, vf, h1, h2, h3, ?_, ?_, ?_, ?_, ?_, h9⟩
 · rw [← add_next _ _ 1 (by decide)]; exact h4
 · rw [← add_next _ _ 2 (by decide)]; exact h5
 · rw [← add_next _ _ 3 (by decide)]; exact h6
 · rw [← add_next _ _ 4 (by decide)]; exact h7
 · rw [← add_next _ _ 5 (by decide)]; exact h8
end
structure MediaV (w : World) (B : Nat) (M : Array Value) (m : MediaS) (vC vE vR vS vY : Value) : Prop where
 form : M = #[.int .i64 m.kind, .int .i64 m.port, .string m.mid, .int .i64 m.dir, vC, vE, vR, .bool m.sending, vS, vY, .int .i64 m.sctp]
 codecs : CodecsV w B vC m.codecs
 exts : ExtsV w B vE m.exts
 rids : TextsV w B vR m.rids
 sources : NumsV w B vS m.sources
 crypto : CrysV w B vY m.crypto
section
variable {w w' : World} {B B' : Nat} {M : Array Value} {m : MediaS} {vC vE vR vS vY : Value}
theorem MediaV.below (h : MediaV w B M m vC vE vR vS vY) (hb : Below B w w') : MediaV w' B M m vC vE vR vS vY := ⟨h.form, h.codecs.below hb, h.exts.below hb, h.rids.below hb, h.sources.below hb, h.crypto.below hb⟩
theorem MediaV.more (h : MediaV w B M m vC vE vR vS vY) (hB : B ≤ B') : MediaV w B' M m vC vE vR vS vY := ⟨h.form, h.codecs.more hB, h.exts.more hB, h.rids.more hB, h.sources.more hB, h.crypto.more hB⟩
theorem MediaV.under (h : MediaV w w.heap.size M m vC vE vR vS vY) (hb : Below w.heap.size w w') : MediaV w' w'.heap.size M m vC vE vR vS vY := (h.below hb).more hb.size
theorem MediaV.size (h : MediaV w B M m vC vE vR vS vY) : M.size = 11 := by rw [h.form]; rfl
end
structure SizM (m : MediaS) : Prop where
 mid : m.mid.size ≤ 140737488355328
 names : ∀ c ∈ m.codecs, c.name.size ≤ 140737488355328 ∧ c.format.size ≤ 140737488355328 ∧ ∀ f ∈ c.feedback, f.size ≤ 140737488355328
 feeds : ∀ c ∈ m.codecs, c.feedback.length ≤ 140737488355328
 uris : ∀ x ∈ m.exts, x.uri.size ≤ 140737488355328
 rids : ∀ r ∈ m.rids, r.size ≤ 140737488355328
 typed : TypedM m
 counts : m.codecs.length ≤ 1759218604390 ∧ m.exts.length ≤ 5864062014634 ∧ m.rids.length ≤ 8796093021952 ∧ m.sources.length ≤ 35184372087808 ∧ m.crypto.length ≤ 3518437208780
end Go.Proofs.YtibpnjakimobmaaGreat
namespace Go.Proofs
open Go.Shelf
def Tryz.lays144_ren : Go.Shelf.Ren := ⟨fun | 144 => 100 | 143 => 109 | 219 => 114 | 217 => 115 | 225 => 116 | 224 => 117 | 267 => 118 | 266 => 119 | 314 => 120 | n => n, fun | 9 => 9 | 4 => 4 | 3 => 3 | 5 => 5 | 46 => 45 | 146 => 117 | 51 => 70 | n => n, fun | 1 => 0 | n => n⟩
theorem Tryz.lays144 : Go.Proofs.Lays.n144 Tryz.prog Tryz.lays144_ren := {
 mixed := by kernel_rfl
 f143 := Tryz.func109.trans (congrArg some (by kernel_rfl))
 f144 := Tryz.func100.trans (congrArg some (by kernel_rfl))
 f217 := Tryz.func115.trans (congrArg some (by kernel_rfl))
 f219 := Tryz.func114.trans (congrArg some (by kernel_rfl))
 f224 := Tryz.func117.trans (congrArg some (by kernel_rfl))
 f225 := Tryz.func116.trans (congrArg some (by kernel_rfl))
 f266 := Tryz.func119.trans (congrArg some (by kernel_rfl))
 f267 := Tryz.func118.trans (congrArg some (by kernel_rfl))
 f314 := Tryz.func120.trans (congrArg some (by kernel_rfl))
 t3 := Tryz.underlying3
 a3 := Tryz.isAgg3
 z3 := Tryz.sizeOf3
 v3 := Tryz.zeroValue3
 t4 := Tryz.underlying4
 a4 := Tryz.isAgg4
 z4 := Tryz.sizeOf4
 v4 := Tryz.zeroValue4
 t5 := Tryz.underlying5
 a5 := Tryz.isAgg5
 z5 := Tryz.sizeOf5
 v5 := Tryz.zeroValue5
 t9 := Tryz.underlying9
 a9 := Tryz.isAgg9
 z9 := Tryz.sizeOf9
 v9 := Tryz.zeroValue9
 t46 := Tryz.underlying45
 a46 := Tryz.isAgg45
 z46 := Tryz.sizeOf45
 v46 := Tryz.zeroValue45
 t51 := Tryz.underlying70
 a51 := Tryz.isAgg70
 z51 := Tryz.sizeOf70
 v51 := Tryz.zeroValue70
 t146 := Tryz.underlying117
 a146 := Tryz.isAgg117
 z146 := Tryz.sizeOf117
 v146 := Tryz.zeroValue117
 g1 := by kernel_rfl }
open Go.RowKit Go.Lib in
theorem Tryz.strings_Contains_one (s : ByteArray) (c : UInt8) (w : World) :
 Calls Tryz.prog 100 #[.string s, .string ⟨#[c]⟩] w fun e w' => e = .returned (.bool (decide (0 ≤ Lib.indexByte s.data.toList c))) ∧ w' = w := Any.strings_Contains_one Tryz.lays144 s c w
def Tryz.lays99_ren : Go.Shelf.Ren := ⟨fun | 99 => 106 | 206 => 112 | n => n, fun | 9 => 9 | 4 => 4 | 3 => 3 | n => n, fun | n => n⟩
theorem Tryz.lays99 : Go.Proofs.Lays.n99 Tryz.prog Tryz.lays99_ren := {
 mixed := by kernel_rfl
 f99 := Tryz.func106.trans (congrArg some (by kernel_rfl))
 f206 := Tryz.func112.trans (congrArg some (by kernel_rfl))
 t3 := Tryz.underlying3
 a3 := Tryz.isAgg3
 z3 := Tryz.sizeOf3
 v3 := Tryz.zeroValue3
 t4 := Tryz.underlying4
 a4 := Tryz.isAgg4
 z4 := Tryz.sizeOf4
 v4 := Tryz.zeroValue4
 t9 := Tryz.underlying9
 a9 := Tryz.isAgg9
 z9 := Tryz.sizeOf9
 v9 := Tryz.zeroValue9 }
open Go.RowKit Go.Lib in
theorem Tryz.strings_HasPrefix (s p : ByteArray) (w : World) :
 Calls Tryz.prog 106 #[.string s, .string p] w fun e w' => e = .returned (.bool (Lib.hasPrefix s.data.toList p.data.toList)) ∧ w' = w := Any.strings_HasPrefix Tryz.lays99 s p w
def Tryz.lays100_ren : Go.Shelf.Ren := ⟨fun | 100 => 107 | 207 => 113 | n => n, fun | 9 => 9 | 4 => 4 | 3 => 3 | n => n, fun | n => n⟩
theorem Tryz.lays100 : Go.Proofs.Lays.n100 Tryz.prog Tryz.lays100_ren := {
 mixed := by kernel_rfl
 f100 := Tryz.func107.trans (congrArg some (by kernel_rfl))
 f207 := Tryz.func113.trans (congrArg some (by kernel_rfl))
 t3 := Tryz.underlying3
 a3 := Tryz.isAgg3
 z3 := Tryz.sizeOf3
 v3 := Tryz.zeroValue3
 t4 := Tryz.underlying4
 a4 := Tryz.isAgg4
 z4 := Tryz.sizeOf4
 v4 := Tryz.zeroValue4
 t9 := Tryz.underlying9
 a9 := Tryz.isAgg9
 z9 := Tryz.sizeOf9
 v9 := Tryz.zeroValue9 }
open Go.RowKit Go.Lib in
theorem Tryz.strings_HasSuffix (s p : ByteArray) (w : World) (hs : s.size ≤ 9223372036854775807) :
 Calls Tryz.prog 107 #[.string s, .string p] w fun e w' => e = .returned (.bool (Lib.hasSuffix s.data.toList p.data.toList)) ∧ w' = w := Any.strings_HasSuffix Tryz.lays100 s p w hs
end Go.Proofs
namespace Go.Proofs.YtibpnjakimobmaaGreat
open Go.RowKit
set_option linter.unusedVariables false
set_option linter.unusedSimpArgs false
set_option maxHeartbeats 800000 in
theorem within_any (n a b : Int) (w : World) : Calls Tryz.prog 73 #[.int .i64 n, .int .i64 a, .int .i64 b] w fun e w' => e = .returned (.bool (decide (a ≤ n) && decide (n ≤ b))) ∧ w = w' := by
 by_cases h1 : a ≤ n
 · rw [decide_eq_true h1, Bool.true_and]
   go_enter Tryz.func73, Tryz.ntmps73
   go_wp2
   go_ret
   exact ⟨rfl, rfl⟩
 · have h1 : n < a := by omega
   rw [decide_eq_false (by omega), Bool.false_and]
   go_enter Tryz.func73, Tryz.ntmps73
   go_wp2
   go_ret
   exact ⟨rfl, rfl⟩
theorem wordP_cut {l : Tx} {m : Nat} (hm : m ≤ 32) : wordP 1 m l = (decide ((l.length : Int) ≤ (m : Int)) && wordP 1 32 l) := by
 unfold wordP
 rw [Bool.eq_iff_iff]
 simp only [Bool.and_eq_true, decide_eq_true_eq]
 constructor
 · rintro ⟨h1, h2, h3⟩
   exact ⟨by omega, h1, h2, by omega⟩
 · rintro ⟨h1, h2, h3, h4⟩
   exact ⟨h2, h3, by omega⟩
set_option maxHeartbeats 800000 in
theorem wordOf_any (s : ByteArray) (m : Nat) (w : World) (hs : s.size ≤ maxLen) (hm : m ≤ 32) : Calls Tryz.prog 72 #[.string s, .int .i64 m] w fun e w' => e = .returned (.bool (wordP 1 m (tx s))) ∧ w = w' := by
 have HW := Lib.hid (word_any s w hs)
 unfold maxLen at hs
 have HE : Hid (wordP 1 m (tx s) = (decide ((s.size : Int) ≤ (m : Int)) && wordP 1 32 (tx s))) := Lib.hid (by rw [← tx_length]; exact wordP_cut hm)
 generalize wordP 1 m (tx s) = r at *
 generalize wordP 1 32 (tx s) = q at *
 by_cases h1 : (s.size : Int) ≤ (m : Int)
 · have HR : Hid (q = r) := Lib.hid (by rw [HE.out]; simp [h1])
   go_enter Tryz.func72, Tryz.ntmps72
   go_wp2_with (go_at_call 62; (with_reducible refine HW.out.mono ?_); rintro e w' ⟨rfl, rfl⟩)
   go_ret
   exact ⟨ret_bool HR.out, rfl⟩
 · have HR : Hid (false = r) := Lib.hid (by rw [HE.out]; simp [h1])
   have h1 : (m : Int) < (s.size : Int) := by omega
   go_enter Tryz.func72, Tryz.ntmps72
   go_wp2_with (go_at_call 62; (with_reducible refine HW.out.mono ?_); rintro e w' ⟨rfl, rfl⟩)
   go_ret
   exact ⟨ret_bool HR.out, rfl⟩
theorem prefix_blank (l : Tx) : Lib.hasPrefix l [32] = (l.head? == some 32) := by
 unfold Lib.hasPrefix
 cases l with
 | nil => rfl
 | cons c r => rw [Bool.eq_iff_iff]; simp only [List.isPrefixOf, Bool.and_true, beq_iff_eq, List.head?_cons, Option.some.injEq]; exact eq_comm
theorem suffix_blank (l : Tx) : Lib.hasSuffix l [32] = (l.getLast? == some 32) := by
 unfold Lib.hasSuffix List.isSuffixOf
 rw [List.getLast?_eq_head?_reverse]
 show List.isPrefixOf [32] l.reverse = _
 cases l.reverse with
 | nil => rfl
 | cons c r => rw [Bool.eq_iff_iff]; simp only [List.isPrefixOf, Bool.and_true, beq_iff_eq, List.head?_cons, Option.some.injEq]; exact eq_comm
theorem has_blank (l : Tx) : decide (0 ≤ Lib.indexByte l 32) = !(l.all (fun c => c != 32)) := by
 induction l with
 | nil => rfl
 | cons c r ih =>
   unfold Lib.indexByte
   rw [List.all_cons]
   by_cases h : c = 32
   · subst h; rfl
   · have h1 : (c == 32) = false := by simpa using h
     have h2 : (c != 32) = true := by simpa using h
     rw [h1, h2, Bool.true_and, ← ih]
     have hn : Lib.indexByte r 32 = -1 ∨ 0 ≤ Lib.indexByte r 32 := by
      clear ih
      induction r with
      | nil => exact .inl rfl
      | cons d r ih =>
        unfold Lib.indexByte
        by_cases hd : d == 32
        · rw [if_pos hd]; exact .inr (by omega)
        · rw [if_neg hd]
          rcases ih with ih | ih
          · rw [ih]; exact .inl rfl
          · rw [if_neg (by simp; omega)]; exact .inr (by omega)
     rcases hn with hn | hn
     · rw [hn]; rfl
     · have : (Lib.indexByte r 32 == -1) = false := by simp; omega
       rw [this]
       simp
       omega
set_option maxHeartbeats 1600000 in
theorem goodFormat_any (s : ByteArray) (w : World) (hs : s.size ≤ maxLen) : Calls Tryz.prog 96 #[.string s] w fun e w' => e = .returned (.bool (plainP (tx s))) ∧ w = w' := by
 have HV := Lib.hid (value_any s w hs)
 unfold maxLen at hs
 have HP : Hid (Calls Tryz.prog 106 #[.string s, .string ⟨#[32]⟩] w fun e w' => e = .returned (.bool ((tx s).head? == some 32)) ∧ w = w') := Lib.hid ((Tryz.strings_HasPrefix s ⟨#[32]⟩ w).mono fun e w' ⟨he, hw⟩ => ⟨by rw [he]; exact ret_bool (prefix_blank (tx s)), hw.symm⟩)
 have HS : Hid (Calls Tryz.prog 107 #[.string s, .string ⟨#[32]⟩] w fun e w' => e = .returned (.bool ((tx s).getLast? == some 32)) ∧ w = w') := Lib.hid ((Tryz.strings_HasSuffix s ⟨#[32]⟩ w (by omega)).mono fun e w' ⟨he, hw⟩ => ⟨by rw [he]; exact ret_bool (suffix_blank (tx s)), hw.symm⟩)
 have HE : Hid (plainP (tx s) = (valP (tx s) && decide ((s.size : Int) ≤ 100) && !((tx s).head? == some 32) && !((tx s).getLast? == some 32))) := Lib.hid (by
  unfold plainP
  congr 3
  rw [decide_eq_decide, tx_length]
  omega)
 generalize plainP (tx s) = r at *
 generalize ((tx s).head? == some 32) = p at *
 generalize ((tx s).getLast? == some 32) = q at *
 generalize valP (tx s) = v at *
 cases v with
 | false =>
   have HR : Hid (false = r) := Lib.hid (by rw [HE.out]; rfl)
   go_enter Tryz.func96, Tryz.ntmps96
   go_wp2_with (go_at_call 99; (with_reducible refine HV.out.mono ?_); rintro e w' ⟨rfl, rfl⟩)
   go_ret
   exact ⟨ret_bool HR.out, rfl⟩
 | true =>
   by_cases h1 : (s.size : Int) ≤ 100
   · cases p with
     | true =>
       have HR : Hid (false = r) := Lib.hid (by rw [HE.out]; simp)
       go_enter Tryz.func96, Tryz.ntmps96
       go_wp2_with (first | (go_at_call 99; (with_reducible refine HV.out.mono ?_); rintro e w' ⟨rfl, rfl⟩) | (go_at_call 106; (with_reducible refine HP.out.mono ?_); rintro e w' ⟨rfl, rfl⟩))
       go_ret
       exact ⟨ret_bool HR.out, rfl⟩
     | false =>
       have HR : Hid ((!q) = r) := Lib.hid (by rw [HE.out]; simp [h1])
       go_enter Tryz.func96, Tryz.ntmps96
       go_wp2_with (first | (go_at_call 99; (with_reducible refine HV.out.mono ?_); rintro e w' ⟨rfl, rfl⟩) | (go_at_call 106; (with_reducible refine HP.out.mono ?_); rintro e w' ⟨rfl, rfl⟩) | (go_at_call 107; (with_reducible refine HS.out.mono ?_); rintro e w' ⟨rfl, rfl⟩))
       go_ret
       exact ⟨ret_bool HR.out, rfl⟩
   · have HR : Hid (false = r) := Lib.hid (by rw [HE.out]; simp [h1])
     have h1 : 100 < (s.size : Int) := by omega
     go_enter Tryz.func96, Tryz.ntmps96
     go_wp2_with (go_at_call 99; (with_reducible refine HV.out.mono ?_); rintro e w' ⟨rfl, rfl⟩)
     go_ret
     exact ⟨ret_bool HR.out, rfl⟩
set_option maxHeartbeats 800000 in
theorem badFormat_any (s : ByteArray) (w : World) (hs : s.size ≤ maxLen) : Calls Tryz.prog 97 #[.string s] w fun e w' => e = .returned (.bool (!plainP (tx s))) ∧ w = w' := by
 have HV := Lib.hid (goodFormat_any s w hs)
 generalize plainP (tx s) = r at *
 go_enter Tryz.func97, Tryz.ntmps97
 go_wp2_with (go_at_call 96; (with_reducible refine HV.out.mono ?_); rintro e w' ⟨rfl, rfl⟩)
 go_ret
 exact ⟨rfl, rfl⟩
set_option maxHeartbeats 800000 in
theorem goodRid_any (s : ByteArray) (w : World) (hs : s.size ≤ maxLen) : Calls Tryz.prog 86 #[.string s] w fun e w' => e = .returned (.bool (goodR s)) ∧ w = w' := by
 have HV : Hid (Calls Tryz.prog 72 #[.string s, .int .i64 8] w fun e w' => e = .returned (.bool (wordP 1 8 (tx s))) ∧ w = w') := Lib.hid (wordOf_any s 8 w hs (by decide))
 have HE : Hid (goodR s = wordP 1 8 (tx s)) := Lib.hid rfl
 rw [HE.out]
 generalize wordP 1 8 (tx s) = r at *
 go_enter Tryz.func86, Tryz.ntmps86
 go_wp2_with (go_at_call 72; (with_reducible refine HV.out.mono ?_); rintro e w' ⟨rfl, rfl⟩)
 go_ret
 exact ⟨rfl, rfl⟩
theorem anySource_any (v : Value) (w : World) : Calls Tryz.prog 89 #[v] w fun e w' => e = .returned (.bool true) ∧ w = w' := by
 go_enter Tryz.func89, Tryz.ntmps89
 go_wp2
 go_ret
 exact ⟨rfl, rfl⟩
theorem itselfS_any (v : Value) (w : World) : Calls Tryz.prog 85 #[v] w fun e w' => e = .returned v ∧ w = w' := by
 go_enter Tryz.func85, Tryz.ntmps85
 go_wp2
 go_ret
 exact ⟨rfl, rfl⟩
theorem itselfU_any (v : Value) (w : World) : Calls Tryz.prog 88 #[v] w fun e w' => e = .returned v ∧ w = w' := by
 go_enter Tryz.func88, Tryz.ntmps88
 go_wp2
 go_ret
 exact ⟨rfl, rfl⟩
theorem codecType_any (n : Int) (a b c d e : Value) (w : World) : Calls Tryz.prog 79 #[.agg #[.int .i64 n, a, b, c, d, e]] w fun e w' => e = .returned (.int .i64 n) ∧ Below w.heap.size w w' := by
 go_enter Tryz.func79, Tryz.ntmps79
 go_wp2
 go_ret
 exact ⟨rfl, (Below.refl _ w).alloc (Nat.le_refl _) _⟩
theorem extID_any (n : Int) (a : Value) (w : World) : Calls Tryz.prog 82 #[.agg #[.int .i64 n, a]] w fun e w' => e = .returned (.int .i64 n) ∧ Below w.heap.size w w' := by
 go_enter Tryz.func82, Tryz.ntmps82
 go_wp2
 go_ret
 exact ⟨rfl, (Below.refl _ w).alloc (Nat.le_refl _) _⟩
set_option maxHeartbeats 1600000 in
theorem goodExt_any (x : ExtS) (w : World) (hs : x.uri.size ≤ maxLen) : Calls Tryz.prog 83 #[.agg #[.int .i64 x.id, .string x.uri]] w fun e w' => e = .returned (.bool (goodE x)) ∧ Below w.heap.size w w' := by
 obtain ⟨n, s⟩ := x
 have hs : s.size ≤ maxLen := hs
 have hb0 : Below w.heap.size w (w.alloc (.cells #[.int .i64 n, .string s] 49)) := (Below.refl _ w).alloc (Nat.le_refl _) _
 have hz := Whole.new w 49 #[.int .i64 n, .string s]
 have c0 := hz.cell 0
 have c1 := hz.cell 1
 have HB := Lib.hid hb0
 have HE : Hid (goodE ⟨n, s⟩ = ((decide ((1 : Int) ≤ n) && decide (n ≤ 14)) && (valP (tx s) && (decide ((s.size : Int) ≤ 100) && !decide (0 ≤ Lib.indexByte (tx s) 32))))) := Lib.hid (by
  unfold goodE uriP
  rw [has_blank, Bool.not_not, tx_length]
  have : decide (s.size ≤ 100) = decide ((s.size : Int) ≤ 100) := by rw [decide_eq_decide]; omega
  rw [this]
  simp only [Bool.and_assoc])
 clear hb0 hz
 show Calls _ _ _ _ fun e w' => e = .returned (.bool (goodE ⟨n, s⟩)) ∧ _
 obtain ⟨N, hN⟩ : ∃ N, w.heap.size = N := ⟨_, rfl⟩
 rw [hN] at c0 c1 HB ⊢
 generalize goodE ⟨n, s⟩ = r at *
 go_enter Tryz.func83, Tryz.ntmps83
 go_upto_region 1 with fail
 generalize w.alloc (.cells #[.int .i64 n, .string s] 49) = W at *
 have HT := Lib.hid (within_any n 1 14 W)
 have HV := Lib.hid (value_any s W hs)
 have HC : Hid (Calls Tryz.prog 100 #[.string s, .string ⟨#[32]⟩] W fun e w' => e = .returned (.bool (decide (0 ≤ Lib.indexByte (tx s) 32))) ∧ W = w') := Lib.hid ((Tryz.strings_Contains_one s 32 W).mono fun e w' ⟨he, hw⟩ => ⟨he, hw.symm⟩)
 unfold maxLen at hs
 generalize decide (0 ≤ Lib.indexByte (tx s) 32) = p at *
 generalize valP (tx s) = v at *
 generalize (decide ((1 : Int) ≤ n) && decide (n ≤ 14)) = t at *
 clear hN
 cases t with
 | false =>
   have HR : Hid (false = r) := Lib.hid (by rw [HE.out]; rfl)
   go_wp2_with (go_at_call 73; (with_reducible refine HT.out.mono ?_); rintro e w' ⟨rfl, rfl⟩)
   go_ret
   exact ⟨ret_bool HR.out, HB.out⟩
 | true =>
   cases v with
   | false =>
     have HR : Hid (false = r) := Lib.hid (by rw [HE.out]; rfl)
     go_wp2_with (first | (go_at_call 73; (with_reducible refine HT.out.mono ?_); rintro e w' ⟨rfl, rfl⟩) | (go_at_call 99; (with_reducible refine HV.out.mono ?_); rintro e w' ⟨rfl, rfl⟩))
     go_ret
     exact ⟨ret_bool HR.out, HB.out⟩
   | true =>
     by_cases h1 : (s.size : Int) ≤ 100
     · have HR : Hid ((!p) = r) := Lib.hid (by rw [HE.out]; simp [h1])
       go_wp2_with (first | (go_at_call 73; (with_reducible refine HT.out.mono ?_); rintro e w' ⟨rfl, rfl⟩) | (go_at_call 99; (with_reducible refine HV.out.mono ?_); rintro e w' ⟨rfl, rfl⟩) | (go_at_call 100; (with_reducible refine HC.out.mono ?_); rintro e w' ⟨rfl, rfl⟩))
       go_ret
       exact ⟨ret_bool HR.out, HB.out⟩
     · have HR : Hid (false = r) := Lib.hid (by rw [HE.out]; simp [h1])
       have h1 : 100 < (s.size : Int) := by omega
       go_wp2_with (first | (go_at_call 73; (with_reducible refine HT.out.mono ?_); rintro e w' ⟨rfl, rfl⟩) | (go_at_call 99; (with_reducible refine HV.out.mono ?_); rintro e w' ⟨rfl, rfl⟩))
       go_ret
       exact ⟨ret_bool HR.out, HB.out⟩
set_option maxHeartbeats 800000 in
theorem goodCrypto_any (n : Int) (ks : List Value) (w : World) (hk : ks.length = 30) : Calls Tryz.prog 92 #[.agg (Value.int .i64 n :: ks).toArray] w fun e w' => e = .returned (.bool (decide (1 ≤ n) && decide (n ≤ 9))) ∧ Below w.heap.size w w' := by
 have hb0 : Below w.heap.size w (w.alloc (.cells (Value.int .i64 n :: ks).toArray 51)) := (Below.refl _ w).alloc (Nat.le_refl _) _
 have hz := Whole.new w 51 (Value.int .i64 n :: ks).toArray
 have c0 : (w.alloc (.cells (Value.int .i64 n :: ks).toArray 51)).cell? ⟨w.heap.size, 0, none⟩ = some (.int .i64 n) := hz.cell 0
 have HB := Lib.hid hb0
 clear hb0 hz
 obtain ⟨N, hN⟩ : ∃ N, w.heap.size = N := ⟨_, rfl⟩
 rw [hN] at c0 HB ⊢
 have HTT : Hid (∀ W, Calls Tryz.prog 73 #[.int .i64 n, .int .i64 1, .int .i64 9] W fun e w' => e = .returned (.bool (decide ((1 : Int) ≤ n) && decide (n ≤ 9))) ∧ W = w') := Lib.hid fun W => within_any n 1 9 W
 generalize (decide ((1 : Int) ≤ n) && decide (n ≤ 9)) = t at *
 go_enter Tryz.func92, Tryz.ntmps92
 go_upto_region 1 with fail
 generalize w.alloc (.cells (Value.int .i64 n :: ks).toArray 51) = W at *
 have HT := Lib.hid (HTT.out W)
 clear hN
 go_wp2_with (go_at_call 73; (with_reducible refine HT.out.mono ?_); rintro e w' ⟨rfl, rfl⟩)
 go_ret
 exact ⟨rfl, HB.out⟩
theorem any_no {α : Type} [Inhabited α] {L : List α} {q : α → Bool} {n : Nat} (hn : L.length = n) (h : ∀ j, j < n → q (L.getD j default) = false) : L.any q = false := by
 rw [List.any_eq_false]
 intro a ha
 obtain ⟨j, hj, rfl⟩ := List.getElem_of_mem ha
 have := h j (by omega)
 simpa [List.getD, hj] using this
theorem any_yes {α : Type} [Inhabited α] {L : List α} {q : α → Bool} {j : Nat} (hj : j < L.length) (h : q (L.getD j default) = true) : L.any q = true := by
 rw [List.any_eq_true]
 exact ⟨_, getD_mem hj, h⟩
set_option maxHeartbeats 1600000 in
set_option maxRecDepth 100000 in
theorem indexB_any (A : Option Addr) (n c : Nat) (L : List ByteArray) (q : ByteArray → Bool) (w : World) (h : TextsV w w.heap.size (.slice A n c) L) (hn : L.length = n) (hl : n ≤ 4611686018427387904)
 (hp : ∀ (W : World) (x : ByteArray), Below w.heap.size w W → x ∈ L → Calls Tryz.prog 97 #[.string x] W fun e w' => e = .returned (.bool (q x)) ∧ Below W.heap.size W w') :
 Calls Tryz.prog 65 #[.slice A n c, .func (.func 97) #[] #[]] w fun e w' => ∃ r : Int, e = .returned (.int .i64 r) ∧ decide (0 ≤ r) = L.any q ∧ Below w.heap.size w w' := by
 have HA := Lib.hid h
 have HP := Lib.hid hp
 have HE := Lib.hid hn
 clear h hn hp
 go_enter Tryz.func65, Tryz.ntmps65
 go_wp2
 go_loopw [8] (fun s8 wr => ∃ k : Nat, k ≤ n ∧ s8 = .int .i64 k ∧ (∀ j, j < k → q (L.getD j default) = false) ∧ Below w.heap.size w wr) (fun s8 _ => n - (intOf s8).toNat)
 case atStart => exact ⟨0, by omega, rfl, (fun j hj => by omega), Below.refl _ w⟩
 case round =>
  obtain ⟨k, hk, rfl, hno, hb⟩ := hrel
  have HNO := Lib.hid hno
  clear hno
  by_cases hlt : k < n
  · have hlt' : k < L.length := by rw [HE.out]; exact hlt
    obtain ⟨ad, c', e1, had, c0⟩ := (HA.out.below hb).at_ hlt'
    injection e1 with e1 e1n e1c
    clear e1n e1c
    subst e1
    obtain ⟨x, hx⟩ : ∃ x, L.getD k default = x := ⟨_, rfl⟩
    have HM : Hid (x ∈ L) := Lib.hid (by rw [← hx]; exact getD_mem hlt')
    rw [hx] at c0
    have HX := Lib.hid hx
    have HB := Lib.hid (And.intro hb hlt')
    obtain ⟨b, hbb⟩ : ∃ b, q x = b := ⟨_, rfl⟩
    have HS := Lib.hid (HP.out wr x hb HM.out)
    rw [hbb] at HS
    have HBT := Lib.hid hbb
    clear hbb hx hb hlt' had
    have hk0 : (0 : Int) ≤ (k : Int) := by omega
    have hk1 : (k : Int) < (n : Int) := by omega
    cases b with
    | true =>
      go_wp2_with (go_at_call 97; (with_reducible refine HS.out.mono ?_); rintro e w2 ⟨rfl, hb2⟩)
      go_ret
      exact ⟨_, rfl, by rw [any_yes HB.out.2 (by rw [HX.out]; exact HBT.out)]; exact decide_eq_true hk0, HB.out.1.trans (hb2.mono HB.out.1.size)⟩
    | false =>
      go_wp2_with (go_at_call 97; (with_reducible refine HS.out.mono ?_); rintro e w2 ⟨rfl, hb2⟩)
      go_roundw
      case rel =>
       refine ⟨k + 1, by omega, by go_num, fun j hj => ?_, HB.out.1.trans (hb2.mono HB.out.1.size)⟩
       by_cases e : j = k
       · subst e
         rw [HX.out]
         exact HBT.out
       · exact HNO.out j (by omega)
      case measure => simp [intOf]; omega
  · have e : k = n := by omega
    subst e
    have HN : Hid (L.any q = false) := Lib.hid (any_no HE.out HNO.out)
    have HB := Lib.hid hb
    clear hb
    go_wp2
    go_ret
    exact ⟨_, rfl, by rw [HN.out]; rfl, HB.out⟩
set_option maxHeartbeats 800000 in
theorem containsB_any (A : Option Addr) (n c : Nat) (L : List ByteArray) (q : ByteArray → Bool) (w : World) (h : TextsV w w.heap.size (.slice A n c) L) (hn : L.length = n) (hl : n ≤ 4611686018427387904)
 (hp : ∀ (W : World) (x : ByteArray), Below w.heap.size w W → x ∈ L → Calls Tryz.prog 97 #[.string x] W fun e w' => e = .returned (.bool (q x)) ∧ Below W.heap.size W w') :
 Calls Tryz.prog 56 #[.slice A n c, .func (.func 97) #[] #[]] w fun e w' => e = .returned (.bool (L.any q)) ∧ Below w.heap.size w w' := by
 have HC := Lib.hid (indexB_any A n c L q  w h hn hl hp)
 clear h hp
 generalize L.any q = r at *
 go_enter Tryz.func56, Tryz.ntmps56
 go_wp2_with (go_at_call 65; (with_reducible refine HC.out.mono ?_); rintro e w2 ⟨i, rfl, hi, hb2⟩)
 go_ret
 first | exact ⟨rfl, hb2⟩ | exact ⟨ret_bool hi, hb2⟩
set_option maxHeartbeats 1600000 in
set_option maxRecDepth 100000 in
theorem indexS_any (A : Option Addr) (n c : Nat) (L : List ByteArray) (q : ByteArray → Bool) (p1 : Value) (p2 : Value) (w : World) (h : TextsV w w.heap.size (.slice A n c) L) (hn : L.length = n) (hl : n ≤ 4611686018427387904)
 (hp : ∀ (W : World) (x : ByteArray), Below w.heap.size w W → x ∈ L → Calls Tryz.prog 101 #[.string x, p1, p2] W fun e w' => e = .returned (.bool (q x)) ∧ Below W.heap.size W w') :
 Calls Tryz.prog 65 #[.slice A n c, .func (.func 101) #[] #[p1, p2]] w fun e w' => ∃ r : Int, e = .returned (.int .i64 r) ∧ decide (0 ≤ r) = L.any q ∧ Below w.heap.size w w' := by
 have HA := Lib.hid h
 have HP := Lib.hid hp
 have HE := Lib.hid hn
 clear h hn hp
 go_enter Tryz.func65, Tryz.ntmps65
 go_wp2
 go_loopw [8] (fun s8 wr => ∃ k : Nat, k ≤ n ∧ s8 = .int .i64 k ∧ (∀ j, j < k → q (L.getD j default) = false) ∧ Below w.heap.size w wr) (fun s8 _ => n - (intOf s8).toNat)
 case atStart => exact ⟨0, by omega, rfl, (fun j hj => by omega), Below.refl _ w⟩
 case round =>
  obtain ⟨k, hk, rfl, hno, hb⟩ := hrel
  have HNO := Lib.hid hno
  clear hno
  by_cases hlt : k < n
  · have hlt' : k < L.length := by rw [HE.out]; exact hlt
    obtain ⟨ad, c', e1, had, c0⟩ := (HA.out.below hb).at_ hlt'
    injection e1 with e1 e1n e1c
    clear e1n e1c
    subst e1
    obtain ⟨x, hx⟩ : ∃ x, L.getD k default = x := ⟨_, rfl⟩
    have HM : Hid (x ∈ L) := Lib.hid (by rw [← hx]; exact getD_mem hlt')
    rw [hx] at c0
    have HX := Lib.hid hx
    have HB := Lib.hid (And.intro hb hlt')
    obtain ⟨b, hbb⟩ : ∃ b, q x = b := ⟨_, rfl⟩
    have HS := Lib.hid (HP.out wr x hb HM.out)
    rw [hbb] at HS
    have HBT := Lib.hid hbb
    clear hbb hx hb hlt' had
    have hk0 : (0 : Int) ≤ (k : Int) := by omega
    have hk1 : (k : Int) < (n : Int) := by omega
    cases b with
    | true =>
      go_wp2_with (go_at_call 101; (with_reducible refine HS.out.mono ?_); rintro e w2 ⟨rfl, hb2⟩)
      go_ret
      exact ⟨_, rfl, by rw [any_yes HB.out.2 (by rw [HX.out]; exact HBT.out)]; exact decide_eq_true hk0, HB.out.1.trans (hb2.mono HB.out.1.size)⟩
    | false =>
      go_wp2_with (go_at_call 101; (with_reducible refine HS.out.mono ?_); rintro e w2 ⟨rfl, hb2⟩)
      go_roundw
      case rel =>
       refine ⟨k + 1, by omega, by go_num, fun j hj => ?_, HB.out.1.trans (hb2.mono HB.out.1.size)⟩
       by_cases e : j = k
       · subst e
         rw [HX.out]
         exact HBT.out
       · exact HNO.out j (by omega)
      case measure => simp [intOf]; omega
  · have e : k = n := by omega
    subst e
    have HN : Hid (L.any q = false) := Lib.hid (any_no HE.out HNO.out)
    have HB := Lib.hid hb
    clear hb
    go_wp2
    go_ret
    exact ⟨_, rfl, by rw [HN.out]; rfl, HB.out⟩
set_option maxHeartbeats 800000 in
theorem containsS_any (A : Option Addr) (n c : Nat) (L : List ByteArray) (q : ByteArray → Bool) (p1 : Value) (p2 : Value) (w : World) (h : TextsV w w.heap.size (.slice A n c) L) (hn : L.length = n) (hl : n ≤ 4611686018427387904)
 (hp : ∀ (W : World) (x : ByteArray), Below w.heap.size w W → x ∈ L → Calls Tryz.prog 101 #[.string x, p1, p2] W fun e w' => e = .returned (.bool (q x)) ∧ Below W.heap.size W w') :
 Calls Tryz.prog 56 #[.slice A n c, .func (.func 101) #[] #[p1, p2]] w fun e w' => e = .returned (.bool (L.any q)) ∧ Below w.heap.size w w' := by
 have HC := Lib.hid (indexS_any A n c L q p1 p2 w h hn hl hp)
 clear h hp
 generalize L.any q = r at *
 go_enter Tryz.func56, Tryz.ntmps56
 go_wp2_with (go_at_call 65; (with_reducible refine HC.out.mono ?_); rintro e w2 ⟨i, rfl, hi, hb2⟩)
 go_ret
 first | exact ⟨rfl, hb2⟩ | exact ⟨ret_bool hi, hb2⟩
set_option maxHeartbeats 1600000 in
set_option maxRecDepth 100000 in
theorem indexU_any (A : Option Addr) (n c : Nat) (L : List Nat) (q : Nat → Bool) (p1 : Value) (p2 : Value) (w : World) (h : NumsV w w.heap.size (.slice A n c) L) (hn : L.length = n) (hl : n ≤ 4611686018427387904)
 (hp : ∀ (W : World) (x : Nat), Below w.heap.size w W → x ∈ L → Calls Tryz.prog 102 #[.int .u32 (x : Nat), p1, p2] W fun e w' => e = .returned (.bool (q x)) ∧ Below W.heap.size W w') :
 Calls Tryz.prog 110 #[.slice A n c, .func (.func 102) #[] #[p1, p2]] w fun e w' => ∃ r : Int, e = .returned (.int .i64 r) ∧ decide (0 ≤ r) = L.any q ∧ Below w.heap.size w w' := by
 have HA := Lib.hid h
 have HP := Lib.hid hp
 have HE := Lib.hid hn
 clear h hn hp
 go_enter Tryz.func110, Tryz.ntmps110
 go_wp2
 go_loopw [8] (fun s8 wr => ∃ k : Nat, k ≤ n ∧ s8 = .int .i64 k ∧ (∀ j, j < k → q (L.getD j default) = false) ∧ Below w.heap.size w wr) (fun s8 _ => n - (intOf s8).toNat)
 case atStart => exact ⟨0, by omega, rfl, (fun j hj => by omega), Below.refl _ w⟩
 case round =>
  obtain ⟨k, hk, rfl, hno, hb⟩ := hrel
  have HNO := Lib.hid hno
  clear hno
  by_cases hlt : k < n
  · have hlt' : k < L.length := by rw [HE.out]; exact hlt
    obtain ⟨ad, c', e1, had, c0⟩ := (HA.out.below hb).at_ hlt'
    injection e1 with e1 e1n e1c
    clear e1n e1c
    subst e1
    obtain ⟨x, hx⟩ : ∃ x, L.getD k default = x := ⟨_, rfl⟩
    have HM : Hid (x ∈ L) := Lib.hid (by rw [← hx]; exact getD_mem hlt')
    rw [hx] at c0
    have HX := Lib.hid hx
    have HB := Lib.hid (And.intro hb hlt')
    obtain ⟨b, hbb⟩ : ∃ b, q x = b := ⟨_, rfl⟩
    have HS := Lib.hid (HP.out wr x hb HM.out)
    rw [hbb] at HS
    have HBT := Lib.hid hbb
    clear hbb hx hb hlt' had
    have hk0 : (0 : Int) ≤ (k : Int) := by omega
    have hk1 : (k : Int) < (n : Int) := by omega
    cases b with
    | true =>
      go_wp2_with (go_at_call 102; (with_reducible refine HS.out.mono ?_); rintro e w2 ⟨rfl, hb2⟩)
      go_ret
      exact ⟨_, rfl, by rw [any_yes HB.out.2 (by rw [HX.out]; exact HBT.out)]; exact decide_eq_true hk0, HB.out.1.trans (hb2.mono HB.out.1.size)⟩
    | false =>
      go_wp2_with (go_at_call 102; (with_reducible refine HS.out.mono ?_); rintro e w2 ⟨rfl, hb2⟩)
      go_roundw
      case rel =>
       refine ⟨k + 1, by omega, by go_num, fun j hj => ?_, HB.out.1.trans (hb2.mono HB.out.1.size)⟩
       by_cases e : j = k
       · subst e
         rw [HX.out]
         exact HBT.out
       · exact HNO.out j (by omega)
      case measure => simp [intOf]; omega
  · have e : k = n := by omega
    subst e
    have HN : Hid (L.any q = false) := Lib.hid (any_no HE.out HNO.out)
    have HB := Lib.hid hb
    clear hb
    go_wp2
    go_ret
    exact ⟨_, rfl, by rw [HN.out]; rfl, HB.out⟩
set_option maxHeartbeats 800000 in
theorem containsU_any (A : Option Addr) (n c : Nat) (L : List Nat) (q : Nat → Bool) (p1 : Value) (p2 : Value) (w : World) (h : NumsV w w.heap.size (.slice A n c) L) (hn : L.length = n) (hl : n ≤ 4611686018427387904)
 (hp : ∀ (W : World) (x : Nat), Below w.heap.size w W → x ∈ L → Calls Tryz.prog 102 #[.int .u32 (x : Nat), p1, p2] W fun e w' => e = .returned (.bool (q x)) ∧ Below W.heap.size W w') :
 Calls Tryz.prog 103 #[.slice A n c, .func (.func 102) #[] #[p1, p2]] w fun e w' => e = .returned (.bool (L.any q)) ∧ Below w.heap.size w w' := by
 have HC := Lib.hid (indexU_any A n c L q p1 p2 w h hn hl hp)
 clear h hp
 generalize L.any q = r at *
 go_enter Tryz.func103, Tryz.ntmps103
 go_wp2_with (go_at_call 110; (with_reducible refine HC.out.mono ?_); rintro e w2 ⟨i, rfl, hi, hb2⟩)
 go_ret
 first | exact ⟨rfl, hb2⟩ | exact ⟨ret_bool hi, hb2⟩
set_option maxHeartbeats 1600000 in
set_option maxRecDepth 100000 in
theorem indexE_any (A : Option Addr) (n c : Nat) (L : List ExtS) (q : ExtS → Bool) (p1 : Value) (p2 : Value) (w : World) (h : ExtsV w w.heap.size (.slice A n c) L) (hn : L.length = n) (hl : n ≤ 4611686018427387904)
 (hp : ∀ (W : World) (x : ExtS), Below w.heap.size w W → x ∈ L → Calls Tryz.prog 98 #[.agg #[.int .i64 x.id, .string x.uri], p1, p2] W fun e w' => e = .returned (.bool (q x)) ∧ Below W.heap.size W w') :
 Calls Tryz.prog 67 #[.slice A n c, .func (.func 98) #[] #[p1, p2]] w fun e w' => ∃ r : Int, e = .returned (.int .i64 r) ∧ decide (0 ≤ r) = L.any q ∧ Below w.heap.size w w' := by
 have HA := Lib.hid h
 have HP := Lib.hid hp
 have HE := Lib.hid hn
 clear h hn hp
 go_enter Tryz.func67, Tryz.ntmps67
 go_wp2
 go_loopw [8] (fun s8 wr => ∃ k : Nat, k ≤ n ∧ s8 = .int .i64 k ∧ (∀ j, j < k → q (L.getD j default) = false) ∧ Below w.heap.size w wr) (fun s8 _ => n - (intOf s8).toNat)
 case atStart => exact ⟨0, by omega, rfl, (fun j hj => by omega), Below.refl _ w⟩
 case round =>
  obtain ⟨k, hk, rfl, hno, hb⟩ := hrel
  have HNO := Lib.hid hno
  clear hno
  by_cases hlt : k < n
  · have hlt' : k < L.length := by rw [HE.out]; exact hlt
    obtain ⟨ad, c', e1, had, c0, c1⟩ := (HA.out.below hb).at_ hlt'
    injection e1 with e1 e1n e1c
    clear e1n e1c
    subst e1
    obtain ⟨x, hx⟩ : ∃ x, L.getD k default = x := ⟨_, rfl⟩
    have HM : Hid (x ∈ L) := Lib.hid (by rw [← hx]; exact getD_mem hlt')
    rw [hx] at c0 c1
    have HX := Lib.hid hx
    have HB := Lib.hid (And.intro hb hlt')
    obtain ⟨b, hbb⟩ : ∃ b, q x = b := ⟨_, rfl⟩
    have HS := Lib.hid (HP.out wr x hb HM.out)
    rw [hbb] at HS
    have HBT := Lib.hid hbb
    clear hbb hx hb hlt' had
    have hk0 : (0 : Int) ≤ (k : Int) := by omega
    have hk1 : (k : Int) < (n : Int) := by omega
    cases b with
    | true =>
      go_wp2_with (go_at_call 98; (with_reducible refine HS.out.mono ?_); rintro e w2 ⟨rfl, hb2⟩)
      go_ret
      exact ⟨_, rfl, by rw [any_yes HB.out.2 (by rw [HX.out]; exact HBT.out)]; exact decide_eq_true hk0, HB.out.1.trans (hb2.mono HB.out.1.size)⟩
    | false =>
      go_wp2_with (go_at_call 98; (with_reducible refine HS.out.mono ?_); rintro e w2 ⟨rfl, hb2⟩)
      go_roundw
      case rel =>
       refine ⟨k + 1, by omega, by go_num, fun j hj => ?_, HB.out.1.trans (hb2.mono HB.out.1.size)⟩
       by_cases e : j = k
       · subst e
         rw [HX.out]
         exact HBT.out
       · exact HNO.out j (by omega)
      case measure => simp [intOf]; omega
  · have e : k = n := by omega
    subst e
    have HN : Hid (L.any q = false) := Lib.hid (any_no HE.out HNO.out)
    have HB := Lib.hid hb
    clear hb
    go_wp2
    go_ret
    exact ⟨_, rfl, by rw [HN.out]; rfl, HB.out⟩
set_option maxHeartbeats 800000 in
theorem containsE_any (A : Option Addr) (n c : Nat) (L : List ExtS) (q : ExtS → Bool) (p1 : Value) (p2 : Value) (w : World) (h : ExtsV w w.heap.size (.slice A n c) L) (hn : L.length = n) (hl : n ≤ 4611686018427387904)
 (hp : ∀ (W : World) (x : ExtS), Below w.heap.size w W → x ∈ L → Calls Tryz.prog 98 #[.agg #[.int .i64 x.id, .string x.uri], p1, p2] W fun e w' => e = .returned (.bool (q x)) ∧ Below W.heap.size W w') :
 Calls Tryz.prog 59 #[.slice A n c, .func (.func 98) #[] #[p1, p2]] w fun e w' => e = .returned (.bool (L.any q)) ∧ Below w.heap.size w w' := by
 have HC := Lib.hid (indexE_any A n c L q p1 p2 w h hn hl hp)
 clear h hp
 generalize L.any q = r at *
 go_enter Tryz.func59, Tryz.ntmps59
 go_wp2_with (go_at_call 67; (with_reducible refine HC.out.mono ?_); rintro e w2 ⟨i, rfl, hi, hb2⟩)
 go_ret
 first | exact ⟨rfl, hb2⟩ | exact ⟨ret_bool hi, hb2⟩
set_option maxHeartbeats 1600000 in
set_option maxRecDepth 100000 in
theorem indexC_any (A : Option Addr) (n c : Nat) (L : List CodecS) (q : CodecS → Bool) (p1 : Value) (p2 : Value) (w : World) (h : CodecsV w w.heap.size (.slice A n c) L) (hn : L.length = n) (hl : n ≤ 4611686018427387904)
 (hp : ∀ (W : World) (x : CodecS) (vf : Value), Below w.heap.size w W → x ∈ L → Calls Tryz.prog 94 #[.agg #[.int .i64 x.type, .string x.name, .int .i64 x.clock, .int .i64 x.chans, .string x.format, vf], p1, p2] W fun e w' => e = .returned (.bool (q x)) ∧ Below W.heap.size W w') :
 Calls Tryz.prog 42 #[.slice A n c, .func (.func 94) #[] #[p1, p2]] w fun e w' => ∃ r : Int, e = .returned (.int .i64 r) ∧ decide (0 ≤ r) = L.any q ∧ Below w.heap.size w w' := by
 have HA := Lib.hid h
 have HP := Lib.hid hp
 have HE := Lib.hid hn
 clear h hn hp
 go_enter Tryz.func42, Tryz.ntmps42
 go_wp2
 go_loopw [8] (fun s8 wr => ∃ k : Nat, k ≤ n ∧ s8 = .int .i64 k ∧ (∀ j, j < k → q (L.getD j default) = false) ∧ Below w.heap.size w wr) (fun s8 _ => n - (intOf s8).toNat)
 case atStart => exact ⟨0, by omega, rfl, (fun j hj => by omega), Below.refl _ w⟩
 case round =>
  obtain ⟨k, hk, rfl, hno, hb⟩ := hrel
  have HNO := Lib.hid hno
  clear hno
  by_cases hlt : k < n
  · have hlt' : k < L.length := by rw [HE.out]; exact hlt
    obtain ⟨ad, c', vf, e1, had, c0, c1, c2, c3, c4, c5, -⟩ := (HA.out.below hb).at_ hlt'
    injection e1 with e1 e1n e1c
    clear e1n e1c
    subst e1
    obtain ⟨x, hx⟩ : ∃ x, L.getD k default = x := ⟨_, rfl⟩
    have HM : Hid (x ∈ L) := Lib.hid (by rw [← hx]; exact getD_mem hlt')
    rw [hx] at c0 c1 c2 c3 c4
    have HX := Lib.hid hx
    have HB := Lib.hid (And.intro hb hlt')
    obtain ⟨b, hbb⟩ : ∃ b, q x = b := ⟨_, rfl⟩
    have HS := Lib.hid (HP.out wr x vf hb HM.out)
    rw [hbb] at HS
    have HBT := Lib.hid hbb
    clear hbb hx hb hlt' had
    have hk0 : (0 : Int) ≤ (k : Int) := by omega
    have hk1 : (k : Int) < (n : Int) := by omega
    cases b with
    | true =>
      go_wp2_with (go_at_call 94; (with_reducible refine HS.out.mono ?_); rintro e w2 ⟨rfl, hb2⟩)
      go_ret
      exact ⟨_, rfl, by rw [any_yes HB.out.2 (by rw [HX.out]; exact HBT.out)]; exact decide_eq_true hk0, HB.out.1.trans (hb2.mono HB.out.1.size)⟩
    | false =>
      go_wp2_with (go_at_call 94; (with_reducible refine HS.out.mono ?_); rintro e w2 ⟨rfl, hb2⟩)
      go_roundw
      case rel =>
       refine ⟨k + 1, by omega, by go_num, fun j hj => ?_, HB.out.1.trans (hb2.mono HB.out.1.size)⟩
       by_cases e : j = k
       · subst e
         rw [HX.out]
         exact HBT.out
       · exact HNO.out j (by omega)
      case measure => simp [intOf]; omega
  · have e : k = n := by omega
    subst e
    have HN : Hid (L.any q = false) := Lib.hid (any_no HE.out HNO.out)
    have HB := Lib.hid hb
    clear hb
    go_wp2
    go_ret
    exact ⟨_, rfl, by rw [HN.out]; rfl, HB.out⟩
set_option maxHeartbeats 800000 in
theorem containsC_any (A : Option Addr) (n c : Nat) (L : List CodecS) (q : CodecS → Bool) (p1 : Value) (p2 : Value) (w : World) (h : CodecsV w w.heap.size (.slice A n c) L) (hn : L.length = n) (hl : n ≤ 4611686018427387904)
 (hp : ∀ (W : World) (x : CodecS) (vf : Value), Below w.heap.size w W → x ∈ L → Calls Tryz.prog 94 #[.agg #[.int .i64 x.type, .string x.name, .int .i64 x.clock, .int .i64 x.chans, .string x.format, vf], p1, p2] W fun e w' => e = .returned (.bool (q x)) ∧ Below W.heap.size W w') :
 Calls Tryz.prog 95 #[.slice A n c, .func (.func 94) #[] #[p1, p2]] w fun e w' => e = .returned (.bool (L.any q)) ∧ Below w.heap.size w w' := by
 have HC := Lib.hid (indexC_any A n c L q p1 p2 w h hn hl hp)
 clear h hp
 generalize L.any q = r at *
 go_enter Tryz.func95, Tryz.ntmps95
 go_wp2_with (go_at_call 42; (with_reducible refine HC.out.mono ?_); rintro e w2 ⟨i, rfl, hi, hb2⟩)
 go_ret
 first | exact ⟨rfl, hb2⟩ | exact ⟨ret_bool hi, hb2⟩
set_option maxHeartbeats 800000 in
theorem indexY_none (A : Option Addr) (c : Nat) (f : Value) (w : World) : Calls Tryz.prog 111 #[.slice A 0 c, f] w fun e w' => e = .returned (.int .i64 (-1)) ∧ w = w' := by
 go_enter Tryz.func111, Tryz.ntmps111
 go_wp2
 go_loopw [8] (fun s8 wr => s8 = .int .i64 0 ∧ w = wr) (fun s8 _ => 0)
 case atStart => exact ⟨rfl, rfl⟩
 case round =>
  obtain ⟨rfl, rfl⟩ := hrel
  go_wp2
  go_ret
  exact ⟨rfl, rfl⟩
set_option maxHeartbeats 800000 in
theorem containsY_none (A : Option Addr) (c : Nat) (f : Value) (w : World) : Calls Tryz.prog 105 #[.slice A 0 c, f] w fun e w' => e = .returned (.bool false) ∧ w = w' := by
 have HC := Lib.hid (indexY_none A c f w)
 go_enter Tryz.func105, Tryz.ntmps105
 go_wp2_with (go_at_call 111; (with_reducible refine HC.out.mono ?_); rintro e w2 ⟨rfl, rfl⟩)
 go_ret
 exact ⟨rfl, rfl⟩
theorem below_chain {N : Nat} {w W W' : World} (hN : N ≤ w.heap.size) (h1 : Below N w W) (h2 : Below W.heap.size W W') : Below N w W' := h1.trans (h2.mono (Nat.le_trans hN h1.size))
set_option maxHeartbeats 3200000 in
set_option maxRecDepth 100000 in
theorem alikeC_any (n m : Int) (y1 y2 y3 y4 y5 x1 x2 x3 x4 x5 : Value) (gk gx : Nat) (w : World) (hk : w.cell? ⟨gk, 0, none⟩ = some (.func (.func 79) #[] #[])) (hx : Whole w gx 47 #[.int .i64 m, x1, x2, x3, x4, x5]) :
 Calls Tryz.prog 94 #[.agg #[.int .i64 n, y1, y2, y3, y4, y5], .pointer (some ⟨gk, 0, none⟩), .pointer (some ⟨gx, 0, none⟩)] w fun e w' => e = .returned (.bool (n == m)) ∧ Below w.heap.size w w' := by
 have hb0 : Below w.heap.size w (w.alloc (.cells #[.int .i64 n, y1, y2, y3, y4, y5] 47)) := (Below.refl _ w).alloc (Nat.le_refl _) _
 have hz := Whole.new w 47 #[.int .i64 n, y1, y2, y3, y4, y5]
 have hgk : gk < w.heap.size := block_lt_of_cell hk
 have hkk : (w.alloc (.cells #[.int .i64 n, y1, y2, y3, y4, y5] 47)).cell? ⟨gk, 0, none⟩ = some (.func (.func 79) #[] #[]) := (hb0.cell (p := ⟨gk, 0, none⟩) hgk).trans hk
 have hxx := hx.under hb0
 have HB := Lib.hid (And.intro hb0 (And.intro hz (And.intro hkk hxx)))
 clear hb0 hz hkk hxx hk hx hgk
 obtain ⟨N, hN⟩ : ∃ N, w.heap.size = N := ⟨_, rfl⟩
 rw [hN] at HB ⊢
 go_enter Tryz.func94, Tryz.ntmps94
 go_upto_region 1 with fail
 generalize w.alloc (.cells #[.int .i64 n, y1, y2, y3, y4, y5] 47) = W0 at *
 have HG : Hid (∀ W, Below W0.heap.size W0 W → W.cell? ⟨gk, 0, none⟩ = some (.func (.func 79) #[] #[])) := Lib.hid fun W hW => (hW.cell (p := ⟨gk, 0, none⟩) (block_lt_of_cell HB.out.2.2.1)).trans HB.out.2.2.1
 have HO0 : Hid (∀ W, Below W0.heap.size W0 W → W.cell? ⟨N, 0, none⟩ = some (.int .i64 n)) := Lib.hid fun W hW => (HB.out.2.1.under hW).cell 0
 have HO1 : Hid (∀ W, Below W0.heap.size W0 W → W.cell? ⟨N, 1, none⟩ = some (y1)) := Lib.hid fun W hW => (HB.out.2.1.under hW).cell 1
 have HO2 : Hid (∀ W, Below W0.heap.size W0 W → W.cell? ⟨N, 2, none⟩ = some (y2)) := Lib.hid fun W hW => (HB.out.2.1.under hW).cell 2
 have HO3 : Hid (∀ W, Below W0.heap.size W0 W → W.cell? ⟨N, 3, none⟩ = some (y3)) := Lib.hid fun W hW => (HB.out.2.1.under hW).cell 3
 have HO4 : Hid (∀ W, Below W0.heap.size W0 W → W.cell? ⟨N, 4, none⟩ = some (y4)) := Lib.hid fun W hW => (HB.out.2.1.under hW).cell 4
 have HO5 : Hid (∀ W, Below W0.heap.size W0 W → W.cell? ⟨N, 5, none⟩ = some (y5)) := Lib.hid fun W hW => (HB.out.2.1.under hW).cell 5
 have HX0 : Hid (∀ W, Below W0.heap.size W0 W → W.cell? ⟨gx, 0, none⟩ = some (.int .i64 m)) := Lib.hid fun W hW => (HB.out.2.2.2.under hW).cell 0
 have HX1 : Hid (∀ W, Below W0.heap.size W0 W → W.cell? ⟨gx, 1, none⟩ = some (x1)) := Lib.hid fun W hW => (HB.out.2.2.2.under hW).cell 1
 have HX2 : Hid (∀ W, Below W0.heap.size W0 W → W.cell? ⟨gx, 2, none⟩ = some (x2)) := Lib.hid fun W hW => (HB.out.2.2.2.under hW).cell 2
 have HX3 : Hid (∀ W, Below W0.heap.size W0 W → W.cell? ⟨gx, 3, none⟩ = some (x3)) := Lib.hid fun W hW => (HB.out.2.2.2.under hW).cell 3
 have HX4 : Hid (∀ W, Below W0.heap.size W0 W → W.cell? ⟨gx, 4, none⟩ = some (x4)) := Lib.hid fun W hW => (HB.out.2.2.2.under hW).cell 4
 have HX5 : Hid (∀ W, Below W0.heap.size W0 W → W.cell? ⟨gx, 5, none⟩ = some (x5)) := Lib.hid fun W hW => (HB.out.2.2.2.under hW).cell 5
 have HC : Hid (∀ W, Below W0.heap.size W0 W → Calls Tryz.prog 79 #[.agg #[.int .i64 n, y1, y2, y3, y4, y5]] W fun e w' => e = .returned (.int .i64 n) ∧ Below W.heap.size W w') := Lib.hid fun W _ => codecType_any _ _ _ _ _ _ W
 have HD : Hid (∀ W, Below W0.heap.size W0 W → Calls Tryz.prog 79 #[.agg #[.int .i64 m, x1, x2, x3, x4, x5]] W fun e w' => e = .returned (.int .i64 m) ∧ Below W.heap.size W w') := Lib.hid fun W _ => codecType_any _ _ _ _ _ _ W
 have HKB : Hid (∀ W W', Below W0.heap.size W0 W → Below W.heap.size W W' → Below W0.heap.size W0 W') := Lib.hid fun W W' h1 h2 => below_chain (Nat.le_refl _) h1 h2
 have HR0 : Hid (Below W0.heap.size W0 W0.drew) := Lib.hid (Below.refl _ _).drew
 have hNW : N ≤ W0.heap.size := Nat.le_of_lt HB.out.2.1.lt
 have HN := Lib.hid hNW
 clear hN hNW
 refine wp_region_held_drew (S := fun W => Below W0.heap.size W0 W) (by kernel_rfl) HR0.out (fun hHeld => ?_)
 refine wpAnyH_take (i := 0) (v := _) rfl (by as_aux_lemma => kernel_rfl) (by as_aux_lemma => kernel_rfl) (by as_aux_lemma => kernel_rfl) (fun _ _ _ h => h) (Or.inl ⟨by rfl, fun w h => by have e0 := HG.out w h; have e1 := HO0.out w h; have e2 := HO1.out w h; have e3 := HO2.out w h; have e4 := HO3.out w h; have e5 := HO4.out w h; have e6 := HO5.out w h; have e7 := HX0.out w h; have e8 := HX1.out w h; have e9 := HX2.out w h; have e10 := HX3.out w h; have e11 := HX4.out w h; have e12 := HX5.out w h; clear h; go_simp; (try with_reducible rfl)⟩) (by assumption) ?_
 simp only [Act.put, List.getElem_toArray, List.getElem_cons_succ, List.getElem_cons_zero, List.setIfInBounds_toArray, List.set_cons_succ, List.set_cons_zero]
 refine wpAnyH_take (i := 1) (v := _) rfl (by as_aux_lemma => kernel_rfl) (by as_aux_lemma => kernel_rfl) (by as_aux_lemma => kernel_rfl) (fun _ _ _ h => h) (Or.inl ⟨by rfl, fun w h => by have e0 := HG.out w h; have e1 := HO0.out w h; have e2 := HO1.out w h; have e3 := HO2.out w h; have e4 := HO3.out w h; have e5 := HO4.out w h; have e6 := HO5.out w h; have e7 := HX0.out w h; have e8 := HX1.out w h; have e9 := HX2.out w h; have e10 := HX3.out w h; have e11 := HX4.out w h; have e12 := HX5.out w h; clear h; go_simp; (try with_reducible rfl)⟩) (by assumption) ?_
 simp only [Act.put, List.getElem_toArray, List.getElem_cons_succ, List.getElem_cons_zero, List.setIfInBounds_toArray, List.set_cons_succ, List.set_cons_zero]
 refine wpAnyH_take (i := 3) (v := _) rfl (by as_aux_lemma => kernel_rfl) (by as_aux_lemma => kernel_rfl) (by as_aux_lemma => kernel_rfl) (fun _ _ _ h => h) (Or.inl ⟨by rfl, fun w h => by have e0 := HG.out w h; have e1 := HO0.out w h; have e2 := HO1.out w h; have e3 := HO2.out w h; have e4 := HO3.out w h; have e5 := HO4.out w h; have e6 := HO5.out w h; have e7 := HX0.out w h; have e8 := HX1.out w h; have e9 := HX2.out w h; have e10 := HX3.out w h; have e11 := HX4.out w h; have e12 := HX5.out w h; clear h; go_simp; (try with_reducible rfl)⟩) (by assumption) ?_
 simp only [Act.put, List.getElem_toArray, List.getElem_cons_succ, List.getElem_cons_zero, List.setIfInBounds_toArray, List.set_cons_succ, List.set_cons_zero]
 refine wpAnyH_take (i := 4) (v := _) rfl (by as_aux_lemma => kernel_rfl) (by as_aux_lemma => kernel_rfl) (by as_aux_lemma => kernel_rfl) (fun _ _ _ h => h) (Or.inl ⟨by rfl, fun w h => by have e0 := HG.out w h; have e1 := HO0.out w h; have e2 := HO1.out w h; have e3 := HO2.out w h; have e4 := HO3.out w h; have e5 := HO4.out w h; have e6 := HO5.out w h; have e7 := HX0.out w h; have e8 := HX1.out w h; have e9 := HX2.out w h; have e10 := HX3.out w h; have e11 := HX4.out w h; have e12 := HX5.out w h; clear h; go_simp; (try with_reducible rfl)⟩) (by assumption) ?_
 simp only [Act.put, List.getElem_toArray, List.getElem_cons_succ, List.getElem_cons_zero, List.setIfInBounds_toArray, List.set_cons_succ, List.set_cons_zero]
 refine wpAnyH_ready (rs := [2]) (by as_aux_lemma => kernel_rfl) (by simp) ?_
 refine AllReadyH.cons (i := 2) rfl (fun K hK => ?_) AllReadyH.nil
 go_simp
 refine (HC.out _ hHeld).mono ?_
 rintro e w4 ⟨rfl, hb4⟩
 refine hK.out _ _ (HKB.out _ _ hHeld hb4) (fun hHeld4 => ?_)
 clear hK K hHeld
 have hHeld := hHeld4
 clear hHeld4
 refine wpAnyH_ready (rs := [5]) (by as_aux_lemma => kernel_rfl) (by simp) ?_
 refine AllReadyH.cons (i := 5) rfl (fun K hK => ?_) AllReadyH.nil
 go_simp
 refine (HD.out _ hHeld).mono ?_
 rintro e w4 ⟨rfl, hb4⟩
 refine hK.out _ _ (HKB.out _ _ hHeld hb4) (fun hHeld4 => ?_)
 clear hK K hHeld
 have hHeld := hHeld4
 clear hHeld4
 refine wpAnyH_take (i := 6) (v := _) rfl (by as_aux_lemma => kernel_rfl) (by as_aux_lemma => kernel_rfl) (by as_aux_lemma => kernel_rfl) (fun _ _ _ h => h) (Or.inl ⟨by rfl, fun w h => by have e0 := HG.out w h; have e1 := HO0.out w h; have e2 := HO1.out w h; have e3 := HO2.out w h; have e4 := HO3.out w h; have e5 := HO4.out w h; have e6 := HO5.out w h; have e7 := HX0.out w h; have e8 := HX1.out w h; have e9 := HX2.out w h; have e10 := HX3.out w h; have e11 := HX4.out w h; have e12 := HX5.out w h; clear h; go_simp; (try with_reducible rfl)⟩) (by assumption) ?_
 simp only [Act.put, List.getElem_toArray, List.getElem_cons_succ, List.getElem_cons_zero, List.setIfInBounds_toArray, List.set_cons_succ, List.set_cons_zero]
 refine wpAnyH_take (i := 7) (v := _) rfl (by as_aux_lemma => kernel_rfl) (by as_aux_lemma => kernel_rfl) (by as_aux_lemma => kernel_rfl) (fun _ _ _ h => h) (Or.inl ⟨by rfl, fun w h => by have e0 := HG.out w h; have e1 := HO0.out w h; have e2 := HO1.out w h; have e3 := HO2.out w h; have e4 := HO3.out w h; have e5 := HO4.out w h; have e6 := HO5.out w h; have e7 := HX0.out w h; have e8 := HX1.out w h; have e9 := HX2.out w h; have e10 := HX3.out w h; have e11 := HX4.out w h; have e12 := HX5.out w h; clear h; go_simp; (try with_reducible rfl)⟩) (by assumption) ?_
 simp only [Act.put, List.getElem_toArray, List.getElem_cons_succ, List.getElem_cons_zero, List.setIfInBounds_toArray, List.set_cons_succ, List.set_cons_zero]
 refine wpAnyH_done (by as_aux_lemma => kernel_rfl) ?_ _
 have HH := Lib.hid hHeld
 clear hHeld
 go_wp2
 go_ret
 exact ⟨rfl, HB.out.1.trans (HH.out.mono HN.out)⟩
set_option maxHeartbeats 3200000 in
set_option maxRecDepth 100000 in
theorem alikeE_any (n m : Int) (y1 x1 : Value) (gk gx : Nat) (w : World) (hk : w.cell? ⟨gk, 0, none⟩ = some (.func (.func 82) #[] #[])) (hx : Whole w gx 49 #[.int .i64 m, x1]) :
 Calls Tryz.prog 98 #[.agg #[.int .i64 n, y1], .pointer (some ⟨gk, 0, none⟩), .pointer (some ⟨gx, 0, none⟩)] w fun e w' => e = .returned (.bool (n == m)) ∧ Below w.heap.size w w' := by
 have hb0 : Below w.heap.size w (w.alloc (.cells #[.int .i64 n, y1] 49)) := (Below.refl _ w).alloc (Nat.le_refl _) _
 have hz := Whole.new w 49 #[.int .i64 n, y1]
 have hgk : gk < w.heap.size := block_lt_of_cell hk
 have hkk : (w.alloc (.cells #[.int .i64 n, y1] 49)).cell? ⟨gk, 0, none⟩ = some (.func (.func 82) #[] #[]) := (hb0.cell (p := ⟨gk, 0, none⟩) hgk).trans hk
 have hxx := hx.under hb0
 have HB := Lib.hid (And.intro hb0 (And.intro hz (And.intro hkk hxx)))
 clear hb0 hz hkk hxx hk hx hgk
 obtain ⟨N, hN⟩ : ∃ N, w.heap.size = N := ⟨_, rfl⟩
 rw [hN] at HB ⊢
 go_enter Tryz.func98, Tryz.ntmps98
 go_upto_region 1 with fail
 generalize w.alloc (.cells #[.int .i64 n, y1] 49) = W0 at *
 have HG : Hid (∀ W, Below W0.heap.size W0 W → W.cell? ⟨gk, 0, none⟩ = some (.func (.func 82) #[] #[])) := Lib.hid fun W hW => (hW.cell (p := ⟨gk, 0, none⟩) (block_lt_of_cell HB.out.2.2.1)).trans HB.out.2.2.1
 have HO0 : Hid (∀ W, Below W0.heap.size W0 W → W.cell? ⟨N, 0, none⟩ = some (.int .i64 n)) := Lib.hid fun W hW => (HB.out.2.1.under hW).cell 0
 have HO1 : Hid (∀ W, Below W0.heap.size W0 W → W.cell? ⟨N, 1, none⟩ = some (y1)) := Lib.hid fun W hW => (HB.out.2.1.under hW).cell 1
 have HX0 : Hid (∀ W, Below W0.heap.size W0 W → W.cell? ⟨gx, 0, none⟩ = some (.int .i64 m)) := Lib.hid fun W hW => (HB.out.2.2.2.under hW).cell 0
 have HX1 : Hid (∀ W, Below W0.heap.size W0 W → W.cell? ⟨gx, 1, none⟩ = some (x1)) := Lib.hid fun W hW => (HB.out.2.2.2.under hW).cell 1
 have HC : Hid (∀ W, Below W0.heap.size W0 W → Calls Tryz.prog 82 #[.agg #[.int .i64 n, y1]] W fun e w' => e = .returned (.int .i64 n) ∧ Below W.heap.size W w') := Lib.hid fun W _ => extID_any _ _ W
 have HD : Hid (∀ W, Below W0.heap.size W0 W → Calls Tryz.prog 82 #[.agg #[.int .i64 m, x1]] W fun e w' => e = .returned (.int .i64 m) ∧ Below W.heap.size W w') := Lib.hid fun W _ => extID_any _ _ W
 have HKB : Hid (∀ W W', Below W0.heap.size W0 W → Below W.heap.size W W' → Below W0.heap.size W0 W') := Lib.hid fun W W' h1 h2 => below_chain (Nat.le_refl _) h1 h2
 have HR0 : Hid (Below W0.heap.size W0 W0.drew) := Lib.hid (Below.refl _ _).drew
 have hNW : N ≤ W0.heap.size := Nat.le_of_lt HB.out.2.1.lt
 have HN := Lib.hid hNW
 clear hN hNW
 refine wp_region_held_drew (S := fun W => Below W0.heap.size W0 W) (by kernel_rfl) HR0.out (fun hHeld => ?_)
 refine wpAnyH_take (i := 0) (v := _) rfl (by as_aux_lemma => kernel_rfl) (by as_aux_lemma => kernel_rfl) (by as_aux_lemma => kernel_rfl) (fun _ _ _ h => h) (Or.inl ⟨by rfl, fun w h => by have e0 := HG.out w h; have e1 := HO0.out w h; have e2 := HO1.out w h; have e3 := HX0.out w h; have e4 := HX1.out w h; clear h; go_simp; (try with_reducible rfl)⟩) (by assumption) ?_
 simp only [Act.put, List.getElem_toArray, List.getElem_cons_succ, List.getElem_cons_zero, List.setIfInBounds_toArray, List.set_cons_succ, List.set_cons_zero]
 refine wpAnyH_take (i := 1) (v := _) rfl (by as_aux_lemma => kernel_rfl) (by as_aux_lemma => kernel_rfl) (by as_aux_lemma => kernel_rfl) (fun _ _ _ h => h) (Or.inl ⟨by rfl, fun w h => by have e0 := HG.out w h; have e1 := HO0.out w h; have e2 := HO1.out w h; have e3 := HX0.out w h; have e4 := HX1.out w h; clear h; go_simp; (try with_reducible rfl)⟩) (by assumption) ?_
 simp only [Act.put, List.getElem_toArray, List.getElem_cons_succ, List.getElem_cons_zero, List.setIfInBounds_toArray, List.set_cons_succ, List.set_cons_zero]
 refine wpAnyH_take (i := 3) (v := _) rfl (by as_aux_lemma => kernel_rfl) (by as_aux_lemma => kernel_rfl) (by as_aux_lemma => kernel_rfl) (fun _ _ _ h => h) (Or.inl ⟨by rfl, fun w h => by have e0 := HG.out w h; have e1 := HO0.out w h; have e2 := HO1.out w h; have e3 := HX0.out w h; have e4 := HX1.out w h; clear h; go_simp; (try with_reducible rfl)⟩) (by assumption) ?_
 simp only [Act.put, List.getElem_toArray, List.getElem_cons_succ, List.getElem_cons_zero, List.setIfInBounds_toArray, List.set_cons_succ, List.set_cons_zero]
 refine wpAnyH_take (i := 4) (v := _) rfl (by as_aux_lemma => kernel_rfl) (by as_aux_lemma => kernel_rfl) (by as_aux_lemma => kernel_rfl) (fun _ _ _ h => h) (Or.inl ⟨by rfl, fun w h => by have e0 := HG.out w h; have e1 := HO0.out w h; have e2 := HO1.out w h; have e3 := HX0.out w h; have e4 := HX1.out w h; clear h; go_simp; (try with_reducible rfl)⟩) (by assumption) ?_
 simp only [Act.put, List.getElem_toArray, List.getElem_cons_succ, List.getElem_cons_zero, List.setIfInBounds_toArray, List.set_cons_succ, List.set_cons_zero]
 refine wpAnyH_ready (rs := [2]) (by as_aux_lemma => kernel_rfl) (by simp) ?_
 refine AllReadyH.cons (i := 2) rfl (fun K hK => ?_) AllReadyH.nil
 go_simp
 refine (HC.out _ hHeld).mono ?_
 rintro e w4 ⟨rfl, hb4⟩
 refine hK.out _ _ (HKB.out _ _ hHeld hb4) (fun hHeld4 => ?_)
 clear hK K hHeld
 have hHeld := hHeld4
 clear hHeld4
 refine wpAnyH_ready (rs := [5]) (by as_aux_lemma => kernel_rfl) (by simp) ?_
 refine AllReadyH.cons (i := 5) rfl (fun K hK => ?_) AllReadyH.nil
 go_simp
 refine (HD.out _ hHeld).mono ?_
 rintro e w4 ⟨rfl, hb4⟩
 refine hK.out _ _ (HKB.out _ _ hHeld hb4) (fun hHeld4 => ?_)
 clear hK K hHeld
 have hHeld := hHeld4
 clear hHeld4
 refine wpAnyH_take (i := 6) (v := _) rfl (by as_aux_lemma => kernel_rfl) (by as_aux_lemma => kernel_rfl) (by as_aux_lemma => kernel_rfl) (fun _ _ _ h => h) (Or.inl ⟨by rfl, fun w h => by have e0 := HG.out w h; have e1 := HO0.out w h; have e2 := HO1.out w h; have e3 := HX0.out w h; have e4 := HX1.out w h; clear h; go_simp; (try with_reducible rfl)⟩) (by assumption) ?_
 simp only [Act.put, List.getElem_toArray, List.getElem_cons_succ, List.getElem_cons_zero, List.setIfInBounds_toArray, List.set_cons_succ, List.set_cons_zero]
 refine wpAnyH_take (i := 7) (v := _) rfl (by as_aux_lemma => kernel_rfl) (by as_aux_lemma => kernel_rfl) (by as_aux_lemma => kernel_rfl) (fun _ _ _ h => h) (Or.inl ⟨by rfl, fun w h => by have e0 := HG.out w h; have e1 := HO0.out w h; have e2 := HO1.out w h; have e3 := HX0.out w h; have e4 := HX1.out w h; clear h; go_simp; (try with_reducible rfl)⟩) (by assumption) ?_
 simp only [Act.put, List.getElem_toArray, List.getElem_cons_succ, List.getElem_cons_zero, List.setIfInBounds_toArray, List.set_cons_succ, List.set_cons_zero]
 refine wpAnyH_done (by as_aux_lemma => kernel_rfl) ?_ _
 have HH := Lib.hid hHeld
 clear hHeld
 go_wp2
 go_ret
 exact ⟨rfl, HB.out.1.trans (HH.out.mono HN.out)⟩
set_option maxHeartbeats 3200000 in
set_option maxRecDepth 100000 in
theorem alikeS_any (s r : ByteArray) (gk gx : Nat) (w : World) (hk : w.cell? ⟨gk, 0, none⟩ = some (.func (.func 85) #[] #[])) (hx : w.cell? ⟨gx, 0, none⟩ = some (.string r)) :
 Calls Tryz.prog 101 #[.string s, .pointer (some ⟨gk, 0, none⟩), .pointer (some ⟨gx, 0, none⟩)] w fun e w' => e = .returned (.bool (s.toList == r.toList)) ∧ Below w.heap.size w w' := by
 have HG : Hid (∀ W, Below w.heap.size w W → W.cell? ⟨gk, 0, none⟩ = some (.func (.func 85) #[] #[])) := Lib.hid fun W hW => (hW.cell (p := ⟨gk, 0, none⟩) (block_lt_of_cell hk)).trans hk
 have HX : Hid (∀ W, Below w.heap.size w W → W.cell? ⟨gx, 0, none⟩ = some (.string r)) := Lib.hid fun W hW => (hW.cell (p := ⟨gx, 0, none⟩) (block_lt_of_cell hx)).trans hx
 have HC : Hid (∀ W, Below w.heap.size w W → Calls Tryz.prog 85 #[.string s] W fun e w' => e = .returned (.string s) ∧ Below W.heap.size W w') := Lib.hid fun W _ => (itselfS_any _ W).mono fun e w' ⟨h1, h2⟩ => ⟨h1, h2 ▸ Below.refl _ _⟩
 have HD : Hid (∀ W, Below w.heap.size w W → Calls Tryz.prog 85 #[.string r] W fun e w' => e = .returned (.string r) ∧ Below W.heap.size W w') := Lib.hid fun W _ => (itselfS_any _ W).mono fun e w' ⟨h1, h2⟩ => ⟨h1, h2 ▸ Below.refl _ _⟩
 have HKB : Hid (∀ W W', Below w.heap.size w W → Below W.heap.size W W' → Below w.heap.size w W') := Lib.hid fun W W' h1 h2 => below_chain (Nat.le_refl _) h1 h2
 have HR0 : Hid (Below w.heap.size w w.drew) := Lib.hid (Below.refl _ _).drew
 clear hk hx
 go_enter Tryz.func101, Tryz.ntmps101
 go_upto_region 1 with fail
 refine wp_region_held_drew (S := fun W => Below w.heap.size w W) (by kernel_rfl) HR0.out (fun hHeld => ?_)
 refine wpAnyH_take (i := 0) (v := _) rfl (by as_aux_lemma => kernel_rfl) (by as_aux_lemma => kernel_rfl) (by as_aux_lemma => kernel_rfl) (fun _ _ _ h => h) (Or.inl ⟨by rfl, fun w h => by have e0 := HG.out w h; have e1 := HX.out w h; clear h; go_simp; (try with_reducible rfl)⟩) (by assumption) ?_
 simp only [Act.put, List.getElem_toArray, List.getElem_cons_succ, List.getElem_cons_zero, List.setIfInBounds_toArray, List.set_cons_succ, List.set_cons_zero]
 refine wpAnyH_take (i := 1) (v := _) rfl (by as_aux_lemma => kernel_rfl) (by as_aux_lemma => kernel_rfl) (by as_aux_lemma => kernel_rfl) (fun _ _ _ h => h) (Or.inl ⟨by rfl, fun w h => by have e0 := HG.out w h; have e1 := HX.out w h; clear h; go_simp; (try with_reducible rfl)⟩) (by assumption) ?_
 simp only [Act.put, List.getElem_toArray, List.getElem_cons_succ, List.getElem_cons_zero, List.setIfInBounds_toArray, List.set_cons_succ, List.set_cons_zero]
 refine wpAnyH_take (i := 3) (v := _) rfl (by as_aux_lemma => kernel_rfl) (by as_aux_lemma => kernel_rfl) (by as_aux_lemma => kernel_rfl) (fun _ _ _ h => h) (Or.inl ⟨by rfl, fun w h => by have e0 := HG.out w h; have e1 := HX.out w h; clear h; go_simp; (try with_reducible rfl)⟩) (by assumption) ?_
 simp only [Act.put, List.getElem_toArray, List.getElem_cons_succ, List.getElem_cons_zero, List.setIfInBounds_toArray, List.set_cons_succ, List.set_cons_zero]
 refine wpAnyH_take (i := 4) (v := _) rfl (by as_aux_lemma => kernel_rfl) (by as_aux_lemma => kernel_rfl) (by as_aux_lemma => kernel_rfl) (fun _ _ _ h => h) (Or.inl ⟨by rfl, fun w h => by have e0 := HG.out w h; have e1 := HX.out w h; clear h; go_simp; (try with_reducible rfl)⟩) (by assumption) ?_
 simp only [Act.put, List.getElem_toArray, List.getElem_cons_succ, List.getElem_cons_zero, List.setIfInBounds_toArray, List.set_cons_succ, List.set_cons_zero]
 refine wpAnyH_ready (rs := [2]) (by as_aux_lemma => kernel_rfl) (by simp) ?_
 refine AllReadyH.cons (i := 2) rfl (fun K hK => ?_) AllReadyH.nil
 go_simp
 refine (HC.out _ hHeld).mono ?_
 rintro e w4 ⟨rfl, hb4⟩
 refine hK.out _ _ (HKB.out _ _ hHeld hb4) (fun hHeld4 => ?_)
 clear hK K hHeld
 have hHeld := hHeld4
 clear hHeld4
 refine wpAnyH_ready (rs := [5]) (by as_aux_lemma => kernel_rfl) (by simp) ?_
 refine AllReadyH.cons (i := 5) rfl (fun K hK => ?_) AllReadyH.nil
 go_simp
 refine (HD.out _ hHeld).mono ?_
 rintro e w4 ⟨rfl, hb4⟩
 refine hK.out _ _ (HKB.out _ _ hHeld hb4) (fun hHeld4 => ?_)
 clear hK K hHeld
 have hHeld := hHeld4
 clear hHeld4
 refine wpAnyH_take (i := 6) (v := _) rfl (by as_aux_lemma => kernel_rfl) (by as_aux_lemma => kernel_rfl) (by as_aux_lemma => kernel_rfl) (fun _ _ _ h => h) (Or.inl ⟨by rfl, fun w h => by have e0 := HG.out w h; have e1 := HX.out w h; clear h; go_simp; (try with_reducible rfl)⟩) (by assumption) ?_
 simp only [Act.put, List.getElem_toArray, List.getElem_cons_succ, List.getElem_cons_zero, List.setIfInBounds_toArray, List.set_cons_succ, List.set_cons_zero]
 refine wpAnyH_take (i := 7) (v := _) rfl (by as_aux_lemma => kernel_rfl) (by as_aux_lemma => kernel_rfl) (by as_aux_lemma => kernel_rfl) (fun _ _ _ h => h) (Or.inl ⟨by rfl, fun w h => by have e0 := HG.out w h; have e1 := HX.out w h; clear h; go_simp; (try with_reducible rfl)⟩) (by assumption) ?_
 simp only [Act.put, List.getElem_toArray, List.getElem_cons_succ, List.getElem_cons_zero, List.setIfInBounds_toArray, List.set_cons_succ, List.set_cons_zero]
 refine wpAnyH_done (by as_aux_lemma => kernel_rfl) ?_ _
 have HH := Lib.hid hHeld
 clear hHeld
 go_wp2
 go_ret
 exact ⟨rfl, HH.out⟩
set_option maxHeartbeats 3200000 in
set_option maxRecDepth 100000 in
theorem alikeU_any (n m : Int) (gk gx : Nat) (w : World) (hk : w.cell? ⟨gk, 0, none⟩ = some (.func (.func 88) #[] #[])) (hx : w.cell? ⟨gx, 0, none⟩ = some (.int .u32 m)) :
 Calls Tryz.prog 102 #[.int .u32 n, .pointer (some ⟨gk, 0, none⟩), .pointer (some ⟨gx, 0, none⟩)] w fun e w' => e = .returned (.bool (n == m)) ∧ Below w.heap.size w w' := by
 have HG : Hid (∀ W, Below w.heap.size w W → W.cell? ⟨gk, 0, none⟩ = some (.func (.func 88) #[] #[])) := Lib.hid fun W hW => (hW.cell (p := ⟨gk, 0, none⟩) (block_lt_of_cell hk)).trans hk
 have HX : Hid (∀ W, Below w.heap.size w W → W.cell? ⟨gx, 0, none⟩ = some (.int .u32 m)) := Lib.hid fun W hW => (hW.cell (p := ⟨gx, 0, none⟩) (block_lt_of_cell hx)).trans hx
 have HC : Hid (∀ W, Below w.heap.size w W → Calls Tryz.prog 88 #[.int .u32 n] W fun e w' => e = .returned (.int .u32 n) ∧ Below W.heap.size W w') := Lib.hid fun W _ => (itselfU_any _ W).mono fun e w' ⟨h1, h2⟩ => ⟨h1, h2 ▸ Below.refl _ _⟩
 have HD : Hid (∀ W, Below w.heap.size w W → Calls Tryz.prog 88 #[.int .u32 m] W fun e w' => e = .returned (.int .u32 m) ∧ Below W.heap.size W w') := Lib.hid fun W _ => (itselfU_any _ W).mono fun e w' ⟨h1, h2⟩ => ⟨h1, h2 ▸ Below.refl _ _⟩
 have HKB : Hid (∀ W W', Below w.heap.size w W → Below W.heap.size W W' → Below w.heap.size w W') := Lib.hid fun W W' h1 h2 => below_chain (Nat.le_refl _) h1 h2
 have HR0 : Hid (Below w.heap.size w w.drew) := Lib.hid (Below.refl _ _).drew
 clear hk hx
 go_enter Tryz.func102, Tryz.ntmps102
 go_upto_region 1 with fail
 refine wp_region_held_drew (S := fun W => Below w.heap.size w W) (by kernel_rfl) HR0.out (fun hHeld => ?_)
 refine wpAnyH_take (i := 0) (v := _) rfl (by as_aux_lemma => kernel_rfl) (by as_aux_lemma => kernel_rfl) (by as_aux_lemma => kernel_rfl) (fun _ _ _ h => h) (Or.inl ⟨by rfl, fun w h => by have e0 := HG.out w h; have e1 := HX.out w h; clear h; go_simp; (try with_reducible rfl)⟩) (by assumption) ?_
 simp only [Act.put, List.getElem_toArray, List.getElem_cons_succ, List.getElem_cons_zero, List.setIfInBounds_toArray, List.set_cons_succ, List.set_cons_zero]
 refine wpAnyH_take (i := 1) (v := _) rfl (by as_aux_lemma => kernel_rfl) (by as_aux_lemma => kernel_rfl) (by as_aux_lemma => kernel_rfl) (fun _ _ _ h => h) (Or.inl ⟨by rfl, fun w h => by have e0 := HG.out w h; have e1 := HX.out w h; clear h; go_simp; (try with_reducible rfl)⟩) (by assumption) ?_
 simp only [Act.put, List.getElem_toArray, List.getElem_cons_succ, List.getElem_cons_zero, List.setIfInBounds_toArray, List.set_cons_succ, List.set_cons_zero]
 refine wpAnyH_take (i := 3) (v := _) rfl (by as_aux_lemma => kernel_rfl) (by as_aux_lemma => kernel_rfl) (by as_aux_lemma => kernel_rfl) (fun _ _ _ h => h) (Or.inl ⟨by rfl, fun w h => by have e0 := HG.out w h; have e1 := HX.out w h; clear h; go_simp; (try with_reducible rfl)⟩) (by assumption) ?_
 simp only [Act.put, List.getElem_toArray, List.getElem_cons_succ, List.getElem_cons_zero, List.setIfInBounds_toArray, List.set_cons_succ, List.set_cons_zero]
 refine wpAnyH_take (i := 4) (v := _) rfl (by as_aux_lemma => kernel_rfl) (by as_aux_lemma => kernel_rfl) (by as_aux_lemma => kernel_rfl) (fun _ _ _ h => h) (Or.inl ⟨by rfl, fun w h => by have e0 := HG.out w h; have e1 := HX.out w h; clear h; go_simp; (try with_reducible rfl)⟩) (by assumption) ?_
 simp only [Act.put, List.getElem_toArray, List.getElem_cons_succ, List.getElem_cons_zero, List.setIfInBounds_toArray, List.set_cons_succ, List.set_cons_zero]
 refine wpAnyH_ready (rs := [2]) (by as_aux_lemma => kernel_rfl) (by simp) ?_
 refine AllReadyH.cons (i := 2) rfl (fun K hK => ?_) AllReadyH.nil
 go_simp
 refine (HC.out _ hHeld).mono ?_
 rintro e w4 ⟨rfl, hb4⟩
 refine hK.out _ _ (HKB.out _ _ hHeld hb4) (fun hHeld4 => ?_)
 clear hK K hHeld
 have hHeld := hHeld4
 clear hHeld4
 refine wpAnyH_ready (rs := [5]) (by as_aux_lemma => kernel_rfl) (by simp) ?_
 refine AllReadyH.cons (i := 5) rfl (fun K hK => ?_) AllReadyH.nil
 go_simp
 refine (HD.out _ hHeld).mono ?_
 rintro e w4 ⟨rfl, hb4⟩
 refine hK.out _ _ (HKB.out _ _ hHeld hb4) (fun hHeld4 => ?_)
 clear hK K hHeld
 have hHeld := hHeld4
 clear hHeld4
 refine wpAnyH_take (i := 6) (v := _) rfl (by as_aux_lemma => kernel_rfl) (by as_aux_lemma => kernel_rfl) (by as_aux_lemma => kernel_rfl) (fun _ _ _ h => h) (Or.inl ⟨by rfl, fun w h => by have e0 := HG.out w h; have e1 := HX.out w h; clear h; go_simp; (try with_reducible rfl)⟩) (by assumption) ?_
 simp only [Act.put, List.getElem_toArray, List.getElem_cons_succ, List.getElem_cons_zero, List.setIfInBounds_toArray, List.set_cons_succ, List.set_cons_zero]
 refine wpAnyH_take (i := 7) (v := _) rfl (by as_aux_lemma => kernel_rfl) (by as_aux_lemma => kernel_rfl) (by as_aux_lemma => kernel_rfl) (fun _ _ _ h => h) (Or.inl ⟨by rfl, fun w h => by have e0 := HG.out w h; have e1 := HX.out w h; clear h; go_simp; (try with_reducible rfl)⟩) (by assumption) ?_
 simp only [Act.put, List.getElem_toArray, List.getElem_cons_succ, List.getElem_cons_zero, List.setIfInBounds_toArray, List.set_cons_succ, List.set_cons_zero]
 refine wpAnyH_done (by as_aux_lemma => kernel_rfl) ?_ _
 have HH := Lib.hid hHeld
 clear hHeld
 go_wp2
 go_ret
 exact ⟨rfl, HH.out⟩
theorem Rows.take {α : Type} {w : World} {B sz : Nat} {R : (Nat → Option Value) → α → Prop} {A : Option Addr} {n c : Nat} {L : List α} (h : Rows w B sz R (.slice A n c) L) {k : Nat} (hk : k ≤ L.length) : Rows w B sz R (.slice A k c) (L.take k) := by
 obtain ⟨A', c', h1, h2, h3, h4, h5⟩ := h
 injection h1 with e1 e2 e3
 subst e1 e2 e3
 have hl : (L.take k).length = k := by rw [List.length_take]; omega
 refine ⟨A, c, by rw [hl], by omega, h3, h4, fun hn => ?_⟩
 obtain ⟨ad, e1, e2, e3⟩ := h5 (by omega)
 refine ⟨ad, e1, e2, fun i x hx => e3 i x ?_⟩
 rw [List.getElem?_take] at hx
 split at hx
 · exact hx
 · cases hx
theorem unlike_step {α κ : Type} [DecidableEq κ] {f : α → κ} {L : List α} {k : Nat} {x : α} {q : α → Bool} (hx : L[k]? = some x) (h : unlike f (L.take k) = true) (hq : ∀ y, q y = true ↔ f y = f x) :
 ((L.take k).any q = true → unlike f L = false) ∧ ((L.take k).any q = false → unlike f (L.take (k + 1)) = true) := by
 unfold unlike at h ⊢
 rw [decide_eq_true_eq] at h
 have hk : k < L.length := (List.getElem?_eq_some_iff.1 hx).1
 have e : L.take (k + 1) = L.take k ++ [x] := by rw [List.take_add_one, hx]; rfl
 constructor
 · intro ha
   rw [List.any_eq_true] at ha
   obtain ⟨y, hy, hqy⟩ := ha
   rw [decide_eq_false_iff_not]
   intro hn
   have hs : List.Sublist ((L.take (k + 1)).map f) (L.map f) := (List.take_sublist _ _).map f
   have hn := hs.nodup hn
   rw [e, List.map_append, List.nodup_append] at hn
   exact hn.2.2 (f y) (List.mem_map.2 ⟨y, hy, rfl⟩) (f x) (by simp) ((hq y).1 hqy)
 · intro ha
   rw [List.any_eq_false] at ha
   rw [decide_eq_true_eq, e, List.map_append, List.nodup_append]
   refine ⟨h, by simp, fun a ha' b hb => ?_⟩
   obtain ⟨y, hy, rfl⟩ := List.mem_map.1 ha'
   simp at hb
   subst hb
   intro he
   exact ha y hy ((hq y).2 he)
theorem all_no {α : Type} {L : List α} {q : α → Bool} {x : α} (hx : x ∈ L) (h : q x = false) : L.all q = false := by
 rw [Bool.eq_false_iff]
 intro ha
 rw [List.all_eq_true] at ha
 rw [ha x hx] at h
 cases h
theorem all_yesL {α : Type} [Inhabited α] {L : List α} {q : α → Bool} {n : Nat} (hn : L.length = n) (h : ∀ j, j < n → q (L.getD j default) = true) : L.all q = true := by
 rw [List.all_eq_true]
 intro a ha
 obtain ⟨j, hj, rfl⟩ := List.getElem_of_mem ha
 have := h j (by omega)
 simpa [List.getD, hj] using this
set_option maxHeartbeats 3200000 in
set_option maxRecDepth 100000 in
theorem goodListS_any (A : Option Addr) (n c : Nat) (L : List ByteArray) (good : ByteArray → Bool) (w : World) (h : TextsV w w.heap.size (.slice A n c) L) (hn : L.length = n) (hl : n ≤ 140737488355328)
 (hg : ∀ (W : World) (x : ByteArray), Below w.heap.size w W → x ∈ L → Calls Tryz.prog 86 #[.string x] W fun e w' => e = .returned (.bool (good x)) ∧ Below W.heap.size W w') :
 Calls Tryz.prog 84 #[.slice A n c, .int .i64 3, .func (.func 85) #[] #[], .func (.func 86) #[] #[]] w fun e w' => e = .returned (.bool (decide (n ≤ 3) && L.all good && unlike tx L)) ∧ Below w.heap.size w w' := by
 have hb0 : Below w.heap.size w (w.alloc (.cells #[.func (.func 85) #[] #[]] 100)) := (Below.refl _ w).alloc (Nat.le_refl _) _
 have hz := Whole.new w 100 #[.func (.func 85) #[] #[]]
 have hcap : n ≤ c ∧ c ≤ maxLen := by
  obtain ⟨A', c', e1, e2, e3, -⟩ := Rows.form h
  injection e1 with e1 e1n e1c
  subst e1c
  exact ⟨by omega, e3⟩
 have HV := Lib.hid h
 have HGD := Lib.hid hg
 have HE := Lib.hid hn
 have HB0 := Lib.hid (And.intro hb0 hz)
 obtain ⟨hc1, hc2⟩ := hcap
 unfold maxLen at hc2
 obtain ⟨r, hr⟩ : ∃ r, (decide (n ≤ 3) && L.all good && unlike tx L) = r := ⟨_, rfl⟩
 have HR := Lib.hid hr
 rw [hr]
 clear h hg hn hb0 hz hr
 by_cases hm : n ≤ 3
 · have hmi : (n : Int) ≤ 3 := by omega
   obtain ⟨N, hN⟩ : ∃ N, w.heap.size = N := ⟨_, rfl⟩
   rw [hN] at HB0 HV HGD ⊢
   go_enter Tryz.func84, Tryz.ntmps84
   go_upto_region 1 with fail
   generalize w.alloc (.cells #[.func (.func 85) #[] #[]] 100) = W0 at *
   have HN0 : Hid (N ≤ W0.heap.size) := Lib.hid (Nat.le_of_lt HB0.out.2.lt)
   clear hN
   have hmf : ∀ (fn : Fn) (first cap : Array Value) (w : World), (Instr.makeFunc fn first cap).run Tryz.prog w = .ok (.func fn first cap) w := fun _ _ _ _ => rfl
   go_wp2
   go_loopw [18] (fun s18 wr => ∃ k : Nat, k ≤ n ∧ s18 = .int .i64 k ∧ (Below W0.heap.size W0 wr ∧ (∀ j, j < k → good (L.getD j default) = true) ∧ unlike tx (L.take k) = true)) (fun s18 _ => n - (intOf s18).toNat)
   case atStart => exact ⟨0, by omega, rfl, Below.refl _ _, (fun j hj => by omega), rfl⟩
   case round =>
    obtain ⟨k, hk, rfl, hst⟩ := hrel
    have HS := Lib.hid hst
    clear hst
    by_cases hlt : k < n
    · have hlt' : k < L.length := by rw [HE.out]; exact hlt
      have HBW : Hid (Below N w wr) := Lib.hid (HB0.out.1.trans (HS.out.1.mono HN0.out))
      obtain ⟨ad, c', e1, had, c0⟩ := (HV.out.below HBW.out).at_ hlt'
      injection e1 with e1 e1n e1c
      clear e1n e1c
      subst e1
      obtain ⟨x, hx⟩ : ∃ x, L.getD k default = x := ⟨_, rfl⟩
      have HM : Hid (x ∈ L ∧ L[k]? = some x ∧ L.getD k default = x) := Lib.hid ⟨by rw [← hx]; exact getD_mem hlt', by rw [← hx]; exact getD_of hlt', hx⟩
      rw [hx] at c0
      have hk0 : (0 : Int) ≤ (k : Int) := by omega
      have hk1 : (k : Int) < (n : Int) := by omega
      have hk2 : (k : Int) ≤ (c : Int) := by omega
      have hN0 : W0.heap.size ≤ wr.heap.size := HS.out.1.size
      have HNEW : Hid (Whole (wr.alloc (.cells #[.string ⟨#[]⟩] 9)) wr.heap.size 9 #[.string ⟨#[]⟩]) := Lib.hid (Whole.new _ _ _)
      have HW : Hid (Below W0.heap.size W0 (wr.alloc (.cells #[.string x] 9)) ∧ Whole (wr.alloc (.cells #[.string x] 9)) wr.heap.size 9 #[.string x] ∧ Below N wr (wr.alloc (.cells #[.string x] 9))) := Lib.hid ⟨HS.out.1.alloc hN0 _, Whole.new wr 9 #[.string x], (Below.refl N wr).alloc (Nat.le_trans HN0.out hN0) _⟩
      clear hx had hlt' hN0
      go_upto_region 7 with fail
      generalize (wr.alloc (.cells #[.string x] 9)) = w2 at *
      generalize wr.heap.size = g at *
      clear c0 HNEW
      have HBW2 : Hid (Below N w w2) := Lib.hid (HB0.out.1.trans (HW.out.1.mono HN0.out))
      have HSZ : Hid (N ≤ w2.heap.size) := Lib.hid (Nat.le_trans HN0.out HW.out.1.size)
      have cg := HW.out.2.1
      have cg0 := cg.cell 0
      simp only [List.getElem?_toArray, List.getElem?_cons_zero, List.getElem?_cons_succ] at cg0
      clear cg
      obtain ⟨b, hb⟩ : ∃ b, good x = b := ⟨_, rfl⟩
      have HC := Lib.hid (HGD.out w2 x HBW2.out HM.out.1)
      rw [hb] at HC
      have HBG := Lib.hid hb
      clear hb
      cases b with
      | false =>
        have HQ : Hid (r = false) := Lib.hid (by rw [← HR.out, all_no HM.out.1 HBG.out]; simp)
        go_wp2_with (go_at_call 86; (with_reducible refine HC.out.mono ?_); rintro e w3 ⟨rfl, hb3⟩)
        go_ret
        exact ⟨ret_bool HQ.out.symm, HBW2.out.trans (hb3.mono HSZ.out)⟩
      | true =>
        obtain ⟨a, ha⟩ : ∃ a, (L.take k).any (fun y => y.toList == x.toList) = a := ⟨_, rfl⟩
        have HCO : Hid (∀ w3, Below w2.heap.size w2 w3 → Calls Tryz.prog 56 #[.slice (some ad) k c, .func (.func 101) #[] #[.pointer (some ⟨N, 0, none⟩), .pointer (some ⟨g, 0, none⟩)]] w3 fun e w' => e = .returned (.bool a) ∧ Below w3.heap.size w3 w') := Lib.hid fun w3 hb3 => by
         have hkey : w3.cell? ⟨N, 0, none⟩ = some (.func (.func 85) #[] #[]) := ((HB0.out.2.under (HW.out.1.trans (hb3.mono HW.out.1.size))).cell 0)
         have hgx := HW.out.2.1.under hb3
         have hsz : N ≤ w2.heap.size := HSZ.out
         have hv3 := Rows.take (k := k) (HV.out.below (HBW2.out.trans (hb3.mono hsz))) (by rw [HE.out]; omega)
         have hv3 : TextsV w3 w3.heap.size (.slice (some ad) k c) (L.take k) := TextsV.more hv3 (Nat.le_trans hsz hb3.size)
         have := containsS_any (some ad) k c (L.take k) (fun y => y.toList == x.toList) (.pointer (some ⟨N, 0, none⟩)) (.pointer (some ⟨g, 0, none⟩)) w3 hv3 (by rw [List.length_take, HE.out]; omega) (by omega)
          (fun W y hW' _ => by
            have h1 : W.cell? ⟨N, 0, none⟩ = some (.func (.func 85) #[] #[]) := (hW'.cell (p := ⟨N, 0, none⟩) (block_lt_of_cell hkey)).trans hkey
            have h2 := hgx.under hW'
            exact (alikeS_any y x N g W h1 (h2.cell 0)))
         rw [ha] at this
         exact this
        have HST := Lib.hid (unlike_step (f := tx) (q := (fun y => y.toList == x.toList)) HM.out.2.1 HS.out.2.2 (fun y => by rw [beq_iff_eq, toList_tx, toList_tx]))
        rw [ha] at HST
        clear ha
        cases a with
        | true =>
          have HQ : Hid (r = false) := Lib.hid (by rw [← HR.out, HST.out.1 rfl]; simp)
          go_wp2_with (first | (go_at_call 86; (with_reducible refine HC.out.mono ?_); rintro e w3 ⟨rfl, hb3⟩; have HCC := Lib.hid (HCO.out w3 hb3)) | (go_at_call 56; (with_reducible refine HCC.out.mono ?_); rintro e w4 ⟨rfl, hb4⟩))
          go_ret
          exact ⟨ret_bool HQ.out.symm, (HBW2.out.trans (hb3.mono HSZ.out)).trans (hb4.mono (Nat.le_trans HSZ.out hb3.size))⟩
        | false =>
          go_wp2_with (first | (go_at_call 86; (with_reducible refine HC.out.mono ?_); rintro e w3 ⟨rfl, hb3⟩; have HCC := Lib.hid (HCO.out w3 hb3)) | (go_at_call 56; (with_reducible refine HCC.out.mono ?_); rintro e w4 ⟨rfl, hb4⟩))
          go_roundw
          case rel =>
           refine ⟨k + 1, by omega, by go_num, (HW.out.1.trans (hb3.mono HW.out.1.size)).trans (hb4.mono (Nat.le_trans HW.out.1.size hb3.size)), fun j hj => ?_, HST.out.2 (by first | rfl | trivial)⟩
           by_cases e : j = k
           · subst e
             rw [HM.out.2.2]
             exact HBG.out
           · exact HS.out.2.1 j (by omega)
          case measure => simp [intOf]; omega
    · have e : k = n := by omega
      subst e
      have HQ : Hid (r = true) := Lib.hid (by
       rw [← HR.out, all_yesL HE.out HS.out.2.1]
       have := HS.out.2.2
       rw [List.take_of_length_le (by rw [HE.out]; exact Nat.le_refl _)] at this
       rw [this]
       simp [hm])
      have HBW : Hid (Below N w wr) := Lib.hid (HB0.out.1.trans (HS.out.1.mono HN0.out))
      go_wp2
      go_ret
      exact ⟨ret_bool HQ.out.symm, HBW.out⟩
 · have hmi : 3 < (n : Int) := by omega
   have HQ : Hid (r = false) := Lib.hid (by rw [← HR.out]; simp [hm])
   go_enter Tryz.func84, Tryz.ntmps84
   go_wp2
   go_ret
   exact ⟨ret_bool HQ.out.symm, HB0.out.1⟩
set_option maxHeartbeats 3200000 in
set_option maxRecDepth 100000 in
theorem goodListU_any (A : Option Addr) (n c : Nat) (L : List Nat) (good : Nat → Bool) (w : World) (h : NumsV w w.heap.size (.slice A n c) L) (hn : L.length = n) (hl : n ≤ 140737488355328)
 (hg : ∀ (W : World) (x : Nat), Below w.heap.size w W → x ∈ L → Calls Tryz.prog 89 #[.int .u32 (x : Nat)] W fun e w' => e = .returned (.bool (good x)) ∧ Below W.heap.size W w') :
 Calls Tryz.prog 87 #[.slice A n c, .int .i64 16, .func (.func 88) #[] #[], .func (.func 89) #[] #[]] w fun e w' => e = .returned (.bool (decide (n ≤ 16) && L.all good && unlike id L)) ∧ Below w.heap.size w w' := by
 have hb0 : Below w.heap.size w (w.alloc (.cells #[.func (.func 88) #[] #[]] 102)) := (Below.refl _ w).alloc (Nat.le_refl _) _
 have hz := Whole.new w 102 #[.func (.func 88) #[] #[]]
 have hcap : n ≤ c ∧ c ≤ maxLen := by
  obtain ⟨A', c', e1, e2, e3, -⟩ := Rows.form h
  injection e1 with e1 e1n e1c
  subst e1c
  exact ⟨by omega, e3⟩
 have HV := Lib.hid h
 have HGD := Lib.hid hg
 have HE := Lib.hid hn
 have HB0 := Lib.hid (And.intro hb0 hz)
 obtain ⟨hc1, hc2⟩ := hcap
 unfold maxLen at hc2
 obtain ⟨r, hr⟩ : ∃ r, (decide (n ≤ 16) && L.all good && unlike id L) = r := ⟨_, rfl⟩
 have HR := Lib.hid hr
 rw [hr]
 clear h hg hn hb0 hz hr
 by_cases hm : n ≤ 16
 · have hmi : (n : Int) ≤ 16 := by omega
   obtain ⟨N, hN⟩ : ∃ N, w.heap.size = N := ⟨_, rfl⟩
   rw [hN] at HB0 HV HGD ⊢
   go_enter Tryz.func87, Tryz.ntmps87
   go_upto_region 1 with fail
   generalize w.alloc (.cells #[.func (.func 88) #[] #[]] 102) = W0 at *
   have HN0 : Hid (N ≤ W0.heap.size) := Lib.hid (Nat.le_of_lt HB0.out.2.lt)
   clear hN
   have hmf : ∀ (fn : Fn) (first cap : Array Value) (w : World), (Instr.makeFunc fn first cap).run Tryz.prog w = .ok (.func fn first cap) w := fun _ _ _ _ => rfl
   go_wp2
   go_loopw [18] (fun s18 wr => ∃ k : Nat, k ≤ n ∧ s18 = .int .i64 k ∧ (Below W0.heap.size W0 wr ∧ (∀ j, j < k → good (L.getD j default) = true) ∧ unlike id (L.take k) = true)) (fun s18 _ => n - (intOf s18).toNat)
   case atStart => exact ⟨0, by omega, rfl, Below.refl _ _, (fun j hj => by omega), rfl⟩
   case round =>
    obtain ⟨k, hk, rfl, hst⟩ := hrel
    have HS := Lib.hid hst
    clear hst
    by_cases hlt : k < n
    · have hlt' : k < L.length := by rw [HE.out]; exact hlt
      have HBW : Hid (Below N w wr) := Lib.hid (HB0.out.1.trans (HS.out.1.mono HN0.out))
      obtain ⟨ad, c', e1, had, c0⟩ := (HV.out.below HBW.out).at_ hlt'
      injection e1 with e1 e1n e1c
      clear e1n e1c
      subst e1
      obtain ⟨x, hx⟩ : ∃ x, L.getD k default = x := ⟨_, rfl⟩
      have HM : Hid (x ∈ L ∧ L[k]? = some x ∧ L.getD k default = x) := Lib.hid ⟨by rw [← hx]; exact getD_mem hlt', by rw [← hx]; exact getD_of hlt', hx⟩
      rw [hx] at c0
      have hk0 : (0 : Int) ≤ (k : Int) := by omega
      have hk1 : (k : Int) < (n : Int) := by omega
      have hk2 : (k : Int) ≤ (c : Int) := by omega
      have hN0 : W0.heap.size ≤ wr.heap.size := HS.out.1.size
      have HNEW : Hid (Whole (wr.alloc (.cells #[.int .u32 0] 70)) wr.heap.size 70 #[.int .u32 0]) := Lib.hid (Whole.new _ _ _)
      have HW : Hid (Below W0.heap.size W0 (wr.alloc (.cells #[.int .u32 (x : Nat)] 70)) ∧ Whole (wr.alloc (.cells #[.int .u32 (x : Nat)] 70)) wr.heap.size 70 #[.int .u32 (x : Nat)] ∧ Below N wr (wr.alloc (.cells #[.int .u32 (x : Nat)] 70))) := Lib.hid ⟨HS.out.1.alloc hN0 _, Whole.new wr 70 #[.int .u32 (x : Nat)], (Below.refl N wr).alloc (Nat.le_trans HN0.out hN0) _⟩
      clear hx had hlt' hN0
      go_upto_region 7 with fail
      generalize (wr.alloc (.cells #[.int .u32 (x : Nat)] 70)) = w2 at *
      generalize wr.heap.size = g at *
      clear c0 HNEW
      have HBW2 : Hid (Below N w w2) := Lib.hid (HB0.out.1.trans (HW.out.1.mono HN0.out))
      have HSZ : Hid (N ≤ w2.heap.size) := Lib.hid (Nat.le_trans HN0.out HW.out.1.size)
      have cg := HW.out.2.1
      have cg0 := cg.cell 0
      simp only [List.getElem?_toArray, List.getElem?_cons_zero, List.getElem?_cons_succ] at cg0
      clear cg
      obtain ⟨b, hb⟩ : ∃ b, good x = b := ⟨_, rfl⟩
      have HC := Lib.hid (HGD.out w2 x HBW2.out HM.out.1)
      rw [hb] at HC
      have HBG := Lib.hid hb
      clear hb
      cases b with
      | false =>
        have HQ : Hid (r = false) := Lib.hid (by rw [← HR.out, all_no HM.out.1 HBG.out]; simp)
        go_wp2_with (go_at_call 89; (with_reducible refine HC.out.mono ?_); rintro e w3 ⟨rfl, hb3⟩)
        go_ret
        exact ⟨ret_bool HQ.out.symm, HBW2.out.trans (hb3.mono HSZ.out)⟩
      | true =>
        obtain ⟨a, ha⟩ : ∃ a, (L.take k).any (fun y => ((y : Nat) : Int) == ((x : Nat) : Int)) = a := ⟨_, rfl⟩
        have HCO : Hid (∀ w3, Below w2.heap.size w2 w3 → Calls Tryz.prog 103 #[.slice (some ad) k c, .func (.func 102) #[] #[.pointer (some ⟨N, 0, none⟩), .pointer (some ⟨g, 0, none⟩)]] w3 fun e w' => e = .returned (.bool a) ∧ Below w3.heap.size w3 w') := Lib.hid fun w3 hb3 => by
         have hkey : w3.cell? ⟨N, 0, none⟩ = some (.func (.func 88) #[] #[]) := ((HB0.out.2.under (HW.out.1.trans (hb3.mono HW.out.1.size))).cell 0)
         have hgx := HW.out.2.1.under hb3
         have hsz : N ≤ w2.heap.size := HSZ.out
         have hv3 := Rows.take (k := k) (HV.out.below (HBW2.out.trans (hb3.mono hsz))) (by rw [HE.out]; omega)
         have hv3 : NumsV w3 w3.heap.size (.slice (some ad) k c) (L.take k) := NumsV.more hv3 (Nat.le_trans hsz hb3.size)
         have := containsU_any (some ad) k c (L.take k) (fun y => ((y : Nat) : Int) == ((x : Nat) : Int)) (.pointer (some ⟨N, 0, none⟩)) (.pointer (some ⟨g, 0, none⟩)) w3 hv3 (by rw [List.length_take, HE.out]; omega) (by omega)
          (fun W y hW' _ => by
            have h1 : W.cell? ⟨N, 0, none⟩ = some (.func (.func 88) #[] #[]) := (hW'.cell (p := ⟨N, 0, none⟩) (block_lt_of_cell hkey)).trans hkey
            have h2 := hgx.under hW'
            exact (alikeU_any y x N g W h1 (h2.cell 0)))
         rw [ha] at this
         exact this
        have HST := Lib.hid (unlike_step (f := id) (q := (fun y => ((y : Nat) : Int) == ((x : Nat) : Int))) HM.out.2.1 HS.out.2.2 (fun y => by rw [beq_iff_eq]; simp only [id]; omega))
        rw [ha] at HST
        clear ha
        cases a with
        | true =>
          have HQ : Hid (r = false) := Lib.hid (by rw [← HR.out, HST.out.1 rfl]; simp)
          go_wp2_with (first | (go_at_call 89; (with_reducible refine HC.out.mono ?_); rintro e w3 ⟨rfl, hb3⟩; have HCC := Lib.hid (HCO.out w3 hb3)) | (go_at_call 103; (with_reducible refine HCC.out.mono ?_); rintro e w4 ⟨rfl, hb4⟩))
          go_ret
          exact ⟨ret_bool HQ.out.symm, (HBW2.out.trans (hb3.mono HSZ.out)).trans (hb4.mono (Nat.le_trans HSZ.out hb3.size))⟩
        | false =>
          go_wp2_with (first | (go_at_call 89; (with_reducible refine HC.out.mono ?_); rintro e w3 ⟨rfl, hb3⟩; have HCC := Lib.hid (HCO.out w3 hb3)) | (go_at_call 103; (with_reducible refine HCC.out.mono ?_); rintro e w4 ⟨rfl, hb4⟩))
          go_roundw
          case rel =>
           refine ⟨k + 1, by omega, by go_num, (HW.out.1.trans (hb3.mono HW.out.1.size)).trans (hb4.mono (Nat.le_trans HW.out.1.size hb3.size)), fun j hj => ?_, HST.out.2 (by first | rfl | trivial)⟩
           by_cases e : j = k
           · subst e
             rw [HM.out.2.2]
             exact HBG.out
           · exact HS.out.2.1 j (by omega)
          case measure => simp [intOf]; omega
    · have e : k = n := by omega
      subst e
      have HQ : Hid (r = true) := Lib.hid (by
       rw [← HR.out, all_yesL HE.out HS.out.2.1]
       have := HS.out.2.2
       rw [List.take_of_length_le (by rw [HE.out]; exact Nat.le_refl _)] at this
       rw [this]
       simp [hm])
      have HBW : Hid (Below N w wr) := Lib.hid (HB0.out.1.trans (HS.out.1.mono HN0.out))
      go_wp2
      go_ret
      exact ⟨ret_bool HQ.out.symm, HBW.out⟩
 · have hmi : 16 < (n : Int) := by omega
   have HQ : Hid (r = false) := Lib.hid (by rw [← HR.out]; simp [hm])
   go_enter Tryz.func87, Tryz.ntmps87
   go_wp2
   go_ret
   exact ⟨ret_bool HQ.out.symm, HB0.out.1⟩
set_option maxHeartbeats 3200000 in
set_option maxRecDepth 100000 in
theorem goodListE_any (A : Option Addr) (n c : Nat) (L : List ExtS) (good : ExtS → Bool) (w : World) (h : ExtsV w w.heap.size (.slice A n c) L) (hn : L.length = n) (hl : n ≤ 140737488355328)
 (hg : ∀ (W : World) (x : ExtS), Below w.heap.size w W → x ∈ L → Calls Tryz.prog 83 #[.agg #[.int .i64 x.id, .string x.uri]] W fun e w' => e = .returned (.bool (good x)) ∧ Below W.heap.size W w') :
 Calls Tryz.prog 81 #[.slice A n c, .int .i64 14, .func (.func 82) #[] #[], .func (.func 83) #[] #[]] w fun e w' => e = .returned (.bool (decide (n ≤ 14) && L.all good && unlike ExtS.id L)) ∧ Below w.heap.size w w' := by
 have hb0 : Below w.heap.size w (w.alloc (.cells #[.func (.func 82) #[] #[]] 98)) := (Below.refl _ w).alloc (Nat.le_refl _) _
 have hz := Whole.new w 98 #[.func (.func 82) #[] #[]]
 have hcap : n ≤ c ∧ c ≤ maxLen := by
  obtain ⟨A', c', e1, e2, e3, -⟩ := Rows.form h
  injection e1 with e1 e1n e1c
  subst e1c
  exact ⟨by omega, e3⟩
 have HV := Lib.hid h
 have HGD := Lib.hid hg
 have HE := Lib.hid hn
 have HB0 := Lib.hid (And.intro hb0 hz)
 obtain ⟨hc1, hc2⟩ := hcap
 unfold maxLen at hc2
 obtain ⟨r, hr⟩ : ∃ r, (decide (n ≤ 14) && L.all good && unlike ExtS.id L) = r := ⟨_, rfl⟩
 have HR := Lib.hid hr
 rw [hr]
 clear h hg hn hb0 hz hr
 by_cases hm : n ≤ 14
 · have hmi : (n : Int) ≤ 14 := by omega
   obtain ⟨N, hN⟩ : ∃ N, w.heap.size = N := ⟨_, rfl⟩
   rw [hN] at HB0 HV HGD ⊢
   go_enter Tryz.func81, Tryz.ntmps81
   go_upto_region 1 with fail
   generalize w.alloc (.cells #[.func (.func 82) #[] #[]] 98) = W0 at *
   have HN0 : Hid (N ≤ W0.heap.size) := Lib.hid (Nat.le_of_lt HB0.out.2.lt)
   clear hN
   have hmf : ∀ (fn : Fn) (first cap : Array Value) (w : World), (Instr.makeFunc fn first cap).run Tryz.prog w = .ok (.func fn first cap) w := fun _ _ _ _ => rfl
   go_wp2
   go_loopw [18] (fun s18 wr => ∃ k : Nat, k ≤ n ∧ s18 = .int .i64 k ∧ (Below W0.heap.size W0 wr ∧ (∀ j, j < k → good (L.getD j default) = true) ∧ unlike ExtS.id (L.take k) = true)) (fun s18 _ => n - (intOf s18).toNat)
   case atStart => exact ⟨0, by omega, rfl, Below.refl _ _, (fun j hj => by omega), rfl⟩
   case round =>
    obtain ⟨k, hk, rfl, hst⟩ := hrel
    have HS := Lib.hid hst
    clear hst
    by_cases hlt : k < n
    · have hlt' : k < L.length := by rw [HE.out]; exact hlt
      have HBW : Hid (Below N w wr) := Lib.hid (HB0.out.1.trans (HS.out.1.mono HN0.out))
      obtain ⟨ad, c', e1, had, c0, c1⟩ := (HV.out.below HBW.out).at_ hlt'
      injection e1 with e1 e1n e1c
      clear e1n e1c
      subst e1
      obtain ⟨x, hx⟩ : ∃ x, L.getD k default = x := ⟨_, rfl⟩
      have HM : Hid (x ∈ L ∧ L[k]? = some x ∧ L.getD k default = x) := Lib.hid ⟨by rw [← hx]; exact getD_mem hlt', by rw [← hx]; exact getD_of hlt', hx⟩
      rw [hx] at c0 c1
      have hk0 : (0 : Int) ≤ (k : Int) := by omega
      have hk1 : (k : Int) < (n : Int) := by omega
      have hk2 : (k : Int) ≤ (c : Int) := by omega
      have hN0 : W0.heap.size ≤ wr.heap.size := HS.out.1.size
      have HNEW : Hid (Whole (wr.alloc (.cells #[.int .i64 0, .string ⟨#[]⟩] 49)) wr.heap.size 49 #[.int .i64 0, .string ⟨#[]⟩]) := Lib.hid (Whole.new _ _ _)
      have HW : Hid (Below W0.heap.size W0 ((wr.alloc (.cells #[.int .i64 0, .string ⟨#[]⟩] 49)).setRow wr.heap.size #[.int .i64 x.id, .string x.uri]) ∧ Whole ((wr.alloc (.cells #[.int .i64 0, .string ⟨#[]⟩] 49)).setRow wr.heap.size #[.int .i64 x.id, .string x.uri]) wr.heap.size 49 #[.int .i64 x.id, .string x.uri] ∧ Below N wr ((wr.alloc (.cells #[.int .i64 0, .string ⟨#[]⟩] 49)).setRow wr.heap.size #[.int .i64 x.id, .string x.uri])) := Lib.hid ⟨below_row (HS.out.1.alloc hN0 _) hN0 _, (Whole.new wr 49 #[.int .i64 0, .string ⟨#[]⟩]).row #[.int .i64 x.id, .string x.uri], below_row ((Below.refl N wr).alloc (Nat.le_trans HN0.out hN0) _) (Nat.le_trans HN0.out hN0) _⟩
      clear hx had hlt' hN0
      go_upto_region 7 with ((with_reducible refine wpList_storeS #[.int .i64 x.id, .string x.uri] ?_ 49 (.tmp 10) (.tmp 22) ?_ ?_ ?_ HNEW.out Tryz.sizeExt ?_ ?_ ?_ ?_); (with_reducible rfl); (with_reducible rfl); rfl; rfl; rfl; rfl; rfl)
      generalize ((wr.alloc (.cells #[.int .i64 0, .string ⟨#[]⟩] 49)).setRow wr.heap.size #[.int .i64 x.id, .string x.uri]) = w2 at *
      generalize wr.heap.size = g at *
      clear c0 c1 HNEW
      have HBW2 : Hid (Below N w w2) := Lib.hid (HB0.out.1.trans (HW.out.1.mono HN0.out))
      have HSZ : Hid (N ≤ w2.heap.size) := Lib.hid (Nat.le_trans HN0.out HW.out.1.size)
      have cg := HW.out.2.1
      have cg0 := cg.cell 0; have cg1 := cg.cell 1
      simp only [List.getElem?_toArray, List.getElem?_cons_zero, List.getElem?_cons_succ] at cg0 cg1
      clear cg
      obtain ⟨b, hb⟩ : ∃ b, good x = b := ⟨_, rfl⟩
      have HC := Lib.hid (HGD.out w2 x HBW2.out HM.out.1)
      rw [hb] at HC
      have HBG := Lib.hid hb
      clear hb
      cases b with
      | false =>
        have HQ : Hid (r = false) := Lib.hid (by rw [← HR.out, all_no HM.out.1 HBG.out]; simp)
        go_wp2_with (go_at_call 83; (with_reducible refine HC.out.mono ?_); rintro e w3 ⟨rfl, hb3⟩)
        go_ret
        exact ⟨ret_bool HQ.out.symm, HBW2.out.trans (hb3.mono HSZ.out)⟩
      | true =>
        obtain ⟨a, ha⟩ : ∃ a, (L.take k).any (fun y => y.id == x.id) = a := ⟨_, rfl⟩
        have HCO : Hid (∀ w3, Below w2.heap.size w2 w3 → Calls Tryz.prog 59 #[.slice (some ad) k c, .func (.func 98) #[] #[.pointer (some ⟨N, 0, none⟩), .pointer (some ⟨g, 0, none⟩)]] w3 fun e w' => e = .returned (.bool a) ∧ Below w3.heap.size w3 w') := Lib.hid fun w3 hb3 => by
         have hkey : w3.cell? ⟨N, 0, none⟩ = some (.func (.func 82) #[] #[]) := ((HB0.out.2.under (HW.out.1.trans (hb3.mono HW.out.1.size))).cell 0)
         have hgx := HW.out.2.1.under hb3
         have hsz : N ≤ w2.heap.size := HSZ.out
         have hv3 := Rows.take (k := k) (HV.out.below (HBW2.out.trans (hb3.mono hsz))) (by rw [HE.out]; omega)
         have hv3 : ExtsV w3 w3.heap.size (.slice (some ad) k c) (L.take k) := ExtsV.more hv3 (Nat.le_trans hsz hb3.size)
         have := containsE_any (some ad) k c (L.take k) (fun y => y.id == x.id) (.pointer (some ⟨N, 0, none⟩)) (.pointer (some ⟨g, 0, none⟩)) w3 hv3 (by rw [List.length_take, HE.out]; omega) (by omega)
          (fun W y hW' _ => by
            have h1 : W.cell? ⟨N, 0, none⟩ = some (.func (.func 82) #[] #[]) := (hW'.cell (p := ⟨N, 0, none⟩) (block_lt_of_cell hkey)).trans hkey
            have h2 := hgx.under hW'
            exact (alikeE_any y.id x.id _ _ N g W h1 h2))
         rw [ha] at this
         exact this
        have HST := Lib.hid (unlike_step (f := ExtS.id) (q := (fun y => y.id == x.id)) HM.out.2.1 HS.out.2.2 (fun y => by rw [beq_iff_eq]))
        rw [ha] at HST
        clear ha
        cases a with
        | true =>
          have HQ : Hid (r = false) := Lib.hid (by rw [← HR.out, HST.out.1 rfl]; simp)
          go_wp2_with (first | (go_at_call 83; (with_reducible refine HC.out.mono ?_); rintro e w3 ⟨rfl, hb3⟩; have HCC := Lib.hid (HCO.out w3 hb3)) | (go_at_call 59; (with_reducible refine HCC.out.mono ?_); rintro e w4 ⟨rfl, hb4⟩))
          go_ret
          exact ⟨ret_bool HQ.out.symm, (HBW2.out.trans (hb3.mono HSZ.out)).trans (hb4.mono (Nat.le_trans HSZ.out hb3.size))⟩
        | false =>
          go_wp2_with (first | (go_at_call 83; (with_reducible refine HC.out.mono ?_); rintro e w3 ⟨rfl, hb3⟩; have HCC := Lib.hid (HCO.out w3 hb3)) | (go_at_call 59; (with_reducible refine HCC.out.mono ?_); rintro e w4 ⟨rfl, hb4⟩))
          go_roundw
          case rel =>
           refine ⟨k + 1, by omega, by go_num, (HW.out.1.trans (hb3.mono HW.out.1.size)).trans (hb4.mono (Nat.le_trans HW.out.1.size hb3.size)), fun j hj => ?_, HST.out.2 (by first | rfl | trivial)⟩
           by_cases e : j = k
           · subst e
             rw [HM.out.2.2]
             exact HBG.out
           · exact HS.out.2.1 j (by omega)
          case measure => simp [intOf]; omega
    · have e : k = n := by omega
      subst e
      have HQ : Hid (r = true) := Lib.hid (by
       rw [← HR.out, all_yesL HE.out HS.out.2.1]
       have := HS.out.2.2
       rw [List.take_of_length_le (by rw [HE.out]; exact Nat.le_refl _)] at this
       rw [this]
       simp [hm])
      have HBW : Hid (Below N w wr) := Lib.hid (HB0.out.1.trans (HS.out.1.mono HN0.out))
      go_wp2
      go_ret
      exact ⟨ret_bool HQ.out.symm, HBW.out⟩
 · have hmi : 14 < (n : Int) := by omega
   have HQ : Hid (r = false) := Lib.hid (by rw [← HR.out]; simp [hm])
   go_enter Tryz.func81, Tryz.ntmps81
   go_wp2
   go_ret
   exact ⟨ret_bool HQ.out.symm, HB0.out.1⟩
set_option maxHeartbeats 3200000 in
set_option maxRecDepth 100000 in
theorem goodListC_any (A : Option Addr) (n c : Nat) (L : List CodecS) (good : CodecS → Bool) (w : World) (h : CodecsV w w.heap.size (.slice A n c) L) (hn : L.length = n) (hl : n ≤ 140737488355328)
 (hg : ∀ (W : World) (x : CodecS) (vf : Value), Below w.heap.size w W → x ∈ L → TextsV W w.heap.size vf x.feedback → Calls Tryz.prog 80 #[.agg #[.int .i64 x.type, .string x.name, .int .i64 x.clock, .int .i64 x.chans, .string x.format, vf]] W fun e w' => e = .returned (.bool (good x)) ∧ Below W.heap.size W w') :
 Calls Tryz.prog 78 #[.slice A n c, .int .i64 16, .func (.func 79) #[] #[], .func (.func 80) #[] #[]] w fun e w' => e = .returned (.bool (decide (n ≤ 16) && L.all good && unlike CodecS.type L)) ∧ Below w.heap.size w w' := by
 have hb0 : Below w.heap.size w (w.alloc (.cells #[.func (.func 79) #[] #[]] 96)) := (Below.refl _ w).alloc (Nat.le_refl _) _
 have hz := Whole.new w 96 #[.func (.func 79) #[] #[]]
 have hcap : n ≤ c ∧ c ≤ maxLen := by
  obtain ⟨A', c', e1, e2, e3, -⟩ := Rows.form h
  injection e1 with e1 e1n e1c
  subst e1c
  exact ⟨by omega, e3⟩
 have HV := Lib.hid h
 have HGD := Lib.hid hg
 have HE := Lib.hid hn
 have HB0 := Lib.hid (And.intro hb0 hz)
 obtain ⟨hc1, hc2⟩ := hcap
 unfold maxLen at hc2
 obtain ⟨r, hr⟩ : ∃ r, (decide (n ≤ 16) && L.all good && unlike CodecS.type L) = r := ⟨_, rfl⟩
 have HR := Lib.hid hr
 rw [hr]
 clear h hg hn hb0 hz hr
 by_cases hm : n ≤ 16
 · have hmi : (n : Int) ≤ 16 := by omega
   obtain ⟨N, hN⟩ : ∃ N, w.heap.size = N := ⟨_, rfl⟩
   rw [hN] at HB0 HV HGD ⊢
   go_enter Tryz.func78, Tryz.ntmps78
   go_upto_region 1 with fail
   generalize w.alloc (.cells #[.func (.func 79) #[] #[]] 96) = W0 at *
   have HN0 : Hid (N ≤ W0.heap.size) := Lib.hid (Nat.le_of_lt HB0.out.2.lt)
   clear hN
   have hmf : ∀ (fn : Fn) (first cap : Array Value) (w : World), (Instr.makeFunc fn first cap).run Tryz.prog w = .ok (.func fn first cap) w := fun _ _ _ _ => rfl
   go_wp2
   go_loopw [18] (fun s18 wr => ∃ k : Nat, k ≤ n ∧ s18 = .int .i64 k ∧ (Below W0.heap.size W0 wr ∧ (∀ j, j < k → good (L.getD j default) = true) ∧ unlike CodecS.type (L.take k) = true)) (fun s18 _ => n - (intOf s18).toNat)
   case atStart => exact ⟨0, by omega, rfl, Below.refl _ _, (fun j hj => by omega), rfl⟩
   case round =>
    obtain ⟨k, hk, rfl, hst⟩ := hrel
    have HS := Lib.hid hst
    clear hst
    by_cases hlt : k < n
    · have hlt' : k < L.length := by rw [HE.out]; exact hlt
      have HBW : Hid (Below N w wr) := Lib.hid (HB0.out.1.trans (HS.out.1.mono HN0.out))
      obtain ⟨ad, c', vf, e1, had, c0, c1, c2, c3, c4, c5, cf⟩ := (HV.out.below HBW.out).at_ hlt'
      injection e1 with e1 e1n e1c
      clear e1n e1c
      subst e1
      obtain ⟨Af, kf, hvf, -⟩ := Rows.form cf
      obtain ⟨lf, hlf⟩ : ∃ lf, (L.getD k default).feedback.length = lf := ⟨_, rfl⟩
      rw [hlf] at hvf
      subst hvf
      clear hlf
      obtain ⟨x, hx⟩ : ∃ x, L.getD k default = x := ⟨_, rfl⟩
      have HM : Hid (x ∈ L ∧ L[k]? = some x ∧ L.getD k default = x ∧ TextsV wr N (.slice Af lf kf) x.feedback) := Lib.hid ⟨by rw [← hx]; exact getD_mem hlt', by rw [← hx]; exact getD_of hlt', hx, by rw [← hx]; exact cf⟩
      rw [hx] at c0 c1 c2 c3 c4
      have hk0 : (0 : Int) ≤ (k : Int) := by omega
      have hk1 : (k : Int) < (n : Int) := by omega
      have hk2 : (k : Int) ≤ (c : Int) := by omega
      have hN0 : W0.heap.size ≤ wr.heap.size := HS.out.1.size
      have HNEW : Hid (Whole (wr.alloc (.cells #[.int .i64 0, .string ⟨#[]⟩, .int .i64 0, .int .i64 0, .string ⟨#[]⟩, .slice none 0 0] 47)) wr.heap.size 47 #[.int .i64 0, .string ⟨#[]⟩, .int .i64 0, .int .i64 0, .string ⟨#[]⟩, .slice none 0 0]) := Lib.hid (Whole.new _ _ _)
      have HW : Hid (Below W0.heap.size W0 ((wr.alloc (.cells #[.int .i64 0, .string ⟨#[]⟩, .int .i64 0, .int .i64 0, .string ⟨#[]⟩, .slice none 0 0] 47)).setRow wr.heap.size #[.int .i64 x.type, .string x.name, .int .i64 x.clock, .int .i64 x.chans, .string x.format, .slice Af lf kf]) ∧ Whole ((wr.alloc (.cells #[.int .i64 0, .string ⟨#[]⟩, .int .i64 0, .int .i64 0, .string ⟨#[]⟩, .slice none 0 0] 47)).setRow wr.heap.size #[.int .i64 x.type, .string x.name, .int .i64 x.clock, .int .i64 x.chans, .string x.format, .slice Af lf kf]) wr.heap.size 47 #[.int .i64 x.type, .string x.name, .int .i64 x.clock, .int .i64 x.chans, .string x.format, .slice Af lf kf] ∧ Below N wr ((wr.alloc (.cells #[.int .i64 0, .string ⟨#[]⟩, .int .i64 0, .int .i64 0, .string ⟨#[]⟩, .slice none 0 0] 47)).setRow wr.heap.size #[.int .i64 x.type, .string x.name, .int .i64 x.clock, .int .i64 x.chans, .string x.format, .slice Af lf kf])) := Lib.hid ⟨below_row (HS.out.1.alloc hN0 _) hN0 _, (Whole.new wr 47 #[.int .i64 0, .string ⟨#[]⟩, .int .i64 0, .int .i64 0, .string ⟨#[]⟩, .slice none 0 0]).row #[.int .i64 x.type, .string x.name, .int .i64 x.clock, .int .i64 x.chans, .string x.format, .slice Af lf kf], below_row ((Below.refl N wr).alloc (Nat.le_trans HN0.out hN0) _) (Nat.le_trans HN0.out hN0) _⟩
      clear hx had hlt' hN0 cf
      go_upto_region 7 with ((with_reducible refine wpList_storeS #[.int .i64 x.type, .string x.name, .int .i64 x.clock, .int .i64 x.chans, .string x.format, .slice Af lf kf] ?_ 47 (.tmp 10) (.tmp 22) ?_ ?_ ?_ HNEW.out Tryz.sizeCodec ?_ ?_ ?_ ?_); (with_reducible rfl); (with_reducible rfl); rfl; rfl; rfl; rfl; rfl)
      generalize ((wr.alloc (.cells #[.int .i64 0, .string ⟨#[]⟩, .int .i64 0, .int .i64 0, .string ⟨#[]⟩, .slice none 0 0] 47)).setRow wr.heap.size #[.int .i64 x.type, .string x.name, .int .i64 x.clock, .int .i64 x.chans, .string x.format, .slice Af lf kf]) = w2 at *
      generalize wr.heap.size = g at *
      clear c0 c1 c2 c3 c4 HNEW
      have HBW2 : Hid (Below N w w2) := Lib.hid (HB0.out.1.trans (HW.out.1.mono HN0.out))
      have HSZ : Hid (N ≤ w2.heap.size) := Lib.hid (Nat.le_trans HN0.out HW.out.1.size)
      have cg := HW.out.2.1
      have cg0 := cg.cell 0; have cg1 := cg.cell 1; have cg2 := cg.cell 2; have cg3 := cg.cell 3; have cg4 := cg.cell 4; have cg5 := cg.cell 5
      simp only [List.getElem?_toArray, List.getElem?_cons_zero, List.getElem?_cons_succ] at cg0 cg1 cg2 cg3 cg4 cg5
      clear cg
      obtain ⟨b, hb⟩ : ∃ b, good x = b := ⟨_, rfl⟩
      have HC := Lib.hid (HGD.out w2 x (.slice Af lf kf) HBW2.out HM.out.1 (HM.out.2.2.2.below HW.out.2.2))
      rw [hb] at HC
      have HBG := Lib.hid hb
      clear hb
      cases b with
      | false =>
        have HQ : Hid (r = false) := Lib.hid (by rw [← HR.out, all_no HM.out.1 HBG.out]; simp)
        go_wp2_with (go_at_call 80; (with_reducible refine HC.out.mono ?_); rintro e w3 ⟨rfl, hb3⟩)
        go_ret
        exact ⟨ret_bool HQ.out.symm, HBW2.out.trans (hb3.mono HSZ.out)⟩
      | true =>
        obtain ⟨a, ha⟩ : ∃ a, (L.take k).any (fun y => y.type == x.type) = a := ⟨_, rfl⟩
        have HCO : Hid (∀ w3, Below w2.heap.size w2 w3 → Calls Tryz.prog 95 #[.slice (some ad) k c, .func (.func 94) #[] #[.pointer (some ⟨N, 0, none⟩), .pointer (some ⟨g, 0, none⟩)]] w3 fun e w' => e = .returned (.bool a) ∧ Below w3.heap.size w3 w') := Lib.hid fun w3 hb3 => by
         have hkey : w3.cell? ⟨N, 0, none⟩ = some (.func (.func 79) #[] #[]) := ((HB0.out.2.under (HW.out.1.trans (hb3.mono HW.out.1.size))).cell 0)
         have hgx := HW.out.2.1.under hb3
         have hsz : N ≤ w2.heap.size := HSZ.out
         have hv3 := Rows.take (k := k) (HV.out.below (HBW2.out.trans (hb3.mono hsz))) (by rw [HE.out]; omega)
         have hv3 : CodecsV w3 w3.heap.size (.slice (some ad) k c) (L.take k) := CodecsV.more hv3 (Nat.le_trans hsz hb3.size)
         have := containsC_any (some ad) k c (L.take k) (fun y => y.type == x.type) (.pointer (some ⟨N, 0, none⟩)) (.pointer (some ⟨g, 0, none⟩)) w3 hv3 (by rw [List.length_take, HE.out]; omega) (by omega)
          (fun W y vf hW' _ => by
            have h1 : W.cell? ⟨N, 0, none⟩ = some (.func (.func 79) #[] #[]) := (hW'.cell (p := ⟨N, 0, none⟩) (block_lt_of_cell hkey)).trans hkey
            have h2 := hgx.under hW'
            exact (alikeC_any y.type x.type _ _ _ _ _ _ _ _ _ _ N g W h1 h2))
         rw [ha] at this
         exact this
        have HST := Lib.hid (unlike_step (f := CodecS.type) (q := (fun y => y.type == x.type)) HM.out.2.1 HS.out.2.2 (fun y => by rw [beq_iff_eq]))
        rw [ha] at HST
        clear ha
        cases a with
        | true =>
          have HQ : Hid (r = false) := Lib.hid (by rw [← HR.out, HST.out.1 rfl]; simp)
          go_wp2_with (first | (go_at_call 80; (with_reducible refine HC.out.mono ?_); rintro e w3 ⟨rfl, hb3⟩; have HCC := Lib.hid (HCO.out w3 hb3)) | (go_at_call 95; (with_reducible refine HCC.out.mono ?_); rintro e w4 ⟨rfl, hb4⟩))
          go_ret
          exact ⟨ret_bool HQ.out.symm, (HBW2.out.trans (hb3.mono HSZ.out)).trans (hb4.mono (Nat.le_trans HSZ.out hb3.size))⟩
        | false =>
          go_wp2_with (first | (go_at_call 80; (with_reducible refine HC.out.mono ?_); rintro e w3 ⟨rfl, hb3⟩; have HCC := Lib.hid (HCO.out w3 hb3)) | (go_at_call 95; (with_reducible refine HCC.out.mono ?_); rintro e w4 ⟨rfl, hb4⟩))
          go_roundw
          case rel =>
           refine ⟨k + 1, by omega, by go_num, (HW.out.1.trans (hb3.mono HW.out.1.size)).trans (hb4.mono (Nat.le_trans HW.out.1.size hb3.size)), fun j hj => ?_, HST.out.2 (by first | rfl | trivial)⟩
           by_cases e : j = k
           · subst e
             rw [HM.out.2.2.1]
             exact HBG.out
           · exact HS.out.2.1 j (by omega)
          case measure => simp [intOf]; omega
    · have e : k = n := by omega
      subst e
      have HQ : Hid (r = true) := Lib.hid (by
       rw [← HR.out, all_yesL HE.out HS.out.2.1]
       have := HS.out.2.2
       rw [List.take_of_length_le (by rw [HE.out]; exact Nat.le_refl _)] at this
       rw [this]
       simp [hm])
      have HBW : Hid (Below N w wr) := Lib.hid (HB0.out.1.trans (HS.out.1.mono HN0.out))
      go_wp2
      go_ret
      exact ⟨ret_bool HQ.out.symm, HBW.out⟩
 · have hmi : 16 < (n : Int) := by omega
   have HQ : Hid (r = false) := Lib.hid (by rw [← HR.out]; simp [hm])
   go_enter Tryz.func78, Tryz.ntmps78
   go_wp2
   go_ret
   exact ⟨ret_bool HQ.out.symm, HB0.out.1⟩
theorem run_loadVar_at {P : Program} (w : World) (p : Addr) (ty : TypeId) (cs : List Value) (d : TypeDesc) (hc : ∀ j v, cs[j]? = some v → w.cell? (p.add j) = some v)
 (hu : P.underlying ty = some d) (hd : d.isRow = true) (hi : (P.info? ty).map (·.size) = some cs.length) : (loadVar ty p).run P w = .ok (.agg cs.toArray) w := by
 have hl : (loadCells p cs.length).run P w = .ok cs.toArray w := run_loadCells_list (P := P) w p cs hc
 cases hq : P.info? ty with
 | none => simp [hq] at hi
 | some i =>
   have hs : i.size = cs.length := by simpa [hq] using hi
   have hagg : (isAgg ty).run P w = .ok true w := by
    unfold isAgg
    rw [Sem.run_bind, run_underlying hu w]
    cases d <;> simp_all
   simp [loadVar, Sem.run_bind, hagg, sizeOf, typeInfo, hq, hs, hl]
theorem wp_load_at {op : Oper} {a : Act} {w : World} {K : Act → World → Prop} {Q : Exit → Act → World → Prop} (ty : TypeId) (x : Operand) (ho : op.op = .load ty x) (p : Addr) (hx : a.eval x = .pointer (some p)) (cs : List Value) (d : TypeDesc)
 (hc : ∀ j v, cs[j]? = some v → w.cell? (p.add j) = some v) (hu : Tryz.prog.underlying ty = some d) (hd : d.isRow = true) (hi : (Tryz.prog.info? ty).map (·.size) = some cs.length)
 (h : K (a.put op.dst (.agg cs.toArray)) w) : op.wp Tryz.prog a w K Q := by
 unfold Oper.wp execOp
 simp only [ho, hx, Instr.loadAt, Instr.sureAddr, Sem.run_bind, Sem.run_pure, Result.andThen_ok, run_loadVar_at w p ty cs d hc hu hd hi]
 exact h
theorem wpList_load_at {ops : Array Oper} {rest : List Oper} {op : Oper} {a : Act} {w : World} {Q : Exit → Act → World → Prop} (hgd : op.guard = none) (ty : TypeId) (x : Operand) (ho : op.op = .load ty x) (p : Addr) (hx : a.eval x = .pointer (some p)) (cs : List Value) (d : TypeDesc)
 (hc : ∀ j v, cs[j]? = some v → w.cell? (p.add j) = some v) (hu : Tryz.prog.underlying ty = some d) (hd : d.isRow = true) (hi : (Tryz.prog.info? ty).map (·.size) = some cs.length)
 (h : wpList Tryz.prog ops Q rest (a.put op.dst (.agg cs.toArray)) w) : wpList Tryz.prog ops Q (op :: rest) a w :=
 wpList_plain hgd fun _ hK => wp_load_at ty x ho p hx cs d hc hu hd hi (hK _ _ h)
theorem yieldsIf_load_at {ops : Array Oper} {S : World → Prop} {op : Oper} {a : Act} (hw : Region.wanted op (yielded ops a.tmps) = true) (ty : TypeId) (x : Operand) (ho : op.op = .load ty x) (p : Addr) (hx : a.eval x = .pointer (some p)) (cs : List Value) (d : TypeDesc)
 (hS : ∀ w, S w → ∀ j v, cs[j]? = some v → w.cell? (p.add j) = some v) (hu : Tryz.prog.underlying ty = some d) (hd : d.isRow = true) (hi : (Tryz.prog.info? ty).map (·.size) = some cs.length) : YieldsIf Tryz.prog ops S op (.agg cs.toArray) a :=
 .inl ⟨hw, fun w hw' => by
  unfold execOp
  simp only [ho, hx, Instr.loadAt, Instr.sureAddr, Sem.run_bind, Sem.run_pure, Result.andThen_ok, run_loadVar_at w p ty cs d (hS w hw') hu hd hi]⟩
theorem cryC_len {c : CryptoS} (h : c.key.length = 30) : (cryC c).length = 31 := by simp [cryC, keyC, h]
theorem cryC_one (c : CryptoS) : (cryC c).toArray.toList.all (·.oneCell') = true := by
 rw [List.all_eq_true]
 intro v hv
 simp only [cryC, keyC, List.mem_cons, List.mem_map] at hv
 rcases hv with rfl | ⟨_, _, rfl⟩ <;> rfl
theorem CrysV.at_ {w : World} {B : Nat} {v : Value} {L : List CryptoS} (h : CrysV w B v L) {i : Nat} (hi : i < L.length) : ∃ ad c, v = .slice (some ad) L.length c ∧ ad.block < B ∧ (L.getD i default).key.length = 30 ∧
 ∀ j u, (cryC (L.getD i default))[j]? = some u → w.cell? ((ad.add (i * 31)).add j) = some u := by
 obtain ⟨ad, c, h1, h2, _, _, h3, h4⟩ := Rows.at_ h (List.getElem?_eq_getElem hi)
 have e : L.getD i default = L[i] := by simp [List.getD, hi]
 rw [e]
 refine ⟨ad, c, h1, h2, h3, fun j u hu => ?_⟩
 have hj : j < 31 := by
  have := (List.getElem?_eq_some_iff.1 hu).1
  rw [cryC_len h3] at this
  exact this
 rw [Go.Deep.add_add]
 exact (h4 j hj).trans hu
set_option maxHeartbeats 6400000 in
set_option maxRecDepth 100000 in
theorem goodListY_any (A : Option Addr) (n c : Nat) (L : List CryptoS) (w : World) (h : CrysV w w.heap.size (.slice A n c) L) (hn : L.length = n) (hl : n ≤ 140737488355328) :
 Calls Tryz.prog 90 #[.slice A n c, .int .i64 1, .func (.func 91) #[] #[], .func (.func 92) #[] #[]] w fun e w' => e = .returned (.bool (decide (n ≤ 1) && L.all goodY)) ∧ Below w.heap.size w w' := by
 have hb0 : Below w.heap.size w (w.alloc (.cells #[.func (.func 91) #[] #[]] 105)) := (Below.refl _ w).alloc (Nat.le_refl _) _
 have hcap : n ≤ c ∧ c ≤ maxLen := by
  obtain ⟨A', c', e1, e2, e3, -⟩ := Rows.form h
  injection e1 with e1 e1n e1c
  subst e1c
  exact ⟨by omega, e3⟩
 have HV := Lib.hid h
 have HE := Lib.hid hn
 have HB0 := Lib.hid hb0
 have HN0 : Hid (w.heap.size ≤ (w.alloc (.cells #[.func (.func 91) #[] #[]] 105)).heap.size) := Lib.hid hb0.size
 obtain ⟨hc1, hc2⟩ := hcap
 unfold maxLen at hc2
 obtain ⟨r, hr⟩ : ∃ r, (decide (n ≤ 1) && L.all goodY) = r := ⟨_, rfl⟩
 have HR := Lib.hid hr
 rw [hr]
 clear h hn hb0 hr
 by_cases hm : n ≤ 1
 · have hmi : (n : Int) ≤ 1 := by omega
   obtain ⟨N, hN⟩ : ∃ N, w.heap.size = N := ⟨_, rfl⟩
   rw [hN] at HB0 HV HN0 ⊢
   go_enter Tryz.func90, Tryz.ntmps90
   go_upto_region 1 with fail
   generalize w.alloc (.cells #[.func (.func 91) #[] #[]] 105) = W0 at *
   clear hN
   have hmf : ∀ (fn : Fn) (first cap : Array Value) (w : World), (Instr.makeFunc fn first cap).run Tryz.prog w = .ok (.func fn first cap) w := fun _ _ _ _ => rfl
   go_wp2
   go_loopw [18] (fun s18 wr => ∃ k : Nat, k ≤ n ∧ s18 = .int .i64 k ∧ (Below W0.heap.size W0 wr ∧ (∀ j, j < k → goodY (L.getD j default) = true))) (fun s18 _ => n - (intOf s18).toNat)
   case atStart => exact ⟨0, by omega, rfl, Below.refl _ _, (fun j hj => by omega)⟩
   case round =>
    obtain ⟨k, hk, rfl, hst⟩ := hrel
    have HS := Lib.hid hst
    clear hst
    by_cases hlt : k < n
    · have hlt' : k < L.length := by rw [HE.out]; exact hlt
      have HBW : Hid (Below N w wr) := Lib.hid (HB0.out.trans (HS.out.1.mono HN0.out))
      obtain ⟨ad, c', e1, had, c30, cj⟩ := (HV.out.below HBW.out).at_ hlt'
      injection e1 with e1 e1n e1c
      clear e1n e1c
      subst e1
      obtain ⟨x, hx⟩ : ∃ x, L.getD k default = x := ⟨_, rfl⟩
      have HM : Hid (x ∈ L ∧ L.getD k default = x) := Lib.hid ⟨by rw [← hx]; exact getD_mem hlt', hx⟩
      rw [hx] at c30 cj
      have HJ := Lib.hid cj
      have H31 : Hid ((cryC x).length = 31) := Lib.hid (cryC_len c30)
      have HK0 : Hid (k = 0) := Lib.hid (by omega)
      have hk0 : (0 : Int) ≤ (k : Int) := by omega
      have hk1 : (k : Int) < (n : Int) := by omega
      have hk2 : (k : Int) ≤ (c : Int) := by omega
      have hN0 : W0.heap.size ≤ wr.heap.size := HS.out.1.size
      obtain ⟨X, hX⟩ : ∃ X, (cryC x).toArray = X := ⟨_, rfl⟩
      have HX : Hid ((cryC x).toArray = X ∧ X.size = 31 ∧ X.toList.all (·.oneCell') = true) := Lib.hid ⟨hX, by rw [← hX]; simpa using H31.out, by rw [← hX]; exact cryC_one x⟩
      have HNEW : Hid (Whole (wr.alloc (.cells #[.int .i64 0, .int .u8 0, .int .u8 0, .int .u8 0, .int .u8 0, .int .u8 0, .int .u8 0, .int .u8 0, .int .u8 0, .int .u8 0, .int .u8 0, .int .u8 0, .int .u8 0, .int .u8 0, .int .u8 0, .int .u8 0, .int .u8 0, .int .u8 0, .int .u8 0, .int .u8 0, .int .u8 0, .int .u8 0, .int .u8 0, .int .u8 0, .int .u8 0, .int .u8 0, .int .u8 0, .int .u8 0, .int .u8 0, .int .u8 0, .int .u8 0] 51)) wr.heap.size 51 #[.int .i64 0, .int .u8 0, .int .u8 0, .int .u8 0, .int .u8 0, .int .u8 0, .int .u8 0, .int .u8 0, .int .u8 0, .int .u8 0, .int .u8 0, .int .u8 0, .int .u8 0, .int .u8 0, .int .u8 0, .int .u8 0, .int .u8 0, .int .u8 0, .int .u8 0, .int .u8 0, .int .u8 0, .int .u8 0, .int .u8 0, .int .u8 0, .int .u8 0, .int .u8 0, .int .u8 0, .int .u8 0, .int .u8 0, .int .u8 0, .int .u8 0]) := Lib.hid (Whole.new _ _ _)
      have HW : Hid (Below W0.heap.size W0 ((wr.alloc (.cells #[.int .i64 0, .int .u8 0, .int .u8 0, .int .u8 0, .int .u8 0, .int .u8 0, .int .u8 0, .int .u8 0, .int .u8 0, .int .u8 0, .int .u8 0, .int .u8 0, .int .u8 0, .int .u8 0, .int .u8 0, .int .u8 0, .int .u8 0, .int .u8 0, .int .u8 0, .int .u8 0, .int .u8 0, .int .u8 0, .int .u8 0, .int .u8 0, .int .u8 0, .int .u8 0, .int .u8 0, .int .u8 0, .int .u8 0, .int .u8 0, .int .u8 0] 51)).setRow wr.heap.size X) ∧ Whole ((wr.alloc (.cells #[.int .i64 0, .int .u8 0, .int .u8 0, .int .u8 0, .int .u8 0, .int .u8 0, .int .u8 0, .int .u8 0, .int .u8 0, .int .u8 0, .int .u8 0, .int .u8 0, .int .u8 0, .int .u8 0, .int .u8 0, .int .u8 0, .int .u8 0, .int .u8 0, .int .u8 0, .int .u8 0, .int .u8 0, .int .u8 0, .int .u8 0, .int .u8 0, .int .u8 0, .int .u8 0, .int .u8 0, .int .u8 0, .int .u8 0, .int .u8 0, .int .u8 0] 51)).setRow wr.heap.size X) wr.heap.size 51 X) := Lib.hid ⟨below_row (HS.out.1.alloc hN0 _) hN0 _, (Whole.new wr 51 #[.int .i64 0, .int .u8 0, .int .u8 0, .int .u8 0, .int .u8 0, .int .u8 0, .int .u8 0, .int .u8 0, .int .u8 0, .int .u8 0, .int .u8 0, .int .u8 0, .int .u8 0, .int .u8 0, .int .u8 0, .int .u8 0, .int .u8 0, .int .u8 0, .int .u8 0, .int .u8 0, .int .u8 0, .int .u8 0, .int .u8 0, .int .u8 0, .int .u8 0, .int .u8 0, .int .u8 0, .int .u8 0, .int .u8 0, .int .u8 0, .int .u8 0]).row X⟩
      have HLD : Hid (∀ (ops : Array Oper) (rest : List Oper) (op : Oper) (a : Act) (Q : Exit → Act → World → Prop), op.guard = none → op.op = .load 51 (.tmp 21) → a.eval (.tmp 21) = .pointer (some (ad.add (k * 31))) → wpList Tryz.prog ops Q rest (a.put op.dst (.agg X)) wr → wpList Tryz.prog ops Q (op :: rest) a wr) :=
       Lib.hid fun ops rest op a Q h1 h2 h3 h4 => wpList_load_at h1 51 (.tmp 21) h2 _ h3 (cryC x) _ HJ.out Tryz.underlying51 rfl (by rw [H31.out]; exact Tryz.sizeCrypto) (by rw [HX.out.1]; exact h4)
      clear hx had hlt' hN0 cj c30 hX HJ H31
      go_upto_region 7 with (first | ((with_reducible refine HLD.out _ _ _ _ _ ?_ ?_ ?_ ?_); (with_reducible rfl); (with_reducible rfl); rfl) | ((with_reducible refine wpList_storeS X ?_ 51 (.tmp 10) (.tmp 22) ?_ ?_ ?_ HNEW.out Tryz.sizeCrypto HX.out.2.1 ?_ HX.out.2.2 ?_); (with_reducible rfl); (with_reducible rfl); rfl; rfl; rfl))
      generalize ((wr.alloc (.cells #[.int .i64 0, .int .u8 0, .int .u8 0, .int .u8 0, .int .u8 0, .int .u8 0, .int .u8 0, .int .u8 0, .int .u8 0, .int .u8 0, .int .u8 0, .int .u8 0, .int .u8 0, .int .u8 0, .int .u8 0, .int .u8 0, .int .u8 0, .int .u8 0, .int .u8 0, .int .u8 0, .int .u8 0, .int .u8 0, .int .u8 0, .int .u8 0, .int .u8 0, .int .u8 0, .int .u8 0, .int .u8 0, .int .u8 0, .int .u8 0, .int .u8 0] 51)).setRow wr.heap.size X) = w2 at *
      generalize wr.heap.size = g at *
      clear HNEW HLD
      have HBW2 : Hid (Below N w w2) := Lib.hid (HB0.out.trans (HW.out.1.mono HN0.out))
      have HSZ : Hid (N ≤ w2.heap.size) := Lib.hid (Nat.le_trans HN0.out HW.out.1.size)
      obtain ⟨b, hb⟩ : ∃ b, goodY x = b := ⟨_, rfl⟩
      have HC : Hid (Calls Tryz.prog 92 #[.agg X] w2 fun e w' => e = .returned (.bool b) ∧ Below w2.heap.size w2 w') := Lib.hid (by
       rw [← hb, ← HX.out.1]
       exact goodCrypto_any x.tag (keyC x.key) w2 (by have := HX.out.2.1; rw [← HX.out.1] at this; simpa [cryC] using this))
      have HBG := Lib.hid hb
      clear hb
      obtain rfl := HK0.out
      cases b with
      | false =>
        have HQ : Hid (r = false) := Lib.hid (by rw [← HR.out, all_no HM.out.1 HBG.out]; simp)
        go_wp2_with (first | ((with_reducible refine wpList_load_all ?_ 51 (.tmp 10) ?_ HW.out.2 ?_ Tryz.sizeCrypto HX.out.2.1 Tryz.underlying51 ?_ ?_); (with_reducible rfl); (with_reducible rfl); rfl; rfl) | (go_at_call 92; (with_reducible refine HC.out.mono ?_); rintro e w3 ⟨rfl, hb3⟩))
        go_ret
        exact ⟨ret_bool HQ.out.symm, HBW2.out.trans (hb3.mono HSZ.out)⟩
      | true =>
        have HCO : Hid (∀ f w3, Calls Tryz.prog 105 #[.slice (some ad) 0 c, f] w3 fun e w' => e = .returned (.bool false) ∧ w3 = w') := Lib.hid fun f w3 => containsY_none _ _ _ _
        go_wp2_with (first | ((with_reducible refine wpList_load_all ?_ 51 (.tmp 10) ?_ HW.out.2 ?_ Tryz.sizeCrypto HX.out.2.1 Tryz.underlying51 ?_ ?_); (with_reducible rfl); (with_reducible rfl); rfl; rfl) | (go_at_call 92; (with_reducible refine HC.out.mono ?_); rintro e w3 ⟨rfl, hb3⟩) | (go_at_call 105; (with_reducible refine (HCO.out _ _).mono ?_); rintro e w4 ⟨rfl, rfl⟩))
        go_roundw
        case rel =>
         refine ⟨1, by omega, by go_num, HW.out.1.trans (hb3.mono HW.out.1.size), fun j hj => ?_⟩
         obtain rfl : j = 0 := by omega
         rw [HM.out.2]
         exact HBG.out
        case measure => simp [intOf]; omega
    · have e : k = n := by omega
      subst e
      have HQ : Hid (r = true) := Lib.hid (by
       rw [← HR.out, all_yesL HE.out HS.out.2]
       simp [hm])
      have HBW : Hid (Below N w wr) := Lib.hid (HB0.out.trans (HS.out.1.mono HN0.out))
      go_wp2
      go_ret
      exact ⟨ret_bool HQ.out.symm, HBW.out⟩
 · have hmi : 1 < (n : Int) := by omega
   have HQ : Hid (r = false) := Lib.hid (by rw [← HR.out]; simp [hm])
   go_enter Tryz.func90, Tryz.ntmps90
   go_wp2
   go_ret
   exact ⟨ret_bool HQ.out.symm, HB0.out⟩
end Go.Proofs.YtibpnjakimobmaaGreat
namespace Go.Proofs.YtibpnjakimobmaaGreat
set_option linter.unusedVariables false
set_option linter.unusedSimpArgs false
abbrev nGroup : Tx := [103, 114, 111, 117, 112]
abbrev nUfrag : Tx := [105, 99, 101, 45, 117, 102, 114, 97, 103]
abbrev nPwd : Tx := [105, 99, 101, 45, 112, 119, 100]
abbrev wBundle : Tx := [66, 85, 78, 68, 76, 69]
abbrev wOEnd : Tx := [32, 73, 78, 32, 73, 80, 52, 32, 49, 50, 55, 46, 48, 46, 48, 46, 49]
structure DescS where
 id : Nat
 ver : Nat
 bundle : List ByteArray
 name : ByteArray
 pass : ByteArray
 media : List MediaS
def DescS.zero : DescS := ⟨0, 0, [], bs [], bs [], []⟩
instance : Inhabited MediaS := ⟨MediaS.zero⟩
theorem DescS.ext' {a b : DescS} (h1 : a.id = b.id) (h2 : a.ver = b.ver) (h3 : a.bundle = b.bundle) (h4 : a.name = b.name) (h5 : a.pass = b.pass) (h6 : a.media = b.media) : a = b := by
 cases a; cases b; simp_all
def midT (m : MediaS) : Tx := tx m.mid
def goodDM (L : List MediaS) : Bool := L.all goodM && unlike midT L
def goodDB (B : List ByteArray) (L : List MediaS) : Bool := B.all (fun b => (L.map midT).contains (tx b)) && unlike tx B
def goodD (d : DescS) : Bool := wordP 4 32 (tx d.name) && wordP 22 32 (tx d.pass) && decide (d.media.length ≤ 8) && goodDM d.media && goodDB d.bundle d.media
def originT (a b : Nat) : Tx := 45 :: 32 :: (dec a ++ 32 :: (dec b ++ wOEnd))
def groupT (B : List ByteArray) : Tx := wBundle ++ B.flatMap fun b => 32 :: tx b
def headA (d : DescS) : List AttrS := (if d.bundle.isEmpty then [] else [⟨bs nGroup, bs (groupT d.bundle)⟩]) ++ [⟨bs nUfrag, d.name⟩, ⟨bs nPwd, d.pass⟩]
def knownD (a : AttrS) : Bool := [nGroup, nUfrag, nPwd].contains (tx a.name)
def TypedD (d : DescS) : Prop := d.id < 18446744073709551616 ∧ d.ver < 18446744073709551616 ∧ ∀ m ∈ d.media, TypedM m
structure IsD (x : SesS) (d : DescS) : Prop where
 good : goodD d = true
 origin : tx x.origin = originT d.id d.ver
 name : tx x.name = [45]
 time : tx x.time = [48, 32, 48]
 attrs : x.attrs.filter knownD = headA d
 len : x.parts.length = d.media.length
 parts : ∀ (i : Nat) (p : PartS) (m : MediaS), x.parts[i]? = some p → d.media[i]? = some m → IsM p m
theorem goodD_parts {d : DescS} (h : goodD d = true) : wordP 4 32 (tx d.name) = true ∧ wordP 22 32 (tx d.pass) = true ∧ d.media.length ≤ 8 ∧ (∀ m ∈ d.media, goodM m = true) ∧ (d.media.map midT).Nodup ∧ (∀ b ∈ d.bundle, ∃ m ∈ d.media, midT m = tx b) ∧ (d.bundle.map tx).Nodup := by
 unfold goodD goodDM goodDB unlike at h
 simp only [Bool.and_eq_true, decide_eq_true_eq, List.all_eq_true, List.contains_iff_mem, List.mem_map] at h
 obtain ⟨⟨⟨⟨h1, h2⟩, h3⟩, h4, h5⟩, h6, h7⟩ := h
 exact ⟨h1, h2, h3, h4, h5, h6, h7⟩
theorem goodD_bundle {d : DescS} (h : goodD d = true) : ∀ b ∈ d.bundle, wordP 1 16 (tx b) = true := fun b hb => by
 obtain ⟨_, _, _, h4, _, h6, _⟩ := goodD_parts h
 obtain ⟨m, hm, e⟩ := h6 b hb
 rw [← e]
 exact (goodM_parts (h4 m hm)).2.1
theorem nodup_le {α : Type} [DecidableEq α] : ∀ (A B : List α), A.Nodup → (∀ a ∈ A, a ∈ B) → A.length ≤ B.length
 | [], _, _, _ => Nat.zero_le _
 | a :: A, B, hn, hs => by
   rw [List.nodup_cons] at hn
   have hm := hs a (by simp)
   have h2 : ∀ x ∈ A, x ∈ B.erase a := fun x hx => by
    rw [List.mem_erase_of_ne (fun e : x = a => hn.1 (by rw [← e]; exact hx))]
    exact hs x (by simp [hx])
   have := nodup_le A (B.erase a) hn.2 h2
   rw [List.length_erase_of_mem hm] at this
   have hpos : 0 < B.length := List.length_pos_of_mem hm
   rw [List.length_cons]
   omega
theorem goodD_few {d : DescS} (h : goodD d = true) : d.bundle.length ≤ 8 := by
 obtain ⟨_, _, h3, _, _, h6, h7⟩ := goodD_parts h
 have := nodup_le (d.bundle.map tx) (d.media.map midT) h7 (fun a ha => by
  obtain ⟨b, hb, rfl⟩ := List.mem_map.1 ha
  obtain ⟨m, hm, e⟩ := h6 b hb
  exact List.mem_map.2 ⟨m, hm, e⟩)
 rw [List.length_map, List.length_map] at this
 omega
structure DRdr where
 orig : Tx → Nat × Nat
 sp : Tx → List ByteArray
structure DRdr.Law (R : DRdr) : Prop where
 orig : ∀ a b, a < 18446744073709551616 → b < 18446744073709551616 → R.orig (originT a b) = (a, b)
 sp : ∀ B : List ByteArray, (∀ b ∈ B, ∀ c ∈ tx b, c ≠ 32) → R.sp (groupT B) = B
def rda (R : DRdr) (d : DescS) (a : AttrS) : DescS :=
 if tx a.name = nGroup then { d with bundle := R.sp (tx a.value) }
 else if tx a.name = nUfrag then { d with name := a.value }
 else if tx a.name = nPwd then { d with pass := a.value }
 else d
def startD (R : DRdr) (o : Tx) : DescS := { DescS.zero with id := (R.orig o).1, ver := (R.orig o).2 }
def readD (R : DRdr) (x : SesS) : DescS := (x.attrs.filter knownD).foldl (rda R) (startD R (tx x.origin))
section
variable {R : DRdr}
theorem rda_group (d : DescS) (v : ByteArray) : rda R d ⟨bs nGroup, v⟩ = { d with bundle := R.sp (tx v) } := by
 unfold rda
 simp only [tx_bs]
 rw [if_pos trivial]
theorem rda_ufrag (d : DescS) (v : ByteArray) : rda R d ⟨bs nUfrag, v⟩ = { d with name := v } := by
 unfold rda
 simp only [tx_bs]
 rw [if_neg (by decide), if_pos trivial]
theorem rda_pwd (d : DescS) (v : ByteArray) : rda R d ⟨bs nPwd, v⟩ = { d with pass := v } := by
 unfold rda
 simp only [tx_bs]
 rw [if_neg (by decide), if_neg (by decide), if_pos trivial]
theorem readD_head (hR : R.Law) {d : DescS} (h1 : d.id < 18446744073709551616) (h2 : d.ver < 18446744073709551616) (hb : ∀ b ∈ d.bundle, ∀ c ∈ tx b, c ≠ 32) : (headA d).foldl (rda R) (startD R (originT d.id d.ver)) = { d with media := [] } := by
 unfold headA startD
 rw [hR.orig _ _ h1 h2, List.foldl_append]
 cases hB : d.bundle with
 | nil =>
   simp only [List.isEmpty_nil, if_true, List.foldl_nil, List.foldl_cons]
   rw [rda_ufrag, rda_pwd, ← hB]
   exact DescS.ext' rfl rfl hB.symm rfl rfl rfl
 | cons b B =>
   rw [← hB]
   have : d.bundle.isEmpty = false := by rw [hB]; rfl
   simp only [this, Bool.false_eq_true, if_false, List.foldl_nil, List.foldl_cons]
   rw [rda_group, rda_ufrag, rda_pwd, tx_bs, hR.sp _ hb]
   rfl
theorem IsD.read (hR : R.Law) {x : SesS} {d : DescS} (h : IsD x d) (ht : TypedD d) : readD R x = { d with media := [] } := by
 unfold readD
 rw [h.attrs, h.origin]
 exact readD_head hR ht.1 ht.2.1 fun b hb => word_32 (goodD_bundle h.good b hb)
end
theorem IsD.one {R : DRdr} (hR : R.Law) {Q : Rdr} (hQ : Q.Law) {x : SesS} {d e : DescS} (h : IsD x d) (h' : IsD x e) (hd : TypedD d) (he : TypedD e) : d = e := by
 have e1 := (h.read hR hd).symm.trans (h'.read hR he)
 have e2 : d.media = e.media := by
  apply List.ext_getElem?
  intro i
  by_cases hi : i < x.parts.length
  · have h1 : i < d.media.length := by rw [← h.len]; exact hi
    have h2 : i < e.media.length := by rw [← h'.len]; exact hi
    have q1 := h.parts i _ _ (List.getElem?_eq_getElem hi) (List.getElem?_eq_getElem h1)
    have q2 := h'.parts i _ _ (List.getElem?_eq_getElem hi) (List.getElem?_eq_getElem h2)
    rw [List.getElem?_eq_getElem h1, List.getElem?_eq_getElem h2, ← IsM.read hQ q1 (hd.2.2 _ (List.getElem_mem _)), ← IsM.read hQ q2 (he.2.2 _ (List.getElem_mem _))]
  · rw [List.getElem?_eq_none (by rw [← h.len]; omega), List.getElem?_eq_none (by rw [← h'.len]; omega)]
 injection e1 with a1 a2 a3 a4 a5
 exact DescS.ext' a1 a2 a3 a4 a5 e2
end Go.Proofs.YtibpnjakimobmaaGreat
namespace Go.Proofs.YtibpnjakimobmaaGreat
open Go.RowKit
set_option linter.unusedVariables false
set_option linter.unusedSimpArgs false
theorem Tryz.sizeDesc : (Tryz.prog.info? 26).map (·.size) = some 6 := by kernel_rfl
def RM (w : World) (B : Nat) (f : Nat → Option Value) (m : MediaS) : Prop := ∃ M vC vE vR vS vY, MediaV w B M m vC vE vR vS vY ∧ ∀ j, j < 11 → f j = M[j]?
def MediasV (w : World) (B : Nat) (v : Value) (L : List MediaS) : Prop := Rows w B 11 (RM w B) v L
section
variable {w w' : World} {B B' : Nat} {v : Value} {L : List MediaS}
theorem RM.below {f : Nat → Option Value} {m : MediaS} (h : RM w B f m) (hb : Below B w w') : RM w' B f m := by
 obtain ⟨M, vC, vE, vR, vS, vY, h1, h2⟩ := h
 exact ⟨M, vC, vE, vR, vS, vY, h1.below hb, h2⟩
theorem RM.more {f : Nat → Option Value} {m : MediaS} (h : RM w B f m) (hB : B ≤ B') : RM w B' f m := by
 obtain ⟨M, vC, vE, vR, vS, vY, h1, h2⟩ := h
 exact ⟨M, vC, vE, vR, vS, vY, h1.more hB, h2⟩
theorem MediasV.below (h : MediasV w B v L) (hb : Below B w w') : MediasV w' B v L := Rows.below h hb fun _ _ _ h => h.below hb
theorem MediasV.more (h : MediasV w B v L) (hB : B ≤ B') : MediasV w B' v L := Rows.more (Rows.mono h fun _ _ _ h => h.more hB) hB
theorem MediasV.nil (w : World) (B : Nat) : MediasV w B (.slice none 0 0) [] := Rows.nil _ _ _ _
theorem MediasV.at_ (h : MediasV w B v L) {i : Nat} (hi : i < L.length) : ∃ ad c M vC vE vR vS vY, v = .slice (some ad) L.length c ∧ ad.block < B ∧ MediaV w B M (L.getD i default) vC vE vR vS vY ∧
 ∀ j u, M.toList[j]? = some u → w.cell? ((ad.add (i * 11)).add j) = some u := by
 obtain ⟨ad, c, h1, h2, _, _, M, vC, vE, vR, vS, vY, h3, h4⟩ := Rows.at_ h (List.getElem?_eq_getElem hi)
 have e : L.getD i default = L[i] := by simp [List.getD, hi]
 rw [e]
 refine ⟨ad, c, M, vC, vE, vR, vS, vY, h1, h2, h3, fun j u hu => ?_⟩
 rw [Array.getElem?_toList] at hu
 have hj : j < 11 := by
  have := (Array.getElem?_eq_some_iff.1 hu).1
  rwa [h3.size] at this
 rw [Go.Deep.add_add]
 exact (h4 j hj).trans hu
end
theorem MediaV.one {w : World} {B : Nat} {M : Array Value} {m : MediaS} {vC vE vR vS vY : Value} (h : MediaV w B M m vC vE vR vS vY) : M.toList.all (·.oneCell') = true := by
 obtain ⟨A1, c1, rfl, -⟩ := Rows.form h.codecs
 obtain ⟨A2, c2, rfl, -⟩ := Rows.form h.exts
 obtain ⟨A3, c3, rfl, -⟩ := Rows.form h.rids
 obtain ⟨A4, c4, rfl, -⟩ := Rows.form h.sources
 obtain ⟨A5, c5, rfl, -⟩ := Rows.form h.crypto
 rw [h.form]
 rfl
structure DescV (w : World) (B : Nat) (D : Array Value) (d : DescS) (vB vM : Value) : Prop where
 form : D = #[.int .u64 d.id, .int .u64 d.ver, vB, .string d.name, .string d.pass, vM]
 bundle : TextsV w B vB d.bundle
 media : MediasV w B vM d.media
section
variable {w w' : World} {B B' : Nat} {D : Array Value} {d : DescS} {vB vM : Value}
theorem DescV.below (h : DescV w B D d vB vM) (hb : Below B w w') : DescV w' B D d vB vM := ⟨h.form, h.bundle.below hb, h.media.below hb⟩
theorem DescV.more (h : DescV w B D d vB vM) (hB : B ≤ B') : DescV w B' D d vB vM := ⟨h.form, h.bundle.more hB, h.media.more hB⟩
theorem DescV.under (h : DescV w w.heap.size D d vB vM) (hb : Below w.heap.size w w') : DescV w' w'.heap.size D d vB vM := (h.below hb).more hb.size
end
structure SizD (d : DescS) : Prop where
 name : d.name.size ≤ 140737488355328
 pass : d.pass.size ≤ 140737488355328
 words : ∀ b ∈ d.bundle, b.size ≤ 140737488355328
 count : d.bundle.length ≤ 8796093021952
 few : d.media.length ≤ 799644820177
 media : ∀ m ∈ d.media, SizM m
 ids : d.id < 18446744073709551616 ∧ d.ver < 18446744073709551616
theorem SizD.typed {d : DescS} (h : SizD d) : TypedD d := ⟨h.ids.1, h.ids.2, fun m hm => (h.media m hm).typed⟩
theorem any_not {α : Type} (L : List α) (q : α → Bool) : (!(L.any fun x => !q x)) = L.all q := by
 induction L with
 | nil => rfl
 | cons a r ih => rw [List.any_cons, List.all_cons, ← ih]; cases q a <;> simp
set_option maxHeartbeats 6400000 in
set_option maxRecDepth 100000 in
theorem goodCodec_any (x : CodecS) (Af : Option Addr) (lf kf : Nat) (w : World) (h : TextsV w w.heap.size (.slice Af lf kf) x.feedback) (hs : x.name.size ≤ 140737488355328 ∧ x.format.size ≤ 140737488355328 ∧ ∀ f ∈ x.feedback, f.size ≤ 140737488355328) (hl : x.feedback.length ≤ 140737488355328) :
 Calls Tryz.prog 80 #[.agg #[.int .i64 x.type, .string x.name, .int .i64 x.clock, .int .i64 x.chans, .string x.format, .slice Af lf kf]] w fun e w' => e = .returned (.bool (goodC x)) ∧ Below w.heap.size w w' := by
 obtain ⟨ty, nm, ck, ch, fm, fb⟩ := x
 have hs : nm.size ≤ 140737488355328 ∧ fm.size ≤ 140737488355328 ∧ ∀ f ∈ fb, f.size ≤ 140737488355328 := hs
 have hl : fb.length ≤ 140737488355328 := hl
 have h : TextsV w w.heap.size (.slice Af lf kf) fb := h
 have hlf : lf = fb.length := by
  obtain ⟨_, _, e, -⟩ := Rows.form h
  injection e
 have hb0 : Below w.heap.size w (w.alloc (.cells #[.int .i64 ty, .string nm, .int .i64 ck, .int .i64 ch, .string fm, .slice Af lf kf] 47)) := (Below.refl _ w).alloc (Nat.le_refl _) _
 have hz := Whole.new w 47 #[.int .i64 ty, .string nm, .int .i64 ck, .int .i64 ch, .string fm, .slice Af lf kf]
 have c0 := hz.cell 0
 have c1 := hz.cell 1
 have c2 := hz.cell 2
 have c3 := hz.cell 3
 have c4 := hz.cell 4
 have c5 := hz.cell 5
 simp only [List.getElem?_toArray, List.getElem?_cons_zero, List.getElem?_cons_succ] at c0 c1 c2 c3 c4 c5
 have HB := Lib.hid (And.intro hb0 (h.below hb0))
 have hx : goodC ⟨ty, nm, ck, ch, fm, fb⟩ = ((decide (0 ≤ ty) && decide (ty ≤ 127)) && (wordP 1 32 (tx nm) && ((decide (1 ≤ ck) && decide (ck ≤ 1000000)) && ((decide (1 ≤ ch) && decide (ch ≤ 2)) && (((tx fm).isEmpty || plainP (tx fm)) && (decide (lf ≤ 8) && !(fb.any fun f => !plainP (tx f)))))))) := by
  rw [any_not, hlf]
  unfold goodC
  simp only [Bool.and_assoc]
 show Calls _ _ _ _ fun e w' => e = .returned (.bool (goodC ⟨ty, nm, ck, ch, fm, fb⟩)) ∧ _
 have hmt : fm.toList.isEmpty = (tx fm).isEmpty := by rw [toList_tx]
 have HWI : Hid (∀ n a b W, Calls Tryz.prog 73 #[.int .i64 n, .int .i64 a, .int .i64 b] W fun e w' => e = .returned (.bool (decide (a ≤ n) && decide (n ≤ b))) ∧ W = w') := Lib.hid fun n a b W => within_any n a b W
 have HWO := Lib.hid (word_any nm (w.alloc (.cells #[.int .i64 ty, .string nm, .int .i64 ck, .int .i64 ch, .string fm, .slice Af lf kf] 47)) (by unfold maxLen; omega))
 have HFO := Lib.hid (goodFormat_any fm (w.alloc (.cells #[.int .i64 ty, .string nm, .int .i64 ck, .int .i64 ch, .string fm, .slice Af lf kf] 47)) (by unfold maxLen; omega))
 have HCO : Hid (∀ W, Below w.heap.size w W → TextsV W w.heap.size (.slice Af lf kf) fb → Calls Tryz.prog 56 #[.slice Af lf kf, .func (.func 97) #[] #[]] W fun e w' => e = .returned (.bool (fb.any fun f => !plainP (tx f))) ∧ Below W.heap.size W w') := Lib.hid fun W hW hv =>
  containsB_any Af lf kf fb (fun f => !plainP (tx f)) W (hv.more hW.size) hlf.symm (by omega) fun W' f _ hf => (badFormat_any f W' (by have := hs.2.2 f hf; unfold maxLen; omega)).mono fun e w' ⟨h1, h2⟩ => ⟨h1, h2 ▸ Below.refl _ _⟩
 have HT1 := Lib.hid (HWI.out ty 0 127 (w.alloc (.cells #[.int .i64 ty, .string nm, .int .i64 ck, .int .i64 ch, .string fm, .slice Af lf kf] 47)))
 have HT2 := Lib.hid (HWI.out ck 1 1000000 (w.alloc (.cells #[.int .i64 ty, .string nm, .int .i64 ck, .int .i64 ch, .string fm, .slice Af lf kf] 47)))
 have HT3 := Lib.hid (HWI.out ch 1 2 (w.alloc (.cells #[.int .i64 ty, .string nm, .int .i64 ck, .int .i64 ch, .string fm, .slice Af lf kf] 47)))
 have HC1 := Lib.hid (HCO.out _ HB.out.1 HB.out.2)
 have HX := Lib.hid hx
 have hlm : lf ≤ 140737488355328 := by omega
 clear hb0 hz h HWI hx hs hl HCO hlf
 generalize goodC ⟨ty, nm, ck, ch, fm, fb⟩ = r at *
 generalize (decide ((0 : Int) ≤ ty) && decide (ty ≤ 127)) = t1 at *
 generalize (decide ((1 : Int) ≤ ck) && decide (ck ≤ 1000000)) = t2 at *
 generalize (decide ((1 : Int) ≤ ch) && decide (ch ≤ 2)) = t3 at *
 generalize (fb.any fun f => !plainP (tx f)) = t4 at *
 generalize wordP 1 32 (tx nm) = q1 at *
 generalize plainP (tx fm) = q2 at *
 generalize (tx fm).isEmpty = q3 at *
 obtain ⟨N, hN⟩ : ∃ N, w.heap.size = N := ⟨_, rfl⟩
 rw [hN] at c0 c1 c2 c3 c4 c5 HB ⊢
 go_enter Tryz.func80, Tryz.ntmps80
 go_upto_region 1 with fail
 generalize w.alloc (.cells #[.int .i64 ty, .string nm, .int .i64 ck, .int .i64 ch, .string fm, .slice Af lf kf] 47) = W at *
 have HSZ : Hid (N ≤ W.heap.size) := Lib.hid (by have := HB.out.1.size; omega)
 clear hN
 cases t1 with
 | false =>
   have HQ : Hid (r = false) := Lib.hid (by rw [HX.out]; simp)
   go_wp2_with (first | (go_at_call 73; (with_reducible refine HT1.out.mono ?_); rintro e w' ⟨rfl, rfl⟩))
   go_ret
   exact ⟨ret_bool HQ.out.symm, HB.out.1⟩
 | true =>
   cases q1 with
   | false =>
     have HQ : Hid (r = false) := Lib.hid (by rw [HX.out]; simp)
     go_wp2_with (first | (go_at_call 73; (with_reducible refine HT1.out.mono ?_); rintro e w' ⟨rfl, rfl⟩) | (go_at_call 62; (with_reducible refine HWO.out.mono ?_); rintro e w' ⟨rfl, rfl⟩))
     go_ret
     exact ⟨ret_bool HQ.out.symm, HB.out.1⟩
   | true =>
     cases t2 with
     | false =>
       have HQ : Hid (r = false) := Lib.hid (by rw [HX.out]; simp)
       go_wp2_with (first | (go_at_call 73; (with_reducible refine HT1.out.mono ?_); rintro e w' ⟨rfl, rfl⟩) | (go_at_call 62; (with_reducible refine HWO.out.mono ?_); rintro e w' ⟨rfl, rfl⟩) | (go_at_call 73; (with_reducible refine HT2.out.mono ?_); rintro e w' ⟨rfl, rfl⟩))
       go_ret
       exact ⟨ret_bool HQ.out.symm, HB.out.1⟩
     | true =>
       cases t3 with
       | false =>
         have HQ : Hid (r = false) := Lib.hid (by rw [HX.out]; simp)
         go_wp2_with (first | (go_at_call 73; (with_reducible refine HT1.out.mono ?_); rintro e w' ⟨rfl, rfl⟩) | (go_at_call 62; (with_reducible refine HWO.out.mono ?_); rintro e w' ⟨rfl, rfl⟩) | (go_at_call 73; (with_reducible refine HT2.out.mono ?_); rintro e w' ⟨rfl, rfl⟩) | (go_at_call 73; (with_reducible refine HT3.out.mono ?_); rintro e w' ⟨rfl, rfl⟩))
         go_ret
         exact ⟨ret_bool HQ.out.symm, HB.out.1⟩
       | true =>
         cases q3 with
         | true =>
           by_cases hlt : lf ≤ 8
           · have hl8 : (lf : Int) ≤ 8 := by omega
             have HQ : Hid ((!t4) = r) := Lib.hid (by rw [HX.out]; simp [hlt])
             go_wp2_with (first | (go_at_call 73; (with_reducible refine HT1.out.mono ?_); rintro e w' ⟨rfl, rfl⟩) | (go_at_call 62; (with_reducible refine HWO.out.mono ?_); rintro e w' ⟨rfl, rfl⟩) | (go_at_call 73; (with_reducible refine HT2.out.mono ?_); rintro e w' ⟨rfl, rfl⟩) | (go_at_call 73; (with_reducible refine HT3.out.mono ?_); rintro e w' ⟨rfl, rfl⟩) | (go_at_call 56; (with_reducible refine HC1.out.mono ?_); rintro e w' ⟨rfl, hb4⟩))
             go_ret
             exact ⟨ret_bool HQ.out, HB.out.1.trans (hb4.mono HSZ.out)⟩
           · have hl8 : 8 < (lf : Int) := by omega
             have HQ : Hid (r = false) := Lib.hid (by rw [HX.out]; simp [hlt])
             go_wp2_with (first | (go_at_call 73; (with_reducible refine HT1.out.mono ?_); rintro e w' ⟨rfl, rfl⟩) | (go_at_call 62; (with_reducible refine HWO.out.mono ?_); rintro e w' ⟨rfl, rfl⟩) | (go_at_call 73; (with_reducible refine HT2.out.mono ?_); rintro e w' ⟨rfl, rfl⟩) | (go_at_call 73; (with_reducible refine HT3.out.mono ?_); rintro e w' ⟨rfl, rfl⟩))
             go_ret
             exact ⟨ret_bool HQ.out.symm, HB.out.1⟩
         | false =>
           cases q2 with
           | false =>
             have HQ : Hid (r = false) := Lib.hid (by rw [HX.out]; simp)
             go_wp2_with (first | (go_at_call 73; (with_reducible refine HT1.out.mono ?_); rintro e w' ⟨rfl, rfl⟩) | (go_at_call 62; (with_reducible refine HWO.out.mono ?_); rintro e w' ⟨rfl, rfl⟩) | (go_at_call 73; (with_reducible refine HT2.out.mono ?_); rintro e w' ⟨rfl, rfl⟩) | (go_at_call 73; (with_reducible refine HT3.out.mono ?_); rintro e w' ⟨rfl, rfl⟩) | (go_at_call 96; (with_reducible refine HFO.out.mono ?_); rintro e w' ⟨rfl, rfl⟩))
             go_ret
             exact ⟨ret_bool HQ.out.symm, HB.out.1⟩
           | true =>
             by_cases hlt : lf ≤ 8
             · have hl8 : (lf : Int) ≤ 8 := by omega
               have HQ : Hid ((!t4) = r) := Lib.hid (by rw [HX.out]; simp [hlt])
               go_wp2_with (first | (go_at_call 73; (with_reducible refine HT1.out.mono ?_); rintro e w' ⟨rfl, rfl⟩) | (go_at_call 62; (with_reducible refine HWO.out.mono ?_); rintro e w' ⟨rfl, rfl⟩) | (go_at_call 73; (with_reducible refine HT2.out.mono ?_); rintro e w' ⟨rfl, rfl⟩) | (go_at_call 73; (with_reducible refine HT3.out.mono ?_); rintro e w' ⟨rfl, rfl⟩) | (go_at_call 96; (with_reducible refine HFO.out.mono ?_); rintro e w' ⟨rfl, rfl⟩) | (go_at_call 56; (with_reducible refine HC1.out.mono ?_); rintro e w' ⟨rfl, hb4⟩))
               go_ret
               exact ⟨ret_bool HQ.out, HB.out.1.trans (hb4.mono HSZ.out)⟩
             · have hl8 : 8 < (lf : Int) := by omega
               have HQ : Hid (r = false) := Lib.hid (by rw [HX.out]; simp [hlt])
               go_wp2_with (first | (go_at_call 73; (with_reducible refine HT1.out.mono ?_); rintro e w' ⟨rfl, rfl⟩) | (go_at_call 62; (with_reducible refine HWO.out.mono ?_); rintro e w' ⟨rfl, rfl⟩) | (go_at_call 73; (with_reducible refine HT2.out.mono ?_); rintro e w' ⟨rfl, rfl⟩) | (go_at_call 73; (with_reducible refine HT3.out.mono ?_); rintro e w' ⟨rfl, rfl⟩) | (go_at_call 96; (with_reducible refine HFO.out.mono ?_); rintro e w' ⟨rfl, rfl⟩))
               go_ret
               exact ⟨ret_bool HQ.out.symm, HB.out.1⟩
theorem MediaV.forms {w : World} {B : Nat} {M : Array Value} {m : MediaS} {vC vE vR vS vY : Value} (h : MediaV w B M m vC vE vR vS vY) :
 ∃ AC kC AE kE AR kR AS kS AY kY, vC = .slice AC m.codecs.length kC ∧ vE = .slice AE m.exts.length kE ∧ vR = .slice AR m.rids.length kR ∧ vS = .slice AS m.sources.length kS ∧ vY = .slice AY m.crypto.length kY := by
 obtain ⟨AC, kC, e1, -⟩ := Rows.form h.codecs
 obtain ⟨AE, kE, e2, -⟩ := Rows.form h.exts
 obtain ⟨AR, kR, e3, -⟩ := Rows.form h.rids
 obtain ⟨AS, kS, e4, -⟩ := Rows.form h.sources
 obtain ⟨AY, kY, e5, -⟩ := Rows.form h.crypto
 exact ⟨AC, kC, AE, kE, AR, kR, AS, kS, AY, kY, e1, e2, e3, e4, e5⟩
set_option maxHeartbeats 6400000 in
set_option maxRecDepth 100000 in
theorem goodStreams_any (M : Array Value) (m : MediaS) (vC vE vR vS vY : Value) (w : World) (h : MediaV w w.heap.size M m vC vE vR vS vY) (hz : SizM m) :
 Calls Tryz.prog 74 #[.agg M] w fun e w' => e = .returned (.bool (goodStreams m)) ∧ Below w.heap.size w w' := by
 obtain ⟨AC, kC, AE, kE, AR, kR, AS, kS, AY, kY, rfl, rfl, rfl, rfl, rfl⟩ := h.forms
 obtain ⟨hform, hvC, hvE, hvR, hvS, hvY⟩ := h
 subst hform
 obtain ⟨nC, hnC⟩ : ∃ n, m.codecs.length = n := ⟨_, rfl⟩
 obtain ⟨nE, hnE⟩ : ∃ n, m.exts.length = n := ⟨_, rfl⟩
 obtain ⟨nR, hnR⟩ : ∃ n, m.rids.length = n := ⟨_, rfl⟩
 obtain ⟨nS, hnS⟩ : ∃ n, m.sources.length = n := ⟨_, rfl⟩
 obtain ⟨nY, hnY⟩ : ∃ n, m.crypto.length = n := ⟨_, rfl⟩
 obtain ⟨hc1, hc2, hc3, hc4, hc5⟩ := hz.counts
 rw [hnC] at hvC hc1
 rw [hnE] at hvE hc2
 rw [hnR] at hvR hc3
 rw [hnS] at hvS hc4
 rw [hnY] at hvY hc5
 rw [hnC, hnE, hnR, hnS, hnY]
 have hb0 : Below w.heap.size w (w.alloc (.cells #[.int .i64 m.kind, .int .i64 m.port, .string m.mid, .int .i64 m.dir, .slice AC nC kC, .slice AE nE kE, .slice AR nR kR, .bool m.sending, .slice AS nS kS, .slice AY nY kY, .int .i64 m.sctp] 44)) := (Below.refl _ w).alloc (Nat.le_refl _) _
 have hw := Whole.new w 44 #[.int .i64 m.kind, .int .i64 m.port, .string m.mid, .int .i64 m.dir, .slice AC nC kC, .slice AE nE kE, .slice AR nR kR, .bool m.sending, .slice AS nS kS, .slice AY nY kY, .int .i64 m.sctp]
 have hx : goodStreams m = (decide (1 ≤ nC) && ((decide (nC ≤ 16) && m.codecs.all goodC && unlike CodecS.type m.codecs) && ((decide (nE ≤ 14) && m.exts.all goodE && unlike ExtS.id m.exts) && ((decide (nR ≤ 3) && m.rids.all goodR && unlike tx m.rids) && ((decide (1 ≤ nR) || !m.sending) && ((decide (nS ≤ 16) && m.sources.all (fun _ => true) && unlike id m.sources) && ((decide (nY ≤ 1) && m.crypto.all goodY) && decide (m.sctp = 0)))))))) := by
  unfold goodStreams
  rw [hnC, hnE, hnR, hnS, hnY, show (m.sources.all fun _ => true) = true from List.all_eq_true.2 (fun _ _ => rfl)]
  simp [Bool.and_assoc]
 have HLC : Hid (∀ W, Below w.heap.size w W → Calls Tryz.prog 78 #[.slice AC nC kC, .int .i64 16, .func (.func 79) #[] #[], .func (.func 80) #[] #[]] W fun e w' => e = .returned (.bool (decide (nC ≤ 16) && m.codecs.all goodC && unlike CodecS.type m.codecs)) ∧ Below W.heap.size W w') := Lib.hid fun W hW =>
  goodListC_any AC nC kC m.codecs goodC W ((hvC.below hW).more hW.size) hnC (by omega) fun W' x vf _ hx hv => by
   obtain ⟨Af, kf, rfl, -⟩ := Rows.form hv
   exact goodCodec_any x Af _ kf W' (hv.more (Nat.le_trans (by omega) (by assumption : Below W.heap.size W W').size)) (hz.names x hx) (hz.feeds x hx)
 have HLE : Hid (∀ W, Below w.heap.size w W → Calls Tryz.prog 81 #[.slice AE nE kE, .int .i64 14, .func (.func 82) #[] #[], .func (.func 83) #[] #[]] W fun e w' => e = .returned (.bool (decide (nE ≤ 14) && m.exts.all goodE && unlike ExtS.id m.exts)) ∧ Below W.heap.size W w') := Lib.hid fun W hW =>
  goodListE_any AE nE kE m.exts goodE W ((hvE.below hW).more hW.size) hnE (by omega) fun W' x _ hx => goodExt_any x W' (by have := hz.uris x hx; unfold maxLen; omega)
 have HLR : Hid (∀ W, Below w.heap.size w W → Calls Tryz.prog 84 #[.slice AR nR kR, .int .i64 3, .func (.func 85) #[] #[], .func (.func 86) #[] #[]] W fun e w' => e = .returned (.bool (decide (nR ≤ 3) && m.rids.all goodR && unlike tx m.rids)) ∧ Below W.heap.size W w') := Lib.hid fun W hW =>
  goodListS_any AR nR kR m.rids goodR W ((hvR.below hW).more hW.size) hnR (by omega) fun W' x _ hx => (goodRid_any x W' (by have := hz.rids x hx; unfold maxLen; omega)).mono fun e w' ⟨h1, h2⟩ => ⟨h1, h2 ▸ Below.refl _ _⟩
 have HLS : Hid (∀ W, Below w.heap.size w W → Calls Tryz.prog 87 #[.slice AS nS kS, .int .i64 16, .func (.func 88) #[] #[], .func (.func 89) #[] #[]] W fun e w' => e = .returned (.bool (decide (nS ≤ 16) && m.sources.all (fun _ => true) && unlike id m.sources)) ∧ Below W.heap.size W w') := Lib.hid fun W hW =>
  goodListU_any AS nS kS m.sources (fun _ => true) W ((hvS.below hW).more hW.size) hnS (by omega) fun W' x _ hx => (anySource_any _ W').mono fun e w' ⟨h1, h2⟩ => ⟨h1, h2 ▸ Below.refl _ _⟩
 have HLY : Hid (∀ W, Below w.heap.size w W → Calls Tryz.prog 90 #[.slice AY nY kY, .int .i64 1, .func (.func 91) #[] #[], .func (.func 92) #[] #[]] W fun e w' => e = .returned (.bool (decide (nY ≤ 1) && m.crypto.all goodY)) ∧ Below W.heap.size W w') := Lib.hid fun W hW =>
  goodListY_any AY nY kY m.crypto W ((hvY.below hW).more hW.size) hnY (by omega)
 have HX := Lib.hid hx
 generalize goodStreams m = r at *
 generalize (decide (nC ≤ 16) && m.codecs.all goodC && unlike CodecS.type m.codecs) = tC at *
 generalize (decide (nE ≤ 14) && m.exts.all goodE && unlike ExtS.id m.exts) = tE at *
 generalize (decide (nR ≤ 3) && m.rids.all goodR && unlike tx m.rids) = tR at *
 generalize (decide (nS ≤ 16) && m.sources.all (fun _ => true) && unlike id m.sources) = tS at *
 generalize (decide (nY ≤ 1) && m.crypto.all goodY) = tY at *
 obtain ⟨sd, hsd⟩ : ∃ b, m.sending = b := ⟨_, rfl⟩
 obtain ⟨sc, hsc⟩ : ∃ b, m.sctp = b := ⟨_, rfl⟩
 rw [hsd] at HX
 rw [hsc] at HX
 simp only [hsd, hsc] at hb0 hw ⊢
 clear hx hvC hvE hvR hvS hvY hz hnC hnE hnR hnS hnY hsd hsc
 obtain ⟨N, hN⟩ : ∃ N, w.heap.size = N := ⟨_, rfl⟩
 have HBX := Lib.hid hw
 have HB := Lib.hid hb0
 rw [hN] at HBX HB HLC HLE HLR HLS HLY ⊢
 clear hb0 hw
 go_enter Tryz.func74, Tryz.ntmps74
 go_upto_region 1 with fail
 generalize w.alloc (.cells #[.int .i64 m.kind, .int .i64 m.port, .string m.mid, .int .i64 m.dir, .slice AC nC kC, .slice AE nE kE, .slice AR nR kR, .bool sd, .slice AS nS kS, .slice AY nY kY, .int .i64 sc] 44) = W0 at *
 have HN : Hid (N ≤ W0.heap.size) := Lib.hid (Nat.le_of_lt HBX.out.lt)
 clear hN
 have H0 : Hid (Below W0.heap.size W0 W0) := Lib.hid (Below.refl _ _)
 have c4 : W0.cell? ⟨N, 4, none⟩ = some (.slice AC nC kC) := HBX.out.cell 4
 by_cases hl1 : 1 ≤ nC
 · have hl10 : (0 : Int) < (nC : Int) := by omega
   cases tC with
   | false =>
     have HQ : Hid (r = false) := Lib.hid (by rw [HX.out]; simp)
     go_wp2_with (first | (go_at_call 78; (with_reducible refine (HLC.out _ (HB.out.trans (H0.out.mono HN.out))).mono ?_); rintro e w1 ⟨rfl, hb1⟩; have H1 : Hid (Below W0.heap.size W0 w1) := Lib.hid (H0.out.trans (hb1.mono H0.out.size)); clear hb1; have d5 : w1.cell? ⟨N, 5, none⟩ = some (.slice AE nE kE) := (HBX.out.under H1.out).cell 5))
     go_ret
     exact ⟨ret_bool HQ.out.symm, HB.out.trans (H1.out.mono HN.out)⟩
   | true =>
     cases tE with
     | false =>
       have HQ : Hid (r = false) := Lib.hid (by rw [HX.out]; simp)
       go_wp2_with (first | (go_at_call 78; (with_reducible refine (HLC.out _ (HB.out.trans (H0.out.mono HN.out))).mono ?_); rintro e w1 ⟨rfl, hb1⟩; have H1 : Hid (Below W0.heap.size W0 w1) := Lib.hid (H0.out.trans (hb1.mono H0.out.size)); clear hb1; have d5 : w1.cell? ⟨N, 5, none⟩ = some (.slice AE nE kE) := (HBX.out.under H1.out).cell 5) | (go_at_call 81; (with_reducible refine (HLE.out _ (HB.out.trans (H1.out.mono HN.out))).mono ?_); rintro e w2 ⟨rfl, hb2⟩; have H2 : Hid (Below W0.heap.size W0 w2) := Lib.hid (H1.out.trans (hb2.mono H1.out.size)); clear hb2; have d6 : w2.cell? ⟨N, 6, none⟩ = some (.slice AR nR kR) := (HBX.out.under H2.out).cell 6))
       go_ret
       exact ⟨ret_bool HQ.out.symm, HB.out.trans (H2.out.mono HN.out)⟩
     | true =>
       cases tR with
       | false =>
         have HQ : Hid (r = false) := Lib.hid (by rw [HX.out]; simp)
         go_wp2_with (first | (go_at_call 78; (with_reducible refine (HLC.out _ (HB.out.trans (H0.out.mono HN.out))).mono ?_); rintro e w1 ⟨rfl, hb1⟩; have H1 : Hid (Below W0.heap.size W0 w1) := Lib.hid (H0.out.trans (hb1.mono H0.out.size)); clear hb1; have d5 : w1.cell? ⟨N, 5, none⟩ = some (.slice AE nE kE) := (HBX.out.under H1.out).cell 5) | (go_at_call 81; (with_reducible refine (HLE.out _ (HB.out.trans (H1.out.mono HN.out))).mono ?_); rintro e w2 ⟨rfl, hb2⟩; have H2 : Hid (Below W0.heap.size W0 w2) := Lib.hid (H1.out.trans (hb2.mono H1.out.size)); clear hb2; have d6 : w2.cell? ⟨N, 6, none⟩ = some (.slice AR nR kR) := (HBX.out.under H2.out).cell 6) | (go_at_call 84; (with_reducible refine (HLR.out _ (HB.out.trans (H2.out.mono HN.out))).mono ?_); rintro e w3 ⟨rfl, hb3⟩; have H3 : Hid (Below W0.heap.size W0 w3) := Lib.hid (H2.out.trans (hb3.mono H2.out.size)); clear hb3; have d6 : w3.cell? ⟨N, 6, none⟩ = some (.slice AR nR kR) := (HBX.out.under H3.out).cell 6; have d7 : w3.cell? ⟨N, 7, none⟩ = some (.bool sd) := (HBX.out.under H3.out).cell 7; have d8 : w3.cell? ⟨N, 8, none⟩ = some (.slice AS nS kS) := (HBX.out.under H3.out).cell 8))
         go_ret
         exact ⟨ret_bool HQ.out.symm, HB.out.trans (H3.out.mono HN.out)⟩
       | true =>
         by_cases hlr : 1 ≤ nR
         · have hlr0 : (0 : Int) < (nR : Int) := by omega
           have hsx : (1 ≤ nR ∨ sd = false) := .inl hlr
           cases tS with
           | false =>
             have HQ : Hid (r = false) := Lib.hid (by rw [HX.out]; simp)
             go_wp2_with (first | (go_at_call 78; (with_reducible refine (HLC.out _ (HB.out.trans (H0.out.mono HN.out))).mono ?_); rintro e w1 ⟨rfl, hb1⟩; have H1 : Hid (Below W0.heap.size W0 w1) := Lib.hid (H0.out.trans (hb1.mono H0.out.size)); clear hb1; have d5 : w1.cell? ⟨N, 5, none⟩ = some (.slice AE nE kE) := (HBX.out.under H1.out).cell 5) | (go_at_call 81; (with_reducible refine (HLE.out _ (HB.out.trans (H1.out.mono HN.out))).mono ?_); rintro e w2 ⟨rfl, hb2⟩; have H2 : Hid (Below W0.heap.size W0 w2) := Lib.hid (H1.out.trans (hb2.mono H1.out.size)); clear hb2; have d6 : w2.cell? ⟨N, 6, none⟩ = some (.slice AR nR kR) := (HBX.out.under H2.out).cell 6) | (go_at_call 84; (with_reducible refine (HLR.out _ (HB.out.trans (H2.out.mono HN.out))).mono ?_); rintro e w3 ⟨rfl, hb3⟩; have H3 : Hid (Below W0.heap.size W0 w3) := Lib.hid (H2.out.trans (hb3.mono H2.out.size)); clear hb3; have d6 : w3.cell? ⟨N, 6, none⟩ = some (.slice AR nR kR) := (HBX.out.under H3.out).cell 6; have d7 : w3.cell? ⟨N, 7, none⟩ = some (.bool sd) := (HBX.out.under H3.out).cell 7; have d8 : w3.cell? ⟨N, 8, none⟩ = some (.slice AS nS kS) := (HBX.out.under H3.out).cell 8) | (go_at_call 87; (with_reducible refine (HLS.out _ (HB.out.trans (H3.out.mono HN.out))).mono ?_); rintro e w4 ⟨rfl, hb4⟩; have H4 : Hid (Below W0.heap.size W0 w4) := Lib.hid (H3.out.trans (hb4.mono H3.out.size)); clear hb4; have d9 : w4.cell? ⟨N, 9, none⟩ = some (.slice AY nY kY) := (HBX.out.under H4.out).cell 9))
             go_ret
             exact ⟨ret_bool HQ.out.symm, HB.out.trans (H4.out.mono HN.out)⟩
           | true =>
             cases tY with
             | false =>
               have HQ : Hid (r = false) := Lib.hid (by rw [HX.out]; simp)
               go_wp2_with (first | (go_at_call 78; (with_reducible refine (HLC.out _ (HB.out.trans (H0.out.mono HN.out))).mono ?_); rintro e w1 ⟨rfl, hb1⟩; have H1 : Hid (Below W0.heap.size W0 w1) := Lib.hid (H0.out.trans (hb1.mono H0.out.size)); clear hb1; have d5 : w1.cell? ⟨N, 5, none⟩ = some (.slice AE nE kE) := (HBX.out.under H1.out).cell 5) | (go_at_call 81; (with_reducible refine (HLE.out _ (HB.out.trans (H1.out.mono HN.out))).mono ?_); rintro e w2 ⟨rfl, hb2⟩; have H2 : Hid (Below W0.heap.size W0 w2) := Lib.hid (H1.out.trans (hb2.mono H1.out.size)); clear hb2; have d6 : w2.cell? ⟨N, 6, none⟩ = some (.slice AR nR kR) := (HBX.out.under H2.out).cell 6) | (go_at_call 84; (with_reducible refine (HLR.out _ (HB.out.trans (H2.out.mono HN.out))).mono ?_); rintro e w3 ⟨rfl, hb3⟩; have H3 : Hid (Below W0.heap.size W0 w3) := Lib.hid (H2.out.trans (hb3.mono H2.out.size)); clear hb3; have d6 : w3.cell? ⟨N, 6, none⟩ = some (.slice AR nR kR) := (HBX.out.under H3.out).cell 6; have d7 : w3.cell? ⟨N, 7, none⟩ = some (.bool sd) := (HBX.out.under H3.out).cell 7; have d8 : w3.cell? ⟨N, 8, none⟩ = some (.slice AS nS kS) := (HBX.out.under H3.out).cell 8) | (go_at_call 87; (with_reducible refine (HLS.out _ (HB.out.trans (H3.out.mono HN.out))).mono ?_); rintro e w4 ⟨rfl, hb4⟩; have H4 : Hid (Below W0.heap.size W0 w4) := Lib.hid (H3.out.trans (hb4.mono H3.out.size)); clear hb4; have d9 : w4.cell? ⟨N, 9, none⟩ = some (.slice AY nY kY) := (HBX.out.under H4.out).cell 9) | (go_at_call 90; (with_reducible refine (HLY.out _ (HB.out.trans (H4.out.mono HN.out))).mono ?_); rintro e w5 ⟨rfl, hb5⟩; have H5 : Hid (Below W0.heap.size W0 w5) := Lib.hid (H4.out.trans (hb5.mono H4.out.size)); clear hb5; have d10 : w5.cell? ⟨N, 10, none⟩ = some (.int .i64 sc) := (HBX.out.under H5.out).cell 10))
               go_ret
               exact ⟨ret_bool HQ.out.symm, HB.out.trans (H5.out.mono HN.out)⟩
             | true =>
               have HQ : Hid ((sc == 0) = r) := Lib.hid (by rw [HX.out]; rw [Bool.eq_iff_iff]; simp [hl1, hsx])
               go_wp2_with (first | (go_at_call 78; (with_reducible refine (HLC.out _ (HB.out.trans (H0.out.mono HN.out))).mono ?_); rintro e w1 ⟨rfl, hb1⟩; have H1 : Hid (Below W0.heap.size W0 w1) := Lib.hid (H0.out.trans (hb1.mono H0.out.size)); clear hb1; have d5 : w1.cell? ⟨N, 5, none⟩ = some (.slice AE nE kE) := (HBX.out.under H1.out).cell 5) | (go_at_call 81; (with_reducible refine (HLE.out _ (HB.out.trans (H1.out.mono HN.out))).mono ?_); rintro e w2 ⟨rfl, hb2⟩; have H2 : Hid (Below W0.heap.size W0 w2) := Lib.hid (H1.out.trans (hb2.mono H1.out.size)); clear hb2; have d6 : w2.cell? ⟨N, 6, none⟩ = some (.slice AR nR kR) := (HBX.out.under H2.out).cell 6) | (go_at_call 84; (with_reducible refine (HLR.out _ (HB.out.trans (H2.out.mono HN.out))).mono ?_); rintro e w3 ⟨rfl, hb3⟩; have H3 : Hid (Below W0.heap.size W0 w3) := Lib.hid (H2.out.trans (hb3.mono H2.out.size)); clear hb3; have d6 : w3.cell? ⟨N, 6, none⟩ = some (.slice AR nR kR) := (HBX.out.under H3.out).cell 6; have d7 : w3.cell? ⟨N, 7, none⟩ = some (.bool sd) := (HBX.out.under H3.out).cell 7; have d8 : w3.cell? ⟨N, 8, none⟩ = some (.slice AS nS kS) := (HBX.out.under H3.out).cell 8) | (go_at_call 87; (with_reducible refine (HLS.out _ (HB.out.trans (H3.out.mono HN.out))).mono ?_); rintro e w4 ⟨rfl, hb4⟩; have H4 : Hid (Below W0.heap.size W0 w4) := Lib.hid (H3.out.trans (hb4.mono H3.out.size)); clear hb4; have d9 : w4.cell? ⟨N, 9, none⟩ = some (.slice AY nY kY) := (HBX.out.under H4.out).cell 9) | (go_at_call 90; (with_reducible refine (HLY.out _ (HB.out.trans (H4.out.mono HN.out))).mono ?_); rintro e w5 ⟨rfl, hb5⟩; have H5 : Hid (Below W0.heap.size W0 w5) := Lib.hid (H4.out.trans (hb5.mono H4.out.size)); clear hb5; have d10 : w5.cell? ⟨N, 10, none⟩ = some (.int .i64 sc) := (HBX.out.under H5.out).cell 10))
               go_ret
               exact ⟨ret_bool HQ.out, HB.out.trans (H5.out.mono HN.out)⟩
         · have hlr0 : (nR : Int) ≤ 0 := by omega
           cases sd with
           | true =>
             have HQ : Hid (r = false) := Lib.hid (by rw [HX.out]; simp [hlr])
             go_wp2_with (first | (go_at_call 78; (with_reducible refine (HLC.out _ (HB.out.trans (H0.out.mono HN.out))).mono ?_); rintro e w1 ⟨rfl, hb1⟩; have H1 : Hid (Below W0.heap.size W0 w1) := Lib.hid (H0.out.trans (hb1.mono H0.out.size)); clear hb1; have d5 : w1.cell? ⟨N, 5, none⟩ = some (.slice AE nE kE) := (HBX.out.under H1.out).cell 5) | (go_at_call 81; (with_reducible refine (HLE.out _ (HB.out.trans (H1.out.mono HN.out))).mono ?_); rintro e w2 ⟨rfl, hb2⟩; have H2 : Hid (Below W0.heap.size W0 w2) := Lib.hid (H1.out.trans (hb2.mono H1.out.size)); clear hb2; have d6 : w2.cell? ⟨N, 6, none⟩ = some (.slice AR nR kR) := (HBX.out.under H2.out).cell 6) | (go_at_call 84; (with_reducible refine (HLR.out _ (HB.out.trans (H2.out.mono HN.out))).mono ?_); rintro e w3 ⟨rfl, hb3⟩; have H3 : Hid (Below W0.heap.size W0 w3) := Lib.hid (H2.out.trans (hb3.mono H2.out.size)); clear hb3; have d6 : w3.cell? ⟨N, 6, none⟩ = some (.slice AR nR kR) := (HBX.out.under H3.out).cell 6; have d7 : w3.cell? ⟨N, 7, none⟩ = some (.bool true) := (HBX.out.under H3.out).cell 7; have d8 : w3.cell? ⟨N, 8, none⟩ = some (.slice AS nS kS) := (HBX.out.under H3.out).cell 8))
             go_ret
             exact ⟨ret_bool HQ.out.symm, HB.out.trans (H3.out.mono HN.out)⟩
           | false =>
             have hsx : (1 ≤ nR ∨ false = false) := .inr rfl
             cases tS with
             | false =>
               have HQ : Hid (r = false) := Lib.hid (by rw [HX.out]; simp)
               go_wp2_with (first | (go_at_call 78; (with_reducible refine (HLC.out _ (HB.out.trans (H0.out.mono HN.out))).mono ?_); rintro e w1 ⟨rfl, hb1⟩; have H1 : Hid (Below W0.heap.size W0 w1) := Lib.hid (H0.out.trans (hb1.mono H0.out.size)); clear hb1; have d5 : w1.cell? ⟨N, 5, none⟩ = some (.slice AE nE kE) := (HBX.out.under H1.out).cell 5) | (go_at_call 81; (with_reducible refine (HLE.out _ (HB.out.trans (H1.out.mono HN.out))).mono ?_); rintro e w2 ⟨rfl, hb2⟩; have H2 : Hid (Below W0.heap.size W0 w2) := Lib.hid (H1.out.trans (hb2.mono H1.out.size)); clear hb2; have d6 : w2.cell? ⟨N, 6, none⟩ = some (.slice AR nR kR) := (HBX.out.under H2.out).cell 6) | (go_at_call 84; (with_reducible refine (HLR.out _ (HB.out.trans (H2.out.mono HN.out))).mono ?_); rintro e w3 ⟨rfl, hb3⟩; have H3 : Hid (Below W0.heap.size W0 w3) := Lib.hid (H2.out.trans (hb3.mono H2.out.size)); clear hb3; have d6 : w3.cell? ⟨N, 6, none⟩ = some (.slice AR nR kR) := (HBX.out.under H3.out).cell 6; have d7 : w3.cell? ⟨N, 7, none⟩ = some (.bool false) := (HBX.out.under H3.out).cell 7; have d8 : w3.cell? ⟨N, 8, none⟩ = some (.slice AS nS kS) := (HBX.out.under H3.out).cell 8) | (go_at_call 87; (with_reducible refine (HLS.out _ (HB.out.trans (H3.out.mono HN.out))).mono ?_); rintro e w4 ⟨rfl, hb4⟩; have H4 : Hid (Below W0.heap.size W0 w4) := Lib.hid (H3.out.trans (hb4.mono H3.out.size)); clear hb4; have d9 : w4.cell? ⟨N, 9, none⟩ = some (.slice AY nY kY) := (HBX.out.under H4.out).cell 9))
               go_ret
               exact ⟨ret_bool HQ.out.symm, HB.out.trans (H4.out.mono HN.out)⟩
             | true =>
               cases tY with
               | false =>
                 have HQ : Hid (r = false) := Lib.hid (by rw [HX.out]; simp)
                 go_wp2_with (first | (go_at_call 78; (with_reducible refine (HLC.out _ (HB.out.trans (H0.out.mono HN.out))).mono ?_); rintro e w1 ⟨rfl, hb1⟩; have H1 : Hid (Below W0.heap.size W0 w1) := Lib.hid (H0.out.trans (hb1.mono H0.out.size)); clear hb1; have d5 : w1.cell? ⟨N, 5, none⟩ = some (.slice AE nE kE) := (HBX.out.under H1.out).cell 5) | (go_at_call 81; (with_reducible refine (HLE.out _ (HB.out.trans (H1.out.mono HN.out))).mono ?_); rintro e w2 ⟨rfl, hb2⟩; have H2 : Hid (Below W0.heap.size W0 w2) := Lib.hid (H1.out.trans (hb2.mono H1.out.size)); clear hb2; have d6 : w2.cell? ⟨N, 6, none⟩ = some (.slice AR nR kR) := (HBX.out.under H2.out).cell 6) | (go_at_call 84; (with_reducible refine (HLR.out _ (HB.out.trans (H2.out.mono HN.out))).mono ?_); rintro e w3 ⟨rfl, hb3⟩; have H3 : Hid (Below W0.heap.size W0 w3) := Lib.hid (H2.out.trans (hb3.mono H2.out.size)); clear hb3; have d6 : w3.cell? ⟨N, 6, none⟩ = some (.slice AR nR kR) := (HBX.out.under H3.out).cell 6; have d7 : w3.cell? ⟨N, 7, none⟩ = some (.bool false) := (HBX.out.under H3.out).cell 7; have d8 : w3.cell? ⟨N, 8, none⟩ = some (.slice AS nS kS) := (HBX.out.under H3.out).cell 8) | (go_at_call 87; (with_reducible refine (HLS.out _ (HB.out.trans (H3.out.mono HN.out))).mono ?_); rintro e w4 ⟨rfl, hb4⟩; have H4 : Hid (Below W0.heap.size W0 w4) := Lib.hid (H3.out.trans (hb4.mono H3.out.size)); clear hb4; have d9 : w4.cell? ⟨N, 9, none⟩ = some (.slice AY nY kY) := (HBX.out.under H4.out).cell 9) | (go_at_call 90; (with_reducible refine (HLY.out _ (HB.out.trans (H4.out.mono HN.out))).mono ?_); rintro e w5 ⟨rfl, hb5⟩; have H5 : Hid (Below W0.heap.size W0 w5) := Lib.hid (H4.out.trans (hb5.mono H4.out.size)); clear hb5; have d10 : w5.cell? ⟨N, 10, none⟩ = some (.int .i64 sc) := (HBX.out.under H5.out).cell 10))
                 go_ret
                 exact ⟨ret_bool HQ.out.symm, HB.out.trans (H5.out.mono HN.out)⟩
               | true =>
                 have HQ : Hid ((sc == 0) = r) := Lib.hid (by rw [HX.out]; rw [Bool.eq_iff_iff]; simp [hl1, hsx])
                 go_wp2_with (first | (go_at_call 78; (with_reducible refine (HLC.out _ (HB.out.trans (H0.out.mono HN.out))).mono ?_); rintro e w1 ⟨rfl, hb1⟩; have H1 : Hid (Below W0.heap.size W0 w1) := Lib.hid (H0.out.trans (hb1.mono H0.out.size)); clear hb1; have d5 : w1.cell? ⟨N, 5, none⟩ = some (.slice AE nE kE) := (HBX.out.under H1.out).cell 5) | (go_at_call 81; (with_reducible refine (HLE.out _ (HB.out.trans (H1.out.mono HN.out))).mono ?_); rintro e w2 ⟨rfl, hb2⟩; have H2 : Hid (Below W0.heap.size W0 w2) := Lib.hid (H1.out.trans (hb2.mono H1.out.size)); clear hb2; have d6 : w2.cell? ⟨N, 6, none⟩ = some (.slice AR nR kR) := (HBX.out.under H2.out).cell 6) | (go_at_call 84; (with_reducible refine (HLR.out _ (HB.out.trans (H2.out.mono HN.out))).mono ?_); rintro e w3 ⟨rfl, hb3⟩; have H3 : Hid (Below W0.heap.size W0 w3) := Lib.hid (H2.out.trans (hb3.mono H2.out.size)); clear hb3; have d6 : w3.cell? ⟨N, 6, none⟩ = some (.slice AR nR kR) := (HBX.out.under H3.out).cell 6; have d7 : w3.cell? ⟨N, 7, none⟩ = some (.bool false) := (HBX.out.under H3.out).cell 7; have d8 : w3.cell? ⟨N, 8, none⟩ = some (.slice AS nS kS) := (HBX.out.under H3.out).cell 8) | (go_at_call 87; (with_reducible refine (HLS.out _ (HB.out.trans (H3.out.mono HN.out))).mono ?_); rintro e w4 ⟨rfl, hb4⟩; have H4 : Hid (Below W0.heap.size W0 w4) := Lib.hid (H3.out.trans (hb4.mono H3.out.size)); clear hb4; have d9 : w4.cell? ⟨N, 9, none⟩ = some (.slice AY nY kY) := (HBX.out.under H4.out).cell 9) | (go_at_call 90; (with_reducible refine (HLY.out _ (HB.out.trans (H4.out.mono HN.out))).mono ?_); rintro e w5 ⟨rfl, hb5⟩; have H5 : Hid (Below W0.heap.size W0 w5) := Lib.hid (H4.out.trans (hb5.mono H4.out.size)); clear hb5; have d10 : w5.cell? ⟨N, 10, none⟩ = some (.int .i64 sc) := (HBX.out.under H5.out).cell 10))
                 go_ret
                 exact ⟨ret_bool HQ.out, HB.out.trans (H5.out.mono HN.out)⟩
 · have hl10 : (nC : Int) ≤ 0 := by omega
   have HQ : Hid (r = false) := Lib.hid (by rw [HX.out]; simp [hl1])
   go_wp2
   go_ret
   exact ⟨ret_bool HQ.out.symm, HB.out⟩
end Go.Proofs.YtibpnjakimobmaaGreat
