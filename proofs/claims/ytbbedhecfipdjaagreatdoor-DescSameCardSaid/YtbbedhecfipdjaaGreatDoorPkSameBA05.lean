import Derived.Test.YtbbedhecfipdjaaGreatDoorPkDescPrintsA00
import Derived.Test.YtbbedhecfipdjaaGreatDoorPkDescPrintsA06
import Derived.Test.YtbbedhecfipdjaaGreatDoorPkDescPrintsA01
import Derived.Test.YtbbedhecfipdjaaGreatDoorPkDescPrintsA02
import Derived.Test.YtbbedhecfipdjaaGreatDoorPkDescPrintsA04
import Derived.Test.YtbbedhecfipdjaaGreatDoorPkDescPrintsA07
import Derived.Test.YtbbedhecfipdjaaGreatDoorPkDescPrintsA08
import Derived.Test.YtbbedhecfipdjaaGreatDoorPkDescPrintsA09
import Derived.Test.YtbbedhecfipdjaaGreatDoorPkDescPrintsA10
import Derived.Test.YtbbedhecfipdjaaGreatDoorPkDescPrintsA11
import Derived.Test.YtbbedhecfipdjaaGreatDoorPkDescPrintsA12
import Derived.Test.YtbbedhecfipdjaaGreatDoorPkDescPrintsA03
import Derived.Test.YtbbedhecfipdjaaGreatDoorPkDescPrintsA05
import Derived.Test.YtbbedhecfipdjaaGreatDoorPkDescPrintsA13
import Derived.Test.YtbbedhecfipdjaaGreatDoorPkDescPrintsA14
import Derived.Test.YtbbedhecfipdjaaGreatDoorPkDescPrintsA15
import Derived.Test.YtbbedhecfipdjaaGreatDoorPkDescPrintsA16
import Derived.Test.YtbbedhecfipdjaaGreatDoorPkDescPrintsA17
import Derived.OrdersHeld
import Derived.WalkKit
import Derived.Lib.Hide
import Derived.Test.YtbbedhecfipdjaaGreatDoorProg
import Derived.Deep.RegionHeld3
import Derived.Deep.MidRow
import Derived.ProofKit
import Derived.WalkSpells
import Derived.Below
import Derived.Deep.Draws
import Derived.Laws.Rows
import Derived.ArgAppend
import Derived.Laws.IdiomCopy
import Derived.Maps.AppendAt
import Derived.Deep.RegionLaw
import Derived.OwnWalk
import Derived.Outline
import Derived.Handy
import Derived.LoopTactic
import Derived.RegionTactic
import Derived.ChangeAlike
import Derived.BigRegion
import Derived.Deep.QuietTactic
import Derived.BigQuiet
import Derived.Deep.DeepMust
import Derived.Deep.CutRange
import Derived.Deep.DeepCutAuto
import Derived.Deep.LoopGhost
import Derived.StillTailTactics
import Derived.Laws.AppendOwnNone
import Derived.Lib.AppendZeros
import Derived.Laws.CopyOwn
import Derived.Laws.BytesArg
import Derived.Shelf.Abstract
import Derived.Laws.StructEq
namespace Go.Proofs.YtbbedhecfipdjaaGreatDoor
open Go.RowKit
set_option linter.unusedVariables false
set_option linter.unusedSimpArgs false
section
variable {w : World} {base : Nat} {e : TypeId} {sz : Nat} {v : Value} {ks rs : List (List Value)}
theorem run_appendRows {T : TypeId} {z : Value} {by_ : Nat} (ty : TypeId) (hT : Tryz.prog.underlying T = some (.slice e)) (hi : (Tryz.prog.info? e).map (fun i => (i.zero, i.size, i.bytes)) = some (some z, sz, by_)) (hz : z.cells.size = sz) (hsz : 0 < sz) (hown : Own w base e sz v ks)
 {A : Option Addr} {n c : Nat} (hA : A = none → c = 0) (hnc : n ≤ c) (hn : rs.length = n) (hr : ∀ r ∈ rs, r.length = sz) (hu : ∀ r ∈ rs, ∀ u ∈ r, u.oneCell' = true)
 (hL : ∀ ad, A = some ad → ∀ i r, rs[i]? = some r → ∀ j, j < sz → w.cell? (ad.add (i * sz + j)) = r[j]?) (h63 : (ks.length + n) * by_ ≤ 140737488355328) (h64 : ks.length + n ≤ 140737488355328) (hbase : base ≤ w.heap.size) :
 ∃ v' w', (Builtin.append_ #[T, T] ty #[v, .slice A n c]).run Tryz.prog w = .ok v' w' ∧ Own w' base e sz v' (ks ++ rs) ∧ w.grownBy w' v.ownBlock ∧ (v'.ownBlock = v.ownBlock ∨ v'.ownBlock = some w.heap.size) := by
 obtain ⟨i0, hi0, hz0, hz1, hz2⟩ := info_parts hi
 cases A with
 | none =>
   have hc := hA rfl
   subst hc
   obtain rfl : n = 0 := by omega
   obtain rfl : rs = [] := List.eq_nil_of_length_eq_zero hn
   refine ⟨v, w, run_append_owned_none (P := Tryz.prog) (w := w) base T ty e i0 sz hT hi0 v ks.length ks.flatten hown.1, by rw [List.append_nil]; exact hown, ⟨rfl, rfl, rfl, Nat.le_refl _, fun _ _ _ => rfl⟩, .inl rfl⟩
 | some ad =>
   have hfl : rs.flatten.length = n * sz := by rw [flatten_len hr, hn]
   obtain ⟨v', w', hrun, h2, h3, _, h5⟩ := run_append_own_at (P := Tryz.prog) w base T ty e i0 z sz by_ hT hi0 hz0 hz1 hz2 hz (by omega) v ks.length ks.flatten hown.1 ad n c rs.flatten hfl
    (fun j u hj => by
      have hjl : j < n * sz := by rw [← hfl]; exact (List.getElem?_eq_some_iff.1 hj).1
      have hq : j / sz < rs.length := by rw [hn]; exact Nat.div_lt_of_lt_mul (by rw [Nat.mul_comm]; exact hjl)
      have hx := List.getElem?_eq_getElem hq
      have hm : j % sz < sz := Nat.mod_lt j hsz
      have hf := flatten_at hr hx hm
      have e2 : j / sz * sz + j % sz = j := Nat.div_add_mod' j sz
      rw [e2] at hf
      have := hL ad rfl (j / sz) _ hx (j % sz) hm
      rw [e2] at this
      rw [this, ← hf]
      exact hj)
    (fun u hu2 => by
      obtain ⟨r, hr2, hur⟩ := List.mem_flatten.1 hu2
      exact hu r hr2 u hur) (by unfold maxLen; omega) h63 hbase
   refine ⟨v', w', hrun, ⟨?_, fun q hq => ?_⟩, h3, h5⟩
   · rw [List.flatten_append, List.length_append, hn]
     exact h2
   · rcases List.mem_append.1 hq with hq | hq
     · exact hown.2 q hq
     · exact hr q hq
theorem wp_appendRows {o : Oper} {a : Act} {K : Act → World → Prop} {Q : Exit → Act → World → Prop} {T : TypeId} {z : Value} {by_ : Nat} (s y : Operand) (ho : o.op = .call { callee := .builtin .append, args := #[s, y], argTypes := #[T, T] })
 (hT : Tryz.prog.underlying T = some (.slice e)) (hi : (Tryz.prog.info? e).map (fun i => (i.zero, i.size, i.bytes)) = some (some z, sz, by_)) (hz : z.cells.size = sz) (hsz : 0 < sz) (hs : a.eval s = v) (hown : Own w base e sz v ks)
 {A : Option Addr} {n c : Nat} (hy : a.eval y = .slice A n c) (hA : A = none → c = 0) (hnc : n ≤ c) (hn : rs.length = n) (hr : ∀ r ∈ rs, r.length = sz) (hu : ∀ r ∈ rs, ∀ u ∈ r, u.oneCell' = true)
 (hL : ∀ ad, A = some ad → ∀ i r, rs[i]? = some r → ∀ j, j < sz → w.cell? (ad.add (i * sz + j)) = r[j]?) (h63 : (ks.length + n) * by_ ≤ 140737488355328) (h64 : ks.length + n ≤ 140737488355328) (hbase : base ≤ w.heap.size)
 (h : ∀ v' w', Own w' base e sz v' (ks ++ rs) → w.grownBy w' v.ownBlock → (v'.ownBlock = v.ownBlock ∨ v'.ownBlock = some w.heap.size) → K (a.put o.dst v') w') : o.wp Tryz.prog a w K Q := by
 obtain ⟨v', w', hrun, h2, h3, h4⟩ := run_appendRows o.type hT hi hz hsz hown hA hnc hn hr hu hL h63 h64 hbase
 unfold Oper.wp execOp
 simp only [ho, resolve, invoke, builtin, Sem.run_bind, Sem.run_pure, Result.andThen_ok, List.map_toArray, List.map_cons, List.map_nil, hs, hy, hrun]
 exact h v' w' h2 h3 h4
theorem wpList_appendRows {ops : Array Oper} {rest : List Oper} {o : Oper} {a : Act} {Q : Exit → Act → World → Prop} (hgd : o.guard = none) {T : TypeId} {z : Value} {by_ : Nat} (s y : Operand) (ho : o.op = .call { callee := .builtin .append, args := #[s, y], argTypes := #[T, T] })
 (hT : Tryz.prog.underlying T = some (.slice e)) (hi : (Tryz.prog.info? e).map (fun i => (i.zero, i.size, i.bytes)) = some (some z, sz, by_)) (hz : z.cells.size = sz) (hsz : 0 < sz) (hs : a.eval s = v) (hown : Own w base e sz v ks)
 {A : Option Addr} {n c : Nat} (hy : a.eval y = .slice A n c) (hA : A = none → c = 0) (hnc : n ≤ c) (hn : rs.length = n) (hr : ∀ r ∈ rs, r.length = sz) (hu : ∀ r ∈ rs, ∀ u ∈ r, u.oneCell' = true)
 (hL : ∀ ad, A = some ad → ∀ i r, rs[i]? = some r → ∀ j, j < sz → w.cell? (ad.add (i * sz + j)) = r[j]?) (h63 : (ks.length + n) * by_ ≤ 140737488355328) (h64 : ks.length + n ≤ 140737488355328) (hbase : base ≤ w.heap.size)
 (h : ∀ v' w', Own w' base e sz v' (ks ++ rs) → w.grownBy w' v.ownBlock → (v'.ownBlock = v.ownBlock ∨ v'.ownBlock = some w.heap.size) → wpList Tryz.prog ops Q rest (a.put o.dst v') w') : wpList Tryz.prog ops Q (o :: rest) a w :=
 wpList_plain hgd fun _ hK => wp_appendRows s y ho hT hi hz hsz hs hown hy hA hnc hn hr hu hL h63 h64 hbase fun v' w' h2 h3 h4 => hK _ _ (h v' w' h2 h3 h4)
end
end Go.Proofs.YtbbedhecfipdjaaGreatDoor
