/- Plain facts on memory: what a block that is known whole goes through (new blocks, stores, draws, what lies below); nothing of the program. -/
import Derived.Test.YtapbodiakkdfmaaProg
import Derived.WalkKit
import Derived.ProofKit
import Derived.WalkSpells
import Derived.Below
import Derived.Deep.Draws
import Derived.Laws.Rows
import Derived.Lib.Hide
import Derived.ArgAppend
import Derived.Laws.IdiomCopy
import Derived.Maps.AppendAt
import Derived.Deep.RegionLaw
import Derived.OwnWalk
import Derived.Outline
import Derived.Handy
import Derived.LoopTactic
import Derived.RegionTactic
import Derived.ChangeAlike
import Derived.BigRegion
import Derived.Deep.QuietTactic
import Derived.BigQuiet
import Derived.Deep.DeepMust
import Derived.Deep.CutRange
import Derived.Deep.DeepCutAuto
import Derived.Deep.LoopGhost
import Derived.StillTailTactics
import Derived.Laws.AppendOwnNone
import Derived.Lib.AppendZeros
import Derived.Laws.CopyOwn
import Derived.Laws.BytesArg
import Derived.Shelf.Abstract
import Derived.Laws.StructEq
namespace Go.Proofs.Ytapbodiakkdfmaa
open Go.RowKit

/-- Block g holds just the cells cs of element type t, none of them frozen. -/
def Whole (w : World) (g : Nat) (t : TypeId) (cs : Array Value) : Prop := w.heap[g]? = some (Obj.cells cs t (0, 0))

section
variable {w w' : World} {g : Nat} {t : TypeId} {cs : Array Value}

theorem Whole.lt (h : Whole w g t cs) : g < w.heap.size := (Array.getElem?_eq_some_iff.1 h).1
theorem Whole.cell (h : Whole w g t cs) (i : Nat) : w.cell? ⟨g, i, none⟩ = cs[i]? := cell_of_row w g i cs t (0, 0) h
theorem Whole.frz (h : Whole w g t cs) (i : Nat) : w.frozen? ⟨g, i, none⟩ = false := by
  have h' : w.heap[g]? = some (Obj.cells cs t (0, 0)) := h
  simp [World.frozen?, h']
theorem Whole.new (w : World) (t : TypeId) (cs : Array Value) : Whole (w.alloc (.cells cs t)) w.heap.size t cs := by
  show (w.heap.push _)[w.heap.size]? = _
  simp
theorem Whole.drewN (h : Whole w g t cs) (n : Nat) : Whole (w.drewN n) g t cs := h
theorem Whole.drew (h : Whole w g t cs) : Whole w.drew g t cs := h
theorem Whole.alloc (h : Whole w g t cs) (o : Obj) : Whole (w.alloc o) g t cs := (Below.heap_alloc w o g h.lt).trans h
theorem Whole.set (h : Whole w g t cs) (i : Nat) (u : Value) : Whole (w.setCell ⟨g, i, none⟩ u) g t (cs.setIfInBounds i u) := by
  have h' : w.heap[g]? = some (Obj.cells cs t (0, 0)) := h
  show (w.setCell ⟨g, i, none⟩ u).heap[g]? = _
  simp [World.setCell, Array.getElem?_modify, h']
theorem Whole.far (h : Whole w g t cs) {p : Addr} (hp : g ≠ p.block) (u : Value) : Whole (w.setCell p u) g t cs := (Below.heap_setCell w p u g hp).trans h
theorem Whole.below {B : Nat} (h : Whole w g t cs) (hb : Below B w w') (hg : g < B) : Whole w' g t cs := (hb.block g hg).trans h
theorem Whole.under (h : Whole w g t cs) (hb : Below w.heap.size w w') : Whole w' g t cs := (hb.block g h.lt).trans h
theorem Whole.grown {row : Option Nat} (h : Whole w g t cs) (hb : w.grownBy w' row) (hg : some g ≠ row) : Whole w' g t cs := (hb.block g h.lt hg).trans h
theorem Whole.ne {g' : Nat} {t' : TypeId} {cs' : Array Value} (h : Whole w g t cs) (h' : Whole w g' t' cs') (hne : t ≠ t') : g ≠ g' := by
  intro e
  subst e
  have e1 : some (Obj.cells cs t (0, 0)) = some (Obj.cells cs' t' (0, 0)) := Eq.trans (Eq.symm h) h'
  injection e1 with e2
  injection e2 with _ e3
  exact hne e3
end

/-- What a row that the call owns is, when it is not nil: a block known whole. -/
theorem own_form {w : World} {base : Nat} {e : TypeId} {size n : Nat} {v : Value} {xs : List Value} (h : w.ownsRow base e size v n xs) (hv : v ≠ .slice none 0 0) :
    ∃ g cap cur, v = .slice (some ⟨g, 0, none⟩) n cap ∧ base ≤ g ∧ Whole w g e cur ∧ n ≤ cap ∧ cap ≤ maxLen ∧ cur.size = cap * size ∧ cur.toList.take (n * size) = xs := by
  rcases h.2 with ⟨rfl, _⟩ | ⟨g, cap, cur, h1, h2, h3, h4, h5, h6, h7⟩
  · exact absurd rfl hv
  · exact ⟨g, cap, cur, h1, h2, h3, h4, h5, h6, h7⟩

/-- A cell of such a row. -/
theorem take_get {cur : Array Value} {n : Nat} {xs : List Value} (h : cur.toList.take n = xs) {i : Nat} {u : Value} (hi : xs[i]? = some u) : cur[i]? = some u := by
  subst h
  rw [List.getElem?_take] at hi
  split at hi
  · simpa using hi
  · cases hi

theorem below_drewN' {B : Nat} {a w : World} (h : Below B a w) (n : Nat) : Below B a (w.drewN n) := ⟨h.os, h.tape, h.output, h.size, h.block⟩

end Go.Proofs.Ytapbodiakkdfmaa

namespace Go.Proofs.Ytapbodiakkdfmaa
open Go.RowKit
set_option linter.unusedVariables false

/-- Of the blocks that w has only those in S may be others in w'; none has gone. -/
structure Only (S : Nat → Prop) (w w' : World) : Prop where
  os : w'.os = w.os
  tape : w'.tape = w.tape
  output : w'.output = w.output
  size : w.heap.size ≤ w'.heap.size
  block : ∀ k, k < w.heap.size → ¬ S k → w'.heap[k]? = w.heap[k]?

section
variable {S T : Nat → Prop} {a w w' : World}
theorem Only.refl (S : Nat → Prop) (w : World) : Only S w w := ⟨rfl, rfl, rfl, Nat.le_refl _, fun _ _ _ => rfl⟩
/-- Two steps; the second may turn new blocks too. -/
theorem Only.next (h : Only S a w) (k : Only T w w') (hs : ∀ j, T j → S j ∨ a.heap.size ≤ j) : Only S a w' :=
  ⟨k.os.trans h.os, k.tape.trans h.tape, k.output.trans h.output, Nat.le_trans h.size k.size, fun i hi hn =>
    (k.block i (Nat.lt_of_lt_of_le hi h.size) (fun ht => by
      rcases hs i ht with h1 | h1
      · exact hn h1
      · omega)).trans (h.block i hi hn)⟩
theorem Only.mono (h : Only S w w') (hs : ∀ j, S j → T j) : Only T w w' := ⟨h.os, h.tape, h.output, h.size, fun i hi hn => h.block i hi (fun e => hn (hs i e))⟩
theorem Only.drewN (h : Only S a w) (n : Nat) : Only S a (w.drewN n) := ⟨h.os, h.tape, h.output, h.size, h.block⟩
theorem Only.drew (h : Only S a w) : Only S a w.drew := ⟨h.os, h.tape, h.output, h.size, h.block⟩
theorem Only.alloc (h : Only S a w) (o : Obj) : Only S a (w.alloc o) :=
  ⟨h.os, h.tape, h.output, Nat.le_trans h.size (by simp), fun i hi hn => (Below.heap_alloc w o i (Nat.lt_of_lt_of_le hi h.size)).trans (h.block i hi hn)⟩
theorem Only.setCell (h : Only S a w) {p : Addr} (hp : S p.block ∨ a.heap.size ≤ p.block) (u : Value) : Only S a (w.setCell p u) :=
  ⟨h.os, h.tape, h.output, by simpa [World.setCell] using h.size, fun i hi hn => (Below.heap_setCell w p u i (by
    intro e
    subst e
    rcases hp with hp | hp
    · exact hn hp
    · omega)).trans (h.block i hi hn)⟩
theorem Only.grown {row : Option Nat} (h : Only S a w) (hg : w.grownBy w' row) (hr : ∀ k, row = some k → S k ∨ a.heap.size ≤ k) : Only S a w' :=
  h.next (T := fun k => row = some k) ⟨hg.os, hg.tape, hg.output, hg.size, fun i hi hn => hg.block i hi (fun e => hn e.symm)⟩ (fun j e => hr j e)
theorem Only.under (h : Only S a w) (hb : Below w.heap.size w w') : Only S a w' :=
  h.next (T := fun _ => False) ⟨hb.os, hb.tape, hb.output, hb.size, fun i hi _ => hb.block i hi⟩ (fun _ e => e.elim)
theorem Only.below {B : Nat} (h : Only S w w') (hs : ∀ k, S k → B ≤ k) (hB : B ≤ w.heap.size) : Below B w w' :=
  ⟨h.os, h.tape, h.output, h.size, fun k hk => h.block k (by omega) (fun e => by have := hs k e; omega)⟩
theorem Only.same (h : Only S w w') {o : Obj} {k : Nat} (hk : w.heap[k]? = some o) (hn : ¬ S k) : w'.heap[k]? = some o := (h.block k (Array.getElem?_eq_some_iff.1 hk).1 hn).trans hk
theorem Only.toGrown {row : Option Nat} (h : Only (fun k => row = some k) w w') : w.grownBy w' row := ⟨h.os, h.tape, h.output, h.size, fun k hk hn => h.block k hk (fun e => hn e.symm)⟩
theorem Whole.only {g : Nat} {t : TypeId} {cs : Array Value} (h : Whole w g t cs) (k : Only S w w') (hn : ¬ S g) : Whole w' g t cs := k.same h hn
end

/-- The slice v reads as xs; ob is the block in which it lies, if it has room for anything. -/
def Sl (w : World) (e : TypeId) (v : Value) (xs : List Value) (ob : Option Nat) : Prop :=
  (∃ A, v = .slice A 0 0 ∧ xs = [] ∧ ob = none) ∨
  ∃ g off cap cur, v = .slice (some ⟨g, off, none⟩) xs.length cap ∧ ob = some g ∧ Whole w g e cur ∧ xs.length ≤ cap ∧ cap ≤ maxLen ∧ off + cap ≤ cur.size ∧ ∀ i, i < xs.length → cur[off + i]? = xs[i]?

section
variable {w w' : World} {e : TypeId} {v : Value} {xs : List Value} {ob : Option Nat}

theorem Sl.nil (w : World) (e : TypeId) : Sl w e (.slice none 0 0) [] none := .inl ⟨none, rfl, rfl, rfl⟩
theorem Sl.form (h : Sl w e v xs ob) : ∃ A cap, v = .slice A xs.length cap ∧ xs.length ≤ cap ∧ cap ≤ maxLen := by
  rcases h with ⟨A, rfl, rfl, _⟩ | ⟨g, off, cap, cur, rfl, _, _, h1, h2, _⟩
  · exact ⟨A, 0, rfl, Nat.le_refl _, by unfold maxLen; omega⟩
  · exact ⟨_, cap, rfl, h1, h2⟩
theorem Sl.lt (h : Sl w e v xs ob) {g : Nat} (hg : ob = some g) : g < w.heap.size := by
  rcases h with ⟨A, rfl, rfl, h0⟩ | ⟨g', off, cap, cur, rfl, h0, hw, _⟩
  · rw [h0] at hg; cases hg
  · rw [h0] at hg; cases hg; exact hw.lt
/-- An element's place and what lies there. -/
theorem Sl.at_ (h : Sl w e v xs ob) {i : Nat} (hi : i < xs.length) : ∃ g off cap, v = .slice (some ⟨g, off, none⟩) xs.length cap ∧ ob = some g ∧ g < w.heap.size ∧ w.cell? ⟨g, off + i, none⟩ = xs[i]? ∧ w.frozen? ⟨g, off + i, none⟩ = false := by
  rcases h with ⟨A, rfl, rfl, _⟩ | ⟨g, off, cap, cur, rfl, h0, hw, h1, h2, h3, h4⟩
  · simp at hi
  · exact ⟨g, off, cap, rfl, h0, hw.lt, (hw.cell _).trans (h4 i hi), hw.frz _⟩
theorem Sl.keep (h : Sl w e v xs ob) (hk : ∀ g cs, ob = some g → Whole w g e cs → Whole w' g e cs) : Sl w' e v xs ob := by
  rcases h with h | ⟨g, off, cap, cur, hv, h0, hw, hr⟩
  · exact .inl h
  · exact .inr ⟨g, off, cap, cur, hv, h0, hk g cur h0 hw, hr⟩
theorem Sl.only {S : Nat → Prop} (h : Sl w e v xs ob) (k : Only S w w') (hn : ∀ g, ob = some g → ¬ S g) : Sl w' e v xs ob := h.keep fun g _ hg hw => hw.only k (hn g hg)
theorem Sl.under (h : Sl w e v xs ob) (k : Below w.heap.size w w') : Sl w' e v xs ob := h.keep fun g _ _ hw => hw.under k
theorem Sl.alloc (h : Sl w e v xs ob) (o : Obj) : Sl (w.alloc o) e v xs ob := h.keep fun _ _ _ hw => hw.alloc o
theorem Sl.far (h : Sl w e v xs ob) {p : Addr} (hp : ob ≠ some p.block) (u : Value) : Sl (w.setCell p u) e v xs ob := h.keep fun g _ hg hw => hw.far (fun e => hp (by rw [hg, e])) u
theorem Sl.drewN (h : Sl w e v xs ob) (n : Nat) : Sl (w.drewN n) e v xs ob := h
/-- An element is written. -/
theorem Sl.set (h : Sl w e v xs ob) {g off cap : Nat} (hv : v = .slice (some ⟨g, off, none⟩) xs.length cap) {i : Nat} (hi : i < xs.length) (u : Value) : Sl (w.setCell ⟨g, off + i, none⟩ u) e v (xs.set i u) ob := by
  rcases h with ⟨A, rfl, rfl, _⟩ | ⟨g', off', cap', cur, rfl, h0, hw, h1, h2, h3, h4⟩
  · simp at hi
  · injection hv with e1 e2 e3
    cases e1; subst e3
    refine .inr ⟨g, off, cap', _, by rw [List.length_set], h0, hw.set _ u, by simpa using h1, h2, by simpa using h3, fun j hj => ?_⟩
    simp only [List.length_set] at hj
    rw [Array.getElem?_setIfInBounds, List.getElem?_set]
    by_cases e : i = j
    · subst e
      have : off + i < cur.size := by omega
      simp [hi, this]
    · have : ¬ off + i = off + j := by omega
      rw [if_neg this, if_neg e]
      exact h4 j hj
/-- The slice without its first element. -/
theorem Sl.tail (h : Sl w e v xs ob) {g off cap : Nat} (hv : v = .slice (some ⟨g, off, none⟩) xs.length cap) (hx : 0 < xs.length) :
    Sl w e (.slice (if cap = 1 then some ⟨g, off, none⟩ else some ⟨g, off + 1, none⟩) (xs.length - 1) (cap - 1)) (xs.drop 1) (if cap = 1 then none else ob) := by
  rcases h with ⟨A, rfl, rfl, _⟩ | ⟨g', off', cap', cur, rfl, h0, hw, h1, h2, h3, h4⟩
  · simp at hx
  · injection hv with e1 e2 e3
    cases e1; subst e3
    by_cases e : cap' = 1
    · subst e
      rw [if_pos rfl, if_pos rfl]
      have hl : xs.length = 1 := by omega
      have hd : xs.drop 1 = [] := List.eq_nil_of_length_eq_zero (by rw [List.length_drop]; omega)
      exact .inl ⟨_, by rw [hl], hd, rfl⟩
    · rw [if_neg e, if_neg e]
      refine .inr ⟨g, off + 1, cap' - 1, cur, by rw [List.length_drop], h0, hw, by rw [List.length_drop]; omega, by omega, by omega, fun i hi => ?_⟩
      rw [List.length_drop] at hi
      rw [List.getElem?_drop, ← h4 (1 + i) (by omega)]
      congr 1
      omega
/-- What lies in a block of elements of another type than the slice's is another block. -/
theorem Sl.ne_whole (h : Sl w e v xs ob) {g : Nat} {t : TypeId} {cs : Array Value} (hg : Whole w g t cs) (hne : e ≠ t) : ob ≠ some g := by
  rcases h with ⟨A, _, _, rfl⟩ | ⟨g', off, cap, cur, _, rfl, hw, _⟩
  · simp
  · intro e1
    cases e1
    exact hw.ne hg hne rfl
theorem Sl.of_own {base n : Nat} (h : w.ownsRow base e 1 v n xs) : ∃ ob, Sl w e v xs ob ∧ ob = v.ownBlock := by
  have hl := h.1
  rcases h.2 with ⟨rfl, rfl⟩ | ⟨g, cap, cur, rfl, hb, hw, h1, h2, h3, h4⟩
  · obtain rfl : xs = [] := List.eq_nil_of_length_eq_zero (by simpa using hl)
    exact ⟨none, Sl.nil w e, rfl⟩
  · rw [Nat.mul_one] at hl h3 h4
    subst hl
    refine ⟨some g, .inr ⟨g, 0, cap, cur, rfl, rfl, hw, h1, h2, by omega, fun i hi => ?_⟩, rfl⟩
    rw [Nat.zero_add]
    have hx := List.getElem?_eq_getElem hi
    rw [hx]
    exact take_get h4 hx
end

section
variable {P : Program} {w : World} {e : TypeId} {v : Value} {xs : List Value} {ob : Option Nat}

/-- One element is appended: there is room, or a new block is made. -/
theorem run_append_sl (t ty : TypeId) (i : TypeInfo) (z : Value) (bytes : Nat) (ht : P.underlying t = some (.slice e)) (hi : P.info? e = some i) (hz : i.zero = some z) (hsize : i.size = 1) (hby : i.bytes = bytes) (hzs : z.cells.size = 1)
    (h : Sl w e v xs ob) (ad : Addr) (c : Nat) (x : Value) (hx : w.cell? ad = some x) (h1 : x.oneCell' = true) (h63 : xs.length + 1 ≤ maxLen) (hbytes : (xs.length + 1) * bytes ≤ 140737488355328) :
    ∃ g off cap w', (Builtin.append_ #[t, t] ty #[v, .slice (some ad) 1 c]).run P w = .ok (.slice (some ⟨g, off, none⟩) (xs.length + 1) cap) w' ∧
      Sl w' e (.slice (some ⟨g, off, none⟩) (xs.length + 1) cap) (xs ++ [x]) (some g) ∧ w.grownBy w' ob ∧ (ob = some g ∨ w.heap.size ≤ g) := by
  have hn : ∀ j u, [x][j]? = some u → w.cell? (ad.add j) = some u := by
    intro j u hj
    match j, hj with
    | 0, hj => simp at hj; subst hj; rw [show ad.add 0 = ad from rfl]; exact hx
  have hone : ∀ u ∈ [x], u.oneCell' = true := by intro u hu; simp at hu; subst hu; exact h1
  have fin : ∀ v' w', w'.ownsRow w.heap.size e 1 v' (xs.length + 1) (xs ++ [x]) → ∃ g off cap, v' = .slice (some ⟨g, off, none⟩) (xs.length + 1) cap ∧ Sl w' e (.slice (some ⟨g, off, none⟩) (xs.length + 1) cap) (xs ++ [x]) (some g) ∧ w.heap.size ≤ g := by
    intro v' w' hown
    obtain ⟨ob', hs, ho⟩ := Sl.of_own hown
    rcases hown.2 with ⟨_, h0⟩ | ⟨g, cap, cur, rfl, hb, _⟩
    · omega
    · exact ⟨g, 0, cap, rfl, by rw [ho] at hs; exact hs, hb⟩
  rcases h with ⟨A, rfl, rfl, rfl⟩ | ⟨g, off, cap, cur, rfl, rfl, hw, hl, hm, hs, hat⟩
  · cases A with
    | none =>
      obtain ⟨v', w', hrun, r1, r2, _⟩ := run_append_own (P := P) w w.heap.size t ty e i z 1 bytes ht hi hz hsize hby hzs (by decide) (.slice none 0 0) 0 [] (World.ownsRow_nil w _ e 1) ad 1 c [x] rfl hn hone h63 hbytes (Nat.le_refl _)
      obtain ⟨g, off, cap, rfl, hsl, hb⟩ := fin v' w' r1
      exact ⟨g, off, cap, w', hrun, hsl, r2, .inr hb⟩
    | some b =>
      obtain ⟨v', w', hrun, r1, r2⟩ := run_append_arg_grows (P := P) w t ty e i z 1 bytes ht hi hz hsize hby hzs (by decide) b 0 0 [] rfl (by simp) ad 1 c [x] rfl hn (by simp) h63 hbytes
      obtain ⟨g, off, cap, rfl, hsl, hb⟩ := fin v' w' r1
      exact ⟨g, off, cap, w', hrun, hsl, r2, .inr hb⟩
  · by_cases hr : xs.length + 1 ≤ cap
    · have hin : off + xs.length < cur.size := by omega
      have hrun := run_append_room_cells (P := P) w t ty e i ht hi g off xs.length cap ad 1 c [x] (by rw [hsize]; rfl) hn hone hr
        (fun j hj => by
          have hj0 : j = 0 := by simpa using hj
          subst hj0
          rw [hsize, Nat.mul_one, Nat.add_zero, hw.cell, Array.getElem?_eq_getElem hin]; rfl)
        (fun j hj => hw.frz _)
      rw [hsize, Nat.mul_one] at hrun
      refine ⟨g, off, cap, _, hrun, ?_, ?_, .inl rfl⟩
      · refine .inr ⟨g, off, cap, _, by simp, rfl, hw.set _ x, by simpa using hr, hm, by simpa using hs, fun j hj => ?_⟩
        simp only [List.length_append, List.length_cons, List.length_nil] at hj
        rw [Array.getElem?_setIfInBounds]
        by_cases ej : j = xs.length
        · subst ej
          rw [if_pos rfl, if_pos hin]
          simp
        · have hj' : j < xs.length := by omega
          rw [if_neg (by omega), List.getElem?_append_left hj']
          exact hat j hj'
      · exact ((Only.refl (fun k => some g = some k) w).setCell (p := ⟨g, off + xs.length, none⟩) (.inl rfl) x).toGrown
    · obtain ⟨v', w', hrun, r1, r2⟩ := run_append_arg_grows (P := P) w t ty e i z 1 bytes ht hi hz hsize hby hzs (by decide) ⟨g, off, none⟩ xs.length cap xs (by simp)
        (fun j u hj => by
          have hjl : j < xs.length := (List.getElem?_eq_some_iff.1 hj).1
          rw [Addr.add_lit, hw.cell, hat j hjl, hj]) ad 1 c [x] rfl hn (by omega) h63 hbytes
      obtain ⟨g', off', cap', rfl, hsl, hb⟩ := fin v' w' r1
      exact ⟨g', off', cap', w', hrun, hsl, ⟨r2.os, r2.tape, r2.output, r2.size, fun k hk hne => r2.block k hk (by simp)⟩, .inr hb⟩

theorem wp_append_sl {o : Oper} {a : Act} {K : Act → World → Prop} {Q : Exit → Act → World → Prop} (s y : Operand) (t : TypeId)
    (ho : o.op = .call { callee := .builtin .append, args := #[s, y], argTypes := #[t, t] })
    (i : TypeInfo) (z : Value) (bytes : Nat) (ht : P.underlying t = some (.slice e)) (hi : P.info? e = some i) (hz : i.zero = some z) (hsize : i.size = 1) (hby : i.bytes = bytes) (hzs : z.cells.size = 1)
    (hs : a.eval s = v) (n : Nat) (hn : xs.length = n) (h : Sl w e v xs ob) (ad : Addr) (c : Nat) (hy : a.eval y = .slice (some ad) 1 c) (x : Value) (hx : w.cell? ad = some x) (h1 : x.oneCell' = true) (h63 : n + 1 ≤ maxLen) (hbytes : (n + 1) * bytes ≤ 140737488355328)
    (hK : ∀ g off cap w', Sl w' e (.slice (some ⟨g, off, none⟩) (n + 1) cap) (xs ++ [x]) (some g) → w.grownBy w' ob → (ob = some g ∨ w.heap.size ≤ g) → K (a.put o.dst (.slice (some ⟨g, off, none⟩) (n + 1) cap)) w') : o.wp P a w K Q := by
  subst hn
  obtain ⟨g, off, cap, w', hr, h2, h3, h4⟩ := run_append_sl (P := P) t o.type i z bytes ht hi hz hsize hby hzs h ad c x hx h1 h63 hbytes
  unfold Oper.wp execOp
  simp only [ho, resolve, invoke, builtin, Sem.run_bind, Sem.run_pure, Result.andThen_ok, List.map_toArray, List.map_cons, List.map_nil, hs, hy, hr]
  exact hK g off cap w' h2 h3 h4

theorem wpList_append_sl {ops : Array Oper} {rest : List Oper} {o : Oper} {a : Act} {Q : Exit → Act → World → Prop} (hgd : o.guard = none) (s y : Operand) (t : TypeId)
    (ho : o.op = .call { callee := .builtin .append, args := #[s, y], argTypes := #[t, t] })
    (i : TypeInfo) (z : Value) (bytes : Nat) (ht : P.underlying t = some (.slice e)) (hi : P.info? e = some i) (hz : i.zero = some z) (hsize : i.size = 1) (hby : i.bytes = bytes) (hzs : z.cells.size = 1)
    (hs : a.eval s = v) (n : Nat) (hn : xs.length = n) (h : Sl w e v xs ob) (ad : Addr) (c : Nat) (hy : a.eval y = .slice (some ad) 1 c) (x : Value) (hx : w.cell? ad = some x) (h1 : x.oneCell' = true) (h63 : n + 1 ≤ maxLen) (hbytes : (n + 1) * bytes ≤ 140737488355328)
    (hK : ∀ g off cap w', Sl w' e (.slice (some ⟨g, off, none⟩) (n + 1) cap) (xs ++ [x]) (some g) → w.grownBy w' ob → (ob = some g ∨ w.heap.size ≤ g) → wpList P ops Q rest (a.put o.dst (.slice (some ⟨g, off, none⟩) (n + 1) cap)) w') :
    wpList P ops Q (o :: rest) a w :=
  wpList_plain hgd fun _ hk => wp_append_sl s y t ho i z bytes ht hi hz hsize hby hzs hs n hn h ad c hy x hx h1 h63 hbytes fun g off cap w' h2 h3 h4 => hk _ _ (hK g off cap w' h2 h3 h4)

theorem step_append_sl {ops : Array Oper} {o : Oper} {a : Act} {K : Act → World → Prop} {Q : Exit → Act → World → Prop} {E : Prop} (hgd : o.guard = none) (s y : Operand) (t : TypeId)
    (ho : o.op = .call { callee := .builtin .append, args := #[s, y], argTypes := #[t, t] })
    (i : TypeInfo) (z : Value) (bytes : Nat) (ht : P.underlying t = some (.slice e)) (hi : P.info? e = some i) (hz : i.zero = some z) (hsize : i.size = 1) (hby : i.bytes = bytes) (hzs : z.cells.size = 1)
    (hs : a.eval s = v) (n : Nat) (hn : xs.length = n) (h : Sl w e v xs ob) (ad : Addr) (c : Nat) (hy : a.eval y = .slice (some ad) 1 c) (x : Value) (hx : w.cell? ad = some x) (h1 : x.oneCell' = true) (h63 : n + 1 ≤ maxLen) (hbytes : (n + 1) * bytes ≤ 140737488355328)
    (hK : ∀ g off cap w', Sl w' e (.slice (some ⟨g, off, none⟩) (n + 1) cap) (xs ++ [x]) (some g) → w.grownBy w' ob → (ob = some g ∨ w.heap.size ≤ g) → K (a.put o.dst (.slice (some ⟨g, off, none⟩) (n + 1) cap)) w') :
    if Region.wanted o (yielded ops a.tmps) = true then Oper.wp P o a w K Q else E := by
  have hw : Region.wanted o (yielded ops a.tmps) = true := by simp [Region.wanted, hgd]
  rw [if_pos hw]
  exact wp_append_sl s y t ho i z bytes ht hi hz hsize hby hzs hs n hn h ad c hy x hx h1 h63 hbytes hK

end

end Go.Proofs.Ytapbodiakkdfmaa

namespace Go.Proofs.Ytapbodiakkdfmaa
end Go.Proofs.Ytapbodiakkdfmaa

namespace Go.Proofs.Ytapbodiakkdfmaa
open Go.RowKit
set_option linter.unusedVariables false

def arr (k : IntKind) (ws : List Int) : Array Value := (ws.map (Value.int k)).toArray
@[simp] theorem arr_size (k : IntKind) (ws : List Int) : (arr k ws).size = ws.length := by simp [arr]
theorem arr_get {k : IntKind} {ws : List Int} {i : Nat} (h : i < ws.length) : (arr k ws)[i]? = some (.int k (ws.getD i 0)) := by
  simp [arr, List.getD, h]
theorem arr_set (k : IntKind) (ws : List Int) (i : Nat) (x : Int) : (arr k ws).setIfInBounds i (.int k x) = arr k (ws.set i x) := by
  simp [arr]
theorem arr_one (k : IntKind) (ws : List Int) : (arr k ws).all (·.oneCell') = true := by
  rw [Array.all_eq_true_iff_forall_mem]
  intro v hv
  simp [arr] at hv
  obtain ⟨x, _, rfl⟩ := hv
  rfl
theorem arr_toList (k : IntKind) (ws : List Int) : (arr k ws).toList = ws.map (Value.int k) := by simp [arr]

section
variable {w w' : World} {g : Nat} {t : TypeId} {k : IntKind} {ws : List Int}
theorem Whole.at_ (h : Whole w g t (arr k ws)) {i : Nat} (hi : i < ws.length) : w.cell? ⟨g, i, none⟩ = some (.int k (ws.getD i 0)) := (h.cell i).trans (arr_get hi)
theorem Whole.put (h : Whole w g t (arr k ws)) (i : Nat) (x : Int) : Whole (w.setCell ⟨g, i, none⟩ (.int k x)) g t (arr k (ws.set i x)) := by
  have := h.set i (.int k x)
  rwa [arr_set] at this
theorem Whole.new2 (w : World) (o : Obj) (t : TypeId) (cs : Array Value) : Whole ((w.alloc o).alloc (.cells cs t)) (w.heap.size + 1) t cs := by
  have := Whole.new (w.alloc o) t cs
  rw [World.size_alloc] at this
  exact this
/-- A whole array is stored. -/
theorem Whole.row {old : Array Value} (h : Whole w g t old) (cs : Array Value) : Whole (w.setRow g cs) g t cs := setRow_heap w g old cs t (0, 0) h
theorem Whole.farRow {cs : Array Value} (h : Whole w g t cs) {g' : Nat} (hne : g ≠ g') (cs' : Array Value) : Whole (w.setRow g' cs') g t cs := (setRow_other w g' g cs' hne).trans h
theorem below_row {B : Nat} {a w : World} (h : Below B a w) {g : Nat} (hg : B ≤ g) (cs : Array Value) : Below B a (w.setRow g cs) := below_setRow h hg cs
end

/-- Below, where a block of the call's own is stored into whole. -/
theorem two_new {w : World} (t t' : TypeId) (cs cs' : Array Value) : Below w.heap.size w ((w.alloc (.cells cs t)).alloc (.cells cs' t')) := ((Below.refl _ w).alloc (Nat.le_refl _) _).alloc (by simp) _

section
variable {ops : Array Oper} {rest : List Oper} {o : Oper} {a : Act} {w : World} {Q : Exit → Act → World → Prop} {g : Nat} {t ty : TypeId} {cs : Array Value} {n : Nat}
/-- A whole array is loaded. -/
theorem wpList_load_whole (hgd : o.guard = none) (ty : TypeId) (x : Operand) (ho : o.op = .load ty x) (hx : a.eval x = .pointer (some ⟨g, 0, none⟩)) (hg : Whole w g t cs)
    {m : Nat} {e : TypeId} (hu : Try.prog.underlying ty = some (.array m e)) (hi : (Try.prog.info? ty).map (·.size) = some n) (hn : cs.size = n)
    (h : wpList Try.prog ops Q rest (a.put o.dst (.agg cs)) w) : wpList Try.prog ops Q (o :: rest) a w :=
  wpList_load_row hgd ty x ho g hx t cs (0, 0) _ hg hu rfl (by rw [hi, hn]) h
/-- A whole array is stored. -/
theorem wpList_store_whole {old : Array Value} (hgd : o.guard = none) (ty : TypeId) (x y : Operand) (ho : o.op = .store ty x y) (hx : a.eval x = .pointer (some ⟨g, 0, none⟩)) (hy : a.eval y = .agg cs) (hg : Whole w g t old)
    (hi : (Try.prog.info? ty).map (·.size) = some n) (hn : cs.size = n) (hold : old.size = n) (h1 : cs.all (·.oneCell') = true)
    (h : wpList Try.prog ops Q rest (a.put o.dst undef) (w.setRow g cs)) : wpList Try.prog ops Q (o :: rest) a w :=
  wpList_store_row hgd ty x y ho g cs hx hy t old hg (by rw [hi, hn]) (by rw [hn, hold]) h1 h
end

/-- The cells of a block of five numbers, and that they may be written. -/
theorem Whole.five {w : World} {g : Nat} {t : TypeId} {a b c d e : Int} (h : Whole w g t (arr .u32 [a, b, c, d, e])) :
    w.cell? ⟨g, 0, none⟩ = some (.int .u32 a) ∧ w.cell? ⟨g, 1, none⟩ = some (.int .u32 b) ∧ w.cell? ⟨g, 2, none⟩ = some (.int .u32 c) ∧ w.cell? ⟨g, 3, none⟩ = some (.int .u32 d) ∧ w.cell? ⟨g, 4, none⟩ = some (.int .u32 e) ∧
    w.frozen? ⟨g, 0, none⟩ = false ∧ w.frozen? ⟨g, 1, none⟩ = false ∧ w.frozen? ⟨g, 2, none⟩ = false ∧ w.frozen? ⟨g, 3, none⟩ = false ∧ w.frozen? ⟨g, 4, none⟩ = false :=
  ⟨h.cell 0, h.cell 1, h.cell 2, h.cell 3, h.cell 4, h.frz 0, h.frz 1, h.frz 2, h.frz 3, h.frz 4⟩
/-- Five numbers are stored one by one. -/
theorem Whole.put5 {w : World} {g : Nat} {t : TypeId} {a b c d e a' b' c' d' e' : Int} (h : Whole w g t (arr .u32 [a, b, c, d, e])) :
    Whole (((((w.setCell ⟨g, 0, none⟩ (.int .u32 a')).setCell ⟨g, 1, none⟩ (.int .u32 b')).setCell ⟨g, 2, none⟩ (.int .u32 c')).setCell ⟨g, 3, none⟩ (.int .u32 d')).setCell ⟨g, 4, none⟩ (.int .u32 e')) g t (arr .u32 [a', b', c', d', e']) :=
  ((((h.put 0 a').put 1 b').put 2 c').put 3 d').put 4 e'
theorem below_put5 {B : Nat} {a w : World} (h : Below B a w) {g : Nat} (hg : B ≤ g) (u0 u1 u2 u3 u4 : Value) :
    Below B a (((((w.setCell ⟨g, 0, none⟩ u0).setCell ⟨g, 1, none⟩ u1).setCell ⟨g, 2, none⟩ u2).setCell ⟨g, 3, none⟩ u3).setCell ⟨g, 4, none⟩ u4) :=
  ((((h.setCell (p := ⟨g, 0, none⟩) hg _).setCell (p := ⟨g, 1, none⟩) hg _).setCell (p := ⟨g, 2, none⟩) hg _).setCell (p := ⟨g, 3, none⟩) hg _).setCell (p := ⟨g, 4, none⟩) hg _

theorem wp_store_whole {o : Oper} {a : Act} {w : World} {K : Act → World → Prop} {Q : Exit → Act → World → Prop} {g n : Nat} {t : TypeId} {cs old : Array Value} (ty : TypeId) (x y : Operand) (ho : o.op = .store ty x y) (hx : a.eval x = .pointer (some ⟨g, 0, none⟩)) (hy : a.eval y = .agg cs) (hg : Whole w g t old)
    (hi : (Try.prog.info? ty).map (·.size) = some n) (hn : cs.size = n) (hold : old.size = n) (h1 : cs.all (·.oneCell') = true)
    (h : K (a.put o.dst undef) (w.setRow g cs)) : o.wp Try.prog a w K Q :=
  wp_store_row ty x y ho g cs hx hy t old hg (by rw [hi, hn]) (by rw [hn, hold]) h1 h
/-- The same at a step of a region that draws its order. -/
theorem step_store_whole {ops : Array Oper} {o : Oper} {a : Act} {w : World} {K : Act → World → Prop} {Q : Exit → Act → World → Prop} {E : Prop} {g n : Nat} {t : TypeId} {cs old : Array Value} (hgd : o.guard = none) (ty : TypeId) (x y : Operand) (ho : o.op = .store ty x y) (hx : a.eval x = .pointer (some ⟨g, 0, none⟩)) (hy : a.eval y = .agg cs) (hg : Whole w g t old)
    (hi : (Try.prog.info? ty).map (·.size) = some n) (hn : cs.size = n) (hold : old.size = n) (h1 : cs.all (·.oneCell') = true)
    (h : K (a.put o.dst undef) (w.setRow g cs)) : if Region.wanted o (yielded ops a.tmps) = true then Oper.wp Try.prog o a w K Q else E := by
  have hw : Region.wanted o (yielded ops a.tmps) = true := by simp [Region.wanted, hgd]
  rw [if_pos hw]
  exact wp_store_whole ty x y ho hx hy hg hi hn hold h1 h

theorem ret_whole {fn : Func} {p : Tmp} {ty t : TypeId} {cs : Array Value} {n g : Nat} {tmps : Array Value} {w : World} (h : fn.results = #[.cell p ty]) (hp : tmps.getD p undef = .pointer (some ⟨g, 0, none⟩)) (hg : Whole w g t cs)
    {m : Nat} {e : TypeId} (hu : Try.prog.underlying ty = some (.array m e)) (hi : (Try.prog.info? ty).map (·.size) = some n) (hn : cs.size = n) :
    (results fn tmps).run Try.prog w = .ok (.agg cs) w :=
  results_cell_row h tmps w g t cs (0, 0) _ hp hg hu rfl (by rw [hi, hn])

/-- An array's element, by value. -/
theorem run_index_arr {T e : TypeId} {m : Nat} {ik : IntKind} (hu : Try.prog.underlying T = some (.array m e)) (he : Try.prog.underlying e = some (.int ik)) (hz : ∀ w, (sizeOf e).run Try.prog w = .ok 1 w) (w : World) (k : IntKind) (L : List Int) (i : Nat) (hi : i < L.length) (hm : m = L.length) :
    (Instr.index T (.agg (arr k L)) (.int .i64 i)).run Try.prog w = .ok (.int k (L.getD i 0)) w := by
  have h1 := arr_get (k := k) hi
  simp [Instr.index, asIntOf, Sem.run_bind, run_underlying hu, hz, part, run_underlying he, h1, isAgg]
  omega

theorem Try.infoU8 : (Try.prog.info? 5).map (fun i => (i.zero, i.size, i.bytes)) = some (some (.int .u8 0), 1, 1) := by kernel_rfl

set_option maxRecDepth 20000 in
/-- make([]byte, n). -/
theorem make_bytes (n : Nat) (hn : n ≤ 281474976710656) (w : World) : (Instr.makeSlice 22 (.int .i64 n) (.int .i64 n)).run Try.prog w = .ok (.slice (some ⟨w.heap.size, 0, none⟩) n n) (w.alloc (.cells (arr .u8 (List.replicate n 0)) 5)) := by
  obtain ⟨i0, hi, hz0, hz1, hz2⟩ := info_parts Try.infoU8
  have h := run_make (P := Try.prog) w 22 5 i0 (.int .u8 0) Try.underlying22 hi hz0 .i64 .i64 n n (by omega) (by omega) (by rw [hz2]; omega) (by omega)
  rw [h]
  congr 1
  congr 1
  apply congrArg (fun c => Obj.cells c 5)
  rw [hz1]
  apply Array.ext
  · simp [madeCells, arr]
  · intro j h1 h2
    simp [madeCells, arr, Value.cells, Nat.mod_one]

/-- n bytes lie at A, in blocks below B; they are xs. -/
def Bs (w : World) (B : Nat) (A : Option Addr) (n : Nat) (xs : List Int) : Prop :=
  xs.length = n ∧ (0 < n → ∃ ad, A = some ad ∧ ad.block < B ∧ ∀ i, i < n → w.cell? (ad.add i) = some (.int .u8 (xs.getD i 0)))

theorem add_block (a : Addr) (n : Nat) : (a.add n).block = a.block := by unfold Addr.add; split <;> rfl
theorem add_add (a : Addr) (n m : Nat) : (a.add n).add m = a.add (n + m) := by
  unfold Addr.add
  by_cases h0 : n = 0 <;> by_cases h1 : m = 0 <;> simp [h0, h1] <;> omega

section
variable {w w' : World} {B : Nat} {A : Option Addr} {n : Nat} {xs : List Int}
theorem Bs.below (h : Bs w B A n xs) (hb : Below B w w') : Bs w' B A n xs :=
  ⟨h.1, fun hn => by
    obtain ⟨ad, h1, h2, h3⟩ := h.2 hn
    exact ⟨ad, h1, h2, fun i hi => (hb.cell (p := ad.add i) (by rw [add_block]; exact h2)).trans (h3 i hi)⟩⟩
theorem Bs.more {B' : Nat} (h : Bs w B A n xs) (hB : B ≤ B') : Bs w B' A n xs :=
  ⟨h.1, fun hn => by
    obtain ⟨ad, h1, h2, h3⟩ := h.2 hn
    exact ⟨ad, h1, by omega, h3⟩⟩
theorem Bs.cut (h : Bs w B A n xs) {k cap : Nat} (hk : k ≤ n) (hc : n ≤ cap) : Bs w B (if cap = k then A else A.map (·.add k)) (n - k) (xs.drop k) := by
  refine ⟨by rw [List.length_drop, h.1], fun hn => ?_⟩
  obtain ⟨ad, rfl, h2, h3⟩ := h.2 (by omega)
  rw [if_neg (by omega)]
  refine ⟨ad.add k, rfl, by rw [add_block]; exact h2, fun i hi => ?_⟩
  rw [add_add, h3 (k + i) (by omega)]
  simp [List.getD]
theorem Bs.head (h : Bs w B A n xs) {k : Nat} (hk : k ≤ n) : Bs w B A k (xs.take k) :=
  ⟨by rw [List.length_take, h.1]; omega, fun hn => by
    obtain ⟨ad, h1, h2, h3⟩ := h.2 (by omega)
    refine ⟨ad, h1, h2, fun i hi => ?_⟩
    rw [h3 i (by omega)]
    simp [List.getD, hi]⟩
end

/-- A row of bytes in a block that is known whole, from its place off on. -/
theorem Bs.row {w : World} {g : Nat} {t : TypeId} {ys : List Int} (h : Whole w g t (arr .u8 ys)) (off : Nat) (ho : off ≤ ys.length) : Bs w (g + 1) (some ⟨g, off, none⟩) (ys.length - off) (ys.drop off) :=
  ⟨by simp, fun _ => ⟨_, rfl, Nat.lt_succ_self _, fun i hi => by
    rw [Addr.add_lit]
    have := h.at_ (i := off + i) (by omega)
    rw [this]
    simp [List.getD]⟩⟩

theorem Try.sizeByte : (Try.prog.info? 5).map (·.size) = some 1 := by kernel_rfl

theorem splice_map {α β : Type} (f : α → β) (L : List α) (off : Nat) (cs : List α) : splice (L.map f) off (cs.map f) = (splice L off cs).map f := by simp [splice]

/-- copy into a block that is known whole; m is the lesser of the two lengths. -/
theorem wpList_copy_arr {w : World} {ops : Array Oper} {rest : List Oper} {o : Oper} {a : Act} {Q : Exit → Act → World → Prop} (hgd : o.guard = none) (d s : Operand)
    (ho : o.op = .call { callee := .builtin .copy, args := #[d, s], argTypes := #[22, 22] }) {g off dLen dCap sLen sCap : Nat} {sp : Option Addr} (hd : a.eval d = .slice (some ⟨g, off, none⟩) dLen dCap) (hs : a.eval s = .slice sp sLen sCap)
    {t : TypeId} {ys xs : List Int} (hg : Whole w g t (arr .u8 ys)) {B' : Nat} (hsrc : Bs w B' sp sLen xs) (hfit : off + dLen ≤ ys.length) {B : Nat} {w0 : World} (hb : Below B w0 w) (hBg : B ≤ g) {m : Nat} (hm : m = Nat.min sLen dLen)
    (h : ∀ w', Hid (Whole w' g t (arr .u8 (splice ys off (xs.take m)))) → Below B w0 w' → wpList Try.prog ops Q rest (a.put o.dst (goInt m)) w') :
    wpList Try.prog ops Q (o :: rest) a w := by
  have m1 : m ≤ sLen := by rw [hm]; exact Nat.min_le_left _ _
  have m2 : m ≤ dLen := by rw [hm]; exact Nat.min_le_right _ _
  have hx := hsrc.1
  have hl : ((xs.take m).map (Value.int .u8)).length = m := by
    simp only [List.length_map, List.length_take]
    omega
  refine wpList_copy_splice hgd d s 22 22 ho 5 Try.underlying22 Try.sizeByte (some ⟨g, off, none⟩) sp dLen dCap sLen sCap hd hs g off (ys.map (Value.int .u8)) t hg ((xs.take m).map (Value.int .u8)) (hl.trans hm) ?_ ?_ ?_ B w0 hb hBg ?_
  · intro h0
    rw [hl] at h0
    obtain ⟨ad, h2, _, h3⟩ := hsrc.2 (by omega)
    refine ⟨rfl, ad, h2, fun j v hj => ?_⟩
    have hjl : j < m := by
      have := (List.getElem?_eq_some_iff.1 hj).1
      rwa [hl] at this
    rw [h3 j (by omega), ← hj]
    simp [List.getD, hjl, show j < xs.length by omega]
  · rw [hl, List.length_map]
    omega
  · intro v hv
    obtain ⟨x, _, rfl⟩ := List.mem_map.1 hv
    rfl
  · intro w' h1 h2
    have h1' := h1.out
    rw [splice_map] at h1'
    rw [hl]
    exact h w' (Lib.hid h1') h2

end Go.Proofs.Ytapbodiakkdfmaa

namespace Go.Proofs.Ytapbodiakkdfmaa
open Go.RowKit Go.Shelf
set_option linter.unusedVariables false

def u8s (xs : List Int) : List Value := xs.map (Value.int .u8)
@[simp] theorem u8s_length (xs : List Int) : (u8s xs).length = xs.length := by simp [u8s]
theorem u8s_append (xs ys : List Int) : u8s (xs ++ ys) = u8s xs ++ u8s ys := by simp [u8s]

/-- The slice v is a row of the call's own, of the bytes xs. -/
def Own8 (w : World) (base : Nat) (v : Value) (xs : List Int) : Prop := w.ownsRow base 5 1 v xs.length (u8s xs)

section
variable {w w' : World} {base : Nat} {v : Value} {xs : List Int}
theorem Own8.nil (w : World) (base : Nat) : Own8 w base (.slice none 0 0) [] := World.ownsRow_nil w base 5 1
theorem Own8.made (w : World) (hb : base ≤ w.heap.size) : Own8 (w.alloc (.cells #[] 5)) base (.slice (some ⟨w.heap.size, 0, none⟩) 0 0) [] := World.ownsRow_made w #[] 0 hb (Nat.zero_le _) rfl
theorem Own8.lt (h : Own8 w base v xs) {k : Nat} (hk : v.ownBlock = some k) : base ≤ k ∧ k < w.heap.size := World.ownsRow.lt h k hk
theorem Own8.grown {row : Option Nat} (h : Own8 w base v xs) (hg : w.grownBy w' row) (hne : v.ownBlock = none ∨ v.ownBlock ≠ row) : Own8 w' base v xs := World.ownsRow.kept h hg hne
theorem Own8.alloc (h : Own8 w base v xs) (o : Obj) : Own8 (w.alloc o) base v xs := World.ownsRow.alloc h o
theorem Own8.under (h : Own8 w base v xs) (hb : Below w.heap.size w w') : Own8 w' base v xs := by
  refine ⟨h.1, ?_⟩
  rcases h.2 with h0 | ⟨g, cap, cur, h1, h2, h3, h4⟩
  · exact .inl h0
  · exact .inr ⟨g, cap, cur, h1, h2, (hb.block g (Array.getElem?_eq_some_iff.1 h3).1).trans h3, h4⟩
theorem Own8.drewN (h : Own8 w base v xs) (n : Nat) : Own8 (w.drewN n) base v xs := h
theorem Own8.drew (h : Own8 w base v xs) : Own8 w.drew base v xs := h
theorem Own8.form (h : Own8 w base v xs) : ∃ A c, v = .slice A xs.length c ∧ xs.length ≤ c ∧ c ≤ maxLen ∧ (A = none → c = 0) ∧ Bs w w.heap.size A xs.length xs := by
  rcases h.2 with ⟨rfl, h0⟩ | ⟨g, cap, cur, rfl, h2, h3, h4, h5, h6, h7⟩
  · exact ⟨none, 0, by rw [h0], by omega, Nat.zero_le _, fun _ => rfl, rfl, fun hn => by omega⟩
  · refine ⟨_, cap, rfl, h4, h5, (fun e => by cases e), rfl, fun hn => ⟨_, rfl, (Array.getElem?_eq_some_iff.1 h3).1, fun i hi => ?_⟩⟩
    have := World.ownsRow.cells (g := g) h rfl i (.int .u8 (xs.getD i 0)) (by simp [u8s, List.getD, hi])
    exact this
theorem Own8.bs {A : Option Addr} {c : Nat} (h : Own8 w base (.slice A xs.length c) xs) : Bs w w.heap.size A xs.length xs := by
  obtain ⟨A', c', hv, _, _, _, hb⟩ := h.form
  cases hv
  exact hb
/-- A cell of it, and that it may be written. -/
theorem Own8.at_ (h : Own8 w base v xs) {i : Nat} (hi : i < xs.length) : ∃ g c, v = .slice (some ⟨g, 0, none⟩) xs.length c ∧ base ≤ g ∧ g < w.heap.size ∧ w.cell? ⟨g, i, none⟩ = some (.int .u8 (xs.getD i 0)) ∧ w.frozen? ⟨g, i, none⟩ = false := by
  obtain ⟨A, c, rfl, _, _, _, hb⟩ := h.form
  rcases h.2 with ⟨hv, h0⟩ | ⟨g, cap, cur, hv, h2, h3, h4⟩
  · omega
  · cases hv
    refine ⟨g, c, rfl, h2, (Array.getElem?_eq_some_iff.1 h3).1, ?_, ?_⟩
    · obtain ⟨ad, e, _, hc⟩ := hb.2 (by omega)
      cases e
      have := hc i hi
      rwa [Addr.add_lit, Nat.zero_add] at this
    · simp [World.frozen?, h3]
end

theorem run_append8 {w : World} (ty : TypeId) {base : Nat} {v : Value} {xs : List Int} (hown : Own8 w base v xs) {B : Nat} {A : Option Addr} {m c : Nat} {ys : List Int} (hr : Bs w B A m ys) (hA : A = none → c = 0) (h63 : xs.length + m ≤ 140737488355328) (hbase : base ≤ w.heap.size) :
    ∃ v' w', (Builtin.append_ #[22, 22] ty #[v, .slice A m c]).run Try.prog w = .ok v' w' ∧ Own8 w' base v' (xs ++ ys) ∧ w.grownBy w' v.ownBlock ∧ (v'.ownBlock = v.ownBlock ∨ v'.ownBlock = some w.heap.size) := by
  obtain ⟨i0, hi, hz0, hz1, hz2⟩ := info_parts Try.infoU8
  rcases A with _ | ad
  · have hm : m = 0 := by
      rcases Nat.eq_zero_or_pos m with h0 | h0
      · exact h0
      · obtain ⟨_, h, _⟩ := hr.2 h0
        cases h
    subst hm
    obtain rfl := hA rfl
    have hy : ys = [] := List.eq_nil_of_length_eq_zero hr.1
    subst hy
    exact ⟨v, w, run_append_owned_none (P := Try.prog) (w := w) base 22 ty 5 i0 1 Try.underlying22 hi v xs.length (u8s xs) hown, by simpa using hown, ⟨rfl, rfl, rfl, Nat.le_refl _, fun _ _ _ => rfl⟩, .inl rfl⟩
  · have hcells : ∀ j u, (u8s ys)[j]? = some u → w.cell? (ad.add j) = some u := by
      intro j u hu
      have hj : j < ys.length := by have := (List.getElem?_eq_some_iff.1 hu).1; simpa using this
      obtain ⟨ad', e, _, hc⟩ := hr.2 (by have := hr.1; omega)
      cases e
      rw [hc j (by have := hr.1; omega), ← hu]
      simp [u8s, List.getD, hj]
    obtain ⟨v', w', hrun, h2, h3, _, h5⟩ := run_append_own_at (P := Try.prog) w base 22 ty 5 i0 (.int .u8 0) 1 1 Try.underlying22 hi hz0 hz1 hz2 rfl (by decide) v xs.length (u8s xs) hown ad m c (u8s ys) (by simpa using hr.1) hcells (fun u hu => by obtain ⟨x, _, rfl⟩ := List.mem_map.1 hu; rfl) (by unfold maxLen; omega) (by omega) hbase
    refine ⟨v', w', hrun, ?_, h3, h5⟩
    unfold Own8
    rw [u8s_append, List.length_append, hr.1]
    exact h2

/-- append onto a row of the call's own. -/
theorem wpList_append8 {w : World} {ops : Array Oper} {rest : List Oper} {o : Oper} {a : Act} {Q : Exit → Act → World → Prop} (hgd : o.guard = none) (s x : Operand)
    (ho : o.op = .call { callee := .builtin .append, args := #[s, x], argTypes := #[22, 22] }) {base : Nat} {v : Value} {xs : List Int} (hs : a.eval s = v) (hown : Own8 w base v xs) {B : Nat} {A : Option Addr} {m c : Nat} {ys : List Int} (hx : a.eval x = .slice A m c) (hr : Bs w B A m ys) (hA : A = none → c = 0)
    (h63 : xs.length + m ≤ 140737488355328) (hbase : base ≤ w.heap.size)
    (h : ∀ v' w', Own8 w' base v' (xs ++ ys) → w.grownBy w' v.ownBlock → (v'.ownBlock = v.ownBlock ∨ v'.ownBlock = some w.heap.size) → wpList Try.prog ops Q rest (a.put o.dst v') w') : wpList Try.prog ops Q (o :: rest) a w := by
  obtain ⟨v', w', hrun, h2, h3, h4⟩ := run_append8 o.type hown hr hA h63 hbase
  refine wpList_plain hgd fun K hK => ?_
  unfold Oper.wp execOp
  simp only [ho, resolve, invoke, builtin, Sem.run_bind, Sem.run_pure, Result.andThen_ok, List.map_toArray, List.map_cons, List.map_nil, hs, hx, hrun]
  exact hK _ _ (h v' w' h2 h3 h4)

/-- One byte that was just laid into a block of its own. -/
theorem Bs.one (w : World) (x : Int) : Bs (w.alloc (.cells #[.int .u8 x] 5)) (w.heap.size + 1) (some ⟨w.heap.size, 0, none⟩) 1 [x] := by
  have := Bs.row (t := 5) (ys := [x]) (Whole.new w 5 #[.int .u8 x]) 0 (Nat.zero_le _)
  exact this

/-- Bytes as a text, nil or wherever they lie. -/
theorem conv_text {w : World} {B : Nat} {A : Option Addr} {n c : Nat} {xs : List Int} (h : Bs w B A n xs) (hA : A = none → c = 0) : (convert 22 9 (.slice A n c)).run Try.prog w = .ok (.string (strOfNums xs)) w := by
  rcases A with _ | ad
  · have hn : n = 0 := by
      rcases Nat.eq_zero_or_pos n with h0 | h0
      · exact h0
      · obtain ⟨_, h, _⟩ := h.2 h0
        cases h
    subst hn
    obtain rfl := hA rfl
    have hy : xs = [] := List.eq_nil_of_length_eq_zero h.1
    subst hy
    exact run_convert_bytes_nil w 22 5 Try.underlying22 Try.underlying5 0 0 9 Try.underlying9
  · have hl : (loadCells ad n).run Try.prog w = .ok (xs.map (Value.int .u8)).toArray w := by
      have := run_loadCells_list (P := Try.prog) w ad (xs.map (Value.int .u8)) (fun j v hj => by
        have hjl : j < xs.length := by
          have := (List.getElem?_eq_some_iff.1 hj).1
          simpa using this
        obtain ⟨ad', e, _, hc⟩ := h.2 (by have := h.1; omega)
        cases e
        rw [hc j (by have := h.1; omega), ← hj]
        simp [List.getD, hjl])
      simpa [h.1] using this
    rw [run_convert_bytes_string w 22 9 5 _ n c Try.underlying22 Try.underlying5 Try.underlying9, run_bytesToString w _ n c xs hl, foldl_push_bytes]
    simp [strOfNums, ByteArray.empty, ByteArray.emptyWithCapacity]
    rfl

/-- Bytes that came in. -/
structure In8 (w : World) (A : Option Addr) (n c : Nat) (xs : List Int) : Prop where
  bytes : Bs w w.heap.size A n xs
  fits : n ≤ c
  most : c ≤ maxLen
  none : A = none → c = 0
  in8 : ∀ i, 0 ≤ xs.getD i 0 ∧ xs.getD i 0 < 256

theorem in8_of_row {w : World} {a : Option Addr} {len cap : Nat} {zs : List Int} (h : (a = Option.none ∧ len = 0 ∧ cap = 0 ∧ zs = []) ∨
    ∃ x, a = some x ∧ len ≤ cap ∧ cap ≤ maxLen ∧ zs.length = cap ∧ (∀ i, i < zs.length → w.cell? (x.add i) = some (.int .u8 (zs.getD i 0))) ∧ ∀ n ∈ zs, (Lit.int .u8 n).wf = true) : In8 w a len cap (zs.take len) := by
  rcases h with ⟨rfl, rfl, rfl, rfl⟩ | ⟨x, rfl, h1, h2, h3, h4, h5⟩
  · exact ⟨⟨rfl, fun hn => by omega⟩, by omega, Nat.zero_le _, fun _ => rfl, fun i => by simp⟩
  · refine ⟨⟨by rw [List.length_take]; omega, fun hn => ⟨x, rfl, ?_, fun i hi => ?_⟩⟩, h1, h2, (fun e => by cases e), fun i => ?_⟩
    · have := block_lt_of_cell (h4 0 (by omega))
      rwa [add_block] at this
    · rw [h4 i (by omega)]
      simp [List.getD, hi]
    · by_cases hi : i < len ∧ i < zs.length
      · have hm := h5 zs[i] (List.getElem_mem hi.2)
        have e : (zs.take len).getD i 0 = zs[i] := by simp [List.getD, hi.1, hi.2]
        rw [e]
        simp [Lit.wf, IntKind.min, IntKind.max, IntKind.signed, IntKind.bits] at hm
        omega
      · have e : (zs.take len).getD i 0 = 0 := by
          simp only [List.getD]
          rw [List.getElem?_eq_none (by rw [List.length_take]; omega)]
          rfl
        rw [e]
        omega

end Go.Proofs.Ytapbodiakkdfmaa

namespace Go.Proofs.Ytapbodiakkdfmaa
open Go.RowKit
set_option linter.unusedVariables false

theorem run_equalIn_same (d : Nat) (t e : TypeId) (n : Nat) (ht : Try.prog.underlying t = some (.array n e)) (he : Try.prog.underlying e = some (.int .u8)) (hsz : ∀ w, (sizeOf e).run Try.prog w = .ok 1 w)
    (L : List Int) (hL : L.length = n) (w : World) : (Op.equalIn (d + 2) t (.agg (arr .u8 L)) (.agg (arr .u8 L))).run Try.prog w = .ok true w := by
  rw [Op.equalIn]
  simp only [Sem.run_bind, run_underlying ht, Result.andThen_ok, hsz, Std.Legacy.Range.forIn_eq_forIn_range', Std.Legacy.Range.size, Nat.sub_zero, Nat.add_sub_cancel, Nat.div_one]
  have hl : ∀ i ∈ List.range' 0 n 1, i < n := fun i hi => by simpa using (List.mem_range'_1.1 hi).2
  generalize List.range' 0 n 1 = l at hl ⊢
  induction l with
  | nil => simp
  | cons i l ih =>
    have hi : i < n := hl i (by simp)
    have px : (part e (arr .u8 L) (i * 1)).run Try.prog w = .ok (.int .u8 (L.getD i 0)) w := by
      have := arr_get (k := .u8) (ws := L) (i := i) (by omega)
      simp [part, isAgg, run_underlying he, this]
    have pe : (Op.equalIn (d + 1) e (.int .u8 (L.getD i 0)) (.int .u8 (L.getD i 0))).run Try.prog w = .ok true w := by
      rw [run_equalIn_int w d e .u8 .u8 _ _ he]
      simp
    simp only [List.forIn_cons, Sem.run_bind, px, pe, Result.andThen_ok, Bool.not_true, Bool.false_eq_true, if_false, Sem.run_pure]
    exact ih fun j hj => hl j (by simp [hj])

theorem Try.sizeU8 (w : World) : (sizeOf 5).run Try.prog w = .ok 1 w := by kernel_rfl
end Go.Proofs.Ytapbodiakkdfmaa
