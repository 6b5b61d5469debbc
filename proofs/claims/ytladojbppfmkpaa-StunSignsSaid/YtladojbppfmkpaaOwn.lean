/- More plain facts on memory: which blocks may have turned (Only); a slice that lies in a block of the call's own, wherever in it it begins (Sl), and what an append of one element makes of it. -/
import Derived.Test.YtladojbppfmkpaaMem
import Derived.ArgAppend
import Derived.Laws.IdiomCopy
import Derived.Maps.AppendAt
import Derived.Deep.RegionLaw
namespace Go.Proofs.Ytladojbppfmkpaa
open Go.RowKit
set_option linter.unusedVariables false

/-- Of the blocks that w has only those in S may be others in w'; none has gone. -/
structure Only (S : Nat → Prop) (w w' : World) : Prop where
  os : w'.os = w.os
  tape : w'.tape = w.tape
  output : w'.output = w.output
  size : w.heap.size ≤ w'.heap.size
  block : ∀ k, k < w.heap.size → ¬ S k → w'.heap[k]? = w.heap[k]?

section
variable {S T : Nat → Prop} {a w w' : World}
theorem Only.refl (S : Nat → Prop) (w : World) : Only S w w := ⟨rfl, rfl, rfl, Nat.le_refl _, fun _ _ _ => rfl⟩
/-- Two steps; the second may turn new blocks too. -/
theorem Only.next (h : Only S a w) (k : Only T w w') (hs : ∀ j, T j → S j ∨ a.heap.size ≤ j) : Only S a w' :=
  ⟨k.os.trans h.os, k.tape.trans h.tape, k.output.trans h.output, Nat.le_trans h.size k.size, fun i hi hn =>
    (k.block i (Nat.lt_of_lt_of_le hi h.size) (fun ht => by
      rcases hs i ht with h1 | h1
      · exact hn h1
      · omega)).trans (h.block i hi hn)⟩
theorem Only.mono (h : Only S w w') (hs : ∀ j, S j → T j) : Only T w w' := ⟨h.os, h.tape, h.output, h.size, fun i hi hn => h.block i hi (fun e => hn (hs i e))⟩
theorem Only.drewN (h : Only S a w) (n : Nat) : Only S a (w.drewN n) := ⟨h.os, h.tape, h.output, h.size, h.block⟩
theorem Only.drew (h : Only S a w) : Only S a w.drew := ⟨h.os, h.tape, h.output, h.size, h.block⟩
theorem Only.alloc (h : Only S a w) (o : Obj) : Only S a (w.alloc o) :=
  ⟨h.os, h.tape, h.output, Nat.le_trans h.size (by simp), fun i hi hn => (Below.heap_alloc w o i (Nat.lt_of_lt_of_le hi h.size)).trans (h.block i hi hn)⟩
theorem Only.setCell (h : Only S a w) {p : Addr} (hp : S p.block ∨ a.heap.size ≤ p.block) (u : Value) : Only S a (w.setCell p u) :=
  ⟨h.os, h.tape, h.output, by simpa [World.setCell] using h.size, fun i hi hn => (Below.heap_setCell w p u i (by
    intro e
    subst e
    rcases hp with hp | hp
    · exact hn hp
    · omega)).trans (h.block i hi hn)⟩
theorem Only.grown {row : Option Nat} (h : Only S a w) (hg : w.grownBy w' row) (hr : ∀ k, row = some k → S k ∨ a.heap.size ≤ k) : Only S a w' :=
  h.next (T := fun k => row = some k) ⟨hg.os, hg.tape, hg.output, hg.size, fun i hi hn => hg.block i hi (fun e => hn e.symm)⟩ (fun j e => hr j e)
theorem Only.under (h : Only S a w) (hb : Below w.heap.size w w') : Only S a w' :=
  h.next (T := fun _ => False) ⟨hb.os, hb.tape, hb.output, hb.size, fun i hi _ => hb.block i hi⟩ (fun _ e => e.elim)
theorem Only.below {B : Nat} (h : Only S w w') (hs : ∀ k, S k → B ≤ k) (hB : B ≤ w.heap.size) : Below B w w' :=
  ⟨h.os, h.tape, h.output, h.size, fun k hk => h.block k (by omega) (fun e => by have := hs k e; omega)⟩
theorem Only.same (h : Only S w w') {o : Obj} {k : Nat} (hk : w.heap[k]? = some o) (hn : ¬ S k) : w'.heap[k]? = some o := (h.block k (Array.getElem?_eq_some_iff.1 hk).1 hn).trans hk
theorem Only.toGrown {row : Option Nat} (h : Only (fun k => row = some k) w w') : w.grownBy w' row := ⟨h.os, h.tape, h.output, h.size, fun k hk hn => h.block k hk (fun e => hn e.symm)⟩
theorem Whole.only {g : Nat} {t : TypeId} {cs : Array Value} (h : Whole w g t cs) (k : Only S w w') (hn : ¬ S g) : Whole w' g t cs := k.same h hn
end

/-- The slice v reads as xs; ob is the block in which it lies, if it has room for anything. -/
def Sl (w : World) (e : TypeId) (v : Value) (xs : List Value) (ob : Option Nat) : Prop :=
  (∃ A, v = .slice A 0 0 ∧ xs = [] ∧ ob = none) ∨
  ∃ g off cap cur, v = .slice (some ⟨g, off, none⟩) xs.length cap ∧ ob = some g ∧ Whole w g e cur ∧ xs.length ≤ cap ∧ cap ≤ maxLen ∧ off + cap ≤ cur.size ∧ ∀ i, i < xs.length → cur[off + i]? = xs[i]?

section
variable {w w' : World} {e : TypeId} {v : Value} {xs : List Value} {ob : Option Nat}

theorem Sl.nil (w : World) (e : TypeId) : Sl w e (.slice none 0 0) [] none := .inl ⟨none, rfl, rfl, rfl⟩
theorem Sl.form (h : Sl w e v xs ob) : ∃ A cap, v = .slice A xs.length cap ∧ xs.length ≤ cap ∧ cap ≤ maxLen := by
  rcases h with ⟨A, rfl, rfl, _⟩ | ⟨g, off, cap, cur, rfl, _, _, h1, h2, _⟩
  · exact ⟨A, 0, rfl, Nat.le_refl _, by unfold maxLen; omega⟩
  · exact ⟨_, cap, rfl, h1, h2⟩
theorem Sl.lt (h : Sl w e v xs ob) {g : Nat} (hg : ob = some g) : g < w.heap.size := by
  rcases h with ⟨A, rfl, rfl, h0⟩ | ⟨g', off, cap, cur, rfl, h0, hw, _⟩
  · rw [h0] at hg; cases hg
  · rw [h0] at hg; cases hg; exact hw.lt
/-- An element's place and what lies there. -/
theorem Sl.at_ (h : Sl w e v xs ob) {i : Nat} (hi : i < xs.length) : ∃ g off cap, v = .slice (some ⟨g, off, none⟩) xs.length cap ∧ ob = some g ∧ g < w.heap.size ∧ w.cell? ⟨g, off + i, none⟩ = xs[i]? ∧ w.frozen? ⟨g, off + i, none⟩ = false := by
  rcases h with ⟨A, rfl, rfl, _⟩ | ⟨g, off, cap, cur, rfl, h0, hw, h1, h2, h3, h4⟩
  · simp at hi
  · exact ⟨g, off, cap, rfl, h0, hw.lt, (hw.cell _).trans (h4 i hi), hw.frz _⟩
theorem Sl.keep (h : Sl w e v xs ob) (hk : ∀ g cs, ob = some g → Whole w g e cs → Whole w' g e cs) : Sl w' e v xs ob := by
  rcases h with h | ⟨g, off, cap, cur, hv, h0, hw, hr⟩
  · exact .inl h
  · exact .inr ⟨g, off, cap, cur, hv, h0, hk g cur h0 hw, hr⟩
theorem Sl.only {S : Nat → Prop} (h : Sl w e v xs ob) (k : Only S w w') (hn : ∀ g, ob = some g → ¬ S g) : Sl w' e v xs ob := h.keep fun g _ hg hw => hw.only k (hn g hg)
theorem Sl.under (h : Sl w e v xs ob) (k : Below w.heap.size w w') : Sl w' e v xs ob := h.keep fun g _ _ hw => hw.under k
theorem Sl.alloc (h : Sl w e v xs ob) (o : Obj) : Sl (w.alloc o) e v xs ob := h.keep fun _ _ _ hw => hw.alloc o
theorem Sl.far (h : Sl w e v xs ob) {p : Addr} (hp : ob ≠ some p.block) (u : Value) : Sl (w.setCell p u) e v xs ob := h.keep fun g _ hg hw => hw.far (fun e => hp (by rw [hg, e])) u
theorem Sl.drewN (h : Sl w e v xs ob) (n : Nat) : Sl (w.drewN n) e v xs ob := h
/-- An element is written. -/
theorem Sl.set (h : Sl w e v xs ob) {g off cap : Nat} (hv : v = .slice (some ⟨g, off, none⟩) xs.length cap) {i : Nat} (hi : i < xs.length) (u : Value) : Sl (w.setCell ⟨g, off + i, none⟩ u) e v (xs.set i u) ob := by
  rcases h with ⟨A, rfl, rfl, _⟩ | ⟨g', off', cap', cur, rfl, h0, hw, h1, h2, h3, h4⟩
  · simp at hi
  · injection hv with e1 e2 e3
    cases e1; subst e3
    refine .inr ⟨g, off, cap', _, by rw [List.length_set], h0, hw.set _ u, by simpa using h1, h2, by simpa using h3, fun j hj => ?_⟩
    simp only [List.length_set] at hj
    rw [Array.getElem?_setIfInBounds, List.getElem?_set]
    by_cases e : i = j
    · subst e
      have : off + i < cur.size := by omega
      simp [hi, this]
    · have : ¬ off + i = off + j := by omega
      rw [if_neg this, if_neg e]
      exact h4 j hj
/-- The slice without its first element. -/
theorem Sl.tail (h : Sl w e v xs ob) {g off cap : Nat} (hv : v = .slice (some ⟨g, off, none⟩) xs.length cap) (hx : 0 < xs.length) :
    Sl w e (.slice (if cap = 1 then some ⟨g, off, none⟩ else some ⟨g, off + 1, none⟩) (xs.length - 1) (cap - 1)) (xs.drop 1) (if cap = 1 then none else ob) := by
  rcases h with ⟨A, rfl, rfl, _⟩ | ⟨g', off', cap', cur, rfl, h0, hw, h1, h2, h3, h4⟩
  · simp at hx
  · injection hv with e1 e2 e3
    cases e1; subst e3
    by_cases e : cap' = 1
    · subst e
      rw [if_pos rfl, if_pos rfl]
      have hl : xs.length = 1 := by omega
      have hd : xs.drop 1 = [] := List.eq_nil_of_length_eq_zero (by rw [List.length_drop]; omega)
      exact .inl ⟨_, by rw [hl], hd, rfl⟩
    · rw [if_neg e, if_neg e]
      refine .inr ⟨g, off + 1, cap' - 1, cur, by rw [List.length_drop], h0, hw, by rw [List.length_drop]; omega, by omega, by omega, fun i hi => ?_⟩
      rw [List.length_drop] at hi
      rw [List.getElem?_drop, ← h4 (1 + i) (by omega)]
      congr 1
      omega
/-- What lies in a block of elements of another type than the slice's is another block. -/
theorem Sl.ne_whole (h : Sl w e v xs ob) {g : Nat} {t : TypeId} {cs : Array Value} (hg : Whole w g t cs) (hne : e ≠ t) : ob ≠ some g := by
  rcases h with ⟨A, _, _, rfl⟩ | ⟨g', off, cap, cur, _, rfl, hw, _⟩
  · simp
  · intro e1
    cases e1
    exact hw.ne hg hne rfl
theorem Sl.of_own {base n : Nat} (h : w.ownsRow base e 1 v n xs) : ∃ ob, Sl w e v xs ob ∧ ob = v.ownBlock := by
  have hl := h.1
  rcases h.2 with ⟨rfl, rfl⟩ | ⟨g, cap, cur, rfl, hb, hw, h1, h2, h3, h4⟩
  · obtain rfl : xs = [] := List.eq_nil_of_length_eq_zero (by simpa using hl)
    exact ⟨none, Sl.nil w e, rfl⟩
  · rw [Nat.mul_one] at hl h3 h4
    subst hl
    refine ⟨some g, .inr ⟨g, 0, cap, cur, rfl, rfl, hw, h1, h2, by omega, fun i hi => ?_⟩, rfl⟩
    rw [Nat.zero_add]
    have hx := List.getElem?_eq_getElem hi
    rw [hx]
    exact take_get h4 hx
end

section
variable {P : Program} {w : World} {e : TypeId} {v : Value} {xs : List Value} {ob : Option Nat}

/-- One element is appended: there is room, or a new block is made. -/
theorem run_append_sl (t ty : TypeId) (i : TypeInfo) (z : Value) (bytes : Nat) (ht : P.underlying t = some (.slice e)) (hi : P.info? e = some i) (hz : i.zero = some z) (hsize : i.size = 1) (hby : i.bytes = bytes) (hzs : z.cells.size = 1)
    (h : Sl w e v xs ob) (ad : Addr) (c : Nat) (x : Value) (hx : w.cell? ad = some x) (h1 : x.oneCell' = true) (h63 : xs.length + 1 ≤ maxLen) (hbytes : (xs.length + 1) * bytes ≤ 140737488355328) :
    ∃ g off cap w', (Builtin.append_ #[t, t] ty #[v, .slice (some ad) 1 c]).run P w = .ok (.slice (some ⟨g, off, none⟩) (xs.length + 1) cap) w' ∧
      Sl w' e (.slice (some ⟨g, off, none⟩) (xs.length + 1) cap) (xs ++ [x]) (some g) ∧ w.grownBy w' ob ∧ (ob = some g ∨ w.heap.size ≤ g) := by
  have hn : ∀ j u, [x][j]? = some u → w.cell? (ad.add j) = some u := by
    intro j u hj
    match j, hj with
    | 0, hj => simp at hj; subst hj; rw [show ad.add 0 = ad from rfl]; exact hx
  have hone : ∀ u ∈ [x], u.oneCell' = true := by intro u hu; simp at hu; subst hu; exact h1
  have fin : ∀ v' w', w'.ownsRow w.heap.size e 1 v' (xs.length + 1) (xs ++ [x]) → ∃ g off cap, v' = .slice (some ⟨g, off, none⟩) (xs.length + 1) cap ∧ Sl w' e (.slice (some ⟨g, off, none⟩) (xs.length + 1) cap) (xs ++ [x]) (some g) ∧ w.heap.size ≤ g := by
    intro v' w' hown
    obtain ⟨ob', hs, ho⟩ := Sl.of_own hown
    rcases hown.2 with ⟨_, h0⟩ | ⟨g, cap, cur, rfl, hb, _⟩
    · omega
    · exact ⟨g, 0, cap, rfl, by rw [ho] at hs; exact hs, hb⟩
  rcases h with ⟨A, rfl, rfl, rfl⟩ | ⟨g, off, cap, cur, rfl, rfl, hw, hl, hm, hs, hat⟩
  · cases A with
    | none =>
      obtain ⟨v', w', hrun, r1, r2, _⟩ := run_append_own (P := P) w w.heap.size t ty e i z 1 bytes ht hi hz hsize hby hzs (by decide) (.slice none 0 0) 0 [] (World.ownsRow_nil w _ e 1) ad 1 c [x] rfl hn hone h63 hbytes (Nat.le_refl _)
      obtain ⟨g, off, cap, rfl, hsl, hb⟩ := fin v' w' r1
      exact ⟨g, off, cap, w', hrun, hsl, r2, .inr hb⟩
    | some b =>
      obtain ⟨v', w', hrun, r1, r2⟩ := run_append_arg_grows (P := P) w t ty e i z 1 bytes ht hi hz hsize hby hzs (by decide) b 0 0 [] rfl (by simp) ad 1 c [x] rfl hn (by simp) h63 hbytes
      obtain ⟨g, off, cap, rfl, hsl, hb⟩ := fin v' w' r1
      exact ⟨g, off, cap, w', hrun, hsl, r2, .inr hb⟩
  · by_cases hr : xs.length + 1 ≤ cap
    · have hin : off + xs.length < cur.size := by omega
      have hrun := run_append_room_cells (P := P) w t ty e i ht hi g off xs.length cap ad 1 c [x] (by rw [hsize]; rfl) hn hone hr
        (fun j hj => by
          have hj0 : j = 0 := by simpa using hj
          subst hj0
          rw [hsize, Nat.mul_one, Nat.add_zero, hw.cell, Array.getElem?_eq_getElem hin]; rfl)
        (fun j hj => hw.frz _)
      rw [hsize, Nat.mul_one] at hrun
      refine ⟨g, off, cap, _, hrun, ?_, ?_, .inl rfl⟩
      · refine .inr ⟨g, off, cap, _, by simp, rfl, hw.set _ x, by simpa using hr, hm, by simpa using hs, fun j hj => ?_⟩
        simp only [List.length_append, List.length_cons, List.length_nil] at hj
        rw [Array.getElem?_setIfInBounds]
        by_cases ej : j = xs.length
        · subst ej
          rw [if_pos rfl, if_pos hin]
          simp
        · have hj' : j < xs.length := by omega
          rw [if_neg (by omega), List.getElem?_append_left hj']
          exact hat j hj'
      · exact ((Only.refl (fun k => some g = some k) w).setCell (p := ⟨g, off + xs.length, none⟩) (.inl rfl) x).toGrown
    · obtain ⟨v', w', hrun, r1, r2⟩ := run_append_arg_grows (P := P) w t ty e i z 1 bytes ht hi hz hsize hby hzs (by decide) ⟨g, off, none⟩ xs.length cap xs (by simp)
        (fun j u hj => by
          have hjl : j < xs.length := (List.getElem?_eq_some_iff.1 hj).1
          rw [Addr.add_lit, hw.cell, hat j hjl, hj]) ad 1 c [x] rfl hn (by omega) h63 hbytes
      obtain ⟨g', off', cap', rfl, hsl, hb⟩ := fin v' w' r1
      exact ⟨g', off', cap', w', hrun, hsl, ⟨r2.os, r2.tape, r2.output, r2.size, fun k hk hne => r2.block k hk (by simp)⟩, .inr hb⟩

theorem wp_append_sl {o : Oper} {a : Act} {K : Act → World → Prop} {Q : Exit → Act → World → Prop} (s y : Operand) (t : TypeId)
    (ho : o.op = .call { callee := .builtin .append, args := #[s, y], argTypes := #[t, t] })
    (i : TypeInfo) (z : Value) (bytes : Nat) (ht : P.underlying t = some (.slice e)) (hi : P.info? e = some i) (hz : i.zero = some z) (hsize : i.size = 1) (hby : i.bytes = bytes) (hzs : z.cells.size = 1)
    (hs : a.eval s = v) (n : Nat) (hn : xs.length = n) (h : Sl w e v xs ob) (ad : Addr) (c : Nat) (hy : a.eval y = .slice (some ad) 1 c) (x : Value) (hx : w.cell? ad = some x) (h1 : x.oneCell' = true) (h63 : n + 1 ≤ maxLen) (hbytes : (n + 1) * bytes ≤ 140737488355328)
    (hK : ∀ g off cap w', Sl w' e (.slice (some ⟨g, off, none⟩) (n + 1) cap) (xs ++ [x]) (some g) → w.grownBy w' ob → (ob = some g ∨ w.heap.size ≤ g) → K (a.put o.dst (.slice (some ⟨g, off, none⟩) (n + 1) cap)) w') : o.wp P a w K Q := by
  subst hn
  obtain ⟨g, off, cap, w', hr, h2, h3, h4⟩ := run_append_sl (P := P) t o.type i z bytes ht hi hz hsize hby hzs h ad c x hx h1 h63 hbytes
  unfold Oper.wp execOp
  simp only [ho, resolve, invoke, builtin, Sem.run_bind, Sem.run_pure, Result.andThen_ok, List.map_toArray, List.map_cons, List.map_nil, hs, hy, hr]
  exact hK g off cap w' h2 h3 h4

theorem wpList_append_sl {ops : Array Oper} {rest : List Oper} {o : Oper} {a : Act} {Q : Exit → Act → World → Prop} (hgd : o.guard = none) (s y : Operand) (t : TypeId)
    (ho : o.op = .call { callee := .builtin .append, args := #[s, y], argTypes := #[t, t] })
    (i : TypeInfo) (z : Value) (bytes : Nat) (ht : P.underlying t = some (.slice e)) (hi : P.info? e = some i) (hz : i.zero = some z) (hsize : i.size = 1) (hby : i.bytes = bytes) (hzs : z.cells.size = 1)
    (hs : a.eval s = v) (n : Nat) (hn : xs.length = n) (h : Sl w e v xs ob) (ad : Addr) (c : Nat) (hy : a.eval y = .slice (some ad) 1 c) (x : Value) (hx : w.cell? ad = some x) (h1 : x.oneCell' = true) (h63 : n + 1 ≤ maxLen) (hbytes : (n + 1) * bytes ≤ 140737488355328)
    (hK : ∀ g off cap w', Sl w' e (.slice (some ⟨g, off, none⟩) (n + 1) cap) (xs ++ [x]) (some g) → w.grownBy w' ob → (ob = some g ∨ w.heap.size ≤ g) → wpList P ops Q rest (a.put o.dst (.slice (some ⟨g, off, none⟩) (n + 1) cap)) w') :
    wpList P ops Q (o :: rest) a w :=
  wpList_plain hgd fun _ hk => wp_append_sl s y t ho i z bytes ht hi hz hsize hby hzs hs n hn h ad c hy x hx h1 h63 hbytes fun g off cap w' h2 h3 h4 => hk _ _ (hK g off cap w' h2 h3 h4)

theorem step_append_sl {ops : Array Oper} {o : Oper} {a : Act} {K : Act → World → Prop} {Q : Exit → Act → World → Prop} {E : Prop} (hgd : o.guard = none) (s y : Operand) (t : TypeId)
    (ho : o.op = .call { callee := .builtin .append, args := #[s, y], argTypes := #[t, t] })
    (i : TypeInfo) (z : Value) (bytes : Nat) (ht : P.underlying t = some (.slice e)) (hi : P.info? e = some i) (hz : i.zero = some z) (hsize : i.size = 1) (hby : i.bytes = bytes) (hzs : z.cells.size = 1)
    (hs : a.eval s = v) (n : Nat) (hn : xs.length = n) (h : Sl w e v xs ob) (ad : Addr) (c : Nat) (hy : a.eval y = .slice (some ad) 1 c) (x : Value) (hx : w.cell? ad = some x) (h1 : x.oneCell' = true) (h63 : n + 1 ≤ maxLen) (hbytes : (n + 1) * bytes ≤ 140737488355328)
    (hK : ∀ g off cap w', Sl w' e (.slice (some ⟨g, off, none⟩) (n + 1) cap) (xs ++ [x]) (some g) → w.grownBy w' ob → (ob = some g ∨ w.heap.size ≤ g) → K (a.put o.dst (.slice (some ⟨g, off, none⟩) (n + 1) cap)) w') :
    if Region.wanted o (yielded ops a.tmps) = true then Oper.wp P o a w K Q else E := by
  have hw : Region.wanted o (yielded ops a.tmps) = true := by simp [Region.wanted, hgd]
  rw [if_pos hw]
  exact wp_append_sl s y t ho i z bytes ht hi hz hsize hby hzs hs n hn h ad c hy x hx h1 h63 hbytes hK

end

end Go.Proofs.Ytladojbppfmkpaa
