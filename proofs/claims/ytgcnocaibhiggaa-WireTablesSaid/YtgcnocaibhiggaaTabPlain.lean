/- Plain facts on a table's entries as a list: key, value, block. -/
import Derived.Test.YtgcnocaibhiggaaIter
import Derived.Maps.OwnSet
import Derived.Maps.Views
namespace Go.Proofs.Ytgcnocaibhiggaa
open Go.RowKit Go.Shelf Go.Maps
set_option linter.unusedVariables false

section
variable {K : Type} [DecidableEq K]

/-- An entry: its key, its value, its block. -/
abbrev Ent (K : Type) := K × Int × Nat

/-- The block of the entry of key k. -/
def blkOf : List (Ent K) → K → Option Nat
  | [], _ => none
  | x :: r, k => if x.1 = k then some x.2.2 else blkOf r k

theorem blkOf_none {L : List (Ent K)} {k : K} : blkOf L k = none ↔ ∀ x ∈ L, x.1 ≠ k := by
  induction L with
  | nil => simp [blkOf]
  | cons x r ih =>
    simp only [blkOf, List.mem_cons]
    by_cases h : x.1 = k
    · simp [h]
    · rw [if_neg h, ih]
      constructor
      · rintro h1 y (rfl | hy)
        · exact h
        · exact h1 y hy
      · exact fun h1 y hy => h1 y (.inr hy)

theorem blkOf_some {L : List (Ent K)} {k : K} {g : Nat} (h : blkOf L k = some g) : ∃ (i : Nat) (v : Int), L[i]? = some (k, v, g) := by
  induction L with
  | nil => simp [blkOf] at h
  | cons x r ih =>
    simp only [blkOf] at h
    by_cases hx : x.1 = k
    · rw [if_pos hx] at h
      injection h with h
      exact ⟨0, x.2.1, by simp; rw [← hx, ← h]⟩
    · rw [if_neg hx] at h
      obtain ⟨i, v, hi⟩ := ih h
      exact ⟨i + 1, v, by simpa using hi⟩

theorem blkOf_append (L : List (Ent K)) (x : Ent K) (k : K) (hn : blkOf L x.1 = none) : blkOf (L ++ [x]) k = if k = x.1 then some x.2.2 else blkOf L k := by
  induction L with
  | nil =>
    simp only [List.nil_append, blkOf]
    by_cases h : x.1 = k
    · rw [if_pos h, if_pos h.symm]
    · rw [if_neg h, if_neg (fun e => h e.symm)]
  | cons y r ih =>
    simp only [blkOf] at hn
    by_cases hy : y.1 = x.1
    · rw [if_pos hy] at hn; cases hn
    · rw [if_neg hy] at hn
      simp only [List.cons_append, blkOf]
      rw [ih hn]
      by_cases hk : y.1 = k
      · rw [if_pos hk, if_pos hk, if_neg (fun e => hy (hk.trans e))]
      · rw [if_neg hk, if_neg hk]

theorem blkOf_of_get {L : List (Ent K)} (hnd : (L.map (·.1)).Nodup) {i : Nat} {x : Ent K} (hi : L[i]? = some x) : blkOf L x.1 = some x.2.2 := by
  induction L generalizing i with
  | nil => simp at hi
  | cons y r ih =>
    simp only [List.map_cons, List.nodup_cons] at hnd
    cases i with
    | zero => simp at hi; subst hi; simp [blkOf]
    | succ i =>
      simp at hi
      have hm : x.1 ∈ r.map (·.1) := List.mem_map.2 ⟨x, List.mem_of_getElem? hi, rfl⟩
      simp only [blkOf]
      rw [if_neg (fun e => hnd.1 (by rw [e]; exact hm))]
      exact ih hnd.2 hi

theorem blkOf_erase {L : List (Ent K)} (hnd : (L.map (·.1)).Nodup) {i : Nat} {x : Ent K} (hi : L[i]? = some x) (k : K) : blkOf (L.eraseIdx i) k = if k = x.1 then none else blkOf L k := by
  induction L generalizing i with
  | nil => simp at hi
  | cons y r ih =>
    simp only [List.map_cons, List.nodup_cons] at hnd
    cases i with
    | zero =>
      simp at hi; subst hi
      simp only [List.eraseIdx_cons_zero, blkOf]
      by_cases h : k = y.1
      · rw [if_pos h]
        refine blkOf_none.2 fun z hz e => hnd.1 ?_
        rw [← h, ← e]
        exact List.mem_map.2 ⟨z, hz, rfl⟩
      · rw [if_neg h, if_neg (fun e => h e.symm)]
    | succ i =>
      simp at hi
      have hm : x.1 ∈ r.map (·.1) := List.mem_map.2 ⟨x, List.mem_of_getElem? hi, rfl⟩
      simp only [List.eraseIdx_cons_succ, blkOf]
      rw [ih hnd.2 hi]
      by_cases h : y.1 = k
      · rw [if_pos h, if_pos h, if_neg (fun e => hnd.1 (by rw [h, e]; exact hm))]
      · rw [if_neg h, if_neg h]

end

section
variable {K : Type}

/-- A value is written. -/
def setVal (L : List (Ent K)) (i : Nat) (v : Int) : List (Ent K) := L.modify i (fun x => (x.1, v, x.2.2))

theorem setVal_get (L : List (Ent K)) (i : Nat) (v : Int) (j : Nat) : (setVal L i v)[j]? = (L[j]?).map fun x => if i = j then (x.1, v, x.2.2) else x := by
  unfold setVal
  rw [List.getElem?_modify]
  by_cases h : i = j
  · simp [h]
  · simp [h]

theorem setVal_keys (L : List (Ent K)) (i : Nat) (v : Int) : (setVal L i v).map (·.1) = L.map (·.1) := by
  apply List.ext_getElem?
  intro j
  rw [List.getElem?_map, List.getElem?_map, setVal_get]
  cases L[j]? with
  | none => rfl
  | some x => by_cases h : i = j <;> simp [h]
theorem setVal_blks (L : List (Ent K)) (i : Nat) (v : Int) : (setVal L i v).map (·.2.2) = L.map (·.2.2) := by
  apply List.ext_getElem?
  intro j
  rw [List.getElem?_map, List.getElem?_map, setVal_get]
  cases L[j]? with
  | none => rfl
  | some x => by_cases h : i = j <;> simp [h]
theorem setVal_length (L : List (Ent K)) (i : Nat) (v : Int) : (setVal L i v).length = L.length := by simp [setVal]

/-- The block at a place; of the entry ahead of a place; behind it. -/
def blkAt (L : List (Ent K)) (i : Nat) : Option Nat := (L[i]?).map (·.2.2)
def prevB (L : List (Ent K)) (i : Nat) : Option Nat := if i = 0 then none else blkAt L (i - 1)
def nextB (L : List (Ent K)) (i : Nat) : Option Nat := blkAt L (i + 1)
def lastB (L : List (Ent K)) : Option Nat := prevB L L.length

theorem blkAt_lt {L : List (Ent K)} {i : Nat} {g : Nat} (h : blkAt L i = some g) : i < L.length ∧ ∃ x, L[i]? = some x ∧ x.2.2 = g := by
  unfold blkAt at h
  cases hx : L[i]? with
  | none => rw [hx] at h; cases h
  | some x => rw [hx] at h; exact ⟨(List.getElem?_eq_some_iff.1 hx).1, x, rfl, by simpa using h⟩

theorem blk_inj {L : List (Ent K)} (hnd : (L.map (·.2.2)).Nodup) {i j : Nat} {x y : Ent K} (hi : L[i]? = some x) (hj : L[j]? = some y) (h : x.2.2 = y.2.2) : i = j := by
  have h1 : (L.map (·.2.2))[i]? = some x.2.2 := by simp [hi]
  have h2 : (L.map (·.2.2))[j]? = some x.2.2 := by simp [hj, h]
  have li : i < (L.map (·.2.2)).length := (List.getElem?_eq_some_iff.1 h1).1
  have lj : j < (L.map (·.2.2)).length := (List.getElem?_eq_some_iff.1 h2).1
  have e1 := (List.getElem?_eq_some_iff.1 h1).2
  have e2 := (List.getElem?_eq_some_iff.1 h2).2
  have hp := List.pairwise_iff_getElem.1 hnd
  rcases Nat.lt_trichotomy i j with hlt | heq | hgt
  · exact absurd (e1.trans e2.symm) (hp i j li lj hlt)
  · exact heq
  · exact absurd (e2.trans e1.symm) (hp j i lj li hgt)

end

theorem blkOf_setVal {K : Type} [DecidableEq K] (L : List (Ent K)) (i : Nat) (v : Int) (k : K) : blkOf (setVal L i v) k = blkOf L k := by
  induction L generalizing i with
  | nil => simp [setVal]
  | cons y r ih =>
    cases i with
    | zero => simp [setVal, blkOf]
    | succ i =>
      have : setVal (y :: r) (i + 1) v = y :: setVal r i v := by simp [setVal]
      rw [this]
      simp only [blkOf]
      rw [ih]

section
variable {K : Type}
theorem blkAt_append {L : List (Ent K)} {x : Ent K} {i : Nat} (h : i < L.length) : blkAt (L ++ [x]) i = blkAt L i := by
  unfold blkAt
  rw [List.getElem?_append_left h]
theorem blkAt_append_last (L : List (Ent K)) (x : Ent K) : blkAt (L ++ [x]) L.length = some x.2.2 := by simp [blkAt]
theorem blkAt_over {L : List (Ent K)} {i : Nat} (h : L.length ≤ i) : blkAt L i = none := by simp [blkAt, h]
theorem blkAt_get {L : List (Ent K)} {i : Nat} {x : Ent K} (h : L[i]? = some x) : blkAt L i = some x.2.2 := by simp [blkAt, h]
theorem get_append_cases {L : List (Ent K)} {x y : Ent K} {i : Nat} (h : (L ++ [x])[i]? = some y) : (i < L.length ∧ L[i]? = some y) ∨ (i = L.length ∧ y = x) := by
  by_cases hi : i < L.length
  · rw [List.getElem?_append_left hi] at h
    exact .inl ⟨hi, h⟩
  · have hl := (List.getElem?_eq_some_iff.1 h).1
    simp at hl
    have e : i = L.length := by omega
    subst e
    simp at h
    exact .inr ⟨rfl, h.symm⟩
end

/-- A pointer to a block's head, or to nothing. -/
def ptr (g : Option Nat) : Value := .pointer (g.map fun b => ⟨b, 0, none⟩)
@[simp] theorem ptr_none : ptr none = .pointer none := rfl
@[simp] theorem ptr_some (b : Nat) : ptr (some b) = .pointer (some ⟨b, 0, none⟩) := rfl

/-- How such a pointer reads among a map's elements. -/
def ptrElem : Value → Option (DataW Unit × List MemPlace)
  | .pointer none => some (.lit (.int .i64 (-1)), [])
  | .pointer (some a) => if a.off = 0 ∧ a.spot = none then some (.lit (.int .i64 (a.block : Int)), []) else none
  | _ => none

def numOf : Option Nat → Int
  | none => -1
  | some g => (g : Int)

theorem ptrElem_mk (g : Option Nat) : ptrElem (ptr g) = some (.lit (.int .i64 (numOf g)), []) := by
  cases g with
  | none => rfl
  | some b => simp [ptrElem, ptr, numOf]

theorem ptrElem_inv {v : Value} {g : Option Nat} {ps : List MemPlace} (h : ptrElem v = some (.lit (.int .i64 (numOf g)), ps)) : v = ptr g := by
  unfold ptrElem at h
  split at h
  · cases g with
    | none => rfl
    | some b => simp [numOf] at h
  · rename_i a
    split at h
    · rename_i ha
      obtain ⟨b, o, s⟩ := a
      simp at ha
      obtain ⟨rfl, rfl⟩ := ha
      cases g with
      | none => simp [numOf] at h
      | some c =>
        simp [numOf] at h
        simp [ptr]
    · cases h
  · cases h

/-- The bound on a map's entries is their number. -/
theorem ownsMap_tight {w : World} {P : Program} {k : TypeId} {R : Value → Option (DataW Unit × List MemPlace)} {b n : Nat} {D : DataW Unit} (h : w.ownsMap P k R b n D) : w.ownsMap P k R b (Maps.size D) D := by
  obtain ⟨es, clock, hb, F, _, rfl⟩ := h
  exact ⟨es, clock, hb, F, by simp [Maps.size, length_sorted], rfl⟩

theorem ownsMap_block {w w' : World} {P : Program} {k : TypeId} {R : Value → Option (DataW Unit × List MemPlace)} {b n : Nat} {D : DataW Unit} (h : w.ownsMap P k R b n D) (hb : w'.heap[b]? = w.heap[b]?) : w'.ownsMap P k R b n D := by
  obtain ⟨es, clock, h1, r⟩ := h
  exact ⟨es, clock, hb.trans h1, r⟩

theorem map_not_cells {w : World} {P : Program} {k : TypeId} {R : Value → Option (DataW Unit × List MemPlace)} {b n g : Nat} {D : DataW Unit} {t : TypeId} {cs : Array Value} (h : w.ownsMap P k R b n D) (hg : Whole w g t cs) : b ≠ g := by
  obtain ⟨es, clock, hb, _⟩ := h
  intro e
  subst e
  have h' : w.heap[b]? = some (Obj.cells cs t (0, 0)) := hg
  rw [h'] at hb
  cases hb

end Go.Proofs.Ytgcnocaibhiggaa
