/- What holds between two rounds of the law WireRings. -/
import Derived.Test.YtgcnocaibhiggaaIter
import Derived.Deep.CutRange
import Derived.Deep.DeepCutAuto
import Derived.Deep.RegionLaw
namespace Go.Proofs.Ytgcnocaibhiggaa
open Go.RowKit Go.Shelf
set_option linter.unusedVariables false
attribute [local go_sem] Oper.semAt_some

theorem cell_lt {w : World} {a : Addr} {v : Value} (h : w.cell? a = some v) : a.block < w.heap.size := by
  rcases Nat.lt_or_ge a.block w.heap.size with hl | hl
  · exact hl
  · simp [World.cell?, Array.getElem?_eq_none hl] at h
theorem block_add (a : Addr) (n : Nat) : (a.add n).block = a.block := by unfold Addr.add; split <;> rfl

/-- What holds at the loop's head: the ring and the law's own list (L). -/
structure RInv (w : World) (b wb : Nat) (m : Int) (stop : Int) (wr : World) (v : Value) (ob : Option Nat) (k : Nat) (xs : List Int) (wv : Value) (wob : Option Nat) (L : List Int) : Prop where
  ring : Ring wr b m v k xs ob
  box : Whole wr wb 29 #[wv]
  list : Sl wr 21 wv (i32s L) wob
  apart : ∀ g, ob = some g → wob ≠ some g
  stop : Whole wr w.heap.size 3 #[.int .i64 stop]
  res : Whole wr (w.heap.size + 1) 4 #[.bool false]
  below : Below w.heap.size w wr
  obIn : ∀ g, ob = some g → w.heap.size ≤ g
  wobIn : ∀ g, wob = some g → w.heap.size ≤ g
  bIn : w.heap.size ≤ b
  wbIn : w.heap.size ≤ wb

/-- What is so of the ring's numbers between two rounds. -/
def RNum (m : Int) (v : Value) (k : Nat) (xs L : List Int) : Prop :=
  (k < xs.length ∨ (xs = [] ∧ k = 0 ∧ v = .slice none 0 0)) ∧ (xs.length : Int) ≤ max m 1 ∧ ((xs.length : Int) < max m 1 → k = 0) ∧ L = xs.drop k ++ xs.take k

section
variable {w w1 w2 wr wr' : World} {b wb k : Nat} {m stop : Int} {v wv : Value} {ob wob : Option Nat} {xs L : List Int}

theorem rinv_start (hB1 : Below ((w.alloc (.cells #[.int .i64 stop] 3)).alloc (.cells #[.bool false] 4)).heap.size ((w.alloc (.cells #[.int .i64 stop] 3)).alloc (.cells #[.bool false] 4)) w1)
    (hR0 : Ring w2 w1.heap.size m (.slice none 0 0) 0 [] none) (hB2 : Below w1.heap.size w1 w2) :
    RInv w w1.heap.size w2.heap.size m stop (w2.alloc (.cells #[.slice none 0 0] 29)) (.slice none 0 0) none 0 [] (.slice none 0 0) none [] := by
  have s0 := (((Whole.new w 3 #[.int .i64 stop]).alloc (.cells #[.bool false] 4)).under hB1).under hB2
  have s1 := ((Whole.new (w.alloc (.cells #[.int .i64 stop] 3)) 4 #[.bool false]).under hB1).under hB2
  have e1 : (w.alloc (.cells #[.int .i64 stop] 3)).heap.size = w.heap.size + 1 := by simp
  rw [e1] at s1
  have z1 := hB1.size
  have z2 := hB2.size
  simp at z1
  have bel : Below w.heap.size w w2 := (((Below.refl _ w).alloc (Nat.le_refl _) _).alloc (by simp) _).trans ((hB1.mono (by simp; omega)).trans (hB2.mono (by omega)))
  exact ⟨⟨hR0.1.alloc _, Sl.nil _ _⟩, Whole.new _ _ _, Sl.nil _ _, fun g h => (by cases h), s0.alloc _, s1.alloc _, bel.alloc (by omega) _, fun g h => (by cases h), fun g h => (by cases h), by omega, by omega⟩

theorem i32s_append (xs ys : List Int) : i32s xs ++ i32s ys = i32s (xs ++ ys) := by simp [i32s]

/-- Behind the append to the law's list. -/
theorem rinv_append (h : RInv w b wb m stop wr v ob k xs wv wob L) {x : Int} {g off n cap : Nat} {t : TypeId} (hS : Sl w1 21 (.slice (some ⟨g, off, none⟩) n cap) (i32s L ++ [.int .i32 x]) (some g))
    (hgr : (wr.alloc (.cells #[.int .i32 x] t)).grownBy w1 wob) (hat : wob = some g ∨ wr.heap.size + 1 ≤ g) :
    RInv w b wb m stop (w1.setCell ⟨wb, 0, none⟩ (.slice (some ⟨g, off, none⟩) n cap)) v ob k xs (.slice (some ⟨g, off, none⟩) n cap) (some g) (L ++ [x]) := by
  have hz := h.below.size
  have hO : Only (fun j => wob = some j) wr w1 := ((Only.refl _ wr).alloc _).grown hgr (fun k hk => .inl hk)
  have n1 : ∀ {g' : Nat} {t' : TypeId} {cs : Array Value}, Whole wr g' t' cs → 21 ≠ t' → ¬ (wob = some g') := fun hw hne => h.list.ne_whole hw hne
  have hW := h.box.only hO (n1 h.box (by decide))
  have hgw : ∀ {g' : Nat} {t' : TypeId} {cs : Array Value}, Whole w1 g' t' cs → 21 ≠ t' → g ≠ g' := fun hw hne e => hS.ne_whole hw hne (by rw [e])
  have hgb : g ≠ wb := hgw hW (by decide)
  have hrb := h.ring.1.only hO (n1 h.ring.1 (by decide))
  have hobs : ∀ g', ob = some g' → ¬ (wob = some g') := h.apart
  have hs0 := h.stop.only hO (n1 h.stop (by decide))
  have hs1 := h.res.only hO (n1 h.res (by decide))
  have hlt : ∀ g', ob = some g' → g' < wr.heap.size := fun g' e => h.ring.2.lt e
  refine ⟨⟨hrb.far (p := ⟨wb, 0, none⟩) (hrb.ne hW (by decide)) _, (h.ring.2.only hO hobs).far (p := ⟨wb, 0, none⟩) (h.ring.2.ne_whole h.box (by decide)) _⟩, hW.set 0 _, ?_, ?_, hs0.far (p := ⟨wb, 0, none⟩) (hs0.ne hW (by decide)) _, hs1.far (p := ⟨wb, 0, none⟩) (hs1.ne hW (by decide)) _, ?_, h.obIn, ?_, h.bIn, h.wbIn⟩
  · rw [← i32s_append]
    exact hS.far (p := ⟨wb, 0, none⟩) (by simpa using hgb) _
  · intro g' e e2
    cases e2
    rcases hat with e3 | e3
    · exact h.apart _ e e3
    · have := hlt _ e; omega
  · have hb1 : Below w.heap.size w w1 := h.below.trans (hO.below (fun k e => h.wobIn k e) hz)
    exact hb1.setCell (p := ⟨wb, 0, none⟩) h.wbIn _
  · intro g' e
    cases e
    rcases hat with e3 | e3
    · exact h.wobIn _ e3
    · omega

/-- Behind a call of the ring's Put. -/
theorem rinv_put (h : RInv w b wb m stop wr v ob k xs wv wob L) {v' : Value} {ob' : Option Nat} {k' : Nat} {xs' : List Int} (hR : Ring w1 b m v' k' xs' ob') (hO : Only (RingS b ob) wr w1) (hat : ob' = ob ∨ ∃ g, ob' = some g ∧ wr.heap.size ≤ g) :
    RInv w b wb m stop w1 v' ob' k' xs' wv wob L := by
  have hz := h.below.size
  have n1 : ∀ {g' : Nat} {t' : TypeId} {cs : Array Value}, Whole wr g' t' cs → 21 ≠ t' → 78 ≠ t' → ¬ RingS b ob g' := fun hw hne hne2 e => by
    rcases e with rfl | e
    · exact hw.ne h.ring.1 (fun e => hne2 e.symm) rfl
    · exact h.ring.2.ne_whole hw hne e
  refine ⟨hR, h.box.only hO (n1 h.box (by decide) (by decide)), h.list.only hO ?_, ?_, h.stop.only hO (n1 h.stop (by decide) (by decide)), h.res.only hO (n1 h.res (by decide) (by decide)), h.below.trans (hO.below ?_ hz), ?_, h.wobIn, h.bIn, h.wbIn⟩
  · intro g e e2
    rcases e2 with rfl | e2
    · exact h.list.ne_whole h.ring.1 (by decide) e
    · exact h.apart g e2 e
  · intro g e e2
    rcases hat with rfl | ⟨g', e3, e4⟩
    · exact h.apart g e e2
    · rw [e3] at e; cases e
      have := h.list.lt e2; omega
  · intro k e
    rcases e with rfl | e
    · exact h.bIn
    · exact h.obIn k e
  · intro g e
    rcases hat with rfl | ⟨g', e3, e4⟩
    · exact h.obIn g e
    · rw [e3] at e; cases e; omega

/-- Behind 'want = want[1:]'. -/
theorem rinv_tail (h : RInv w b wb m stop wr v ob k xs wv wob L) {wv' : Value} {wob' : Option Nat} {L' : List Int} (hS : Sl wr 21 wv' (i32s L') wob') (hw : ∀ g, wob' = some g → wob = some g) :
    RInv w b wb m stop (wr.setCell ⟨wb, 0, none⟩ wv') v ob k xs wv' wob' L' :=
  ⟨⟨h.ring.1.far (p := ⟨wb, 0, none⟩) (h.ring.1.ne h.box (by decide)) _, h.ring.2.far (p := ⟨wb, 0, none⟩) (h.ring.2.ne_whole h.box (by decide)) _⟩, h.box.set 0 _, hS.far (p := ⟨wb, 0, none⟩) (hS.ne_whole h.box (by decide)) _,
    fun g e e2 => h.apart g e (hw g e2), h.stop.far (p := ⟨wb, 0, none⟩) (h.stop.ne h.box (by decide)) _, h.res.far (p := ⟨wb, 0, none⟩) (h.res.ne h.box (by decide)) _, h.below.setCell (p := ⟨wb, 0, none⟩) h.wbIn _, h.obIn, fun g e => h.wobIn g (hw g e), h.bIn, h.wbIn⟩

theorem RInv.drewN (h : RInv w b wb m stop wr v ob k xs wv wob L) (n : Nat) : RInv w b wb m stop (wr.drewN n) v ob k xs wv wob L :=
  ⟨h.ring, h.box, h.list, h.apart, h.stop, h.res, below_drewN' h.below n, h.obIn, h.wobIn, h.bIn, h.wbIn⟩
theorem RInv.drew (h : RInv w b wb m stop wr v ob k xs wv wob L) : RInv w b wb m stop wr.drew v ob k xs wv wob L :=
  ⟨h.ring, h.box, h.list, h.apart, h.stop, h.res, h.below.drew, h.obIn, h.wobIn, h.bIn, h.wbIn⟩
end

theorem set_take_drop (xs : List Int) (k : Nat) (x : Int) (hk : k < xs.length) : xs.set k x = xs.take k ++ x :: xs.drop (k + 1) := by
  rw [List.set_eq_take_append_cons_drop, if_pos hk]

/-- The oldest leaves, x joins. -/
theorem rot_step (xs : List Int) (k : Nat) (x : Int) (hk : k < xs.length) :
    ((xs.drop k ++ xs.take k) ++ [x]).drop 1 = (xs.set k x).drop ((k + 1) % xs.length) ++ (xs.set k x).take ((k + 1) % xs.length) := by
  have e : xs.drop k = xs[k] :: xs.drop (k + 1) := List.drop_eq_getElem_cons hk
  have hl : (xs.take k).length = k := by simp; omega
  rw [e, set_take_drop xs k x hk]
  by_cases h : k + 1 = xs.length
  · rw [h, Nat.mod_self]
    simp
  · rw [Nat.mod_eq_of_lt (by omega)]
    have e2 : (xs.take k ++ x :: xs.drop (k + 1)).drop (k + 1) = xs.drop (k + 1) := by
      rw [List.drop_append, hl, List.drop_of_length_le (by omega)]
      simp
    have e3 : (xs.take k ++ x :: xs.drop (k + 1)).take (k + 1) = xs.take k ++ [x] := by
      rw [List.take_append, hl, List.take_of_length_le (by omega)]
      simp
    rw [e2, e3]
    simp only [List.cons_append, List.drop_succ_cons, List.drop_zero, List.append_assoc]

theorem rnum_room {m : Int} {v v' : Value} {k : Nat} {xs L : List Int} (h : RNum m v k xs L) (x : Int) (hr : (xs.length : Int) < max m 1) : RNum m v' k (xs ++ [x]) (L ++ [x]) ∧ L.length = xs.length ∧ k = 0 := by
  obtain ⟨h1, h2, h3, rfl⟩ := h
  obtain rfl := h3 hr
  refine ⟨⟨.inl (by simp), by simp; omega, fun _ => rfl, by simp⟩, by simp, rfl⟩

theorem rnum_full {m : Int} {v : Value} {k : Nat} {xs L : List Int} (h : RNum m v k xs L) (x : Int) (hr : ¬ (xs.length : Int) < max m 1) : RNum m v ((k + 1) % xs.length) (xs.set k x) ((L ++ [x]).drop 1) ∧ L.length = xs.length ∧
    k < xs.length ∧ (xs.length : Int) = max m 1 ∧ ∃ y, xs[k]? = some y ∧ (L ++ [x])[0]? = some y := by
  obtain ⟨h1, h2, h3, rfl⟩ := h
  have hk : k < xs.length := by
    rcases h1 with h1 | ⟨rfl, _, _⟩
    · exact h1
    · simp at hr; omega
  refine ⟨⟨.inl ?_, by simpa using h2, fun hh => absurd (by simpa using hh) hr, rot_step xs k x hk⟩, by simp; omega, hk, by omega, xs[k], List.getElem?_eq_getElem hk, ?_⟩
  · rw [List.length_set]; exact Nat.mod_lt _ (by omega)
  · rw [List.drop_eq_getElem_cons hk]; rfl

theorem list_tail {w : World} {g off cap : Nat} {L : List Int} {x : Int} {ob : Option Nat} (h : Sl w 21 (.slice (some ⟨g, off, none⟩) (L.length + 1) cap) (i32s (L ++ [x])) ob) (hc : ¬ cap = 1) :
    Sl w 21 (.slice (some ⟨g, off + 1, none⟩) L.length (cap - 1)) (i32s ((L ++ [x]).drop 1)) ob := by
  have el : (i32s (L ++ [x])).length = L.length + 1 := by simp
  have q := h.tail (g := g) (off := off) (cap := cap) (by rw [el]) (by rw [el]; omega)
  rw [if_neg hc, if_neg hc, el] at q
  have ed : (i32s (L ++ [x])).drop 1 = i32s ((L ++ [x]).drop 1) := by simp [i32s]
  rw [ed] at q
  exact q

theorem rnum_len {m : Int} {v : Value} {k : Nat} {xs L : List Int} (h : RNum m v k xs L) : L.length = xs.length := by
  obtain ⟨h1, _, _, rfl⟩ := h
  rcases h1 with h1 | ⟨rfl, _, _⟩
  · simp; omega
  · simp

end Go.Proofs.Ytgcnocaibhiggaa
