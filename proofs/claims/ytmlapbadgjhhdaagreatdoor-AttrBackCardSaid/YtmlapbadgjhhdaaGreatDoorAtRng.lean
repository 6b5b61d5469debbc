/- A range over a function whose iterator tells its loop something of each thing that it hands out, of the world in which it does so. -/
import Derived.Test.YtmlapbadgjhhdaaGreatDoorAtMW
import Derived.RangeFuncNested
import Derived.RangeFuncBound
import Derived.RangeFuncCalls
import Derived.RangeFuncLeaves
import Derived.Shelf.Abstract
import Derived.OwnWalkIn
import Derived.TacticsInMore
import Derived.LoopNIn
import Derived.LoopIn
import Derived.Deep.DeepMust
namespace Go.Proofs.YtmlapbadgjhhdaaGreatDoor
open Go.RowKit Go.Shelf
set_option linter.unusedVariables false
set_option linter.unusedSimpArgs false

abbrev FW : Fence := Fence.wide
/-- What the body of a function with a range over a function comes to; it doesn't panic. -/
def postM (n : Nat) (fn : Func) (R : Ending → World → Prop) : Exit → Act → World → Prop
  | .normal, a, w | .ret, a, w => LeavesInM FW n Tryz.prog fn a.tmps R a.defers .returning w
  | _, _, _ => False
theorem calls_marks (n : Nat) {f : FuncId} {fn : Func} {c : Code} {args : Array Value} {w : World} {R : Ending → World → Prop} (hf : Tryz.prog.funcs[f]? = some fn) (hb : fn.body = some c)
    (h : c.wp Tryz.prog (postM n fn R) { tmps := args ++ Array.replicate (fn.ntmps - args.size) undef, defers := [] } w) : Calls Tryz.prog f args w R := by
  refine (callsIn_wide (n := n)).1 (callsIn_of_wp_marks hf hb trivial (wpIn_wide.2 (wp_mono h ?_)) rfl)
  intro e a' w' hq
  cases e with
  | normal => exact hq
  | ret => exact hq
  | panic c => exact hq.elim
  | exit c => exact hq.elim
  | goto c => exact hq.elim
  | outgrown => exact hq.elim
/-- An iterator value: G is what it tells of a thing x, behind the things pre; Kp is what it wants kept by a round that goes on; S: all of the things. -/
def Tells {α : Type} (n g : Nat) (lb : Array Value) (encs : α → Array Value) (G : List α → α → World → Prop) (Kp : World → World → Prop) (S : List α → Prop) (w : World) : Prop :=
  ∀ (l : Nat) (J : List α → World → Prop) (Jx : World → Prop) (W : World), Below w.heap.size w W →
    (∀ s A B, J s A → Below A.heap.size A B → J s B) →
    (∀ pre x W1, J pre W1 → G pre x W1 → YieldAt FW (n - 1) Tryz.prog l (encs x) W1 fun e W' => (e = .returned (.bool true) ∧ J (pre ++ [x]) W' ∧ Kp W1 W') ∨ (e = .returned (.bool false) ∧ Jx W')) →
    J [] W →
    CallsIn FW n Tryz.prog g (#[.func (.yield l) #[] #[]] ++ lb) W fun e W' => (∃ v, e = .returned v) ∧ ((∃ xs, S xs ∧ J xs W') ∨ Jx W')
/-- The loop's two blocks: its record, and the place of calls put off. -/
structure Books (K : Nat) (r : Loop) (W : World) : Prop where
  loop : W.heap[K + 1]? = some (.loop r)
  late : W.heap[K]? = some (.deferred (some []))
theorem Books.keeps {K : Nat} {r : Loop} {W W' : World} (h : Books K r W) (k : KeepsFrom K W W') : Books K r W' := ⟨k.same _ _ (by omega) h.loop rfl, k.same _ _ (Nat.le_refl _) h.late rfl⟩
theorem Books.under {K : Nat} {r : Loop} {W W' : World} (h : Books K r W) (k : Below W.heap.size W W') : Books K r W' := h.keeps ((others_under k).from K)
theorem Books.turn {K : Nat} {r : Loop} {W : World} (h : Books K r W) (r' : Loop) : Books K r' (W.putObj (K + 1) (.loop r')) :=
  ⟨World.putObj_heap_same (Array.getElem?_eq_some_iff.1 h.loop).1, (World.putObj_heap_other (by omega)).trans h.late⟩
/-- How a round's body may be left. -/
def roundEnd (K : Nat) (Kp : World → World → Prop) (I Ix : World → Prop) (W : World) : Exit → Act → World → Prop
  | .normal, _, W' => KeepsFrom K W W' ∧ Kp W W' ∧ I W'
  | .ret, _, W' => KeepsFrom K W W' ∧ Ix W'
  | _, _, _ => False
theorem range_told {α : Type} {n : Nat} {g : Operand} {ps : Array Tmp} {assign body : Code} {Q : Exit → Act → World → Prop} {a : Act} {w : World} (h1 : 1 ≤ n) {gf : Nat} {lb : Array Value} (hg : a.eval g = .func (.func gf) #[] lb)
    (eg : ∀ args w, (callFunc gf args).run Tryz.prog w = .ok (.enter gf args) w) {encs : α → Array Value} {G : List α → α → World → Prop} {Kp : World → World → Prop} {S : List α → Prop} (hseq : Tells (n - 1) gf lb encs G Kp S w)
    (hKt : ∀ {A B C : World}, Kp A B → Kp B C → Kp A C) (hKb : ∀ (W : World) (l : Nat) (o o' : Obj), w.heap.size ≤ l → W.heap[l]? = some o → o.isCells = false → Kp W (W.putObj l o')) (hps : ∀ x, (encs x).size = ps.size)
    (I : List α → World → Prop) (Ix : World → Prop) (hI : OwnFrom w.heap.size I) (hIx : OwnFrom w.heap.size fun (_ : Unit) W => Ix W) (h0 : I [] w)
    (Ax : List α → α → Act → World → Prop) (hAx : ∀ pre x a', OwnFrom w.heap.size fun (_ : Unit) W => Ax pre x a' W)
    (hassign : ∀ (l : Nat) (pre : List α) (x : α) (W : World) (K : Act → World → Prop), I pre W → G pre x W → (∀ a' W', KeepsFrom w.heap.size W W' → Kp W W' → Ax pre x a' W' → K a' W') →
      assign.wpIn (FW.inRound l) (n - 1 - 1) Tryz.prog (Exit.then K fun _ _ _ => False) { tmps := (ps.zip (encs x)).foldl (fun t (p, v) => t.setIfInBounds p v) a.tmps, defers := [] } W)
    (hbody : ∀ (l : Nat) (pre : List α) (x : α) (a' : Act) (W : World), Ax pre x a' W → body.wpIn (FW.inRound l) (n - 1 - 1) Tryz.prog (roundEnd w.heap.size Kp (I (pre ++ [x])) Ix W) a' W)
    (hdone : ∀ (D : Nat) (xs : List α) (W : World), w.heap.size ≤ D → S xs → I xs W → W.heap[D]? = some (.deferred (some [])) → Q .normal { a with defers := { target := .collected D, args := #[] } :: a.defers } W)
    (hstop : ∀ (D : Nat) (W : World), w.heap.size ≤ D → Ix W → W.heap[D]? = some (.deferred (some [])) → Q .ret { a with defers := { target := .collected D, args := #[] } :: a.defers } W) :
    (Code.rangeFunc g ps assign body).wpIn FW n Tryz.prog Q a w := by
  refine wpIn_rangeFunc fun fn hfn => ?_
  obtain ⟨K, hK⟩ : ∃ K, w.heap.size = K := ⟨_, rfl⟩
  obtain ⟨rc, hrc⟩ : ∃ rc : LoopState → Option Code → Loop, rc = fun st pe => { state := st, pending := pe, fn, tmps := a.tmps, params := ps, assign, body, defers := K } := ⟨_, rfl⟩
  obtain ⟨W1, hW1⟩ : ∃ W1, (w.alloc (.deferred (some []))).alloc (.loop (rc .ready none)) = W1 := ⟨_, rfl⟩
  have hsz1 : (w.alloc (.deferred (some []))).heap.size = K + 1 := by rw [World.size_alloc, hK]
  have hb1 : Below w.heap.size w W1 := by
    rw [← hW1]
    exact ((Below.refl _ w).alloc (Nat.le_refl _) _).alloc (by simp) _
  have hB1 : Books K (rc .ready none) W1 := by
    refine ⟨?_, ?_⟩
    · rw [← hW1, ← hsz1]
      exact World.alloc_heap_new _ _
    · rw [← hW1]
      refine (Below.heap_alloc _ _ _ (by rw [hsz1]; omega)).trans ?_
      rw [← hK]
      exact World.alloc_heap_new w _
  have hI1 : I [] W1 := by
    rw [← hW1]
    exact hI.alloc _ (hI.alloc _ h0)
  rw [hK] at hI hIx hAx hassign hbody hdone hstop hKb
  have hown : ∀ {s : List α} {A B : World}, I s A → Below A.heap.size A B → I s B := fun hs hb => hI _ _ _ none hs ⟨hb.os, hb.tape, hb.output, hb.size, fun k hk _ => hb.block k hk⟩ (fun r e => by cases e)
  refine ⟨K + 1, [{ target := .collected K, args := #[] }], W1, { target := .fn (.func gf) lb, args := #[.func (.yield (K + 1)) #[] #[]] }, W1, gf, #[.func (.yield (K + 1)) #[] #[]] ++ lb, W1, ?_, ?_, ?_, ?_, fun _ => h1, ?_⟩
  · have := run_enterLoop_outer (P := Tryz.prog) (w := w) fn a.tmps ps assign body
    rw [hK] at this
    rw [← hW1, hrc]
    exact this
  · simp only [resolve, hg]
    simp [go_sem]
  · intro f' hf'
    trivial
  · simp [invoke, go_sem, eg]
  · refine (hseq (K + 1) (fun pre W => I pre W ∧ Books K (rc .ready none) W) (fun W => Ix W ∧ Books K (rc .done (some .ret)) W) W1 hb1 (fun s A B h hb => ⟨hown h.1 hb, h.2.under hb⟩) ?_ ⟨hI1, hB1⟩).mono ?_
    · rintro pre x W ⟨hi, hB⟩ hGx
      have hy := run_yield (P := Tryz.prog) (args := encs x) hB.loop (by rw [hrc]; exact hps x)
      rw [hrc] at hy
      refine ⟨fn, _, assign, body, hy, roundIn_of_wpIn hfn (hassign _ pre x W _ hi hGx ?_)⟩
      clear hy
      intro a' Wa hka hkpa hax
      have hBa := hB.keeps hka
      refine ⟨_, run_beginRound hBa.loop (by rw [hrc]), ?_⟩
      have hBb := hBa.turn { rc .ready none with state := .busy }
      have hkb : Kp Wa (Wa.putObj (K + 1) (.loop { rc .ready none with state := .busy })) := hKb _ _ _ _ (by omega) hBa.loop rfl
      refine wpIn_mono (hbody _ pre x a' _ ((hAx pre x a').putObj (s := ()) _ hax (by omega) hBa.loop rfl)) ?_
      rintro e a3 W3 hp
      cases e with
      | normal =>
        obtain ⟨hk3, hkp3, hi3⟩ := hp
        have hB3 := hBb.keeps hk3
        refine ⟨_, _, run_endRound (P := Tryz.prog) none hB3.loop, .inl ⟨rfl, ⟨hI.putObj _ hi3 (by omega) hB3.loop rfl, ?_⟩, hKt hkpa (hKt (hKt hkb hkp3) (hKb _ _ _ _ (by omega) hB3.loop rfl))⟩⟩
        rw [hrc]
        exact hB3.turn _
      | ret =>
        obtain ⟨hk3, hi3⟩ := hp
        have hB3 := hBb.keeps hk3
        refine ⟨_, _, run_endRound (P := Tryz.prog) (some .ret) hB3.loop, .inr ⟨rfl, hIx.putObj (s := ()) _ hi3 (by omega) hB3.loop rfl, ?_⟩⟩
        rw [hrc]
        exact hB3.turn _
      | exit id => exact hp.elim
      | goto t => exact hp.elim
      | panic ch => exact hp.elim
      | outgrown => exact hp.elim
    · rintro e W2 ⟨⟨v, rfl⟩, (⟨xs, hS, hi, hB⟩ | ⟨hi, hB⟩)⟩
      · refine ⟨none, W2.putObj (K + 1) (.loop { rc .ready none with state := .exhausted }), ?_, hdone _ xs _ (Nat.le_refl _) hS (hI.putObj _ hi (by omega) hB.loop rfl) (hB.turn _).late⟩
        have := run_endLoop (P := Tryz.prog) hB.loop (by rw [hrc]; simp)
        rw [hrc] at this ⊢
        exact this
      · refine ⟨some .ret, W2.putObj (K + 1) (.loop { rc .done (some .ret) with state := .exhausted }), ?_, wpIn_ret (hstop _ _ (Nat.le_refl _) (hIx.putObj (s := ()) _ hi (by omega) hB.loop rfl) (hB.turn _).late)⟩
        have := run_endLoop (P := Tryz.prog) hB.loop (by rw [hrc]; simp)
        rw [hrc] at this ⊢
        exact this
end Go.Proofs.YtmlapbadgjhhdaaGreatDoor
