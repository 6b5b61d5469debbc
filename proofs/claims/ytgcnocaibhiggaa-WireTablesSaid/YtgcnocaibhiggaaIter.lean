/- What a ring's iterator does: it hands a copy's things to yield, one by one; what a loop's body must keep for it. -/
import Derived.Test.YtgcnocaibhiggaaRingList
import Derived.RangeFuncNested
import Derived.RangeFuncBound
import Derived.RangeFuncCalls
import Derived.RangeFuncLeaves
import Derived.Shelf.Abstract
import Derived.OwnWalkIn
import Derived.TacticsInMore
import Derived.LoopNIn
import Derived.LoopIn
import Derived.Deep.DeepMust
namespace Go.Proofs.Ytgcnocaibhiggaa
open Go.RowKit Go.Shelf
set_option linter.unusedVariables false
attribute [local go_sem] Oper.semAt_some

/-- What a round that goes on keeps: the cells of the blocks that are safe; these stay safe. -/
def KpS (Safe : World → Nat → Prop) (W W' : World) : Prop := ∀ g cs t fr, Safe W g → W.heap[g]? = some (Obj.cells cs t fr) → W'.heap[g]? = some (Obj.cells cs t fr) ∧ Safe W' g

theorem KpS.trans {Safe : World → Nat → Prop} {A B C : World} (h : KpS Safe A B) (k : KpS Safe B C) : KpS Safe A C := fun g cs t fr hs hg =>
  let ⟨h1, h2⟩ := h g cs t fr hs hg
  k g cs t fr h2 h1
theorem KpS.refl (Safe : World → Nat → Prop) (W : World) : KpS Safe W W := fun _ _ _ _ hs hg => ⟨hg, hs⟩

theorem below_grown {W W' : World} (h : Below W.heap.size W W') : W.grownBy W' none := ⟨h.os, h.tape, h.output, h.size, fun k hk _ => h.block k hk⟩

/-- The first k of f 0, f 1, .. -/
def firsts {α : Type} (f : Nat → α) (k : Nat) : List α := (List.range k).map f
theorem firsts_succ {α : Type} (f : Nat → α) (k : Nat) : firsts f (k + 1) = firsts f k ++ [f k] := by simp [firsts, List.range_succ]
theorem firsts_length {α : Type} (f : Nat → α) (k : Nat) : (firsts f k).length = k := by simp [firsts]

/-- A place and the thing there. -/
def place (L : List Int) (j : Nat) : Nat × Int := (j, L.getD j 0)
def encP (x : Nat × Int) : Array Value := #[.int .i64 (x.1 : Int), .int .i32 x.2]

abbrev FW : Fence := Fence.wide

/-- What the body of a function with a range over a function must come to; it doesn't panic. -/
def postM (n : Nat) (P : Program) (fn : Func) (R : Ending → World → Prop) : Exit → Act → World → Prop
  | .normal, a, w | .ret, a, w => LeavesInM Fence.wide n P fn a.tmps R a.defers .returning w
  | _, _, _ => False

theorem calls_marks (n : Nat) {P : Program} {f : FuncId} {fn : Func} {c : Code} {args : Array Value} {w : World} {R : Ending → World → Prop} (hf : P.funcs[f]? = some fn) (hb : fn.body = some c)
    (h : c.wp P (postM n P fn R) { tmps := args ++ Array.replicate (fn.ntmps - args.size) undef, defers := [] } w) : Calls P f args w R := by
  refine (callsIn_wide (n := n)).1 (callsIn_of_wp_marks hf hb trivial (wpIn_wide.2 (wp_mono h ?_)) rfl)
  intro e a' w' hq
  cases e with
  | normal => exact hq
  | ret => exact hq
  | panic c => exact hq.elim
  | exit c => exact hq.elim
  | goto c => exact hq.elim
  | outgrown => exact hq.elim

set_option maxRecDepth 100000 in
set_option maxHeartbeats 2000000 in
theorem ringIter_some (n l Br b : Nat) (hn : 1 ≤ n) (most : Int) (v : Value) (k : Nat) (xs : List Int) (ob : Option Nat) (Safe : World → Nat → Prop) (J Jx : List (Nat × Int) → World → Prop)
    (hY : ∀ pre x W, J pre W → pre.length < xs.length → YieldAt FW (n - 1) Try.prog l (encP x) W fun e W' =>
      (e = .returned (.bool true) ∧ J (pre ++ [x]) W' ∧ KpS Safe W W') ∨ (e = .returned (.bool false) ∧ Jx (pre ++ [x]) W'))
    (W : World) (hBr : W.cell? ⟨Br, 0, none⟩ = some (.pointer (some ⟨b, 0, none⟩))) (hR : Ring W b most v k xs ob) (hk : k < xs.length) (hbig : xs.length ≤ 1000000)
    (hJ : ∀ W', Below W.heap.size W W' → J [] W') (hS : ∀ W' g, Below W.heap.size W W' → W.heap.size ≤ g → Safe W' g) :
    CallsIn FW n Try.prog 43 #[.func (.yield l) #[] #[], .pointer (some ⟨Br, 0, none⟩)] W fun e W' => (∃ v, e = .returned v) ∧
      ((∃ ys, ys = firsts (place (xs.drop k ++ xs.take k)) xs.length ∧ J ys W') ∨ (∃ pre, (∃ j, j ≤ xs.length ∧ pre = firsts (place (xs.drop k ++ xs.take k)) j) ∧ Jx pre W')) := by
  have hlist := list_some b most v k xs ob W hR hk hbig
  have HL := Lib.hid hlist
  obtain ⟨L, hLe⟩ : ∃ L, xs.drop k ++ xs.take k = L := ⟨_, rfl⟩
  have hLl : L.length = xs.length := by rw [← hLe]; simp; omega
  rw [hLe] at HL ⊢
  have HE := Lib.hid hLl
  have HY := Lib.hid hY
  have HJ := Lib.hid hJ
  have HS := Lib.hid hS
  clear hlist hR hLe hLl hY hJ hS
  refine callsIn_of_wp Try.func43 rfl trivial ?_ rfl
  simp only [Try.ntmps43, List.size_toArray, List.length_cons, List.length_nil, Nat.reduceAdd, Nat.reduceSub, Array.replicate_succ, Array.replicate_zero, List.push_toArray, List.append_toArray, List.nil_append, List.cons_append]
  gi_wp2_with (refine ⟨trivial, ?_⟩; gi_at_call 44; go_must (refine (callsIn_wide.2 HL.out).mono ?_); rintro e w1 ⟨g, cap, cur, rfl, hF⟩)
  obtain ⟨h1, h2, h3, h4, h5, h6⟩ := hF
  have HT := Lib.hid h5
  clear h5
  gi_loopw [8] (fun i wr => ∃ j : Nat, j ≤ xs.length ∧ i = .int .i64 j ∧ J (firsts (place L) j) wr ∧ Whole wr g 21 cur ∧ Safe wr g)
    (fun i _ => xs.length - (intOf i).toNat)
  case atStart => exact ⟨0, Nat.zero_le _, rfl, HJ.out _ h6, h2, HS.out _ _ h6 h1⟩
  case round =>
    obtain ⟨j, hj, rfl, hJs, hW, hSf⟩ := hrel
    by_cases hlt : j < xs.length
    · have hc : wr.cell? ⟨g, j, none⟩ = some (.int .i32 (L.getD j 0)) := by
        rw [hW.cell]
        refine take_get HT.out ?_
        have hjL : j < L.length := by rw [HE.out]; exact hlt
        simp [i32s, List.getD, List.getElem?_eq_getElem hjL]
      obtain ⟨x, hx⟩ : ∃ x, L.getD j 0 = x := ⟨_, rfl⟩
      have hpl : place L j = (j, x) := by unfold place; rw [hx]
      rw [hx] at hc
      obtain ⟨fn, tmps, assign, body, hy, hR⟩ := HY.out _ (j, x) wr hJs (by rw [firsts_length]; exact hlt)
      have HP := Lib.hid hpl
      simp only [encP] at hy
      have HW := Lib.hid hW
      clear hpl hx hW
      gi_wp2
      refine hR.mono ?_
      rintro e W3 (⟨rfl, hJ3, hk3⟩ | ⟨rfl, hJx3⟩)
      · gi_wp2
        obtain ⟨hW3, hS3⟩ := hk3 g cur 21 (0, 0) hSf HW.out
        go_roundw
        case rel => exact ⟨j + 1, by omega, by simp, by rw [firsts_succ, HP.out]; exact hJ3, hW3, hS3⟩
        case measure => simp [intOf]; omega
      · gi_wp2
        refine bodyPost_ret (results_none rfl _ _ _) rfl ?_
        exact ⟨⟨_, rfl⟩, .inr ⟨_, ⟨j + 1, by omega, (by rw [firsts_succ, HP.out] : firsts (place L) j ++ [(j, x)] = firsts (place L) (j + 1))⟩, hJx3⟩⟩
    · obtain rfl : j = xs.length := by omega
      gi_wp2
      go_end0
      exact ⟨⟨_, rfl⟩, .inl ⟨_, rfl, hJs⟩⟩

set_option maxRecDepth 100000 in
set_option maxHeartbeats 2000000 in
theorem ringIter_nil (n l Br b : Nat) (hn : 1 ≤ n) (most : Int) (ob : Option Nat) (J : List (Nat × Int) → World → Prop)
    (W : World) (hBr : W.cell? ⟨Br, 0, none⟩ = some (.pointer (some ⟨b, 0, none⟩))) (hR : Ring W b most (.slice none 0 0) 0 [] ob) (hJ : ∀ W', Below W.heap.size W W' → J [] W') :
    CallsIn FW n Try.prog 43 #[.func (.yield l) #[] #[], .pointer (some ⟨Br, 0, none⟩)] W fun e W' => (∃ v, e = .returned v) ∧ J [] W' := by
  have HL := Lib.hid (list_nil b most ob W hR)
  have HJ := Lib.hid hJ
  clear hJ hR
  refine callsIn_of_wp Try.func43 rfl trivial ?_ rfl
  simp only [Try.ntmps43, List.size_toArray, List.length_cons, List.length_nil, Nat.reduceAdd, Nat.reduceSub, Array.replicate_succ, Array.replicate_zero, List.push_toArray, List.append_toArray, List.nil_append, List.cons_append]
  gi_wp2_with (refine ⟨trivial, ?_⟩; gi_at_call 44; go_must (refine (callsIn_wide.2 HL.out).mono ?_); rintro e w1 ⟨rfl, hb⟩)
  gi_loopw [8] (fun i wr => i = .int .i64 0 ∧ J [] wr) (fun _ _ => 0)
  case atStart => exact ⟨rfl, HJ.out _ hb⟩
  case round =>
    obtain ⟨rfl, hJs⟩ := hrel
    gi_wp2
    go_end0
    exact ⟨⟨_, rfl⟩, hJs⟩

theorem Ring.under {w W : World} {b : Nat} {most : Int} {v : Value} {k : Nat} {xs : List Int} {ob : Option Nat} (h : Ring w b most v k xs ob) (hb : Below w.heap.size w W) : Ring W b most v k xs ob := ⟨h.1.under hb, h.2.under hb⟩

/-- A ring's iterator value: all of the things, or the first of them. -/
theorem ring_stops (n : Nat) (hn : 1 ≤ n) (Br b : Nat) (most : Int) (v : Value) (k : Nat) (xs : List Int) (ob : Option Nat) (Safe : World → Nat → Prop) (w : World)
    (hBl : Br < w.heap.size) (hBr : w.cell? ⟨Br, 0, none⟩ = some (.pointer (some ⟨b, 0, none⟩))) (hR : Ring w b most v k xs ob) (hk : k < xs.length ∨ (xs = [] ∧ k = 0 ∧ v = .slice none 0 0)) (hbig : xs.length ≤ 1000000)
    (hS : ∀ W g, Below w.heap.size w W → w.heap.size ≤ g → Safe W g) :
    SeqStopsK FW n Try.prog 43 #[.pointer (some ⟨Br, 0, none⟩)] encP (KpS Safe) (fun ys => ys = firsts (place (xs.drop k ++ xs.take k)) xs.length)
      (fun pre => ∃ j, j ≤ xs.length ∧ pre = firsts (place (xs.drop k ++ xs.take k)) j) xs.length w := by
  intro l J Jx W hW hJ hJx hY h0
  have hc := (hW.cell (p := ⟨Br, 0, none⟩) hBl).trans hBr
  have hJ' : ∀ W', Below W.heap.size W W' → J [] W' := fun W' hb => hJ [] W W' none h0 (below_grown hb) (fun r e => by cases e)
  rcases hk with hk | ⟨rfl, rfl, rfl⟩
  · refine ringIter_some n l Br b hn most v k xs ob Safe J Jx hY W hc (hR.under hW) hk hbig hJ' ?_
    intro W' g hb hg
    exact hS W' g (hW.trans (hb.mono hW.size)) (Nat.le_trans hW.size hg)
  · exact (ringIter_nil n l Br b hn most ob J W hc (hR.under hW) hJ').mono fun e W' ⟨he, hj⟩ => ⟨he, .inl ⟨_, rfl, hj⟩⟩

set_option maxHeartbeats 1000000 in
theorem ringAll_any (b : Nat) (w : World) : Calls Try.prog 18 #[.pointer (some ⟨b, 0, none⟩)] w fun e w' =>
    e = .returned (.func (.func 43) #[] #[.pointer (some ⟨w.heap.size, 0, none⟩)]) ∧ w.alloc (.cells #[.pointer (some ⟨b, 0, none⟩)] 30) = w' := by
  have hmf : ∀ (fn : Fn) (first cap : Array Value) (w : World), (Instr.makeFunc fn first cap).run Try.prog w = .ok (.func fn first cap) w := fun _ _ _ _ => rfl
  go_enter Try.func18, Try.ntmps18
  go_wp2
  go_ret
  exact ⟨rfl, rfl⟩

end Go.Proofs.Ytgcnocaibhiggaa
