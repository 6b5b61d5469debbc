/- A ring's and a table's iterators once more: what is handed to yield may be given any name. -/
import Derived.Test.YtgcnocaibhiggaaRingsLoop
namespace Go.Proofs.Ytgcnocaibhiggaa
open Go.RowKit Go.Shelf
set_option linter.unusedVariables false
attribute [local go_sem] Oper.semAt_some

set_option maxRecDepth 100000 in
set_option maxHeartbeats 2000000 in
theorem ringIter_any {α : Type} (encs : α → Array Value) (item : Nat → α) (n l Br b : Nat) (hn : 1 ≤ n) (most : Int) (v : Value) (k : Nat) (xs : List Int) (ob : Option Nat) (Safe : World → Nat → Prop) (hit : ∀ j, j < xs.length → encs (item j) = encP (place (xs.drop k ++ xs.take k) j)) (J Jx : List α → World → Prop)
    (hY : ∀ pre x W, J pre W → pre.length < xs.length → YieldAt FW (n - 1) Try.prog l (encs x) W fun e W' =>
      (e = .returned (.bool true) ∧ J (pre ++ [x]) W' ∧ KpS Safe W W') ∨ (e = .returned (.bool false) ∧ Jx (pre ++ [x]) W'))
    (W : World) (hBr : W.cell? ⟨Br, 0, none⟩ = some (.pointer (some ⟨b, 0, none⟩))) (hR : Ring W b most v k xs ob) (hk : k < xs.length) (hbig : xs.length ≤ 1000000)
    (hJ : ∀ W', Below W.heap.size W W' → J [] W') (hS : ∀ W' g, Below W.heap.size W W' → W.heap.size ≤ g → g < W'.heap.size → Safe W' g) :
    CallsIn FW n Try.prog 43 #[.func (.yield l) #[] #[], .pointer (some ⟨Br, 0, none⟩)] W fun e W' => (∃ v, e = .returned v) ∧
      ((∃ ys, ys = firsts item xs.length ∧ J ys W') ∨ (∃ pre, (∃ j, j ≤ xs.length ∧ pre = firsts item j) ∧ Jx pre W')) := by
  have hlist := list_some b most v k xs ob W hR hk hbig
  have HL := Lib.hid hlist
  obtain ⟨L, hLe⟩ : ∃ L, xs.drop k ++ xs.take k = L := ⟨_, rfl⟩
  have hLl : L.length = xs.length := by rw [← hLe]; simp; omega
  rw [hLe] at HL
  have HE := Lib.hid hLl
  have HY := Lib.hid hY
  have HJ := Lib.hid hJ
  have HS := Lib.hid hS
  clear hlist hR hLl hY hJ hS
  refine callsIn_of_wp Try.func43 rfl trivial ?_ rfl
  simp only [Try.ntmps43, List.size_toArray, List.length_cons, List.length_nil, Nat.reduceAdd, Nat.reduceSub, Array.replicate_succ, Array.replicate_zero, List.push_toArray, List.append_toArray, List.nil_append, List.cons_append]
  gi_wp2_with (refine ⟨trivial, ?_⟩; gi_at_call 44; go_must (refine (callsIn_wide.2 HL.out).mono ?_); rintro e w1 ⟨g, cap, cur, rfl, hF⟩)
  obtain ⟨h1, h2, h3, h4, h5, h6⟩ := hF
  have HT := Lib.hid h5
  clear h5
  gi_loopw [8] (fun i wr => ∃ j : Nat, j ≤ xs.length ∧ i = .int .i64 j ∧ J (firsts item j) wr ∧ Whole wr g 21 cur ∧ Safe wr g)
    (fun i _ => xs.length - (intOf i).toNat)
  case atStart => exact ⟨0, Nat.zero_le _, rfl, HJ.out _ h6, h2, HS.out _ _ h6 h1 h2.lt⟩
  case round =>
    obtain ⟨j, hj, rfl, hJs, hW, hSf⟩ := hrel
    by_cases hlt : j < xs.length
    · have hc : wr.cell? ⟨g, j, none⟩ = some (.int .i32 (L.getD j 0)) := by
        rw [hW.cell]
        refine take_get HT.out ?_
        have hjL : j < L.length := by rw [HE.out]; exact hlt
        simp [i32s, List.getD, List.getElem?_eq_getElem hjL]
      obtain ⟨x, hx⟩ : ∃ x, L.getD j 0 = x := ⟨_, rfl⟩
      have hpl : place L j = (j, x) := by unfold place; rw [hx]
      rw [hx] at hc
      have hpl2 := hit j hlt
      rw [hLe, hpl] at hpl2
      obtain ⟨fn, tmps, assign, body, hy, hR⟩ := HY.out _ (item j) wr hJs (by rw [firsts_length]; exact hlt)
      rw [hpl2] at hy
      simp only [encP] at hy
      have HW := Lib.hid hW
      clear hpl hpl2 hx hW
      gi_wp2
      refine hR.mono ?_
      rintro e W3 (⟨rfl, hJ3, hk3⟩ | ⟨rfl, hJx3⟩)
      · gi_wp2
        obtain ⟨hW3, hS3⟩ := hk3 g cur 21 (0, 0) hSf HW.out
        go_roundw
        case rel => exact ⟨j + 1, by omega, by simp, by rw [firsts_succ]; exact hJ3, hW3, hS3⟩
        case measure => simp [intOf]; omega
      · gi_wp2
        refine bodyPost_ret (results_none rfl _ _ _) rfl ?_
        exact ⟨⟨_, rfl⟩, .inr ⟨_, ⟨j + 1, by omega, (by rw [firsts_succ] : firsts item j ++ [item j] = firsts item (j + 1))⟩, hJx3⟩⟩
    · obtain rfl : j = xs.length := by omega
      gi_wp2
      go_end0
      exact ⟨⟨_, rfl⟩, .inl ⟨_, rfl, hJs⟩⟩

set_option maxRecDepth 100000 in
set_option maxHeartbeats 2000000 in
theorem ringIter_zero {α : Type} (n l Br b : Nat) (hn : 1 ≤ n) (most : Int) (ob : Option Nat) (J : List α → World → Prop)
    (W : World) (hBr : W.cell? ⟨Br, 0, none⟩ = some (.pointer (some ⟨b, 0, none⟩))) (hR : Ring W b most (.slice none 0 0) 0 [] ob) (hJ : ∀ W', Below W.heap.size W W' → J [] W') :
    CallsIn FW n Try.prog 43 #[.func (.yield l) #[] #[], .pointer (some ⟨Br, 0, none⟩)] W fun e W' => (∃ v, e = .returned v) ∧ J [] W' := by
  have HL := Lib.hid (list_nil b most ob W hR)
  have HJ := Lib.hid hJ
  clear hJ hR
  refine callsIn_of_wp Try.func43 rfl trivial ?_ rfl
  simp only [Try.ntmps43, List.size_toArray, List.length_cons, List.length_nil, Nat.reduceAdd, Nat.reduceSub, Array.replicate_succ, Array.replicate_zero, List.push_toArray, List.append_toArray, List.nil_append, List.cons_append]
  gi_wp2_with (refine ⟨trivial, ?_⟩; gi_at_call 44; go_must (refine (callsIn_wide.2 HL.out).mono ?_); rintro e w1 ⟨rfl, hb⟩)
  gi_loopw [8] (fun i wr => i = .int .i64 0 ∧ J [] wr) (fun _ _ => 0)
  case atStart => exact ⟨rfl, HJ.out _ hb⟩
  case round =>
    obtain ⟨rfl, hJs⟩ := hrel
    gi_wp2
    go_end0
    exact ⟨⟨_, rfl⟩, hJs⟩

/-- A ring's iterator value: all of the things, or the first of them. -/
theorem ring_stops_any {α : Type} (encs : α → Array Value) (item : Nat → α) (n : Nat) (hn : 1 ≤ n) (Br b : Nat) (most : Int) (v : Value) (k : Nat) (xs : List Int) (ob : Option Nat) (Safe : World → Nat → Prop)
    (hit : ∀ j, j < xs.length → encs (item j) = encP (place (xs.drop k ++ xs.take k) j)) (w : World)
    (hBl : Br < w.heap.size) (hBr : w.cell? ⟨Br, 0, none⟩ = some (.pointer (some ⟨b, 0, none⟩))) (hR : Ring w b most v k xs ob) (hk : k < xs.length ∨ (xs = [] ∧ k = 0 ∧ v = .slice none 0 0)) (hbig : xs.length ≤ 1000000)
    (hS : ∀ W g, Below w.heap.size w W → w.heap.size ≤ g → g < W.heap.size → Safe W g) :
    SeqStopsK FW n Try.prog 43 #[.pointer (some ⟨Br, 0, none⟩)] encs (KpS Safe) (fun ys => ys = firsts item xs.length)
      (fun pre => ∃ j, j ≤ xs.length ∧ pre = firsts item j) xs.length w := by
  intro l J Jx W hW hJ hJx hY h0
  have hc := (hW.cell (p := ⟨Br, 0, none⟩) hBl).trans hBr
  have hJ' : ∀ W', Below W.heap.size W W' → J [] W' := fun W' hb => hJ [] W W' none h0 (below_grown hb) (fun r e => by cases e)
  rcases hk with hk | ⟨rfl, rfl, rfl⟩
  · refine ringIter_any encs item n l Br b hn most v k xs ob Safe hit J Jx hY W hc (hR.under hW) hk hbig hJ' ?_
    intro W' g hb hg hgl
    exact hS W' g (hW.trans (hb.mono hW.size)) (Nat.le_trans hW.size hg) hgl
  · exact (ringIter_zero n l Br b hn most ob J W hc (hR.under hW) hJ').mono fun e W' ⟨he, hj⟩ => ⟨he, .inl ⟨_, rfl, hj⟩⟩

end Go.Proofs.Ytgcnocaibhiggaa
