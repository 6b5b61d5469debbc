/- What a table's iterator does: it hands a copy's keys and values to yield, one by one. -/
import Derived.Test.YtgcnocaibhiggaaTableListSX
import Derived.Test.YtgcnocaibhiggaaRingsLoop
namespace Go.Proofs.Ytgcnocaibhiggaa
open Go.RowKit Go.Shelf Go.Maps
set_option linter.unusedVariables false

/-- The pairs of a table. -/
def pairsSX (L : List (Ent KeySX)) : List (KeySX × Int) := L.map fun x => (x.1, x.2.1)
def tplaceSX (Q : List (KeySX × Int)) (j : Nat) : KeySX × Int := Q.getD j default
def encTSX (x : KeySX × Int) : Array Value := #[.string x.1, .int .i32 x.2]
theorem pairs_getSX {L : List (Ent KeySX)} {i : Nat} {k : KeySX} {v : Int} {g : Nat} (h : L[i]? = some (k, v, g)) : tplaceSX (pairsSX L) i = (k, v) := by simp [tplaceSX, pairsSX, h]

theorem tall_atSX (p : Option Addr) (w : World) : Calls Try.prog 24 #[.pointer p] w fun e w' =>
    e = .returned (.func (.func 48) #[] #[.pointer (some ⟨w.heap.size, 0, none⟩)]) ∧ w.alloc (.cells #[.pointer p] 40) = w' := by
  have hmf : ∀ (fn : Fn) (first cap : Array Value) (w : World), (Instr.makeFunc fn first cap).run Try.prog w = .ok (.func fn first cap) w := fun _ _ _ _ => rfl
  go_enter Try.func24, Try.ntmps24
  go_wp2
  go_ret
  exact ⟨rfl, rfl⟩

attribute [local go_sem] Oper.semAt_some

set_option maxRecDepth 100000 in
set_option maxHeartbeats 3200000 in
theorem tIter_atSX {α : Type} (encs : α → Array Value) (item : Nat → α) (n l Br tb : Nat) (hn : 1 ≤ n) (most : Int) (mv : Option Nat) (L : List (Ent KeySX)) (hit : ∀ j, j < L.length → encs (item j) = encTSX (tplaceSX (pairsSX L) j)) (Safe : World → Nat → Prop) (J Jx : List α → World → Prop)
    (hY : ∀ pre x W, J pre W → pre.length < L.length → YieldAt FW (n - 1) Try.prog l (encs x) W fun e W' =>
      (e = .returned (.bool true) ∧ J (pre ++ [x]) W' ∧ KpS Safe W W') ∨ (e = .returned (.bool false) ∧ Jx (pre ++ [x]) W'))
    (W : World) (hBr : W.cell? ⟨Br, 0, none⟩ = some (.pointer (some ⟨tb, 0, none⟩))) (hT : TabSX W tb most mv L) (hbig : L.length ≤ 1000000)
    (hJ0 : J [] W) (hJ : ∀ s W W', J s W → Below W.heap.size W W' → J s W') (hS : ∀ W' g, Below W.heap.size W W' → W.heap.size ≤ g → g < W'.heap.size → Safe W' g) (hSg : ∀ W W' g, Safe W g → Below W.heap.size W W' → Safe W' g) :
    CallsIn FW n Try.prog 48 #[.func (.yield l) #[] #[], .pointer (some ⟨Br, 0, none⟩)] W fun e W' => (∃ v, e = .returned v) ∧
      ((∃ ys, ys = firsts item L.length ∧ J ys W') ∨ (∃ pre, (∃ j, j ≤ L.length ∧ pre = firsts item j) ∧ Jx pre W')) := by
  have hlist := tlist_atSX hT hbig
  have HL := Lib.hid hlist
  have HY := Lib.hid hY
  have HJ := Lib.hid (And.intro hJ0 hJ)
  have HS := Lib.hid (And.intro hS hSg)
  clear hlist hT hY hJ0 hJ hS hSg
  refine callsIn_of_wp Try.func48 rfl trivial ?_ rfl
  simp only [Try.ntmps48, List.size_toArray, List.length_cons, List.length_nil, Nat.reduceAdd, Nat.reduceSub, Array.replicate_succ, Array.replicate_zero, List.push_toArray, List.append_toArray, List.nil_append, List.cons_append]
  gi_wp2_with (refine ⟨trivial, ?_⟩; gi_at_call 49; go_must (refine (callsIn_wide.2 HL.out).mono ?_); rintro e w1 ⟨g, cap, cur, rfl, h1, h2, h5, h6⟩)
  have HT := Lib.hid h5
  clear h5
  gi_loopw [8] (fun i wr => ∃ j : Nat, j ≤ L.length ∧ i = .int .i64 j ∧ J (firsts item j) wr ∧ Whole wr g 87 cur ∧ Safe wr g)
    (fun i _ => L.length - (intOf i).toNat)
  case atStart => exact ⟨0, Nat.zero_le _, rfl, HJ.out.2 _ _ _ HJ.out.1 h6, h2, HS.out.1 _ _ h6 h1 h2.lt⟩
  case round =>
    obtain ⟨j, hj, rfl, hJs, hW, hSf⟩ := hrel
    by_cases hlt : j < L.length
    · obtain ⟨x, hx⟩ : ∃ x, L[j]? = some x := ⟨_, List.getElem?_eq_getElem hlt⟩
      obtain ⟨k, v, ge⟩ := x
      obtain ⟨pv, hpv⟩ : ∃ pv, ptr (prevB L j) = .pointer pv := ⟨_, rfl⟩
      obtain ⟨nv, hnv⟩ : ∃ nv, ptr (nextB L j) = .pointer nv := ⟨_, rfl⟩
      have hat := cellsTo_atSX hx L.length hlt (Nat.le_refl _)
      rw [hpv, hnv] at hat
      simp only [kvSX] at hat
      have c0 := (hW.cell (j * 4)).trans (take_get HT.out (hat 0 _ rfl))
      have c1 := (hW.cell (j * 4 + 1)).trans (take_get HT.out (hat 1 _ rfl))
      have c2 := (hW.cell (j * 4 + 2)).trans (take_get HT.out (hat 2 _ rfl))
      have c3 := (hW.cell (j * 4 + 3)).trans (take_get HT.out (hat 3 _ rfl))
      have hpl := hit j hlt
      rw [pairs_getSX hx] at hpl
      have HPL := Lib.hid hpl
      have hB2 : Below wr.heap.size wr (wr.alloc (.cells #[.string k, .int .i32 v, .pointer pv, .pointer nv] 87)) := (Below.refl _ wr).alloc (Nat.le_refl _) _
      have HY2 := Lib.hid (HY.out _ (item j) _ (HJ.out.2 _ _ _ hJs hB2) (by rw [firsts_length]; exact hlt))
      have HP := Lib.hid (And.intro hpl (And.intro (hW.under hB2) (HS.out.2 _ _ _ hSf hB2)))
      clear hpl hat hx hW hSf hJs hpv hnv hB2
      obtain ⟨fn, tmps, assign, body, hy, hR⟩ := HY2.out
      rw [HPL.out] at hy
      simp only [encTSX] at hy
      gi_wp2_with fail
      refine hR.mono ?_
      rintro e W3 (⟨rfl, hJ3, hk3⟩ | ⟨rfl, hJx3⟩)
      · gi_wp2
        obtain ⟨hW3, hS3⟩ := hk3 g cur 87 (0, 0) HP.out.2.2 HP.out.2.1
        go_roundw
        case rel => exact ⟨j + 1, by omega, by simp, by rw [firsts_succ]; exact hJ3, hW3, hS3⟩
        case measure => simp [intOf]; omega
      · gi_wp2
        refine bodyPost_ret (results_none rfl _ _ _) rfl ?_
        exact ⟨⟨_, rfl⟩, .inr ⟨_, ⟨j + 1, by omega, (by rw [firsts_succ] : firsts item j ++ [item j] = firsts item (j + 1))⟩, hJx3⟩⟩
    · obtain rfl : j = L.length := by omega
      gi_wp2
      go_end0
      exact ⟨⟨_, rfl⟩, .inl ⟨_, rfl, hJs⟩⟩

/-- A table's iterator value: all of the pairs, or the first of them. -/
theorem tstopsSX {α : Type} (encs : α → Array Value) (item : Nat → α) (n : Nat) (hn : 1 ≤ n) (Br tb : Nat) (most : Int) (mv : Option Nat) (L : List (Ent KeySX)) (hit : ∀ j, j < L.length → encs (item j) = encTSX (tplaceSX (pairsSX L) j)) (Safe : World → Nat → Prop) (w : World)
    (hBl : Br < w.heap.size) (hBr : w.cell? ⟨Br, 0, none⟩ = some (.pointer (some ⟨tb, 0, none⟩))) (hT : TabSX w tb most mv L) (hbig : L.length ≤ 1000000)
    (hS : ∀ W g, Below w.heap.size w W → w.heap.size ≤ g → g < W.heap.size → Safe W g) (hSg : ∀ W W' g, Safe W g → Below W.heap.size W W' → Safe W' g) :
    SeqStopsK FW n Try.prog 48 #[.pointer (some ⟨Br, 0, none⟩)] encs (KpS Safe) (fun ys => ys = firsts item L.length)
      (fun pre => ∃ j, j ≤ L.length ∧ pre = firsts item j) L.length w := by
  intro l J Jx W hW hJ hJx hY h0
  have hc := (hW.cell (p := ⟨Br, 0, none⟩) hBl).trans hBr
  refine tIter_atSX encs item n l Br tb hn most mv L hit Safe J Jx hY W hc (hT.below hW) hbig h0 (fun s W W' hs hb => hJ s W W' none hs (below_grown hb) (fun r e => by cases e)) ?_ hSg
  intro W' g hb hg hgl
  exact hS W' g (hW.trans (hb.mono hW.size)) (Nat.le_trans hW.size hg) hgl

end Go.Proofs.Ytgcnocaibhiggaa
