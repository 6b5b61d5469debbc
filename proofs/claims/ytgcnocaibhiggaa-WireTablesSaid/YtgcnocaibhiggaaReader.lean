/- What the calls of a reader do (Clone, NewReader, next, number, U16, Left, Bad), and that the law's first question (awake) is answered with yes. -/
import Derived.Test.YtgcnocaibhiggaaMem
import Derived.OwnWalk
import Derived.Outline
import Derived.Handy
import Derived.LoopTactic
import Derived.Maps.AppendAt
namespace Go.Proofs.Ytgcnocaibhiggaa
open Go.RowKit
set_option linter.unusedVariables false

theorem Try.infoByte : (Try.prog.info? 5).map (fun i => (i.zero, i.size, i.bytes)) = some (some (.int .u8 0), 1, 1) := by kernel_rfl

set_option maxHeartbeats 800000 in
set_option maxRecDepth 100000 in
/-- Clone of a slice that is not nil: a row of the call's own, with the same bytes; not nil. -/
theorem clone_at (a : Addr) (n c : Nat) (xs : List Int) (w : World) (hx : xs.length = n) (hbig : n ≤ 140737488355328) (hc : ∀ i, i < n → w.cell? (a.add i) = some (.int .u8 (xs.getD i 0))) :
    Calls Try.prog 55 #[.slice (some a) n c] w fun e w' => ∃ v', e = .returned v' ∧ w'.ownsRow w.heap.size 5 1 v' n (xs.map (Value.int .u8)) ∧ v' ≠ .slice none 0 0 ∧ Below w.heap.size w w' := by
  obtain ⟨i0, hi, hz0, hz1, hz2⟩ := info_parts Try.infoByte
  have q : ∀ (w : World) (a : Option Addr) (n c n' c' : Nat), (binOp .eql 57 (.slice a n c) (.slice none n' c')).run Try.prog w = .ok (.bool a.isNone) w := fun w a n c n' c' => Lib.run_eql_slice_nil w _ _ a n c n' c' Try.underlying57
  have HC := Lib.hid hc
  clear hc
  go_enter Try.func55, Try.ntmps55
  go_wp2_with (at_builtin; refine wpList_append_own _ rfl _ _ 57 rfl w.heap.size 5 i0 (.int .u8 0) 1 1 Try.underlying57 hi hz0 hz1 hz2 rfl (by decide) _ _ _ rfl (World.ownsRow_made w #[] 0 (Nat.le_refl _) (Nat.zero_le _) rfl) a n c (xs.map (Value.int .u8)) rfl ?qc1 ?qc2 ?qc3 ?qc4 ?qc5 ?qc6 ?_)
  case qc1 => simp; omega
  case qc2 =>
    intro j u hj
    have hjn : j < n := by
      have := (List.getElem?_eq_some_iff.1 hj).1
      simp at this
      omega
    refine Lib.cell?_alloc_some _ ?_
    rw [HC.out j hjn]
    have e : (xs.map (Value.int .u8))[j]? = some (Value.int .u8 (xs.getD j 0)) := by simp [List.getD, List.getElem?_eq_getElem (show j < xs.length by omega)]
    rw [e] at hj
    exact hj
  case qc3 => intro u hu; obtain ⟨x, _, rfl⟩ := List.mem_map.1 hu; rfl
  case qc4 => unfold maxLen; omega
  case qc5 => omega
  case qc6 => simp
  intro v' w1 hown hgrow hnil
  go_wp2
  go_ret
  refine ⟨v', rfl, by simpa using hown, ?_, ?_⟩
  · exact hnil
  · exact ((Below.refl _ w).alloc (Nat.le_refl _) _).grown hgrow (by simp) (by intro k hk; simp [Value.ownBlock] at hk; omega)


/-- A new block g that holds vs ahead of its spare room. -/
def Fresh (w w' : World) (g n cap : Nat) (cur : Array Value) (t : TypeId) (vs : List Value) : Prop :=
  w.heap.size ≤ g ∧ Whole w' g t cur ∧ n ≤ cap ∧ cap ≤ maxLen ∧ cur.toList.take n = vs ∧ Below w.heap.size w w'

theorem clone_new (a : Addr) (n c : Nat) (xs : List Int) (w : World) (hx : xs.length = n) (hbig : n ≤ 140737488355328) (hc : ∀ i, i < n → w.cell? (a.add i) = some (.int .u8 (xs.getD i 0))) :
    Calls Try.prog 55 #[.slice (some a) n c] w fun e w' => ∃ g cap cur, e = .returned (.slice (some ⟨g, 0, none⟩) n cap) ∧ Fresh w w' g n cap cur 5 (xs.map (Value.int .u8)) :=
  (clone_at a n c xs w hx hbig hc).mono fun e w' ⟨v, he, hown, hne, hb⟩ => by
    obtain ⟨g, cap, cur, rfl, hg, hW, hl, hm, _, ht⟩ := own_form hown hne
    exact ⟨g, cap, cur, he, hg, hW, hl, hm, by simpa using ht, hb⟩

/-- Block b is a reader: what is left of its bytes, and whether it is bad. -/
def Rd (w : World) (b : Nat) (A : Option Addr) (len cap : Nat) (bad : Bool) : Prop := Whole w b 104 #[.slice A len cap, .bool bad]

set_option maxHeartbeats 800000 in
theorem bad_at (b : Nat) (A : Option Addr) (len cap : Nat) (bad : Bool) (w : World) (h : Rd w b A len cap bad) :
    Calls Try.prog 35 #[.pointer (some ⟨b, 0, none⟩)] w fun e w' => e = .returned (.bool bad) ∧ w = w' := by
  have h1 : w.cell? ⟨b, 1, none⟩ = some (.bool bad) := by have := Whole.cell h 1; simpa using this
  clear h
  go_enter Try.func35, Try.ntmps35
  go_wp2
  go_ret
  exact ⟨rfl, rfl⟩

set_option maxHeartbeats 800000 in
theorem left_at (b : Nat) (A : Option Addr) (len cap : Nat) (bad : Bool) (w : World) (h : Rd w b A len cap bad) :
    Calls Try.prog 36 #[.pointer (some ⟨b, 0, none⟩)] w fun e w' => e = .returned (.int .i64 len) ∧ w = w' := by
  have h1 : w.cell? ⟨b, 0, none⟩ = some (.slice A len cap) := by have := Whole.cell h 0; simpa using this
  clear h
  go_enter Try.func36, Try.ntmps36
  go_wp2
  go_ret
  exact ⟨rfl, rfl⟩

set_option maxHeartbeats 800000 in
/-- next cuts off n bytes where there are so many and the reader isn't bad. -/
theorem next_ok (b : Nat) (A : Addr) (len cap n : Nat) (w : World) (h : Rd w b (some A) len cap false) (hn : n ≤ len) (hl : len ≤ cap) (hm : cap ≤ maxLen) :
    Calls Try.prog 56 #[.pointer (some ⟨b, 0, none⟩), .int .i64 n] w fun e w' => e = .returned (.slice (some A) n cap) ∧
      w.setCell ⟨b, 0, none⟩ (.slice (if cap = n then some A else some (A.add n)) (len - n) (cap - n)) = w' := by
  have h0 : w.cell? ⟨b, 0, none⟩ = some (.slice (some A) len cap) := by have := Whole.cell h 0; simpa using this
  have h1 : w.cell? ⟨b, 1, none⟩ = some (.bool false) := by have := Whole.cell h 1; simpa using this
  have f0 := Whole.frz h 0
  unfold maxLen at hm
  go_enter Try.func56, Try.ntmps56
  go_wp2_with (go_at_call 35; refine (bad_at _ _ _ _ _ _ h).mono ?_; rintro e w' ⟨rfl, rfl⟩)
  all_goals
    go_ret
    exact ⟨rfl, rfl⟩

set_option maxHeartbeats 800000 in
/-- Where less is left than is asked for, or less than nothing is asked for, the reader is bad behind it. -/
theorem next_bad (b : Nat) (A : Option Addr) (len cap : Nat) (n : Int) (w : World) (h : Rd w b A len cap false) (hn : n < 0 ∨ (len : Int) < n) :
    Calls Try.prog 56 #[.pointer (some ⟨b, 0, none⟩), .int .i64 n] w fun e w' => e = .returned (.slice none 0 0) ∧ w.setCell ⟨b, 1, none⟩ (.bool true) = w' := by
  have h0 : w.cell? ⟨b, 0, none⟩ = some (.slice A len cap) := by have := Whole.cell h 0; simpa using this
  have h1 : w.cell? ⟨b, 1, none⟩ = some (.bool false) := by have := Whole.cell h 1; simpa using this
  have f1 := Whole.frz h 1
  by_cases hneg : n < 0
  · go_enter Try.func56, Try.ntmps56
    go_wp2_with (go_at_call 35; refine (bad_at _ _ _ _ _ _ h).mono ?_; rintro e w' ⟨rfl, rfl⟩)
    go_ret
    exact ⟨rfl, rfl⟩
  · have hgt : (len : Int) < n := by omega
    go_enter Try.func56, Try.ntmps56
    go_wp2_with (go_at_call 35; refine (bad_at _ _ _ _ _ _ h).mono ?_; rintro e w' ⟨rfl, rfl⟩)
    go_ret
    exact ⟨rfl, rfl⟩

set_option maxHeartbeats 1600000 in
/-- Two bytes as a number: of the bytes 1 and 2. -/
theorem u16_12 (b g : Nat) (cap : Nat) (cur : Array Value) (w : World) (h : Rd w b (some ⟨g, 0, none⟩) 2 cap false) (hg : Whole w g 5 cur) (hc : cur.toList.take 2 = [.int .u8 1, .int .u8 2]) (hl : 2 ≤ cap) (hm : cap ≤ maxLen) :
    Calls Try.prog 42 #[.pointer (some ⟨b, 0, none⟩)] w fun e w' => e = .returned (.int .u16 258) ∧
      ∃ A' c', Rd w' b A' 0 c' false ∧ Below b w w' := by
  have hne : g ≠ b := Whole.ne hg h (by decide)
  have c0 : w.cell? ⟨g, 0, none⟩ = some (.int .u8 1) := (hg.cell 0).trans (take_get hc rfl)
  have c1 : w.cell? ⟨g, 1, none⟩ = some (.int .u8 2) := (hg.cell 1).trans (take_get hc rfl)
  obtain ⟨W, hW⟩ : ∃ W, w.setCell ⟨b, 0, none⟩ (.slice (if cap = 2 then some ⟨g, 0, none⟩ else some (Addr.add ⟨g, 0, none⟩ 2)) (2 - 2) (cap - 2)) = W := ⟨_, rfl⟩
  have d0 : W.cell? ⟨g, 0, none⟩ = some (.int .u8 1) := by rw [← hW, World.cell?_setCell_other _ _ _ _ (by simp)]; exact c0
  have d1 : W.cell? ⟨g, 1, none⟩ = some (.int .u8 2) := by rw [← hW, World.cell?_setCell_other _ _ _ _ (by simp)]; exact c1
  have hB : Below b w W := by rw [← hW]; exact (Below.refl b w).setCell (p := ⟨b, 0, none⟩) (Nat.le_refl _) _
  have hR : Rd W b (if cap = 2 then some ⟨g, 0, none⟩ else some (Addr.add ⟨g, 0, none⟩ 2)) 0 (cap - 2) false := by rw [← hW]; exact Whole.set h 0 _
  have hN := next_ok b ⟨g, 0, none⟩ 2 cap 2 w h (by omega) hl hm
  rw [hW] at hN
  have HN := Lib.hid hN
  clear hN hW c0 c1 hne hc
  go_enter Try.func42, Try.ntmps42
  go_wp2_with (first | (go_at_call 62; go_in) | (go_at_call 56; refine HN.out.mono ?_; rintro e w' ⟨rfl, rfl⟩))
  go_rounds 3
  go_ret
  exact ⟨rfl, _, _, hR, hB⟩

/-- What a new reader is: a block of its own, over a copy of the bytes in a block of its own. -/
def NewRd (w w' : World) (b n : Nat) (vs : List Value) : Prop :=
  ∃ g cap cur, Rd w' b (some ⟨g, 0, none⟩) n cap false ∧ Whole w' g 5 cur ∧ cur.toList.take n = vs ∧ n ≤ cap ∧ cap ≤ maxLen ∧ w.heap.size ≤ g ∧ w.heap.size ≤ b ∧ Below w.heap.size w w'

set_option maxHeartbeats 800000 in
theorem newReader_at (a : Addr) (n c : Nat) (xs : List Int) (w : World) (hx : xs.length = n) (hbig : n ≤ 140737488355328) (hc : ∀ i, i < n → w.cell? (a.add i) = some (.int .u8 (xs.getD i 0))) :
    Calls Try.prog 29 #[.slice (some a) n c] w fun e w' => ∃ b, e = .returned (.pointer (some ⟨b, 0, none⟩)) ∧ NewRd w w' b n (xs.map (Value.int .u8)) := by
  have HC := Lib.hid (clone_new a n c xs w hx hbig hc)
  clear hc
  go_enter Try.func29, Try.ntmps29
  go_wp2_with (go_at_call 55; refine HC.out.mono ?_; rintro e w1 ⟨g, cap, cur, rfl, hN⟩)
  go_ret
  obtain ⟨hg, hW, hl, hm, ht, hb⟩ := hN
  have hz := hb.size
  exact ⟨w1.heap.size, rfl, g, cap, cur, Whole.new _ _ _, hW.alloc _, ht, hl, hm, hg, hz, hb.alloc hz _⟩

set_option maxHeartbeats 1600000 in
theorem awake_yes (w : World) : Calls Try.prog 8 #[] w fun e w' => e = .returned (.bool true) ∧ Below w.heap.size w w' := by
  have HN := Lib.hid (newReader_at ⟨w.heap.size, 0, none⟩ 2 2 [1, 2] (w.alloc (.cells #[.int .u8 1, .int .u8 2] 5)) rfl (by omega) (by
    have h := Whole.new w 5 #[.int .u8 1, .int .u8 2]
    intro i hi
    match i, hi with
    | 0, _ => exact h.cell 0
    | 1, _ => exact h.cell 1))
  go_enter Try.func8, Try.ntmps8
  go_wp2_with (first
    | (go_at_call 29; refine HN.out.mono ?_; rintro e w1 ⟨b, rfl, g, cap, cur, hR, hg, hc, hl, hm, hg2, hb2, hB⟩)
    | (go_at_call 9; go_in))
  have hB0 : Below w.heap.size w w1 := ((Below.refl _ w).alloc (Nat.le_refl _) _).trans (hB.mono (by simp))
  refine (u16_12 b g cap cur w1 hR hg hc hl hm).mono ?_
  rintro e w2 ⟨rfl, A', c', hR2, hB2⟩
  go_wp2_with (first
    | (go_at_call 36; refine (left_at _ _ _ _ _ _ hR2).mono ?_; rintro e w' ⟨rfl, rfl⟩)
    | (go_at_call 35; refine (bad_at _ _ _ _ _ _ hR2).mono ?_; rintro e w' ⟨rfl, rfl⟩))
  go_ret
  exact ⟨rfl, hB0.trans (hB2.mono (by simp at hb2; omega))⟩

end Go.Proofs.Ytgcnocaibhiggaa
