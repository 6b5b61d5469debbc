/- What a description's reading weighs bounds its text; the wrap of a row with a condition, the world's shape kept. -/
import Derived.Test.YthijpfnfkelmbaaRows
import Derived.Test.YthijpfnfkelmbaaOpenSdp
import Derived.Test.YthijpfnfkelmbaaSdpU2
import Derived.JoinedCond
import Derived.Deep.CondSized
import Derived.HandedShaped
namespace Go.Proofs.Ythijpfnfkelmbaa
open Go.RowKit Go.ChangeShapes Go.WideShapes Go.ChangeAt Go.Deep
set_option linter.unusedVariables false

section
variable {H : Type}
theorem all_app (l r : List (DataW H)) : Rows.uptoBulkAll (l ++ r) = Rows.uptoBulkAll l + Rows.uptoBulkAll r := by
  induction l with
  | nil => simp [Rows.uptoBulkAll]
  | cons x l ih => rw [List.cons_append, Rows.uptoBulkAll, Rows.uptoBulkAll, ih]; omega
theorem all_mem {l : List (DataW H)} {d : DataW H} {j : Nat} (h : l[j]? = some d) : Rows.uptoBulkAll (l.take j) + Rows.uptoBulk d ≤ Rows.uptoBulkAll l := by
  induction l generalizing j with
  | nil => simp at h
  | cons x l ih =>
    cases j with
    | zero =>
      obtain rfl : x = d := by simpa using h
      simp only [List.take_zero, Rows.uptoBulkAll]
      omega
    | succ j =>
      have := ih (j := j) (by simpa using h)
      simp only [List.take_succ_cons, Rows.uptoBulkAll]
      omega
theorem all_range_succ (D : Nat → DataW H) (n : Nat) : Rows.uptoBulkAll ((List.range (n + 1)).map D) = Rows.uptoBulkAll ((List.range n).map D) + Rows.uptoBulk (D n) := by
  rw [List.range_succ, List.map_append, all_app]
  simp [Rows.uptoBulkAll]
theorem lineA_most (a : AttrS) : (lineA a).length ≤ a.name.size + a.value.size + 3 := by
  unfold lineA valTail
  split
  · simp only [List.length_append, List.length_cons, List.length_nil, tx_length]; omega
  · simp only [List.length_append, List.length_cons, List.length_nil, tx_length]; omega
variable {enc : TypeId × Value → H} {W : World} {base : Nat} {sp : Nat → Bool} {held : Bool}
theorem bulk_str {fuel : Nat} {s : ByteArray} {x : DataW H × List MemPlace} (h : DataW.trod enc Try.prog W base sp held fuel 9 [.string s] = some x) : Rows.uptoBulk x.1 = s.size + 1 := by
  obtain ⟨s', e, hx, _⟩ := DataW.trod_string Try.underlying9 h
  have es : s = s' := by simpa using e
  subst es
  rw [hx]
  have : s.data.toList.length = s.size := by rw [Array.length_toList]; rfl
  simp only [Rows.uptoBulk]
  omega
theorem bulk_attrs {fuel : Nat} {v : Value} {L : List AttrS} {B : Nat} {x : DataW H × List MemPlace} (h : DataW.trod enc Try.prog W base sp held fuel 23 [v] = some x) (hA : AttrsV W B v L) : (textL (linesA L)).length ≤ 8 * Rows.uptoBulk x.1 := by
  rcases open_slice_fields Try.underlying23 Try.underlying54 (by kernel_rfl) (by kernel_rfl) h with ⟨hcs, _⟩ | ⟨ad, len, cap, m, D, Pl, hcs, _, hl, hm, hmm, hx, hi⟩
  · simp at hcs
    subst hcs
    obtain ⟨A, c, e, -⟩ := hA.form
    injection e with _ e _
    rw [List.length_eq_zero_iff.1 e.symm]
    simp [linesA, textL]
  · simp at hcs
    subst hcs
    obtain ⟨A, c, e, -⟩ := hA.form
    injection e with _ e _
    have hlm : len ≤ m := by rw [hmm]; split <;> omega
    have hat : ∀ i a, L[i]? = some a → (lineA a).length + 2 ≤ 8 * Rows.uptoBulk (D i) := fun i a ha => by
      have hil := (List.getElem?_eq_some_iff.1 ha).1
      obtain ⟨ys, n, hD, _, hyl, hf⟩ := hi i (by omega)
      obtain ⟨v0, y0, c0, g0, t0⟩ := hf 0 _ rfl
      obtain ⟨v1, y1, c1, g1, t1⟩ := hf 1 _ rfl
      obtain ⟨ad', c', e', _, _, _, r0, r1⟩ := Rows.at_ hA ha
      injection e' with e1 _ _
      injection e1 with e1
      subst e1
      obtain rfl : v0 = .string a.name := Option.some.inj (c0.symm.trans r0)
      obtain rfl : v1 = .string a.value := Option.some.inj (c1.symm.trans r1)
      have b0 := bulk_str t0
      have b1 := bulk_str t1
      have hy2 : ys.length = 2 := hyl
      have m1 := all_mem (l := ys.map (·.1)) (j := 1) (d := y1.1) (by rw [List.getElem?_map, g1]; rfl)
      have m0 := all_mem (l := (ys.map (·.1)).take 1) (j := 0) (d := y0.1) (by rw [List.getElem?_take_of_lt (by decide), List.getElem?_map, g0]; rfl)
      have := lineA_most a
      rw [hD]
      simp only [Rows.uptoBulk]
      omega
    have hall : ∀ n, n ≤ L.length → (textL (linesA (L.take n))).length ≤ 8 * Rows.uptoBulkAll ((List.range n).map D) := fun n => by
      induction n with
      | zero => intro _; simp [linesA, textL]
      | succ n ih =>
        intro hn
        have hn' : n < L.length := by omega
        have ih := ih (by omega)
        have sc : crlf.length = 2 := rfl
        have h1 := hat n _ (List.getElem?_eq_getElem hn')
        rw [textA_next (List.getElem?_eq_getElem hn'), List.length_append, List.length_append, all_range_succ]
        omega
    have := hall L.length (Nat.le_refl _)
    rw [List.take_length, ← e] at this
    rw [hx]
    simp only [Rows.uptoBulk]
    omega
theorem bulk_parts {fuel : Nat} {v : Value} {L : List PartS} {B : Nat} {x : DataW H × List MemPlace} (h : DataW.trod enc Try.prog W base sp held fuel 24 [v] = some x) (hA : PartsV W B v L) : (textL (L.flatMap linesP)).length ≤ 8 * Rows.uptoBulk x.1 := by
  rcases open_slice_fields Try.underlying24 Try.underlying58 (by kernel_rfl) (by kernel_rfl) h with ⟨hcs, _⟩ | ⟨ad, len, cap, m, D, Pl, hcs, _, hl, hm, hmm, hx, hi⟩
  · simp at hcs
    subst hcs
    obtain ⟨A, c, e, -⟩ := hA.form
    injection e with _ e _
    rw [List.length_eq_zero_iff.1 e.symm]
    simp [textL]
  · simp at hcs
    subst hcs
    obtain ⟨A, c, e, -⟩ := hA.form
    injection e with _ e _
    have hlm : len ≤ m := by rw [hmm]; split <;> omega
    have hat : ∀ i p, L[i]? = some p → (textL (linesP p)).length ≤ 8 * Rows.uptoBulk (D i) := fun i p hp => by
      have hil := (List.getElem?_eq_some_iff.1 hp).1
      obtain ⟨ys, n, hD, _, hyl, hf⟩ := hi i (by omega)
      obtain ⟨v0, y0, c0, g0, t0⟩ := hf 0 _ rfl
      obtain ⟨v1, y1, c1, g1, t1⟩ := hf 1 _ rfl
      obtain ⟨v2, y2, c2, g2, t2⟩ := hf 2 _ rfl
      obtain ⟨ad', c', e', _, _, _, r0, r1, u, r2, ra⟩ := Rows.at_ hA hp
      injection e' with e1 _ _
      injection e1 with e1
      subst e1
      obtain rfl : v0 = .string p.line := Option.some.inj (c0.symm.trans r0)
      obtain rfl : v1 = .string p.conn := Option.some.inj (c1.symm.trans r1)
      obtain rfl : v2 = u := Option.some.inj (c2.symm.trans r2)
      have b0 := bulk_str t0
      have b1 := bulk_str t1
      have b2 := bulk_attrs t2 ra
      have hy3 : ys.length = 3 := hyl
      have m2 := all_mem (l := ys.map (·.1)) (j := 2) (d := y2.1) (by rw [List.getElem?_map, g2]; rfl)
      have m1 := all_mem (l := (ys.map (·.1)).take 2) (j := 1) (d := y1.1) (by rw [List.getElem?_take_of_lt (by decide), List.getElem?_map, g1]; rfl)
      have m0 := all_mem (l := ((ys.map (·.1)).take 2).take 1) (j := 0) (d := y0.1) (by rw [List.getElem?_take_of_lt (by decide), List.getElem?_take_of_lt (by decide), List.getElem?_map, g0]; rfl)
      have sc : crlf.length = 2 := rfl
      have hc : (textL (connL p.conn)).length ≤ p.conn.size + 4 := by
        unfold connL
        split
        · simp [textL]
        · simp only [textL_cons, textL_nil, List.length_append, List.length_cons, List.length_nil, tx_length]
          omega
      have ht := congrArg List.length (textL_linesP p)
      simp only [List.length_append, List.length_cons, List.length_nil, tx_length] at ht
      rw [hD]
      simp only [Rows.uptoBulk]
      omega
    have hall : ∀ n, n ≤ L.length → (textL ((L.take n).flatMap linesP)).length ≤ 8 * Rows.uptoBulkAll ((List.range n).map D) := fun n => by
      induction n with
      | zero => intro _; simp [textL]
      | succ n ih =>
        intro hn
        have hn' : n < L.length := by omega
        have ih := ih (by omega)
        have h1 := hat n _ (List.getElem?_eq_getElem hn')
        have e2 : (L.take (n + 1)).flatMap linesP = (L.take n).flatMap linesP ++ linesP L[n] := by
          rw [List.take_add_one, List.getElem?_eq_getElem hn', List.flatMap_append]
          simp
        rw [e2, textL_append, List.length_append, all_range_succ]
        omega
    have := hall L.length (Nat.le_refl _)
    rw [List.take_length, ← e] at this
    rw [hx]
    simp only [Rows.uptoBulk]
    omega
set_option maxRecDepth 100000 in
theorem bulk_ses {fuel : Nat} {M : Array Value} {y : SesS} {vA vP : Value} {B : Nat} {x : DataW H × List MemPlace} (h : DataW.trod enc Try.prog W 0 sp true fuel 26 (Value.agg M).cells.toList = some x) (hs : SesV W B M y vA vP) : (textS y).length ≤ 8 * Rows.uptoBulk x.1 := by
  obtain ⟨rfl, hA, hP⟩ := hs
  have h' : DataW.trod enc Try.prog W 0 sp true fuel 26 [.string y.origin, .string y.name, .string y.time, vA, vP] = some x := h
  obtain ⟨ys, n, _, hx, _, hyl, hf⟩ := DataW.trod_struct Try.underlying26 h'
  have f0 : DataW.trod enc Try.prog W 0 sp true n 9 (([Value.string y.origin, .string y.name, .string y.time, vA, vP].drop 0).take (Try.prog.cellsOf 9)) = ys[0]? := hf 0 _ rfl
  have f1 : DataW.trod enc Try.prog W 0 sp true n 9 (([Value.string y.origin, .string y.name, .string y.time, vA, vP].drop 1).take (Try.prog.cellsOf 9)) = ys[1]? := hf 1 _ rfl
  have f2 : DataW.trod enc Try.prog W 0 sp true n 9 (([Value.string y.origin, .string y.name, .string y.time, vA, vP].drop 2).take (Try.prog.cellsOf 9)) = ys[2]? := hf 2 _ rfl
  have f3 : DataW.trod enc Try.prog W 0 sp true n 23 (([Value.string y.origin, .string y.name, .string y.time, vA, vP].drop 3).take (Try.prog.cellsOf 23)) = ys[3]? := hf 3 _ rfl
  have f4 : DataW.trod enc Try.prog W 0 sp true n 24 (([Value.string y.origin, .string y.name, .string y.time, vA, vP].drop 4).take (Try.prog.cellsOf 24)) = ys[4]? := hf 4 _ rfl
  have hy5 : ys.length = 5 := hyl
  rw [Try.cellsStr] at f0 f1 f2
  rw [Try.cellsRsAttrs] at f3
  rw [Try.cellsRsParts] at f4
  clear hf hyl h h'
  match ys, hy5 with
  | [y0, y1, y2, y3, y4], _ =>
    simp only [List.drop_zero, List.take_succ_cons, List.take_zero, List.drop_succ_cons, List.getElem?_cons_zero, List.getElem?_cons_succ] at f0 f1 f2 f3 f4
    have b0 := bulk_str f0
    have b1 := bulk_str f1
    have b2 := bulk_str f2
    have b3 := bulk_attrs f3 hA
    have b4 := bulk_parts f4 hP
    have sc : crlf.length = 2 := rfl
    have ht : (textS y).length = 17 + y.origin.size + y.name.size + y.time.size + (textL (linesA y.attrs)).length + (textL (y.parts.flatMap linesP)).length := by
      show (textL (headL y.origin y.name y.time ++ (linesA y.attrs ++ y.parts.flatMap linesP))).length = _
      simp only [headL, textL_append, textL_cons, textL_nil, List.length_append, List.length_cons, List.length_nil, tx_length]
      omega
    rw [hx, ht]
    simp only [Rows.uptoBulk, List.map_cons, List.map_nil, Rows.uptoBulkAll]
    omega
end
end Go.Proofs.Ythijpfnfkelmbaa
