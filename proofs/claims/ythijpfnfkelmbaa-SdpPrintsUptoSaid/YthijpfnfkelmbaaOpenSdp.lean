/- A description that came in by value, opened. -/
import Derived.Test.YthijpfnfkelmbaaSdpCopyB
import Derived.Deep.Slices
import Derived.Deep.Fields
import Derived.OpenShut
import Derived.ChangeOld
import Derived.ChangeSame
import Derived.SizedLaws
import Derived.HandedShaped
namespace Go.Proofs.Ythijpfnfkelmbaa
open Go.RowKit Go.ChangeShapes Go.WideShapes Go.ChangeAt Go.Deep
set_option linter.unusedVariables false

section
variable {H : Type} {enc : TypeId × Value → H} {P : Program} {w : World} {base : Nat} {spare : Nat → Bool} {held : Bool}
theorem open_slice_fields {t e : TypeId} {fs : Array Field} {fuel : Nat} {cs : List Value} {x : DataW H × List MemPlace} (ht : P.underlying t = some (.slice e)) (he : P.underlying e = some (.struct fs))
    (hone : oneCellFields P fs = true) (hC : P.cellsOf e = fs.size) (h : DataW.trod enc P w base spare held fuel t cs = some x) :
    (cs = [.slice none 0 0] ∧ x = (.nil, [])) ∨
    ∃ (a : Addr) (len cap m : Nat) (D : Nat → DataW H) (Pl : Nat → List MemPlace), cs = [.slice (some a) len cap] ∧ base ≤ a.block ∧ len ≤ cap ∧ cap ≤ maxLen ∧ m = (if spare a.block then cap else len) ∧
      x = (.slice ((List.range len).map D) ((List.range (m - len)).map fun j => D (len + j)), MemPlace.row a (m * fs.size) ++ (List.range m).flatMap Pl) ∧
      ∀ i, i < m → ∃ (ys : List (DataW H × List MemPlace)) (n : Nat), D i = .agg (ys.map (·.1)) ∧ Pl i = ys.flatMap (·.2) ∧ ys.length = fs.size ∧
        ∀ (j : Nat) (f : Field), fs[j]? = some f → ∃ (v : Value) (y : DataW H × List MemPlace), w.cell? (a.add (i * fs.size + j)) = some v ∧ ys[j]? = some y ∧ DataW.trod enc P w base spare held n f.type [v] = some y := by
  rcases open_slice ht h with h0 | ⟨a, len, cap, m, n, D, Pl, hcs, hb, hl, hm, hmm, hx, hi⟩
  · exact .inl h0
  · refine .inr ⟨a, len, cap, m, D, Pl, hcs, hb, hl, hm, hmm, by rw [hC] at hx; exact hx, fun i him => ?_⟩
    obtain ⟨cs', hc, ht'⟩ := hi i him
    rw [hC] at hc
    obtain ⟨ys, n', hn', hy, hlen, hyl, hf⟩ := DataW.trod_struct he ht'
    obtain ⟨_, hcl, hat⟩ := World.cells?_some hc
    simp only [Prod.mk.injEq] at hy
    refine ⟨ys, n', hy.1, hy.2, hyl, fun j f hj => ?_⟩
    obtain ⟨ho, hk⟩ := hone_of hone j f hj
    have hjl : j < fs.size := (Array.getElem?_eq_some_iff.1 hj).1
    have hcell := hat j hjl
    have hv : cs'[j]? = some (cs'[j]'(by omega)) := List.getElem?_eq_getElem (by omega)
    have h1 := hf j f hj
    rw [ho, hk] at h1
    have hone' : (cs'.drop j).take 1 = [cs'[j]'(by omega)] := by
      rw [List.drop_eq_getElem_cons (by omega)]
      rfl
    rw [hone'] at h1
    have hys : ys[j]? = some (ys[j]'(by omega)) := List.getElem?_eq_getElem (by omega)
    refine ⟨_, _, ?_, hys, h1.trans hys⟩
    rw [← Go.Deep.add_add, hcell, hv]
theorem weights_mem_all {e : TypeId} {ds : List (DataW H)} {d : DataW H} (h : d ∈ ds) : ∀ n ∈ d.weights P e, n ∈ DataW.weightsAll P e ds := by
  induction ds with
  | nil => cases h
  | cons d0 r ih =>
    intro n hn
    simp only [DataW.weightsAll, List.mem_append]
    rcases List.mem_cons.1 h with rfl | h
    · exact .inl hn
    · exact .inr (ih h n hn)
end


theorem pick {α : Type} {n : Nat} {R : Nat → α → Prop} (h : ∀ i, i < n → ∃ a, R i a) : ∃ L : List α, L.length = n ∧ ∀ i a, L[i]? = some a → R i a := by
  induction n with
  | zero => exact ⟨[], rfl, fun i a e => by simp at e⟩
  | succ n ih =>
    obtain ⟨L, hL, hl⟩ := ih (fun i hi => h i (by omega))
    obtain ⟨a, ha⟩ := h n (by omega)
    refine ⟨L ++ [a], by simp [hL], fun i b e => ?_⟩
    rw [List.getElem?_append] at e
    split at e
    · exact hl i b e
    · next hn =>
      have hlt := (List.getElem?_eq_some_iff.1 e).1
      have hi : i = n := by simp at hlt; omega
      subst hi
      rw [hL, Nat.sub_self] at e
      obtain rfl : a = b := by simpa using e
      exact ha
theorem Try.bytesRsAttr : Try.prog.bytesOf 54 = 32 := by kernel_rfl
theorem Try.bytesRsPart : Try.prog.bytesOf 58 = 56 := by kernel_rfl
theorem Try.cellsRsAttr : Try.prog.cellsOf 54 = 2 := by kernel_rfl
theorem Try.cellsRsPart : Try.prog.cellsOf 58 = 3 := by kernel_rfl
theorem Try.cellsRsSes : Try.prog.cellsOf 26 = 5 := by kernel_rfl
theorem Try.cellsStr : Try.prog.cellsOf 9 = 1 := by kernel_rfl
theorem Try.cellsRsAttrs : Try.prog.cellsOf 23 = 1 := by kernel_rfl
theorem Try.cellsRsParts : Try.prog.cellsOf 24 = 1 := by kernel_rfl

/-- Every text of it is of a size that comes in. -/
def SizA (L : List AttrS) : Prop := ∀ (i : Nat) (a : AttrS), L[i]? = some a → a.name.size ≤ 140737488351232 ∧ a.value.size ≤ 140737488351232
def SizP (L : List PartS) : Prop := ∀ (i : Nat) (p : PartS), L[i]? = some p → p.line.size ≤ 140737488351232 ∧ p.conn.size ≤ 140737488351232 ∧ SizA p.attrs ∧ p.attrs.length * 32 ≤ 140737488351232
def SizS (x : SesS) : Prop := (x.origin.size ≤ 140737488351232 ∧ x.name.size ≤ 140737488351232 ∧ x.time.size ≤ 140737488351232) ∧ SizA x.attrs ∧ SizP x.parts
section
variable {H : Type} {enc : TypeId × Value → H} {W : World} {base : Nat} {sp : Nat → Bool} {held : Bool}
theorem open_str {fuel : Nat} {v : Value} {x : DataW H × List MemPlace} (h : DataW.trod enc Try.prog W base sp held fuel 9 [v] = some x) (hw : ∀ n ∈ x.1.weights Try.prog 9, n ≤ 140737488351232) :
    ∃ s : ByteArray, v = .string s ∧ s.size ≤ 140737488351232 := by
  obtain ⟨s, e, hx, _⟩ := DataW.trod_string Try.underlying9 h
  refine ⟨s, by simpa using e, ?_⟩
  have := hw s.data.toList.length (by rw [hx]; simp [DataW.weights])
  rw [Array.length_toList] at this
  exact this
theorem open_attrs {fuel : Nat} {v : Value} {x : DataW H × List MemPlace} (h : DataW.trod enc Try.prog W base sp held fuel 23 [v] = some x) (hw : ∀ n ∈ x.1.weights Try.prog 23, n ≤ 140737488351232) :
    ∃ L, AttrsV W W.heap.size v L ∧ L.length * 32 ≤ 140737488351232 ∧ SizA L := by
  rcases open_slice_fields Try.underlying23 Try.underlying54 (by kernel_rfl) (by kernel_rfl) h with ⟨hcs, _⟩ | ⟨ad, len, cap, m, D, Pl, hcs, _, hl, hm, hmm, hx, hi⟩
  · simp at hcs
    subst hcs
    exact ⟨[], AttrsV.nil _ _, by simp, fun i a e => by simp at e⟩
  · simp at hcs
    subst hcs
    have hlm : len ≤ m := by rw [hmm]; split <;> omega
    have hat : ∀ i, i < len → ∃ a : AttrS, W.cell? (ad.add (i * 2)) = some (.string a.name) ∧ W.cell? (ad.add (i * 2 + 1)) = some (.string a.value) ∧ a.name.size ≤ 140737488351232 ∧ a.value.size ≤ 140737488351232 := fun i hin => by
      obtain ⟨ys, n, hD, _, hyl, hf⟩ := hi i (by omega)
      have hwi : ∀ k ∈ (D i).weights Try.prog 54, k ≤ 140737488351232 := fun k hk => hw k (by
        rw [hx]
        simp only [DataW.weights, Try.underlying23, List.mem_cons, List.mem_append]
        exact .inr (.inl (weights_mem_all (d := D i) (List.mem_map.2 ⟨i, List.mem_range.2 hin, rfl⟩) k hk)))
      obtain ⟨v0, y0, c0, g0, t0⟩ := hf 0 _ rfl
      obtain ⟨v1, y1, c1, g1, t1⟩ := hf 1 _ rfl
      obtain ⟨s0, rfl, z0⟩ := open_str t0 (fun k hk => hwi k (by
        rw [hD]
        simp only [DataW.weights, Try.underlying54]
        exact DataW.weights_mem_each (j := 0) rfl (by rw [List.getElem?_map, g0]; rfl) k hk))
      obtain ⟨s1, rfl, z1⟩ := open_str t1 (fun k hk => hwi k (by
        rw [hD]
        simp only [DataW.weights, Try.underlying54]
        exact DataW.weights_mem_each (j := 1) rfl (by rw [List.getElem?_map, g1]; rfl) k hk))
      exact ⟨⟨s0, s1⟩, c0, c1, z0, z1⟩
    obtain ⟨L, hL, hR⟩ := pick hat
    refine ⟨L, ⟨some ad, cap, by rw [hL], by omega, hm, (fun e => by cases e), fun hn => ⟨ad, rfl, ?_, fun i a e => ⟨(hR i a e).1, (hR i a e).2.1⟩⟩⟩, ?_, fun i a e => (hR i a e).2.2⟩
    · obtain ⟨a, h0, _⟩ := hat 0 (by omega)
      have := block_lt_of_cell h0
      rwa [add_block] at this
    · have := hw (m * Try.prog.bytesOf 54) (by
        rw [hx]
        simp only [DataW.weights, Try.underlying23, List.mem_cons]
        refine .inl ?_
        congr 1
        simp
        omega)
      rw [Try.bytesRsAttr] at this
      omega
theorem open_parts {fuel : Nat} {v : Value} {x : DataW H × List MemPlace} (h : DataW.trod enc Try.prog W base sp held fuel 24 [v] = some x) (hw : ∀ n ∈ x.1.weights Try.prog 24, n ≤ 140737488351232) :
    ∃ L, PartsV W W.heap.size v L ∧ L.length * 56 ≤ 140737488351232 ∧ SizP L := by
  rcases open_slice_fields Try.underlying24 Try.underlying58 (by kernel_rfl) (by kernel_rfl) h with ⟨hcs, _⟩ | ⟨ad, len, cap, m, D, Pl, hcs, _, hl, hm, hmm, hx, hi⟩
  · simp at hcs
    subst hcs
    exact ⟨[], PartsV.nil _ _, by simp, fun i a e => by simp at e⟩
  · simp at hcs
    subst hcs
    have hlm : len ≤ m := by rw [hmm]; split <;> omega
    have hat : ∀ i, i < len → ∃ p : PartS, (W.cell? (ad.add (i * 3)) = some (.string p.line) ∧ W.cell? (ad.add (i * 3 + 1)) = some (.string p.conn) ∧ ∃ u, W.cell? (ad.add (i * 3 + 2)) = some u ∧ AttrsV W W.heap.size u p.attrs) ∧
        p.line.size ≤ 140737488351232 ∧ p.conn.size ≤ 140737488351232 ∧ SizA p.attrs ∧ p.attrs.length * 32 ≤ 140737488351232 := fun i hin => by
      obtain ⟨ys, n, hD, _, hyl, hf⟩ := hi i (by omega)
      have hwi : ∀ k ∈ (D i).weights Try.prog 58, k ≤ 140737488351232 := fun k hk => hw k (by
        rw [hx]
        simp only [DataW.weights, Try.underlying24, List.mem_cons, List.mem_append]
        exact .inr (.inl (weights_mem_all (d := D i) (List.mem_map.2 ⟨i, List.mem_range.2 hin, rfl⟩) k hk)))
      obtain ⟨v0, y0, c0, g0, t0⟩ := hf 0 _ rfl
      obtain ⟨v1, y1, c1, g1, t1⟩ := hf 1 _ rfl
      obtain ⟨v2, y2, c2, g2, t2⟩ := hf 2 _ rfl
      obtain ⟨s0, rfl, z0⟩ := open_str t0 (fun k hk => hwi k (by
        rw [hD]
        simp only [DataW.weights, Try.underlying58]
        exact DataW.weights_mem_each (j := 0) rfl (by rw [List.getElem?_map, g0]; rfl) k hk))
      obtain ⟨s1, rfl, z1⟩ := open_str t1 (fun k hk => hwi k (by
        rw [hD]
        simp only [DataW.weights, Try.underlying58]
        exact DataW.weights_mem_each (j := 1) rfl (by rw [List.getElem?_map, g1]; rfl) k hk))
      obtain ⟨L, hL, hl32, hz⟩ := open_attrs t2 (fun k hk => hwi k (by
        rw [hD]
        simp only [DataW.weights, Try.underlying58]
        exact DataW.weights_mem_each (j := 2) rfl (by rw [List.getElem?_map, g2]; rfl) k hk))
      exact ⟨⟨s0, s1, L⟩, ⟨c0, c1, v2, c2, hL⟩, z0, z1, hz, hl32⟩
    obtain ⟨L, hL, hR⟩ := pick hat
    refine ⟨L, ⟨some ad, cap, by rw [hL], by omega, hm, (fun e => by cases e), fun hn => ⟨ad, rfl, ?_, fun i a e => (hR i a e).1⟩⟩, ?_, fun i a e => (hR i a e).2⟩
    · obtain ⟨a, ⟨h0, _⟩, _⟩ := hat 0 (by omega)
      have := block_lt_of_cell h0
      rwa [add_block] at this
    · have := hw (m * Try.prog.bytesOf 58) (by
        rw [hx]
        simp only [DataW.weights, Try.underlying24, List.mem_cons]
        refine .inl ?_
        congr 1
        simp
        omega)
      rw [Try.bytesRsPart] at this
      omega
set_option maxRecDepth 100000 in
theorem open_ses {fuel : Nat} {v : Value} {x : DataW H × List MemPlace} (hv : Value.okWide Try.prog W .any base 26 v) (h : DataW.trod enc Try.prog W 0 sp true fuel 26 v.cells.toList = some x) (hw : ∀ n ∈ x.1.weights Try.prog 26, n ≤ 140737488351232) :
    ∃ M y vA vP, v = .agg M ∧ SesV W W.heap.size M y vA vP ∧ SizS y ∧ Fits y := by
  obtain ⟨cs, rfl, hsz⟩ := okWide_struct Try.underlying26 hv
  rw [Try.cellsRsSes] at hsz
  have h' : DataW.trod enc Try.prog W 0 sp true fuel 26 cs.toList = some x := h
  obtain ⟨ys, n, _, hx, _, hyl, hf⟩ := DataW.trod_struct Try.underlying26 h'
  have f0 : DataW.trod enc Try.prog W 0 sp true n 9 ((cs.toList.drop 0).take (Try.prog.cellsOf 9)) = ys[0]? := hf 0 _ rfl
  have f1 : DataW.trod enc Try.prog W 0 sp true n 9 ((cs.toList.drop 1).take (Try.prog.cellsOf 9)) = ys[1]? := hf 1 _ rfl
  have f2 : DataW.trod enc Try.prog W 0 sp true n 9 ((cs.toList.drop 2).take (Try.prog.cellsOf 9)) = ys[2]? := hf 2 _ rfl
  have f3 : DataW.trod enc Try.prog W 0 sp true n 23 ((cs.toList.drop 3).take (Try.prog.cellsOf 23)) = ys[3]? := hf 3 _ rfl
  have f4 : DataW.trod enc Try.prog W 0 sp true n 24 ((cs.toList.drop 4).take (Try.prog.cellsOf 24)) = ys[4]? := hf 4 _ rfl
  have hy5 : ys.length = 5 := hyl
  rw [Try.cellsStr] at f0 f1 f2
  rw [Try.cellsRsAttrs] at f3
  rw [Try.cellsRsParts] at f4
  clear hf hyl hv h h'
  obtain ⟨l⟩ := cs
  have hl : l.length = 5 := by simpa using hsz
  match l, hl with
  | [c0, c1, c2, c3, c4], _ =>
    match ys, hy5 with
    | [y0, y1, y2, y3, y4], _ =>
      simp only [List.drop_zero, List.take_succ_cons, List.take_zero, List.drop_succ_cons, List.getElem?_cons_zero, List.getElem?_cons_succ] at f0 f1 f2 f3 f4
      obtain ⟨s0, rfl, z0⟩ := open_str f0 (fun k hk => hw k (by
        rw [hx]
        simp only [DataW.weights, Try.underlying26]
        exact DataW.weights_mem_each (j := 0) rfl rfl k hk))
      obtain ⟨s1, rfl, z1⟩ := open_str f1 (fun k hk => hw k (by
        rw [hx]
        simp only [DataW.weights, Try.underlying26]
        exact DataW.weights_mem_each (j := 1) rfl rfl k hk))
      obtain ⟨s2, rfl, z2⟩ := open_str f2 (fun k hk => hw k (by
        rw [hx]
        simp only [DataW.weights, Try.underlying26]
        exact DataW.weights_mem_each (j := 2) rfl rfl k hk))
      obtain ⟨LA, hA, hA32, hAz⟩ := open_attrs f3 (fun k hk => hw k (by
        rw [hx]
        simp only [DataW.weights, Try.underlying26]
        exact DataW.weights_mem_each (j := 3) rfl rfl k hk))
      obtain ⟨LP, hP, hP56, hPz⟩ := open_parts f4 (fun k hk => hw k (by
        rw [hx]
        simp only [DataW.weights, Try.underlying26]
        exact DataW.weights_mem_each (j := 4) rfl rfl k hk))
      exact ⟨_, ⟨s0, s1, s2, LA, LP⟩, _, _, rfl, ⟨rfl, hA, hP⟩, ⟨⟨z0, z1, z2⟩, hAz, hPz⟩, hA32, hP56, fun i p hp => (hPz i p hp).2.2.2⟩
end
set_option maxRecDepth 100000 in
theorem maxL_of {W : World} (h : W.ShapedOpen Try.prog) : MaxL W := Try.laysM219.s1_3 W h
end Go.Proofs.Ythijpfnfkelmbaa
