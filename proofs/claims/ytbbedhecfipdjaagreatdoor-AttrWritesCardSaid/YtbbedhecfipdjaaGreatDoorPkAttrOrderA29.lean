import Derived.Test.YtbbedhecfipdjaaGreatDoorPkAttrOrderA00
import Derived.Deep.Slices
import Derived.Deep.Fields
import Derived.OpenShut
import Derived.ChangeOld
import Derived.ChangeSame
import Derived.SizedLaws
import Derived.HandedShaped
import Derived.Lib.LaidTab
import Derived.ChangeArms
import Derived.LaidLaws
namespace Go.Proofs.YtbbedhecfipdjaaGreatDoor
open Go.RowKit
set_option linter.unusedVariables false
set_option linter.unusedSimpArgs false
def MaxL (w : World) : Prop := ∃ m, w.cell? ⟨3, 0, none⟩ = some (.int .i64 m)
theorem MaxL.under {w w' : World} (h : MaxL w) (hb : Below w.heap.size w w') : MaxL w' := by
 obtain ⟨m, hm⟩ := h
 exact ⟨m, (hb.cell (p := ⟨3, 0, none⟩) (block_lt_of_cell hm)).trans hm⟩
theorem MaxL.below {w w' : World} {B : Nat} (h : MaxL w) (hb : Below B w w') (hB : 3 < B) : MaxL w' := by
 obtain ⟨m, hm⟩ := h
 exact ⟨m, (hb.cell (p := ⟨3, 0, none⟩) hB).trans hm⟩
theorem MaxL.lt {w : World} (h : MaxL w) : 3 < w.heap.size := by
 obtain ⟨m, hm⟩ := h
 exact block_lt_of_cell hm
end Go.Proofs.YtbbedhecfipdjaaGreatDoor
namespace Go.Proofs.YtbbedhecfipdjaaGreatDoor
open Go.RowKit Go.ChangeShapes Go.WideShapes Go.ChangeAt Go.Deep
set_option linter.unusedVariables false
section
variable {H : Type} {enc : TypeId × Value → H} {P : Program} {w : World} {base : Nat} {spare : Nat → Bool} {held : Bool}
theorem weights_mem_all {e : TypeId} {ds : List (DataW H)} {d : DataW H} (h : d ∈ ds) : ∀ n ∈ d.weights P e, n ∈ DataW.weightsAll P e ds := by
 induction ds with
 | nil => cases h
 | cons d0 r ih =>
   intro n hn
   simp only [DataW.weightsAll, List.mem_append]
   rcases List.mem_cons.1 h with rfl | h
   · exact .inl hn
   · exact .inr (ih h n hn)
end
theorem pick {α : Type} {n : Nat} {R : Nat → α → Prop} (h : ∀ i, i < n → ∃ a, R i a) : ∃ L : List α, L.length = n ∧ ∀ i a, L[i]? = some a → R i a := by
 induction n with
 | zero => exact ⟨[], rfl, fun i a e => by simp at e⟩
 | succ n ih =>
   obtain ⟨L, hL, hl⟩ := ih (fun i hi => h i (by omega))
   obtain ⟨a, ha⟩ := h n (by omega)
   refine ⟨L ++ [a], by simp [hL], fun i b e => ?_⟩
   rw [List.getElem?_append] at e
   split at e
   · exact hl i b e
   · next hn =>
     have hlt := (List.getElem?_eq_some_iff.1 e).1
     have hi : i = n := by simp at hlt; omega
     subst hi
     rw [hL, Nat.sub_self] at e
     obtain rfl : a = b := by simpa using e
     exact ha
section
variable {H : Type} {enc : TypeId × Value → H} {W : World} {base : Nat} {sp : Nat → Bool} {held : Bool}
theorem open_str {fuel : Nat} {v : Value} {x : DataW H × List MemPlace} (h : DataW.trod enc Tryz.prog W base sp held fuel 9 [v] = some x) (hw : ∀ n ∈ x.1.weights Tryz.prog 9, n ≤ 140737488351232) :
 ∃ s : ByteArray, v = .string s ∧ s.size ≤ 140737488351232 := by
 obtain ⟨s, e, hx, _⟩ := DataW.trod_string Tryz.underlying9 h
 refine ⟨s, by simpa using e, ?_⟩
 have := hw s.data.toList.length (by rw [hx]; simp [DataW.weights])
 rw [Array.length_toList] at this
 exact this
end
end Go.Proofs.YtbbedhecfipdjaaGreatDoor
namespace Go.Proofs.YtbbedhecfipdjaaGreatDoor
open Go.RowKit Go.ChangeShapes Go.WideShapes Go.ChangeAt Go.Deep
set_option linter.unusedVariables false
set_option linter.unusedSimpArgs false
section
variable {H : Type} {enc : TypeId × Value → H} {P : Program} {w : World} {base : Nat} {spare : Nat → Bool} {held : Bool}
end
section
variable {H : Type} {enc : TypeId × Value → H} {W : World} {base : Nat} {sp : Nat → Bool} {held : Bool}
theorem open_rows {α : Type} {t e : TypeId} {sz by_ : Nat} {R : (Nat → Option Value) → α → Prop} {Q : α → Prop} (ht : Tryz.prog.underlying t = some (.slice e)) (hc : Tryz.prog.cellsOf e = sz) (hsz : 0 < sz) (hby : Tryz.prog.bytesOf e = by_)
 (hel : ∀ (n : Nat) (cs : List Value) (y : DataW H × List MemPlace) (f : Nat → Option Value), cs.length = sz → (∀ j, j < sz → f j = cs[j]?) → DataW.trod enc Tryz.prog W base sp held n e cs = some y → (∀ k ∈ y.1.weights Tryz.prog e, k ≤ 140737488351232) → ∃ a, R f a ∧ Q a)
 {fuel : Nat} {v : Value} {x : DataW H × List MemPlace} (h : DataW.trod enc Tryz.prog W base sp held fuel t [v] = some x) (hw : ∀ n ∈ x.1.weights Tryz.prog t, n ≤ 140737488351232) :
 ∃ L : List α, Rows W W.heap.size sz R v L ∧ L.length * by_ ≤ 140737488351232 ∧ ∀ a ∈ L, Q a := by
 rcases open_slice ht h with ⟨hcs, _⟩ | ⟨ad, len, cap, m, n, D, Pl, hcs, hb, hl, hm, hmm, hx, hi⟩
 · simp at hcs
   subst hcs
   exact ⟨[], Rows.nil _ _ _ _, by simp, fun a ha => by cases ha⟩
 · simp at hcs
   subst hcs
   have hlm : len ≤ m := by rw [hmm]; split <;> omega
   rw [hc] at hi
   have hat : ∀ i, i < len → ∃ a : α, R (fun j => W.cell? (ad.add (i * sz + j))) a ∧ Q a ∧ ∃ u, W.cell? (ad.add (i * sz)) = some u := fun i hin => by
    obtain ⟨cs', hcc, htr⟩ := hi i (by omega)
    obtain ⟨_, hcl, hca⟩ := World.cells?_some hcc
    obtain ⟨a, h1, h2⟩ := hel n cs' _ (fun j => W.cell? (ad.add (i * sz + j))) hcl (fun j hj => by
     rw [← Go.Deep.add_add]
     exact hca j hj) htr (fun k hk => hw k (by
      rw [hx]
      simp only [DataW.weights, ht, List.mem_cons, List.mem_append]
      exact .inr (.inl (weights_mem_all (d := D i) (List.mem_map.2 ⟨i, List.mem_range.2 hin, rfl⟩) k hk))))
    refine ⟨a, h1, h2, cs'[0]'(by omega), ?_⟩
    have := hca 0 hsz
    rw [List.getElem?_eq_getElem (by omega)] at this
    exact this
   obtain ⟨L, hL, hR⟩ := pick hat
   refine ⟨L, ⟨some ad, cap, by rw [hL], by omega, hm, (fun e => by cases e), fun hn => ⟨ad, rfl, ?_, fun i a e => (hR i a e).1⟩⟩, ?_, fun a ha => ?_⟩
   · obtain ⟨a, _, _, u, h0⟩ := hat 0 (by omega)
     have := block_lt_of_cell h0
     rwa [add_block] at this
   · have := hw (m * Tryz.prog.bytesOf e) (by
      rw [hx]
      simp only [DataW.weights, ht, List.mem_cons]
      refine .inl ?_
      have e9 : m = ((List.range len).map D).length + ((List.range (m - len)).map fun j => D (len + j)).length := by simp; omega
      rw [← e9])
     rw [hby] at this
     rw [hL]
     exact Nat.le_trans (Nat.mul_le_mul_right _ hlm) this
   · obtain ⟨i, hi2⟩ := List.mem_iff_getElem?.1 ha
     exact (hR i a hi2).2.1
theorem one_cell {cs : List Value} (h : cs.length = 1) : ∃ v, cs = [v] := by
 match cs, h with
 | [v], _ => exact ⟨v, rfl⟩
theorem open_texts {fuel : Nat} {v : Value} {x : DataW H × List MemPlace} (h : DataW.trod enc Tryz.prog W base sp held fuel 24 [v] = some x) (hw : ∀ n ∈ x.1.weights Tryz.prog 24, n ≤ 140737488351232) :
 ∃ L, TextsV W W.heap.size v L ∧ L.length * 16 ≤ 140737488351232 ∧ ∀ s ∈ L, s.size ≤ 140737488351232 :=
 open_rows (e := 9) Tryz.underlying24 (by kernel_rfl) (by decide) (by kernel_rfl) (fun n cs y f hl hf ht hk => by
  obtain ⟨u, rfl⟩ := one_cell hl
  obtain ⟨s, rfl, hs⟩ := open_str ht hk
  exact ⟨s, hf 0 (by decide), hs⟩) h hw
theorem open_i64 {fuel : Nat} {v : Value} {x : DataW H × List MemPlace} (h : DataW.trod enc Tryz.prog W base sp held fuel 3 [v] = some x) : ∃ n : Int, v = .int .i64 n := by
 obtain ⟨n, e, _⟩ := DataW.trod_int Tryz.underlying3 h
 simp at e
 exact ⟨n, e⟩
set_option maxRecDepth 100000 in
theorem open_u32s {fuel : Nat} {v : Value} {x : DataW H × List MemPlace} (h : DataW.trod enc Tryz.prog W base sp held fuel 25 [v] = some x) (hw : ∀ n ∈ x.1.weights Tryz.prog 25, n ≤ 140737488351232) :
 ∃ L, NumsV W W.heap.size v L ∧ L.length * 4 ≤ 140737488351232 ∧ ∀ n ∈ L, n < 4294967296 :=
 open_rows (e := 85) Tryz.underlying25 (by kernel_rfl) (by decide) (by kernel_rfl) (fun n cs y f hl hf ht hk => by
  obtain ⟨z, rfl, _, hz⟩ := DataW.trod_int Tryz.underlying85 ht
  simp [Lit.wf, IntKind.min, IntKind.max, IntKind.signed, IntKind.bits] at hz
  refine ⟨z.toNat, ?_, by omega⟩
  show f 0 = some (.int .u32 (z.toNat : Int))
  rw [show ((z.toNat : Nat) : Int) = z by omega]
  exact hf 0 (by decide)) h hw
set_option maxRecDepth 100000 in
theorem open_exts {fuel : Nat} {v : Value} {x : DataW H × List MemPlace} (h : DataW.trod enc Tryz.prog W base sp held fuel 23 [v] = some x) (hw : ∀ n ∈ x.1.weights Tryz.prog 23, n ≤ 140737488351232) :
 ∃ L, ExtsV W W.heap.size v L ∧ L.length * 24 ≤ 140737488351232 ∧ ∀ a ∈ L, a.uri.size ≤ 140737488351232 :=
 open_rows (e := 84) Tryz.underlying23 (by kernel_rfl) (by decide) (by kernel_rfl) (fun n cs y f hl hf ht hk => by
  obtain ⟨ys, n', _, hy, _, hyl, hfl⟩ := DataW.trod_struct Tryz.underlying84 ht
  match cs, hl with
  | [c0, c1], _ =>
    have f0 : DataW.trod enc Tryz.prog W base sp held n' 3 (([c0, c1].drop 0).take (Tryz.prog.cellsOf 3)) = ys[0]? := hfl 0 _ rfl
    have f1 : DataW.trod enc Tryz.prog W base sp held n' 9 (([c0, c1].drop 1).take (Tryz.prog.cellsOf 9)) = ys[1]? := hfl 1 _ rfl
    rw [show Tryz.prog.cellsOf 3 = 1 by kernel_rfl] at f0
    rw [show Tryz.prog.cellsOf 9 = 1 by kernel_rfl] at f1
    have hyl2 : ys.length = 2 := hyl
    match ys, hyl2 with
    | [y0, y1], _ =>
      simp only [List.drop_zero, List.take_succ_cons, List.take_zero, List.drop_succ_cons, List.getElem?_cons_zero, List.getElem?_cons_succ] at f0 f1
      obtain ⟨z, rfl⟩ := open_i64 f0
      obtain ⟨s, rfl, hs⟩ := open_str f1 (fun k hk2 => hk k (by
       rw [hy]
       simp only [DataW.weights, Tryz.underlying84]
       exact DataW.weights_mem_each (j := 1) rfl rfl k hk2))
      exact ⟨⟨z, s⟩, ⟨hf 0 (by decide), hf 1 (by decide)⟩, hs⟩) h hw
set_option maxRecDepth 100000 in
theorem open_codecs {fuel : Nat} {v : Value} {x : DataW H × List MemPlace} (h : DataW.trod enc Tryz.prog W base sp held fuel 22 [v] = some x) (hw : ∀ n ∈ x.1.weights Tryz.prog 22, n ≤ 140737488351232) :
 ∃ L, CodecsV W W.heap.size v L ∧ L.length * 80 ≤ 140737488351232 ∧ ∀ a ∈ L, (a.name.size ≤ 140737488351232 ∧ a.format.size ≤ 140737488351232 ∧ ∀ f ∈ a.feedback, f.size ≤ 140737488351232) ∧ a.feedback.length * 16 ≤ 140737488351232 :=
 open_rows (e := 58) Tryz.underlying22 (by kernel_rfl) (by decide) (by kernel_rfl) (fun n cs y f hl hf ht hk => by
  obtain ⟨ys, n', _, hy, _, hyl, hfl⟩ := DataW.trod_struct Tryz.underlying58 ht
  match cs, hl with
  | [c0, c1, c2, c3, c4, c5], _ =>
    have f0 : DataW.trod enc Tryz.prog W base sp held n' 3 (([c0, c1, c2, c3, c4, c5].drop 0).take (Tryz.prog.cellsOf 3)) = ys[0]? := hfl 0 _ rfl
    have f1 : DataW.trod enc Tryz.prog W base sp held n' 9 (([c0, c1, c2, c3, c4, c5].drop 1).take (Tryz.prog.cellsOf 9)) = ys[1]? := hfl 1 _ rfl
    have f2 : DataW.trod enc Tryz.prog W base sp held n' 3 (([c0, c1, c2, c3, c4, c5].drop 2).take (Tryz.prog.cellsOf 3)) = ys[2]? := hfl 2 _ rfl
    have f3 : DataW.trod enc Tryz.prog W base sp held n' 3 (([c0, c1, c2, c3, c4, c5].drop 3).take (Tryz.prog.cellsOf 3)) = ys[3]? := hfl 3 _ rfl
    have f4 : DataW.trod enc Tryz.prog W base sp held n' 9 (([c0, c1, c2, c3, c4, c5].drop 4).take (Tryz.prog.cellsOf 9)) = ys[4]? := hfl 4 _ rfl
    have f5 : DataW.trod enc Tryz.prog W base sp held n' 24 (([c0, c1, c2, c3, c4, c5].drop 5).take (Tryz.prog.cellsOf 24)) = ys[5]? := hfl 5 _ rfl
    rw [show Tryz.prog.cellsOf 3 = 1 by kernel_rfl] at f0 f2 f3
    rw [show Tryz.prog.cellsOf 9 = 1 by kernel_rfl] at f1 f4
    rw [show Tryz.prog.cellsOf 24 = 1 by kernel_rfl] at f5
    have hyl2 : ys.length = 6 := hyl
    match ys, hyl2 with
    | [y0, y1, y2, y3, y4, y5], _ =>
      simp only [List.drop_zero, List.take_succ_cons, List.take_zero, List.drop_succ_cons, List.getElem?_cons_zero, List.getElem?_cons_succ] at f0 f1 f2 f3 f4 f5
      obtain ⟨z0, rfl⟩ := open_i64 f0
      obtain ⟨z2, rfl⟩ := open_i64 f2
      obtain ⟨z3, rfl⟩ := open_i64 f3
      obtain ⟨s1, rfl, hs1⟩ := open_str f1 (fun k hk2 => hk k (by
       rw [hy]
       simp only [DataW.weights, Tryz.underlying58]
       exact DataW.weights_mem_each (j := 1) rfl rfl k hk2))
      obtain ⟨s4, rfl, hs4⟩ := open_str f4 (fun k hk2 => hk k (by
       rw [hy]
       simp only [DataW.weights, Tryz.underlying58]
       exact DataW.weights_mem_each (j := 4) rfl rfl k hk2))
      obtain ⟨L5, hv5, hl5, hs5⟩ := open_texts f5 (fun k hk2 => hk k (by
       rw [hy]
       simp only [DataW.weights, Tryz.underlying58]
       exact DataW.weights_mem_each (j := 5) rfl rfl k hk2))
      exact ⟨⟨z0, s1, z2, z3, s4, L5⟩, ⟨hf 0 (by decide), hf 1 (by decide), hf 2 (by decide), hf 3 (by decide), hf 4 (by decide), _, hf 5 (by decide), hv5⟩, ⟨hs1, hs4, hs5⟩, hl5⟩) h hw
theorem open_key {n : Nat} {cs : List Value} {y : DataW H × List MemPlace} (hl : cs.length = 30) (h : DataW.trod enc Tryz.prog W base sp held n 86 cs = some y) : ∃ k : Tx, k.length = 30 ∧ cs = keyC k := by
 obtain ⟨xs, m, rfl, rfl, hxl, hxs, hat⟩ := DataW.trod_array Tryz.underlying86 h
 have hb : ∀ i, i < 30 → ∃ b : UInt8, cs[i]? = some (.int .u8 (b.toNat : Int)) := fun i hi => by
  have h1 := hat i hi
  rw [show Tryz.prog.cellsOf 5 = 1 by kernel_rfl, Nat.mul_one] at h1
  have h2 : (cs.drop i).take 1 = [cs[i]'(by omega)] := by
   rw [List.drop_eq_getElem_cons (by omega)]
   rfl
  rw [h2, List.getElem?_eq_getElem (by omega)] at h1
  obtain ⟨z, e1, _, e3⟩ := DataW.trod_int Tryz.underlying5 h1
  simp [Lit.wf, IntKind.min, IntKind.max, IntKind.signed, IntKind.bits] at e3
  refine ⟨UInt8.ofNat z.toNat, ?_⟩
  rw [List.getElem?_eq_getElem (by omega)]
  have e4 : cs[i]'(by omega) = .int .u8 z := by simpa using e1
  rw [e4, UInt8.toNat_ofNat', show ((z.toNat % 2 ^ 8 : Nat) : Int) = z by omega]
 obtain ⟨k, hk, hr⟩ := pick hb
 refine ⟨k, hk, List.ext_getElem? fun i => ?_⟩
 unfold keyC
 rw [List.getElem?_map]
 by_cases hi : i < 30
 · have e := List.getElem?_eq_getElem (l := k) (i := i) (by omega)
   rw [e, hr i _ e]
   rfl
 · rw [List.getElem?_eq_none (by omega), List.getElem?_eq_none (by omega)]
   rfl
set_option maxRecDepth 100000 in
theorem open_crys {fuel : Nat} {v : Value} {x : DataW H × List MemPlace} (h : DataW.trod enc Tryz.prog W base sp held fuel 26 [v] = some x) (hw : ∀ n ∈ x.1.weights Tryz.prog 26, n ≤ 140737488351232) :
 ∃ L, CrysV W W.heap.size v L ∧ L.length * 40 ≤ 140737488351232 ∧ ∀ a ∈ L, a.key.length = 30 :=
 open_rows (e := 88) Tryz.underlying26 (by kernel_rfl) (by decide) (by kernel_rfl) (fun n cs y f hl hf ht hk => by
  obtain ⟨ys, n', _, hy, _, hyl, hfl⟩ := DataW.trod_struct Tryz.underlying88 ht
  have f0 : DataW.trod enc Tryz.prog W base sp held n' 3 ((cs.drop 0).take (Tryz.prog.cellsOf 3)) = ys[0]? := hfl 0 _ rfl
  have f1 : DataW.trod enc Tryz.prog W base sp held n' 86 ((cs.drop 1).take (Tryz.prog.cellsOf 86)) = ys[1]? := hfl 1 _ rfl
  rw [show Tryz.prog.cellsOf 3 = 1 by kernel_rfl] at f0
  rw [show Tryz.prog.cellsOf 86 = 30 by kernel_rfl] at f1
  have hyl2 : ys.length = 2 := hyl
  match ys, hyl2 with
  | [y0, y1], _ =>
    obtain ⟨c0, r, hcr⟩ : ∃ c0 r, cs = c0 :: r := by
     cases cs with
     | nil => simp at hl
     | cons a b => exact ⟨a, b, rfl⟩
    subst hcr
    simp only [List.drop_zero, List.take_succ_cons, List.take_zero, List.drop_succ_cons, List.getElem?_cons_zero, List.getElem?_cons_succ] at f0 f1
    have hrl : r.length = 30 := by simpa using hl
    rw [List.take_of_length_le (by omega)] at f1
    obtain ⟨z, rfl⟩ := open_i64 f0
    obtain ⟨k, hk30, rfl⟩ := open_key hrl f1
    exact ⟨⟨z, k⟩, ⟨hk30, fun j hj => hf j hj⟩, hk30⟩) h hw
set_option maxRecDepth 100000 in
theorem open_media {fuel : Nat} {v : Value} {x : DataW H × List MemPlace} (hv : Value.okWide Tryz.prog W .any base 28 v) (h : DataW.trod enc Tryz.prog W 0 sp true fuel 28 v.cells.toList = some x) (hw : ∀ n ∈ x.1.weights Tryz.prog 28, n ≤ 140737488351232) :
 ∃ M m vC vE vR vS vY, v = .agg M ∧ MediaV W W.heap.size M m vC vE vR vS vY ∧ SizM m := by
 obtain ⟨cs, rfl, hsz⟩ := okWide_struct Tryz.underlying28 hv
 rw [show Tryz.prog.cellsOf 28 = 11 by kernel_rfl] at hsz
 have h' : DataW.trod enc Tryz.prog W 0 sp true fuel 28 cs.toList = some x := h
 obtain ⟨ys, n, _, hx, _, hyl, hf⟩ := DataW.trod_struct Tryz.underlying28 h'
 obtain ⟨l⟩ := cs
 have hl : l.length = 11 := by simpa using hsz
 have hy11 : ys.length = 11 := hyl
 have g0 : DataW.trod enc Tryz.prog W 0 sp true n 3 ((l.drop 0).take (Tryz.prog.cellsOf 3)) = ys[0]? := hf 0 _ rfl
 have g1 : DataW.trod enc Tryz.prog W 0 sp true n 3 ((l.drop 1).take (Tryz.prog.cellsOf 3)) = ys[1]? := hf 1 _ rfl
 have g2 : DataW.trod enc Tryz.prog W 0 sp true n 9 ((l.drop 2).take (Tryz.prog.cellsOf 9)) = ys[2]? := hf 2 _ rfl
 have g3 : DataW.trod enc Tryz.prog W 0 sp true n 3 ((l.drop 3).take (Tryz.prog.cellsOf 3)) = ys[3]? := hf 3 _ rfl
 have g4 : DataW.trod enc Tryz.prog W 0 sp true n 22 ((l.drop 4).take (Tryz.prog.cellsOf 22)) = ys[4]? := hf 4 _ rfl
 have g5 : DataW.trod enc Tryz.prog W 0 sp true n 23 ((l.drop 5).take (Tryz.prog.cellsOf 23)) = ys[5]? := hf 5 _ rfl
 have g6 : DataW.trod enc Tryz.prog W 0 sp true n 24 ((l.drop 6).take (Tryz.prog.cellsOf 24)) = ys[6]? := hf 6 _ rfl
 have g7 : DataW.trod enc Tryz.prog W 0 sp true n 4 ((l.drop 7).take (Tryz.prog.cellsOf 4)) = ys[7]? := hf 7 _ rfl
 have g8 : DataW.trod enc Tryz.prog W 0 sp true n 25 ((l.drop 8).take (Tryz.prog.cellsOf 25)) = ys[8]? := hf 8 _ rfl
 have g9 : DataW.trod enc Tryz.prog W 0 sp true n 26 ((l.drop 9).take (Tryz.prog.cellsOf 26)) = ys[9]? := hf 9 _ rfl
 have g10 : DataW.trod enc Tryz.prog W 0 sp true n 3 ((l.drop 10).take (Tryz.prog.cellsOf 3)) = ys[10]? := hf 10 _ rfl
 rw [show Tryz.prog.cellsOf 3 = 1 by kernel_rfl] at g0 g1 g3 g10
 rw [show Tryz.prog.cellsOf 9 = 1 by kernel_rfl] at g2
 rw [show Tryz.prog.cellsOf 22 = 1 by kernel_rfl] at g4
 rw [show Tryz.prog.cellsOf 23 = 1 by kernel_rfl] at g5
 rw [show Tryz.prog.cellsOf 24 = 1 by kernel_rfl] at g6
 rw [show Tryz.prog.cellsOf 4 = 1 by kernel_rfl] at g7
 rw [show Tryz.prog.cellsOf 25 = 1 by kernel_rfl] at g8
 rw [show Tryz.prog.cellsOf 26 = 1 by kernel_rfl] at g9
 clear hf hyl hv h h'
 match l, hl with
 | [c0, c1, c2, c3, c4, c5, c6, c7, c8, c9, c10], _ =>
   match ys, hy11 with
   | [y0, y1, y2, y3, y4, y5, y6, y7, y8, y9, y10], _ =>
     simp only [List.drop_zero, List.take_succ_cons, List.take_zero, List.drop_succ_cons, List.getElem?_cons_zero, List.getElem?_cons_succ] at g0 g1 g2 g3 g4 g5 g6 g7 g8 g9 g10
     obtain ⟨z0, rfl⟩ := open_i64 g0
     obtain ⟨z1, rfl⟩ := open_i64 g1
     obtain ⟨z3, rfl⟩ := open_i64 g3
     obtain ⟨z10, rfl⟩ := open_i64 g10
     obtain ⟨b7, e7, _⟩ := DataW.trod_bool Tryz.underlying4 g7
     simp at e7
     subst e7
     obtain ⟨s2, rfl, hs2⟩ := open_str g2 (fun k hk => hw k (by
      rw [hx]
      simp only [DataW.weights, Tryz.underlying28]
      exact DataW.weights_mem_each (j := 2) rfl rfl k hk))
     obtain ⟨L4, v4, l4, q4⟩ := open_codecs g4 (fun k hk => hw k (by
      rw [hx]
      simp only [DataW.weights, Tryz.underlying28]
      exact DataW.weights_mem_each (j := 4) rfl rfl k hk))
     obtain ⟨L5, v5, l5, q5⟩ := open_exts g5 (fun k hk => hw k (by
      rw [hx]
      simp only [DataW.weights, Tryz.underlying28]
      exact DataW.weights_mem_each (j := 5) rfl rfl k hk))
     obtain ⟨L6, v6, l6, q6⟩ := open_texts g6 (fun k hk => hw k (by
      rw [hx]
      simp only [DataW.weights, Tryz.underlying28]
      exact DataW.weights_mem_each (j := 6) rfl rfl k hk))
     obtain ⟨L8, v8, l8, q8⟩ := open_u32s g8 (fun k hk => hw k (by
      rw [hx]
      simp only [DataW.weights, Tryz.underlying28]
      exact DataW.weights_mem_each (j := 8) rfl rfl k hk))
     obtain ⟨L9, v9, l9, q9⟩ := open_crys g9 (fun k hk => hw k (by
      rw [hx]
      simp only [DataW.weights, Tryz.underlying28]
      exact DataW.weights_mem_each (j := 9) rfl rfl k hk))
     refine ⟨_, ⟨z0, z1, s2, z3, L4, L5, L6, b7, L8, L9, z10⟩, _, _, _, _, _, rfl, ⟨rfl, v4, v5, v6, v8, v9⟩, ⟨?_, fun c hc => ?_, fun c hc => ?_, fun c hc => ?_, fun c hc => ?_, ⟨q8, q9⟩, ?_⟩⟩
     · show s2.size ≤ _
       omega
     · obtain ⟨⟨h1, h2, h3⟩, _⟩ := q4 c hc
       exact ⟨by omega, by omega, fun f hf => by have := h3 f hf; omega⟩
     · have := (q4 c hc).2
       omega
     · have := q5 c hc
       omega
     · have := q6 c hc
       omega
     · show L4.length ≤ _ ∧ L5.length ≤ _ ∧ L6.length ≤ _ ∧ L8.length ≤ _ ∧ L9.length ≤ _
       omega
end
end Go.Proofs.YtbbedhecfipdjaaGreatDoor
namespace Go.Proofs.YtbbedhecfipdjaaGreatDoor
open Go.RowKit Go.ChangeShapes Go.WideShapes Go.ChangeAt
set_option linter.unusedVariables false
set_option linter.unusedSimpArgs false
theorem laid_at {P : Program} {W : World} : ∀ {laid : List (String × DataW Unit)} {ps : List MemPlace}, DataW.LaidVars P W laid ps → ∀ {n : String} {d : DataW Unit}, (n, d) ∈ laid →
 ∃ g t cs fuel p, P.globalNamed n = some g ∧ (P.globals[g]?).map (·.type) = some t ∧ W.var? P n = some cs ∧ DataW.trod (fun _ => ()) P W 0 (fun _ => true) false fuel t cs.toList = some (d, p)
 | [], _, _, _, _, hm => by cases hm
 | (n0, d0) :: r, ps, h, n, d, hm => by
   obtain ⟨g, t, cs, fuel, p, q, h1, h2, h3, h4, h5, _⟩ := h
   rcases List.mem_cons.1 hm with e | hm
   · injection e with e1 e2
     subst e1 e2
     exact ⟨g, t, cs, fuel, p, h1, h2, h3, h4⟩
   · exact laid_at h5 hm
set_option maxRecDepth 100000 in
theorem laid_tab {W : World} {laid : List (String × DataW Unit)} (h : laidMet Tryz.prog laid W) {name : String} {k : IntKind} {zs : List Int} (hm : (name, Lib.tabData k zs) ∈ laid) {g : Nat} {t e : TypeId} {n : Nat}
 (hg : Tryz.prog.globalNamed name = some g) (hty : (Tryz.prog.globals[g]?).map (·.type) = some t) (ht : Tryz.prog.underlying t = some (.array n e)) (he : Tryz.prog.underlying e = some (.int k)) (hce : Tryz.prog.cellsOf e = 1) (hct : Tryz.prog.cellsOf t = n) : Lib.TabIs Tryz.prog W name k zs := by
 obtain ⟨ps, hv, _⟩ := h
 obtain ⟨g', t', cs, fuel, p, hg', ht', hvar, hd⟩ := laid_at hv hm
 obtain rfl := Option.some.inj (hg.symm.trans hg')
 obtain rfl := Option.some.inj (hty.symm.trans ht')
 unfold Lib.TabIs
 rw [hvar, ← Lib.cells_of_tab ht he hce hct hd]
set_option maxRecDepth 100000 in
theorem laid_strs {W : World} {laid : List (String × DataW Unit)} (h : laidMet Tryz.prog laid W) {name : String} {ss : List Tx} (hm : (name, (.agg (ss.map fun s => .lit (.string s)) : DataW Unit)) ∈ laid) {g : Nat} {t : TypeId} {n : Nat}
 (hg : Tryz.prog.globalNamed name = some g) (hty : (Tryz.prog.globals[g]?).map (·.type) = some t) (ht : Tryz.prog.underlying t = some (.array n 9)) (hn : ss.length = n) (i : Nat) (s : Tx) (hi : ss[i]? = some s) : W.cell? ⟨g, i, none⟩ = some (.string (bs s)) := by
 obtain ⟨ps, hv, _⟩ := h
 obtain ⟨g', t', cs, fuel, p, hg', ht', hvar, hd⟩ := laid_at hv hm
 obtain rfl := Option.some.inj (hg.symm.trans hg')
 obtain rfl := Option.some.inj (hty.symm.trans ht')
 obtain ⟨xs, m, _, hx, hcl, hxl, hat⟩ := DataW.trod_array ht hd
 have hil : i < n := by rw [← hn]; exact (List.getElem?_eq_some_iff.1 hi).1
 have h1 := hat i hil
 rw [show Tryz.prog.cellsOf 9 = 1 by kernel_rfl, Nat.mul_one] at h1
 have hxe : xs[i]? = some (xs[i]'(by omega)) := List.getElem?_eq_getElem (by omega)
 rw [hxe] at h1
 obtain ⟨u, e1, e2, _⟩ := DataW.trod_string Tryz.underlying9 h1
 have hag : (ss.map fun s => (.lit (.string s) : DataW Unit)) = xs.map (·.1) := by
  injection hx with hx1 _
  injection hx1
 have h3 := congrArg (fun l => l[i]?) hag
 simp only [List.getElem?_map, hi, hxe, Option.map_some] at h3
 have h4 : s = u.data.toList := by
  have h5 := Option.some.inj h3
  rw [e2] at h5
  injection h5 with h6
  injection h6
 rw [World.var?_cell hg hvar i]
 have h7 := congrArg (fun l => l[0]?) e1
 simp only [List.getElem?_take, List.getElem?_drop, List.getElem?_cons_zero] at h7
 simp at h7
 rw [h7, h4]
 rfl
set_option maxRecDepth 100000 in
theorem env_of {W : World} {laid : List (String × DataW Unit)} (h : laidMet Tryz.prog laid W)
 (h1 : ("internal/strconv.uint64pow10", Lib.tabData .u64 Lib.pow10Tab) ∈ laid)
 (h2 : ("rostrum/attr.kinds", (.agg ([[], wAudio, wVideo, wApplication].map fun s => .lit (.string s)) : DataW Unit)) ∈ laid)
 (h3 : ("rostrum/attr.directions", (.agg ([nInactive, nSendonly, nRecvonly, nSendrecv].map fun s => .lit (.string s)) : DataW Unit)) ∈ laid) : Env W := by
 have hk := laid_strs h h2 (g := 1) (t := 132) (n := 4) (by kernel_rfl) (by kernel_rfl) Tryz.underlying132 rfl
 have hd := laid_strs h h3 (g := 0) (t := 132) (n := 4) (by kernel_rfl) (by kernel_rfl) Tryz.underlying132 rfl
 refine ⟨laid_tab h h1 (g := 2) (t := 229) (e := 59) (n := 20) (by kernel_rfl) (by kernel_rfl) Tryz.underlying229 Tryz.underlying59 (by kernel_rfl) (by kernel_rfl), fun j hj => ?_, fun j h1 hj => ?_, hk 0 _ rfl⟩
 · have : j = 0 ∨ j = 1 ∨ j = 2 ∨ j = 3 := by omega
   rcases this with rfl | rfl | rfl | rfl
   · exact hd 0 _ rfl
   · exact hd 1 _ rfl
   · exact hd 2 _ rfl
   · exact hd 3 _ rfl
 · have : j = 1 ∨ j = 2 ∨ j = 3 := by omega
   rcases this with rfl | rfl | rfl
   · exact hk 1 _ rfl
   · exact hk 2 _ rfl
   · exact hk 3 _ rfl
set_option maxRecDepth 100000 in
theorem seven_of {W : World} {laid : List (String × DataW Unit)} (h : laidMet Tryz.prog laid W) {zs : List Int} (hz : 0 < zs.length) (h1 : ("math/bits.deBruijn32tab", Lib.tabData .u8 zs) ∈ laid) : 7 ≤ W.heap.size := by
 have ht := laid_tab h h1 (g := 6) (t := 253) (e := 5) (n := 32) (by kernel_rfl) (by kernel_rfl) Tryz.underlying253 Tryz.underlying5 (by kernel_rfl) (by kernel_rfl)
 exact block_lt_of_cell (ht.cell (g := 6) (by kernel_rfl) 0 hz)
theorem laid_err {W : World} {laid : List (String × DataW Unit)} (h : laidMet Tryz.prog laid W) {name nm : String} {d : DataW Unit} (hm : (name, .iface nm d) ∈ laid) {g : Nat} {t : TypeId} {ms : Array (String × TypeId)}
 (hg : Tryz.prog.globalNamed name = some g) (hty : (Tryz.prog.globals[g]?).map (·.type) = some t) (hi : Tryz.prog.underlying t = some (.interface ms)) : ∃ ev, W.cell? ⟨g, 0, none⟩ = some ev ∧ (ev = .nilIface ∨ ∃ te pe, ev = .iface te pe) := by
 obtain ⟨ps, hv, _⟩ := h
 obtain ⟨g', t', cs, fuel, p, hg', ht', hvar, hd⟩ := laid_at hv hm
 obtain rfl := Option.some.inj (hg.symm.trans hg')
 obtain rfl := Option.some.inj (hty.symm.trans ht')
 obtain ⟨_, u, v, hcs, _, _⟩ := iface_of_trod hi hd
 refine ⟨.iface u v, ?_, .inr ⟨u, v, rfl⟩⟩
 rw [World.var?_cell hg hvar 0, ← Array.getElem?_toList, hcs]
 rfl
theorem envR_of {W : World} {laid : List (String × DataW Unit)} (h : laidMet Tryz.prog laid W) (hE : Env W) {n1 n2 : String} {d1 d2 : DataW Unit}
 (h1 : ("strconv.ErrSyntax", .iface n1 d1) ∈ laid) (h2 : ("strconv.ErrRange", .iface n2 d2) ∈ laid) : EnvR W :=
 ⟨hE, laid_err h h1 (t := 184) (by kernel_rfl) (by kernel_rfl) Tryz.underlying184, laid_err h h2 (t := 184) (by kernel_rfl) (by kernel_rfl) Tryz.underlying184⟩
end Go.Proofs.YtbbedhecfipdjaaGreatDoor
