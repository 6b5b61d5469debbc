import Derived.Test.YtbbedhecfipdjaaGreatDoorPkDescPrintsA00
import Derived.Test.YtbbedhecfipdjaaGreatDoorPkDescPrintsA06
import Derived.Test.YtbbedhecfipdjaaGreatDoorPkDescPrintsA01
import Derived.Test.YtbbedhecfipdjaaGreatDoorPkDescPrintsA02
import Derived.Test.YtbbedhecfipdjaaGreatDoorPkDescPrintsA04
import Derived.Test.YtbbedhecfipdjaaGreatDoorPkDescPrintsA07
import Derived.Test.YtbbedhecfipdjaaGreatDoorPkDescPrintsA08
import Derived.Test.YtbbedhecfipdjaaGreatDoorPkDescPrintsA09
import Derived.Test.YtbbedhecfipdjaaGreatDoorPkDescPrintsA10
import Derived.Test.YtbbedhecfipdjaaGreatDoorPkDescPrintsA11
import Derived.Test.YtbbedhecfipdjaaGreatDoorPkDescPrintsA12
import Derived.Test.YtbbedhecfipdjaaGreatDoorPkDescPrintsA03
import Derived.Test.YtbbedhecfipdjaaGreatDoorPkDescPrintsA05
import Derived.Test.YtbbedhecfipdjaaGreatDoorPkDescPrintsA13
import Derived.Test.YtbbedhecfipdjaaGreatDoorPkDescPrintsA14
import Derived.Test.YtbbedhecfipdjaaGreatDoorPkDescPrintsA15
import Derived.Test.YtbbedhecfipdjaaGreatDoorPkDescPrintsA16
import Derived.Test.YtbbedhecfipdjaaGreatDoorPkDescPrintsA17
import Derived.Test.YtbbedhecfipdjaaGreatDoorPkSameBA00
import Derived.Test.YtbbedhecfipdjaaGreatDoorPkSameBA05
import Derived.Test.YtbbedhecfipdjaaGreatDoorProg
import Derived.Lib.IndexMore
import Derived.Lib.Join
import Derived.Shelf.Strings.Builder1
import Derived.Shelf.Strings.Builder2
import Derived.Shelf.Strings.OnBuilder
import Derived.Shelf.Small.Strs
import Derived.Shelf.Strings.BuilderF
import Derived.Shelf.Strconv.Atoi
import Derived.Shelf.Strconv.Itoa0
import Derived.Shelf.Strconv.Itoa1
import Derived.Shelf.LaysM
import Derived.Shelf.Strconv.Itoa2
import Derived.Shelf.Strconv.Itoa3
import Derived.Shelf.Strconv.AtoiErrFast
import Derived.Shelf.Strconv.ParseIntEmpty
import Derived.Shelf.Strconv.AtoiFail
import Derived.Shelf.Strconv.Clone
import Derived.Shelf.Strconv.SyntaxError
import Derived.Shelf.LaysC
import Derived.Shelf.Strconv.ToError
import Derived.Shelf.Strconv.Lower
import Derived.Shelf.Strconv.ParseUint10
import Derived.Shelf.Strconv.ParseUint10Empty
import Derived.Shelf.Strconv.ParseUint10Any
import Derived.Shelf.Strconv.ParseInt10
import Derived.Shelf.Strconv.AtoiLong
import Derived.Shelf.Strconv.AtoiInnerAll
import Derived.Shelf.Strconv.RangeError
import Derived.Shelf.Strconv.ToErrorRange
import Derived.Shelf.Strconv.AtoiAll
import Derived.Ground.MpProg
import Derived.Shelf.Pu.ParseUintPublic10
import Derived.Shelf.Strings.Search1
import Derived.Shelf.Strings.Search2
import Derived.Shelf.Strings.Search3
import Derived.Shelf.Strings.Cut
import Derived.Shelf.Strings.Count
import Derived.Shelf.Strings.Shaped
import Derived.Shelf.Strings.Prefix
import Derived.Shelf.Strings.Split
import Derived.Shelf.Unicode.DecodeSlow
import Derived.Shelf.Slices.Equal
import Derived.Lib.SmallJoins
import Derived.Lib.AppendIntMem
import Derived.Deep.Slices
import Derived.Lib.SplitLaws
import Derived.Deep.Fields
import Derived.OpenShut
import Derived.ChangeOld
import Derived.ChangeSame
import Derived.SizedLaws
import Derived.HandedShaped
namespace Go.Proofs.YtbbedhecfipdjaaGreatDoor
open Go.RowKit
set_option linter.unusedVariables false
set_option linter.unusedSimpArgs false
theorem MediasV.rows11 {w : World} {B n c : Nat} {A : Option Addr} {L : List MediaS} (h : MediasV w B (.slice A n c) L) (hn : L.length = n) : ∃ rs : List (List Value), rs.length = n ∧ (∀ r ∈ rs, r.length = 11) ∧ (∀ r ∈ rs, ∀ u ∈ r, u.oneCell' = true) ∧
 (∀ (i : Nat) (r : List Value) (m : MediaS), rs[i]? = some r → L[i]? = some m → ∃ vC vE vR vS vY, MediaV w B r.toArray m vC vE vR vS vY) ∧ ∀ ad, A = some ad → ∀ (i : Nat) (r : List Value), rs[i]? = some r → ∀ j, j < 11 → w.cell? (ad.add (i * 11 + j)) = r[j]? := by
 have hat : ∀ i, i < n → ∃ r : List Value, r.length = 11 ∧ (∀ u ∈ r, u.oneCell' = true) ∧ (∀ m, L[i]? = some m → ∃ vC vE vR vS vY, MediaV w B r.toArray m vC vE vR vS vY) ∧ ∀ ad, A = some ad → ∀ j, j < 11 → w.cell? (ad.add (i * 11 + j)) = r[j]? := fun i hi => by
  have hx := List.getElem?_eq_getElem (l := L) (i := i) (by omega)
  obtain ⟨ad, c', e1, _, _, _, M, vC, vE, vR, vS, vY, hM, hc⟩ := Rows.at_ h hx
  injection e1 with e1 e1n e1c
  refine ⟨M.toList, by rw [Array.length_toList, hM.size], fun u hu => List.all_eq_true.1 hM.one u hu, fun m hm => ?_, fun ad' ha j hj => ?_⟩
  · rw [hx] at hm
    obtain rfl := Option.some.inj hm
    exact ⟨vC, vE, vR, vS, vY, by rw [Array.toArray_toList]; exact hM⟩
  · rw [e1] at ha
    obtain rfl := Option.some.inj ha
    rw [Array.getElem?_toList]
    exact hc j hj
 obtain ⟨rs, hl, hR⟩ := pick hat
 refine ⟨rs, hl, fun r hr => ?_, fun r hr => ?_, fun i r m hi hm => (hR i r hi).2.2.1 m hm, fun ad ha i r hi => (hR i r hi).2.2.2 ad ha⟩
 · obtain ⟨i, hi⟩ := List.getElem?_of_mem hr
   exact (hR i r hi).1
 · obtain ⟨i, hi⟩ := List.getElem?_of_mem hr
   exact (hR i r hi).2.1
theorem own_medias {W w : World} {base B : Nat} {v : Value} {rs : List (List Value)} {L : List MediaS} (h : Own W base 28 11 v rs) (hl : L.length = rs.length) (hv : ∀ (i : Nat) (r : List Value) (m : MediaS), rs[i]? = some r → L[i]? = some m → ∃ vC vE vR vS vY, MediaV w B r.toArray m vC vE vR vS vY) (hb : Below B w W) (hB : B ≤ W.heap.size) : MediasV W W.heap.size v L :=
 h.rows (Nat.le_refl _) hl fun i r x f hr hx hf => by
  obtain ⟨vC, vE, vR, vS, vY, hM⟩ := hv i r x hr hx
  exact ⟨r.toArray, vC, vE, vR, vS, vY, (hM.below hb).more hB, fun j hj => by rw [hf j hj, List.getElem?_toArray]⟩
end Go.Proofs.YtbbedhecfipdjaaGreatDoor
namespace Go.Proofs.YtbbedhecfipdjaaGreatDoor
open Go.RowKit Go.ChangeShapes Go.WideShapes Go.ChangeAt Go.Deep
set_option linter.unusedVariables false
set_option linter.unusedSimpArgs false
section
variable {H : Type} {enc : TypeId × Value → H} {P : Program} {w : World} {base : Nat} {spare : Nat → Bool} {held : Bool}
end
section
variable {H : Type} {enc : TypeId × Value → H} {W : World} {base : Nat} {sp : Nat → Bool} {held : Bool}
theorem open_rows {α : Type} {t e : TypeId} {sz by_ : Nat} {R : (Nat → Option Value) → α → Prop} {Q : α → Prop} (ht : Tryz.prog.underlying t = some (.slice e)) (hc : Tryz.prog.cellsOf e = sz) (hsz : 0 < sz) (hby : Tryz.prog.bytesOf e = by_)
 (hel : ∀ (n : Nat) (cs : List Value) (y : DataW H × List MemPlace) (f : Nat → Option Value), cs.length = sz → (∀ j, j < sz → f j = cs[j]?) → DataW.trod enc Tryz.prog W base sp held n e cs = some y → (∀ k ∈ y.1.weights Tryz.prog e, k ≤ 140737488351232) → ∃ a, R f a ∧ Q a)
 {fuel : Nat} {v : Value} {x : DataW H × List MemPlace} (h : DataW.trod enc Tryz.prog W base sp held fuel t [v] = some x) (hw : ∀ n ∈ x.1.weights Tryz.prog t, n ≤ 140737488351232) :
 ∃ L : List α, Rows W W.heap.size sz R v L ∧ L.length * by_ ≤ 140737488351232 ∧ ∀ a ∈ L, Q a := by
 rcases open_slice ht h with ⟨hcs, _⟩ | ⟨ad, len, cap, m, n, D, Pl, hcs, hb, hl, hm, hmm, hx, hi⟩
 · simp at hcs
   subst hcs
   exact ⟨[], Rows.nil _ _ _ _, by simp, fun a ha => by cases ha⟩
 · simp at hcs
   subst hcs
   have hlm : len ≤ m := by rw [hmm]; split <;> omega
   rw [hc] at hi
   have hat : ∀ i, i < len → ∃ a : α, R (fun j => W.cell? (ad.add (i * sz + j))) a ∧ Q a ∧ ∃ u, W.cell? (ad.add (i * sz)) = some u := fun i hin => by
    obtain ⟨cs', hcc, htr⟩ := hi i (by omega)
    obtain ⟨_, hcl, hca⟩ := World.cells?_some hcc
    obtain ⟨a, h1, h2⟩ := hel n cs' _ (fun j => W.cell? (ad.add (i * sz + j))) hcl (fun j hj => by
     rw [← Go.Deep.add_add]
     exact hca j hj) htr (fun k hk => hw k (by
      rw [hx]
      simp only [DataW.weights, ht, List.mem_cons, List.mem_append]
      exact .inr (.inl (weights_mem_all (d := D i) (List.mem_map.2 ⟨i, List.mem_range.2 hin, rfl⟩) k hk))))
    refine ⟨a, h1, h2, cs'[0]'(by omega), ?_⟩
    have := hca 0 hsz
    rw [List.getElem?_eq_getElem (by omega)] at this
    exact this
   obtain ⟨L, hL, hR⟩ := pick hat
   refine ⟨L, ⟨some ad, cap, by rw [hL], by omega, hm, (fun e => by cases e), fun hn => ⟨ad, rfl, ?_, fun i a e => (hR i a e).1⟩⟩, ?_, fun a ha => ?_⟩
   · obtain ⟨a, _, _, u, h0⟩ := hat 0 (by omega)
     have := block_lt_of_cell h0
     rwa [add_block] at this
   · have := hw (m * Tryz.prog.bytesOf e) (by
      rw [hx]
      simp only [DataW.weights, ht, List.mem_cons]
      refine .inl ?_
      have e9 : m = ((List.range len).map D).length + ((List.range (m - len)).map fun j => D (len + j)).length := by simp; omega
      rw [← e9])
     rw [hby] at this
     rw [hL]
     exact Nat.le_trans (Nat.mul_le_mul_right _ hlm) this
   · obtain ⟨i, hi2⟩ := List.mem_iff_getElem?.1 ha
     exact (hR i a hi2).2.1
theorem one_cell {cs : List Value} (h : cs.length = 1) : ∃ v, cs = [v] := by
 match cs, h with
 | [v], _ => exact ⟨v, rfl⟩
theorem open_texts {fuel : Nat} {v : Value} {x : DataW H × List MemPlace} (h : DataW.trod enc Tryz.prog W base sp held fuel 24 [v] = some x) (hw : ∀ n ∈ x.1.weights Tryz.prog 24, n ≤ 140737488351232) :
 ∃ L, TextsV W W.heap.size v L ∧ L.length * 16 ≤ 140737488351232 ∧ ∀ s ∈ L, s.size ≤ 140737488351232 :=
 open_rows (e := 9) Tryz.underlying24 (by kernel_rfl) (by decide) (by kernel_rfl) (fun n cs y f hl hf ht hk => by
  obtain ⟨u, rfl⟩ := one_cell hl
  obtain ⟨s, rfl, hs⟩ := open_str ht hk
  exact ⟨s, hf 0 (by decide), hs⟩) h hw
theorem open_i64 {fuel : Nat} {v : Value} {x : DataW H × List MemPlace} (h : DataW.trod enc Tryz.prog W base sp held fuel 3 [v] = some x) : ∃ n : Int, v = .int .i64 n := by
 obtain ⟨n, e, _⟩ := DataW.trod_int Tryz.underlying3 h
 simp at e
 exact ⟨n, e⟩
set_option maxRecDepth 100000 in
theorem open_u32s {fuel : Nat} {v : Value} {x : DataW H × List MemPlace} (h : DataW.trod enc Tryz.prog W base sp held fuel 25 [v] = some x) (hw : ∀ n ∈ x.1.weights Tryz.prog 25, n ≤ 140737488351232) :
 ∃ L, NumsV W W.heap.size v L ∧ L.length * 4 ≤ 140737488351232 ∧ ∀ n ∈ L, n < 4294967296 :=
 open_rows (e := 85) Tryz.underlying25 (by kernel_rfl) (by decide) (by kernel_rfl) (fun n cs y f hl hf ht hk => by
  obtain ⟨z, rfl, _, hz⟩ := DataW.trod_int Tryz.underlying85 ht
  simp [Lit.wf, IntKind.min, IntKind.max, IntKind.signed, IntKind.bits] at hz
  refine ⟨z.toNat, ?_, by omega⟩
  show f 0 = some (.int .u32 (z.toNat : Int))
  rw [show ((z.toNat : Nat) : Int) = z by omega]
  exact hf 0 (by decide)) h hw
set_option maxRecDepth 100000 in
theorem open_exts {fuel : Nat} {v : Value} {x : DataW H × List MemPlace} (h : DataW.trod enc Tryz.prog W base sp held fuel 23 [v] = some x) (hw : ∀ n ∈ x.1.weights Tryz.prog 23, n ≤ 140737488351232) :
 ∃ L, ExtsV W W.heap.size v L ∧ L.length * 24 ≤ 140737488351232 ∧ ∀ a ∈ L, a.uri.size ≤ 140737488351232 :=
 open_rows (e := 84) Tryz.underlying23 (by kernel_rfl) (by decide) (by kernel_rfl) (fun n cs y f hl hf ht hk => by
  obtain ⟨ys, n', _, hy, _, hyl, hfl⟩ := DataW.trod_struct Tryz.underlying84 ht
  match cs, hl with
  | [c0, c1], _ =>
    have f0 : DataW.trod enc Tryz.prog W base sp held n' 3 (([c0, c1].drop 0).take (Tryz.prog.cellsOf 3)) = ys[0]? := hfl 0 _ rfl
    have f1 : DataW.trod enc Tryz.prog W base sp held n' 9 (([c0, c1].drop 1).take (Tryz.prog.cellsOf 9)) = ys[1]? := hfl 1 _ rfl
    rw [show Tryz.prog.cellsOf 3 = 1 by kernel_rfl] at f0
    rw [show Tryz.prog.cellsOf 9 = 1 by kernel_rfl] at f1
    have hyl2 : ys.length = 2 := hyl
    match ys, hyl2 with
    | [y0, y1], _ =>
      simp only [List.drop_zero, List.take_succ_cons, List.take_zero, List.drop_succ_cons, List.getElem?_cons_zero, List.getElem?_cons_succ] at f0 f1
      obtain ⟨z, rfl⟩ := open_i64 f0
      obtain ⟨s, rfl, hs⟩ := open_str f1 (fun k hk2 => hk k (by
       rw [hy]
       simp only [DataW.weights, Tryz.underlying84]
       exact DataW.weights_mem_each (j := 1) rfl rfl k hk2))
      exact ⟨⟨z, s⟩, ⟨hf 0 (by decide), hf 1 (by decide)⟩, hs⟩) h hw
set_option maxRecDepth 100000 in
theorem open_codecs {fuel : Nat} {v : Value} {x : DataW H × List MemPlace} (h : DataW.trod enc Tryz.prog W base sp held fuel 22 [v] = some x) (hw : ∀ n ∈ x.1.weights Tryz.prog 22, n ≤ 140737488351232) :
 ∃ L, CodecsV W W.heap.size v L ∧ L.length * 80 ≤ 140737488351232 ∧ ∀ a ∈ L, (a.name.size ≤ 140737488351232 ∧ a.format.size ≤ 140737488351232 ∧ ∀ f ∈ a.feedback, f.size ≤ 140737488351232) ∧ a.feedback.length * 16 ≤ 140737488351232 :=
 open_rows (e := 58) Tryz.underlying22 (by kernel_rfl) (by decide) (by kernel_rfl) (fun n cs y f hl hf ht hk => by
  obtain ⟨ys, n', _, hy, _, hyl, hfl⟩ := DataW.trod_struct Tryz.underlying58 ht
  match cs, hl with
  | [c0, c1, c2, c3, c4, c5], _ =>
    have f0 : DataW.trod enc Tryz.prog W base sp held n' 3 (([c0, c1, c2, c3, c4, c5].drop 0).take (Tryz.prog.cellsOf 3)) = ys[0]? := hfl 0 _ rfl
    have f1 : DataW.trod enc Tryz.prog W base sp held n' 9 (([c0, c1, c2, c3, c4, c5].drop 1).take (Tryz.prog.cellsOf 9)) = ys[1]? := hfl 1 _ rfl
    have f2 : DataW.trod enc Tryz.prog W base sp held n' 3 (([c0, c1, c2, c3, c4, c5].drop 2).take (Tryz.prog.cellsOf 3)) = ys[2]? := hfl 2 _ rfl
    have f3 : DataW.trod enc Tryz.prog W base sp held n' 3 (([c0, c1, c2, c3, c4, c5].drop 3).take (Tryz.prog.cellsOf 3)) = ys[3]? := hfl 3 _ rfl
    have f4 : DataW.trod enc Tryz.prog W base sp held n' 9 (([c0, c1, c2, c3, c4, c5].drop 4).take (Tryz.prog.cellsOf 9)) = ys[4]? := hfl 4 _ rfl
    have f5 : DataW.trod enc Tryz.prog W base sp held n' 24 (([c0, c1, c2, c3, c4, c5].drop 5).take (Tryz.prog.cellsOf 24)) = ys[5]? := hfl 5 _ rfl
    rw [show Tryz.prog.cellsOf 3 = 1 by kernel_rfl] at f0 f2 f3
    rw [show Tryz.prog.cellsOf 9 = 1 by kernel_rfl] at f1 f4
    rw [show Tryz.prog.cellsOf 24 = 1 by kernel_rfl] at f5
    have hyl2 : ys.length = 6 := hyl
    match ys, hyl2 with
    | [y0, y1, y2, y3, y4, y5], _ =>
      simp only [List.drop_zero, List.take_succ_cons, List.take_zero, List.drop_succ_cons, List.getElem?_cons_zero, List.getElem?_cons_succ] at f0 f1 f2 f3 f4 f5
      obtain ⟨z0, rfl⟩ := open_i64 f0
      obtain ⟨z2, rfl⟩ := open_i64 f2
      obtain ⟨z3, rfl⟩ := open_i64 f3
      obtain ⟨s1, rfl, hs1⟩ := open_str f1 (fun k hk2 => hk k (by
       rw [hy]
       simp only [DataW.weights, Tryz.underlying58]
       exact DataW.weights_mem_each (j := 1) rfl rfl k hk2))
      obtain ⟨s4, rfl, hs4⟩ := open_str f4 (fun k hk2 => hk k (by
       rw [hy]
       simp only [DataW.weights, Tryz.underlying58]
       exact DataW.weights_mem_each (j := 4) rfl rfl k hk2))
      obtain ⟨L5, hv5, hl5, hs5⟩ := open_texts f5 (fun k hk2 => hk k (by
       rw [hy]
       simp only [DataW.weights, Tryz.underlying58]
       exact DataW.weights_mem_each (j := 5) rfl rfl k hk2))
      exact ⟨⟨z0, s1, z2, z3, s4, L5⟩, ⟨hf 0 (by decide), hf 1 (by decide), hf 2 (by decide), hf 3 (by decide), hf 4 (by decide), _, hf 5 (by decide), hv5⟩, ⟨hs1, hs4, hs5⟩, hl5⟩) h hw
theorem open_key {n : Nat} {cs : List Value} {y : DataW H × List MemPlace} (hl : cs.length = 30) (h : DataW.trod enc Tryz.prog W base sp held n 86 cs = some y) : ∃ k : Tx, k.length = 30 ∧ cs = keyC k := by
 obtain ⟨xs, m, rfl, rfl, hxl, hxs, hat⟩ := DataW.trod_array Tryz.underlying86 h
 have hb : ∀ i, i < 30 → ∃ b : UInt8, cs[i]? = some (.int .u8 (b.toNat : Int)) := fun i hi => by
  have h1 := hat i hi
  rw [show Tryz.prog.cellsOf 5 = 1 by kernel_rfl, Nat.mul_one] at h1
  have h2 : (cs.drop i).take 1 = [cs[i]'(by omega)] := by
   rw [List.drop_eq_getElem_cons (by omega)]
   rfl
  rw [h2, List.getElem?_eq_getElem (by omega)] at h1
  obtain ⟨z, e1, _, e3⟩ := DataW.trod_int Tryz.underlying5 h1
  simp [Lit.wf, IntKind.min, IntKind.max, IntKind.signed, IntKind.bits] at e3
  refine ⟨UInt8.ofNat z.toNat, ?_⟩
  rw [List.getElem?_eq_getElem (by omega)]
  have e4 : cs[i]'(by omega) = .int .u8 z := by simpa using e1
  rw [e4, UInt8.toNat_ofNat', show ((z.toNat % 2 ^ 8 : Nat) : Int) = z by omega]
 obtain ⟨k, hk, hr⟩ := pick hb
 refine ⟨k, hk, List.ext_getElem? fun i => ?_⟩
 unfold keyC
 rw [List.getElem?_map]
 by_cases hi : i < 30
 · have e := List.getElem?_eq_getElem (l := k) (i := i) (by omega)
   rw [e, hr i _ e]
   rfl
 · rw [List.getElem?_eq_none (by omega), List.getElem?_eq_none (by omega)]
   rfl
set_option maxRecDepth 100000 in
theorem open_crys {fuel : Nat} {v : Value} {x : DataW H × List MemPlace} (h : DataW.trod enc Tryz.prog W base sp held fuel 26 [v] = some x) (hw : ∀ n ∈ x.1.weights Tryz.prog 26, n ≤ 140737488351232) :
 ∃ L, CrysV W W.heap.size v L ∧ L.length * 40 ≤ 140737488351232 ∧ ∀ a ∈ L, a.key.length = 30 :=
 open_rows (e := 88) Tryz.underlying26 (by kernel_rfl) (by decide) (by kernel_rfl) (fun n cs y f hl hf ht hk => by
  obtain ⟨ys, n', _, hy, _, hyl, hfl⟩ := DataW.trod_struct Tryz.underlying88 ht
  have f0 : DataW.trod enc Tryz.prog W base sp held n' 3 ((cs.drop 0).take (Tryz.prog.cellsOf 3)) = ys[0]? := hfl 0 _ rfl
  have f1 : DataW.trod enc Tryz.prog W base sp held n' 86 ((cs.drop 1).take (Tryz.prog.cellsOf 86)) = ys[1]? := hfl 1 _ rfl
  rw [show Tryz.prog.cellsOf 3 = 1 by kernel_rfl] at f0
  rw [show Tryz.prog.cellsOf 86 = 30 by kernel_rfl] at f1
  have hyl2 : ys.length = 2 := hyl
  match ys, hyl2 with
  | [y0, y1], _ =>
    obtain ⟨c0, r, hcr⟩ : ∃ c0 r, cs = c0 :: r := by
     cases cs with
     | nil => simp at hl
     | cons a b => exact ⟨a, b, rfl⟩
    subst hcr
    simp only [List.drop_zero, List.take_succ_cons, List.take_zero, List.drop_succ_cons, List.getElem?_cons_zero, List.getElem?_cons_succ] at f0 f1
    have hrl : r.length = 30 := by simpa using hl
    rw [List.take_of_length_le (by omega)] at f1
    obtain ⟨z, rfl⟩ := open_i64 f0
    obtain ⟨k, hk30, rfl⟩ := open_key hrl f1
    exact ⟨⟨z, k⟩, ⟨hk30, fun j hj => hf j hj⟩, hk30⟩) h hw
end
section
variable {H : Type} {enc : TypeId × Value → H} {W : World} {base : Nat} {sp : Nat → Bool} {held : Bool}
set_option maxRecDepth 100000 in
theorem open_mediaL {n : Nat} {l : List Value} {x : DataW H × List MemPlace} (hl : l.length = 11) (h : DataW.trod enc Tryz.prog W base sp held n 28 l = some x) (hw : ∀ n ∈ x.1.weights Tryz.prog 28, n ≤ 140737488351232) :
 ∃ (M : Array Value) (m : MediaS) (vC vE vR vS vY : Value), l = M.toList ∧ MediaV W W.heap.size M m vC vE vR vS vY ∧ SizM m := by
 obtain ⟨ys, n, _, hx, _, hyl, hf⟩ := DataW.trod_struct Tryz.underlying28 h
 have hy11 : ys.length = 11 := hyl
 have g0 : DataW.trod enc Tryz.prog W base sp held n 3 ((l.drop 0).take (Tryz.prog.cellsOf 3)) = ys[0]? := hf 0 _ rfl
 have g1 : DataW.trod enc Tryz.prog W base sp held n 3 ((l.drop 1).take (Tryz.prog.cellsOf 3)) = ys[1]? := hf 1 _ rfl
 have g2 : DataW.trod enc Tryz.prog W base sp held n 9 ((l.drop 2).take (Tryz.prog.cellsOf 9)) = ys[2]? := hf 2 _ rfl
 have g3 : DataW.trod enc Tryz.prog W base sp held n 3 ((l.drop 3).take (Tryz.prog.cellsOf 3)) = ys[3]? := hf 3 _ rfl
 have g4 : DataW.trod enc Tryz.prog W base sp held n 22 ((l.drop 4).take (Tryz.prog.cellsOf 22)) = ys[4]? := hf 4 _ rfl
 have g5 : DataW.trod enc Tryz.prog W base sp held n 23 ((l.drop 5).take (Tryz.prog.cellsOf 23)) = ys[5]? := hf 5 _ rfl
 have g6 : DataW.trod enc Tryz.prog W base sp held n 24 ((l.drop 6).take (Tryz.prog.cellsOf 24)) = ys[6]? := hf 6 _ rfl
 have g7 : DataW.trod enc Tryz.prog W base sp held n 4 ((l.drop 7).take (Tryz.prog.cellsOf 4)) = ys[7]? := hf 7 _ rfl
 have g8 : DataW.trod enc Tryz.prog W base sp held n 25 ((l.drop 8).take (Tryz.prog.cellsOf 25)) = ys[8]? := hf 8 _ rfl
 have g9 : DataW.trod enc Tryz.prog W base sp held n 26 ((l.drop 9).take (Tryz.prog.cellsOf 26)) = ys[9]? := hf 9 _ rfl
 have g10 : DataW.trod enc Tryz.prog W base sp held n 3 ((l.drop 10).take (Tryz.prog.cellsOf 3)) = ys[10]? := hf 10 _ rfl
 rw [show Tryz.prog.cellsOf 3 = 1 by kernel_rfl] at g0 g1 g3 g10
 rw [show Tryz.prog.cellsOf 9 = 1 by kernel_rfl] at g2
 rw [show Tryz.prog.cellsOf 22 = 1 by kernel_rfl] at g4
 rw [show Tryz.prog.cellsOf 23 = 1 by kernel_rfl] at g5
 rw [show Tryz.prog.cellsOf 24 = 1 by kernel_rfl] at g6
 rw [show Tryz.prog.cellsOf 4 = 1 by kernel_rfl] at g7
 rw [show Tryz.prog.cellsOf 25 = 1 by kernel_rfl] at g8
 rw [show Tryz.prog.cellsOf 26 = 1 by kernel_rfl] at g9
 clear hf hyl h
 match l, hl with
 | [c0, c1, c2, c3, c4, c5, c6, c7, c8, c9, c10], _ =>
   match ys, hy11 with
   | [y0, y1, y2, y3, y4, y5, y6, y7, y8, y9, y10], _ =>
     simp only [List.drop_zero, List.take_succ_cons, List.take_zero, List.drop_succ_cons, List.getElem?_cons_zero, List.getElem?_cons_succ] at g0 g1 g2 g3 g4 g5 g6 g7 g8 g9 g10
     obtain ⟨z0, rfl⟩ := open_i64 g0
     obtain ⟨z1, rfl⟩ := open_i64 g1
     obtain ⟨z3, rfl⟩ := open_i64 g3
     obtain ⟨z10, rfl⟩ := open_i64 g10
     obtain ⟨b7, e7, _⟩ := DataW.trod_bool Tryz.underlying4 g7
     simp at e7
     subst e7
     obtain ⟨s2, rfl, hs2⟩ := open_str g2 (fun k hk => hw k (by
      rw [hx]
      simp only [DataW.weights, Tryz.underlying28]
      exact DataW.weights_mem_each (j := 2) rfl rfl k hk))
     obtain ⟨L4, v4, l4, q4⟩ := open_codecs g4 (fun k hk => hw k (by
      rw [hx]
      simp only [DataW.weights, Tryz.underlying28]
      exact DataW.weights_mem_each (j := 4) rfl rfl k hk))
     obtain ⟨L5, v5, l5, q5⟩ := open_exts g5 (fun k hk => hw k (by
      rw [hx]
      simp only [DataW.weights, Tryz.underlying28]
      exact DataW.weights_mem_each (j := 5) rfl rfl k hk))
     obtain ⟨L6, v6, l6, q6⟩ := open_texts g6 (fun k hk => hw k (by
      rw [hx]
      simp only [DataW.weights, Tryz.underlying28]
      exact DataW.weights_mem_each (j := 6) rfl rfl k hk))
     obtain ⟨L8, v8, l8, q8⟩ := open_u32s g8 (fun k hk => hw k (by
      rw [hx]
      simp only [DataW.weights, Tryz.underlying28]
      exact DataW.weights_mem_each (j := 8) rfl rfl k hk))
     obtain ⟨L9, v9, l9, q9⟩ := open_crys g9 (fun k hk => hw k (by
      rw [hx]
      simp only [DataW.weights, Tryz.underlying28]
      exact DataW.weights_mem_each (j := 9) rfl rfl k hk))
     refine ⟨#[.int .i64 z0, .int .i64 z1, .string s2, .int .i64 z3, c4, c5, c6, .bool b7, c8, c9, .int .i64 z10], ⟨z0, z1, s2, z3, L4, L5, L6, b7, L8, L9, z10⟩, c4, c5, c6, c8, c9, rfl, ⟨rfl, v4, v5, v6, v8, v9⟩, ⟨?_, fun c hc => ?_, fun c hc => ?_, fun c hc => ?_, fun c hc => ?_, ⟨q8, q9⟩, ?_⟩⟩
     · show s2.size ≤ _
       omega
     · obtain ⟨⟨h1, h2, h3⟩, _⟩ := q4 c hc
       exact ⟨by omega, by omega, fun f hf => by have := h3 f hf; omega⟩
     · have := (q4 c hc).2
       omega
     · have := q5 c hc
       omega
     · have := q6 c hc
       omega
     · show L4.length ≤ _ ∧ L5.length ≤ _ ∧ L6.length ≤ _ ∧ L8.length ≤ _ ∧ L9.length ≤ _
       omega
theorem open_medias {fuel : Nat} {v : Value} {x : DataW H × List MemPlace} (h : DataW.trod enc Tryz.prog W base sp held fuel 60 [v] = some x) (hw : ∀ n ∈ x.1.weights Tryz.prog 60, n ≤ 140737488351232) :
 ∃ L, MediasV W W.heap.size v L ∧ L.length * 176 ≤ 140737488351232 ∧ ∀ m ∈ L, SizM m :=
 open_rows (e := 28) Tryz.underlying60 (by kernel_rfl) (by decide) (by kernel_rfl) (fun n cs y f hl hf ht hk => by
  obtain ⟨M, m, vC, vE, vR, vS, vY, rfl, hm, hz⟩ := open_mediaL hl ht hk
  exact ⟨m, ⟨M, vC, vE, vR, vS, vY, hm, fun j hj => by rw [hf j hj, Array.getElem?_toList]⟩, hz⟩) h hw
set_option maxRecDepth 100000 in
theorem open_u64 {fuel : Nat} {v : Value} {x : DataW H × List MemPlace} (h : DataW.trod enc Tryz.prog W base sp held fuel 59 [v] = some x) : ∃ n : Nat, v = .int .u64 (n : Int) ∧ n < 18446744073709551616 := by
 obtain ⟨z, e, _, hz⟩ := DataW.trod_int Tryz.underlying59 h
 simp [Lit.wf, IntKind.min, IntKind.max, IntKind.signed, IntKind.bits] at hz
 simp at e
 refine ⟨z.toNat, ?_, by omega⟩
 rw [e, show ((z.toNat : Nat) : Int) = z by omega]
set_option maxRecDepth 100000 in
theorem open_desc {fuel : Nat} {v : Value} {x : DataW H × List MemPlace} (hv : Value.okWide Tryz.prog W .any base 62 v) (h : DataW.trod enc Tryz.prog W 0 sp true fuel 62 v.cells.toList = some x) (hw : ∀ n ∈ x.1.weights Tryz.prog 62, n ≤ 140737488351232) :
 ∃ D d vB vM, v = .agg D ∧ DescV W W.heap.size D d vB vM ∧ SizD d := by
 obtain ⟨cs, rfl, hsz⟩ := okWide_struct Tryz.underlying62 hv
 rw [show Tryz.prog.cellsOf 62 = 6 by kernel_rfl] at hsz
 have h' : DataW.trod enc Tryz.prog W 0 sp true fuel 62 cs.toList = some x := h
 obtain ⟨ys, n, _, hx, _, hyl, hf⟩ := DataW.trod_struct Tryz.underlying62 h'
 obtain ⟨l⟩ := cs
 have hl : l.length = 6 := by simpa using hsz
 have hy6 : ys.length = 6 := hyl
 have g0 : DataW.trod enc Tryz.prog W 0 sp true n 59 ((l.drop 0).take (Tryz.prog.cellsOf 59)) = ys[0]? := hf 0 _ rfl
 have g1 : DataW.trod enc Tryz.prog W 0 sp true n 59 ((l.drop 1).take (Tryz.prog.cellsOf 59)) = ys[1]? := hf 1 _ rfl
 have g2 : DataW.trod enc Tryz.prog W 0 sp true n 24 ((l.drop 2).take (Tryz.prog.cellsOf 24)) = ys[2]? := hf 2 _ rfl
 have g3 : DataW.trod enc Tryz.prog W 0 sp true n 9 ((l.drop 3).take (Tryz.prog.cellsOf 9)) = ys[3]? := hf 3 _ rfl
 have g4 : DataW.trod enc Tryz.prog W 0 sp true n 9 ((l.drop 4).take (Tryz.prog.cellsOf 9)) = ys[4]? := hf 4 _ rfl
 have g5 : DataW.trod enc Tryz.prog W 0 sp true n 60 ((l.drop 5).take (Tryz.prog.cellsOf 60)) = ys[5]? := hf 5 _ rfl
 rw [show Tryz.prog.cellsOf 59 = 1 by kernel_rfl] at g0 g1
 rw [show Tryz.prog.cellsOf 9 = 1 by kernel_rfl] at g3 g4
 rw [show Tryz.prog.cellsOf 24 = 1 by kernel_rfl] at g2
 rw [show Tryz.prog.cellsOf 60 = 1 by kernel_rfl] at g5
 clear hf hyl hv h h'
 match l, hl with
 | [c0, c1, c2, c3, c4, c5], _ =>
   match ys, hy6 with
   | [y0, y1, y2, y3, y4, y5], _ =>
     simp only [List.drop_zero, List.take_succ_cons, List.take_zero, List.drop_succ_cons, List.getElem?_cons_zero, List.getElem?_cons_succ] at g0 g1 g2 g3 g4 g5
     obtain ⟨z0, rfl, h0⟩ := open_u64 g0
     obtain ⟨z1, rfl, h1⟩ := open_u64 g1
     obtain ⟨L2, v2, l2, q2⟩ := open_texts g2 (fun k hk => hw k (by
      rw [hx]
      simp only [DataW.weights, Tryz.underlying62]
      exact DataW.weights_mem_each (j := 2) rfl rfl k hk))
     obtain ⟨s3, rfl, hs3⟩ := open_str g3 (fun k hk => hw k (by
      rw [hx]
      simp only [DataW.weights, Tryz.underlying62]
      exact DataW.weights_mem_each (j := 3) rfl rfl k hk))
     obtain ⟨s4, rfl, hs4⟩ := open_str g4 (fun k hk => hw k (by
      rw [hx]
      simp only [DataW.weights, Tryz.underlying62]
      exact DataW.weights_mem_each (j := 4) rfl rfl k hk))
     obtain ⟨L5, v5, l5, q5⟩ := open_medias g5 (fun k hk => hw k (by
      rw [hx]
      simp only [DataW.weights, Tryz.underlying62]
      exact DataW.weights_mem_each (j := 5) rfl rfl k hk))
     refine ⟨_, ⟨z0, z1, L2, s3, s4, L5⟩, _, _, rfl, ⟨rfl, v2, v5⟩, ⟨?_, ?_, fun b hb => ?_, ?_, ?_, q5, h0, h1⟩⟩
     · show s3.size ≤ _; omega
     · show s4.size ≤ _; omega
     · have := q2 b hb; omega
     · show L2.length ≤ _; omega
     · show L5.length ≤ _; omega
end
end Go.Proofs.YtbbedhecfipdjaaGreatDoor
