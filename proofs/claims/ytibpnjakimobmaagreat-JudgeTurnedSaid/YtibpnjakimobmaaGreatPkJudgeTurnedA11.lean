import Derived.Test.YtibpnjakimobmaaGreatPkJudgeTurnedA00
import Derived.Test.YtibpnjakimobmaaGreatPkJudgeTurnedA07
import Derived.Deep.Slices
import Derived.Deep.Fields
import Derived.OpenShut
import Derived.ChangeOld
import Derived.ChangeSame
import Derived.SizedLaws
import Derived.HandedShaped
import Derived.Test.YtibpnjakimobmaaGreatPkJudgeTurnedA03
import Derived.Test.YtibpnjakimobmaaGreatPkJudgeTurnedA02
namespace Go.Proofs.YtibpnjakimobmaaGreat
open Go.RowKit Go.ChangeShapes Go.WideShapes Go.ChangeAt Go.Deep
set_option linter.unusedVariables false
set_option linter.unusedSimpArgs false
section
variable {H : Type} {enc : TypeId × Value → H} {P : Program} {w : World} {base : Nat} {spare : Nat → Bool} {held : Bool}
end
section
variable {H : Type} {enc : TypeId × Value → H} {W : World} {base : Nat} {sp : Nat → Bool} {held : Bool}
theorem open_rows {α : Type} {t e : TypeId} {sz by_ : Nat} {R : (Nat → Option Value) → α → Prop} {Q : α → Prop} (ht : Tryz.prog.underlying t = some (.slice e)) (hc : Tryz.prog.cellsOf e = sz) (hsz : 0 < sz) (hby : Tryz.prog.bytesOf e = by_)
 (hel : ∀ (n : Nat) (cs : List Value) (y : DataW H × List MemPlace) (f : Nat → Option Value), cs.length = sz → (∀ j, j < sz → f j = cs[j]?) → DataW.trod enc Tryz.prog W base sp held n e cs = some y → (∀ k ∈ y.1.weights Tryz.prog e, k ≤ 140737488351232) → ∃ a, R f a ∧ Q a)
 {fuel : Nat} {v : Value} {x : DataW H × List MemPlace} (h : DataW.trod enc Tryz.prog W base sp held fuel t [v] = some x) (hw : ∀ n ∈ x.1.weights Tryz.prog t, n ≤ 140737488351232) :
 ∃ L : List α, Rows W W.heap.size sz R v L ∧ L.length * by_ ≤ 140737488351232 ∧ ∀ a ∈ L, Q a := by
 rcases open_slice ht h with ⟨hcs, _⟩ | ⟨ad, len, cap, m, n, D, Pl, hcs, hb, hl, hm, hmm, hx, hi⟩
 · simp at hcs
   subst hcs
   exact ⟨[], Rows.nil _ _ _ _, by simp, fun a ha => by cases ha⟩
 · simp at hcs
   subst hcs
   have hlm : len ≤ m := by rw [hmm]; split <;> omega
   rw [hc] at hi
   have hat : ∀ i, i < len → ∃ a : α, R (fun j => W.cell? (ad.add (i * sz + j))) a ∧ Q a ∧ ∃ u, W.cell? (ad.add (i * sz)) = some u := fun i hin => by
    obtain ⟨cs', hcc, htr⟩ := hi i (by omega)
    obtain ⟨_, hcl, hca⟩ := World.cells?_some hcc
    obtain ⟨a, h1, h2⟩ := hel n cs' _ (fun j => W.cell? (ad.add (i * sz + j))) hcl (fun j hj => by
     rw [← Go.Deep.add_add]
     exact hca j hj) htr (fun k hk => hw k (by
      rw [hx]
      simp only [DataW.weights, ht, List.mem_cons, List.mem_append]
      exact .inr (.inl (weights_mem_all (d := D i) (List.mem_map.2 ⟨i, List.mem_range.2 hin, rfl⟩) k hk))))
    refine ⟨a, h1, h2, cs'[0]'(by omega), ?_⟩
    have := hca 0 hsz
    rw [List.getElem?_eq_getElem (by omega)] at this
    exact this
   obtain ⟨L, hL, hR⟩ := pick hat
   refine ⟨L, ⟨some ad, cap, by rw [hL], by omega, hm, (fun e => by cases e), fun hn => ⟨ad, rfl, ?_, fun i a e => (hR i a e).1⟩⟩, ?_, fun a ha => ?_⟩
   · obtain ⟨a, _, _, u, h0⟩ := hat 0 (by omega)
     have := block_lt_of_cell h0
     rwa [add_block] at this
   · have := hw (m * Tryz.prog.bytesOf e) (by
      rw [hx]
      simp only [DataW.weights, ht, List.mem_cons]
      refine .inl ?_
      have e9 : m = ((List.range len).map D).length + ((List.range (m - len)).map fun j => D (len + j)).length := by simp; omega
      rw [← e9])
     rw [hby] at this
     rw [hL]
     exact Nat.le_trans (Nat.mul_le_mul_right _ hlm) this
   · obtain ⟨i, hi2⟩ := List.mem_iff_getElem?.1 ha
     exact (hR i a hi2).2.1
theorem one_cell {cs : List Value} (h : cs.length = 1) : ∃ v, cs = [v] := by
 match cs, h with
 | [v], _ => exact ⟨v, rfl⟩
theorem open_texts {fuel : Nat} {v : Value} {x : DataW H × List MemPlace} (h : DataW.trod enc Tryz.prog W base sp held fuel 23 [v] = some x) (hw : ∀ n ∈ x.1.weights Tryz.prog 23, n ≤ 140737488351232) :
 ∃ L, TextsV W W.heap.size v L ∧ L.length * 16 ≤ 140737488351232 ∧ ∀ s ∈ L, s.size ≤ 140737488351232 :=
 open_rows (e := 9) Tryz.underlying23 (by kernel_rfl) (by decide) (by kernel_rfl) (fun n cs y f hl hf ht hk => by
  obtain ⟨u, rfl⟩ := one_cell hl
  obtain ⟨s, rfl, hs⟩ := open_str ht hk
  exact ⟨s, hf 0 (by decide), hs⟩) h hw
theorem open_i64 {fuel : Nat} {v : Value} {x : DataW H × List MemPlace} (h : DataW.trod enc Tryz.prog W base sp held fuel 3 [v] = some x) : ∃ n : Int, v = .int .i64 n := by
 obtain ⟨n, e, _⟩ := DataW.trod_int Tryz.underlying3 h
 simp at e
 exact ⟨n, e⟩
set_option maxRecDepth 100000 in
theorem open_u32s {fuel : Nat} {v : Value} {x : DataW H × List MemPlace} (h : DataW.trod enc Tryz.prog W base sp held fuel 41 [v] = some x) (hw : ∀ n ∈ x.1.weights Tryz.prog 41, n ≤ 140737488351232) :
 ∃ L, NumsV W W.heap.size v L ∧ L.length * 4 ≤ 140737488351232 ∧ ∀ n ∈ L, n < 4294967296 :=
 open_rows (e := 70) Tryz.underlying41 (by kernel_rfl) (by decide) (by kernel_rfl) (fun n cs y f hl hf ht hk => by
  obtain ⟨z, rfl, _, hz⟩ := DataW.trod_int Tryz.underlying70 ht
  simp [Lit.wf, IntKind.min, IntKind.max, IntKind.signed, IntKind.bits] at hz
  refine ⟨z.toNat, ?_, by omega⟩
  show f 0 = some (.int .u32 (z.toNat : Int))
  rw [show ((z.toNat : Nat) : Int) = z by omega]
  exact hf 0 (by decide)) h hw
set_option maxRecDepth 100000 in
theorem open_exts {fuel : Nat} {v : Value} {x : DataW H × List MemPlace} (h : DataW.trod enc Tryz.prog W base sp held fuel 40 [v] = some x) (hw : ∀ n ∈ x.1.weights Tryz.prog 40, n ≤ 140737488351232) :
 ∃ L, ExtsV W W.heap.size v L ∧ L.length * 24 ≤ 140737488351232 ∧ ∀ a ∈ L, a.uri.size ≤ 140737488351232 :=
 open_rows (e := 49) Tryz.underlying40 (by kernel_rfl) (by decide) (by kernel_rfl) (fun n cs y f hl hf ht hk => by
  obtain ⟨ys, n', _, hy, _, hyl, hfl⟩ := DataW.trod_struct Tryz.underlying49 ht
  match cs, hl with
  | [c0, c1], _ =>
    have f0 : DataW.trod enc Tryz.prog W base sp held n' 3 (([c0, c1].drop 0).take (Tryz.prog.cellsOf 3)) = ys[0]? := hfl 0 _ rfl
    have f1 : DataW.trod enc Tryz.prog W base sp held n' 9 (([c0, c1].drop 1).take (Tryz.prog.cellsOf 9)) = ys[1]? := hfl 1 _ rfl
    rw [show Tryz.prog.cellsOf 3 = 1 by kernel_rfl] at f0
    rw [show Tryz.prog.cellsOf 9 = 1 by kernel_rfl] at f1
    have hyl2 : ys.length = 2 := hyl
    match ys, hyl2 with
    | [y0, y1], _ =>
      simp only [List.drop_zero, List.take_succ_cons, List.take_zero, List.drop_succ_cons, List.getElem?_cons_zero, List.getElem?_cons_succ] at f0 f1
      obtain ⟨z, rfl⟩ := open_i64 f0
      obtain ⟨s, rfl, hs⟩ := open_str f1 (fun k hk2 => hk k (by
       rw [hy]
       simp only [DataW.weights, Tryz.underlying49]
       exact DataW.weights_mem_each (j := 1) rfl rfl k hk2))
      exact ⟨⟨z, s⟩, ⟨hf 0 (by decide), hf 1 (by decide)⟩, hs⟩) h hw
set_option maxRecDepth 100000 in
theorem open_codecs {fuel : Nat} {v : Value} {x : DataW H × List MemPlace} (h : DataW.trod enc Tryz.prog W base sp held fuel 27 [v] = some x) (hw : ∀ n ∈ x.1.weights Tryz.prog 27, n ≤ 140737488351232) :
 ∃ L, CodecsV W W.heap.size v L ∧ L.length * 80 ≤ 140737488351232 ∧ ∀ a ∈ L, (a.name.size ≤ 140737488351232 ∧ a.format.size ≤ 140737488351232 ∧ ∀ f ∈ a.feedback, f.size ≤ 140737488351232) ∧ a.feedback.length * 16 ≤ 140737488351232 :=
 open_rows (e := 47) Tryz.underlying27 (by kernel_rfl) (by decide) (by kernel_rfl) (fun n cs y f hl hf ht hk => by
  obtain ⟨ys, n', _, hy, _, hyl, hfl⟩ := DataW.trod_struct Tryz.underlying47 ht
  match cs, hl with
  | [c0, c1, c2, c3, c4, c5], _ =>
    have f0 : DataW.trod enc Tryz.prog W base sp held n' 3 (([c0, c1, c2, c3, c4, c5].drop 0).take (Tryz.prog.cellsOf 3)) = ys[0]? := hfl 0 _ rfl
    have f1 : DataW.trod enc Tryz.prog W base sp held n' 9 (([c0, c1, c2, c3, c4, c5].drop 1).take (Tryz.prog.cellsOf 9)) = ys[1]? := hfl 1 _ rfl
    have f2 : DataW.trod enc Tryz.prog W base sp held n' 3 (([c0, c1, c2, c3, c4, c5].drop 2).take (Tryz.prog.cellsOf 3)) = ys[2]? := hfl 2 _ rfl
    have f3 : DataW.trod enc Tryz.prog W base sp held n' 3 (([c0, c1, c2, c3, c4, c5].drop 3).take (Tryz.prog.cellsOf 3)) = ys[3]? := hfl 3 _ rfl
    have f4 : DataW.trod enc Tryz.prog W base sp held n' 9 (([c0, c1, c2, c3, c4, c5].drop 4).take (Tryz.prog.cellsOf 9)) = ys[4]? := hfl 4 _ rfl
    have f5 : DataW.trod enc Tryz.prog W base sp held n' 23 (([c0, c1, c2, c3, c4, c5].drop 5).take (Tryz.prog.cellsOf 23)) = ys[5]? := hfl 5 _ rfl
    rw [show Tryz.prog.cellsOf 3 = 1 by kernel_rfl] at f0 f2 f3
    rw [show Tryz.prog.cellsOf 9 = 1 by kernel_rfl] at f1 f4
    rw [show Tryz.prog.cellsOf 23 = 1 by kernel_rfl] at f5
    have hyl2 : ys.length = 6 := hyl
    match ys, hyl2 with
    | [y0, y1, y2, y3, y4, y5], _ =>
      simp only [List.drop_zero, List.take_succ_cons, List.take_zero, List.drop_succ_cons, List.getElem?_cons_zero, List.getElem?_cons_succ] at f0 f1 f2 f3 f4 f5
      obtain ⟨z0, rfl⟩ := open_i64 f0
      obtain ⟨z2, rfl⟩ := open_i64 f2
      obtain ⟨z3, rfl⟩ := open_i64 f3
      obtain ⟨s1, rfl, hs1⟩ := open_str f1 (fun k hk2 => hk k (by
       rw [hy]
       simp only [DataW.weights, Tryz.underlying47]
       exact DataW.weights_mem_each (j := 1) rfl rfl k hk2))
      obtain ⟨s4, rfl, hs4⟩ := open_str f4 (fun k hk2 => hk k (by
       rw [hy]
       simp only [DataW.weights, Tryz.underlying47]
       exact DataW.weights_mem_each (j := 4) rfl rfl k hk2))
      obtain ⟨L5, hv5, hl5, hs5⟩ := open_texts f5 (fun k hk2 => hk k (by
       rw [hy]
       simp only [DataW.weights, Tryz.underlying47]
       exact DataW.weights_mem_each (j := 5) rfl rfl k hk2))
      exact ⟨⟨z0, s1, z2, z3, s4, L5⟩, ⟨hf 0 (by decide), hf 1 (by decide), hf 2 (by decide), hf 3 (by decide), hf 4 (by decide), _, hf 5 (by decide), hv5⟩, ⟨hs1, hs4, hs5⟩, hl5⟩) h hw
theorem open_key {n : Nat} {cs : List Value} {y : DataW H × List MemPlace} (hl : cs.length = 30) (h : DataW.trod enc Tryz.prog W base sp held n 30 cs = some y) : ∃ k : Tx, k.length = 30 ∧ cs = keyC k := by
 obtain ⟨xs, m, rfl, rfl, hxl, hxs, hat⟩ := DataW.trod_array Tryz.underlying30 h
 have hb : ∀ i, i < 30 → ∃ b : UInt8, cs[i]? = some (.int .u8 (b.toNat : Int)) := fun i hi => by
  have h1 := hat i hi
  rw [show Tryz.prog.cellsOf 5 = 1 by kernel_rfl, Nat.mul_one] at h1
  have h2 : (cs.drop i).take 1 = [cs[i]'(by omega)] := by
   rw [List.drop_eq_getElem_cons (by omega)]
   rfl
  rw [h2, List.getElem?_eq_getElem (by omega)] at h1
  obtain ⟨z, e1, _, e3⟩ := DataW.trod_int Tryz.underlying5 h1
  simp [Lit.wf, IntKind.min, IntKind.max, IntKind.signed, IntKind.bits] at e3
  refine ⟨UInt8.ofNat z.toNat, ?_⟩
  rw [List.getElem?_eq_getElem (by omega)]
  have e4 : cs[i]'(by omega) = .int .u8 z := by simpa using e1
  rw [e4, UInt8.toNat_ofNat', show ((z.toNat % 2 ^ 8 : Nat) : Int) = z by omega]
 obtain ⟨k, hk, hr⟩ := pick hb
 refine ⟨k, hk, List.ext_getElem? fun i => ?_⟩
 unfold keyC
 rw [List.getElem?_map]
 by_cases hi : i < 30
 · have e := List.getElem?_eq_getElem (l := k) (i := i) (by omega)
   rw [e, hr i _ e]
   rfl
 · rw [List.getElem?_eq_none (by omega), List.getElem?_eq_none (by omega)]
   rfl
set_option maxRecDepth 100000 in
theorem open_crys {fuel : Nat} {v : Value} {x : DataW H × List MemPlace} (h : DataW.trod enc Tryz.prog W base sp held fuel 42 [v] = some x) (hw : ∀ n ∈ x.1.weights Tryz.prog 42, n ≤ 140737488351232) :
 ∃ L, CrysV W W.heap.size v L ∧ L.length * 40 ≤ 140737488351232 ∧ ∀ a ∈ L, a.key.length = 30 :=
 open_rows (e := 51) Tryz.underlying42 (by kernel_rfl) (by decide) (by kernel_rfl) (fun n cs y f hl hf ht hk => by
  obtain ⟨ys, n', _, hy, _, hyl, hfl⟩ := DataW.trod_struct Tryz.underlying51 ht
  have f0 : DataW.trod enc Tryz.prog W base sp held n' 3 ((cs.drop 0).take (Tryz.prog.cellsOf 3)) = ys[0]? := hfl 0 _ rfl
  have f1 : DataW.trod enc Tryz.prog W base sp held n' 30 ((cs.drop 1).take (Tryz.prog.cellsOf 30)) = ys[1]? := hfl 1 _ rfl
  rw [show Tryz.prog.cellsOf 3 = 1 by kernel_rfl] at f0
  rw [show Tryz.prog.cellsOf 30 = 30 by kernel_rfl] at f1
  have hyl2 : ys.length = 2 := hyl
  match ys, hyl2 with
  | [y0, y1], _ =>
    obtain ⟨c0, r, hcr⟩ : ∃ c0 r, cs = c0 :: r := by
     cases cs with
     | nil => simp at hl
     | cons a b => exact ⟨a, b, rfl⟩
    subst hcr
    simp only [List.drop_zero, List.take_succ_cons, List.take_zero, List.drop_succ_cons, List.getElem?_cons_zero, List.getElem?_cons_succ] at f0 f1
    have hrl : r.length = 30 := by simpa using hl
    rw [List.take_of_length_le (by omega)] at f1
    obtain ⟨z, rfl⟩ := open_i64 f0
    obtain ⟨k, hk30, rfl⟩ := open_key hrl f1
    exact ⟨⟨z, k⟩, ⟨hk30, fun j hj => hf j hj⟩, hk30⟩) h hw
end
section
variable {H : Type} {enc : TypeId × Value → H} {W : World} {base : Nat} {sp : Nat → Bool} {held : Bool}
set_option maxRecDepth 100000 in
theorem open_mediaL {n : Nat} {l : List Value} {x : DataW H × List MemPlace} (hl : l.length = 11) (h : DataW.trod enc Tryz.prog W base sp held n 44 l = some x) (hw : ∀ n ∈ x.1.weights Tryz.prog 44, n ≤ 140737488351232) :
 ∃ (M : Array Value) (m : MediaS) (vC vE vR vS vY : Value), l = M.toList ∧ MediaV W W.heap.size M m vC vE vR vS vY ∧ SizM m := by
 obtain ⟨ys, n, _, hx, _, hyl, hf⟩ := DataW.trod_struct Tryz.underlying44 h
 have hy11 : ys.length = 11 := hyl
 have g0 : DataW.trod enc Tryz.prog W base sp held n 3 ((l.drop 0).take (Tryz.prog.cellsOf 3)) = ys[0]? := hf 0 _ rfl
 have g1 : DataW.trod enc Tryz.prog W base sp held n 3 ((l.drop 1).take (Tryz.prog.cellsOf 3)) = ys[1]? := hf 1 _ rfl
 have g2 : DataW.trod enc Tryz.prog W base sp held n 9 ((l.drop 2).take (Tryz.prog.cellsOf 9)) = ys[2]? := hf 2 _ rfl
 have g3 : DataW.trod enc Tryz.prog W base sp held n 3 ((l.drop 3).take (Tryz.prog.cellsOf 3)) = ys[3]? := hf 3 _ rfl
 have g4 : DataW.trod enc Tryz.prog W base sp held n 27 ((l.drop 4).take (Tryz.prog.cellsOf 27)) = ys[4]? := hf 4 _ rfl
 have g5 : DataW.trod enc Tryz.prog W base sp held n 40 ((l.drop 5).take (Tryz.prog.cellsOf 40)) = ys[5]? := hf 5 _ rfl
 have g6 : DataW.trod enc Tryz.prog W base sp held n 23 ((l.drop 6).take (Tryz.prog.cellsOf 23)) = ys[6]? := hf 6 _ rfl
 have g7 : DataW.trod enc Tryz.prog W base sp held n 4 ((l.drop 7).take (Tryz.prog.cellsOf 4)) = ys[7]? := hf 7 _ rfl
 have g8 : DataW.trod enc Tryz.prog W base sp held n 41 ((l.drop 8).take (Tryz.prog.cellsOf 41)) = ys[8]? := hf 8 _ rfl
 have g9 : DataW.trod enc Tryz.prog W base sp held n 42 ((l.drop 9).take (Tryz.prog.cellsOf 42)) = ys[9]? := hf 9 _ rfl
 have g10 : DataW.trod enc Tryz.prog W base sp held n 3 ((l.drop 10).take (Tryz.prog.cellsOf 3)) = ys[10]? := hf 10 _ rfl
 rw [show Tryz.prog.cellsOf 3 = 1 by kernel_rfl] at g0 g1 g3 g10
 rw [show Tryz.prog.cellsOf 9 = 1 by kernel_rfl] at g2
 rw [show Tryz.prog.cellsOf 27 = 1 by kernel_rfl] at g4
 rw [show Tryz.prog.cellsOf 40 = 1 by kernel_rfl] at g5
 rw [show Tryz.prog.cellsOf 23 = 1 by kernel_rfl] at g6
 rw [show Tryz.prog.cellsOf 4 = 1 by kernel_rfl] at g7
 rw [show Tryz.prog.cellsOf 41 = 1 by kernel_rfl] at g8
 rw [show Tryz.prog.cellsOf 42 = 1 by kernel_rfl] at g9
 clear hf hyl h
 match l, hl with
 | [c0, c1, c2, c3, c4, c5, c6, c7, c8, c9, c10], _ =>
   match ys, hy11 with
   | [y0, y1, y2, y3, y4, y5, y6, y7, y8, y9, y10], _ =>
     simp only [List.drop_zero, List.take_succ_cons, List.take_zero, List.drop_succ_cons, List.getElem?_cons_zero, List.getElem?_cons_succ] at g0 g1 g2 g3 g4 g5 g6 g7 g8 g9 g10
     obtain ⟨z0, rfl⟩ := open_i64 g0
     obtain ⟨z1, rfl⟩ := open_i64 g1
     obtain ⟨z3, rfl⟩ := open_i64 g3
     obtain ⟨z10, rfl⟩ := open_i64 g10
     obtain ⟨b7, e7, _⟩ := DataW.trod_bool Tryz.underlying4 g7
     simp at e7
     subst e7
     obtain ⟨s2, rfl, hs2⟩ := open_str g2 (fun k hk => hw k (by
      rw [hx]
      simp only [DataW.weights, Tryz.underlying44]
      exact DataW.weights_mem_each (j := 2) rfl rfl k hk))
     obtain ⟨L4, v4, l4, q4⟩ := open_codecs g4 (fun k hk => hw k (by
      rw [hx]
      simp only [DataW.weights, Tryz.underlying44]
      exact DataW.weights_mem_each (j := 4) rfl rfl k hk))
     obtain ⟨L5, v5, l5, q5⟩ := open_exts g5 (fun k hk => hw k (by
      rw [hx]
      simp only [DataW.weights, Tryz.underlying44]
      exact DataW.weights_mem_each (j := 5) rfl rfl k hk))
     obtain ⟨L6, v6, l6, q6⟩ := open_texts g6 (fun k hk => hw k (by
      rw [hx]
      simp only [DataW.weights, Tryz.underlying44]
      exact DataW.weights_mem_each (j := 6) rfl rfl k hk))
     obtain ⟨L8, v8, l8, q8⟩ := open_u32s g8 (fun k hk => hw k (by
      rw [hx]
      simp only [DataW.weights, Tryz.underlying44]
      exact DataW.weights_mem_each (j := 8) rfl rfl k hk))
     obtain ⟨L9, v9, l9, q9⟩ := open_crys g9 (fun k hk => hw k (by
      rw [hx]
      simp only [DataW.weights, Tryz.underlying44]
      exact DataW.weights_mem_each (j := 9) rfl rfl k hk))
     refine ⟨#[.int .i64 z0, .int .i64 z1, .string s2, .int .i64 z3, c4, c5, c6, .bool b7, c8, c9, .int .i64 z10], ⟨z0, z1, s2, z3, L4, L5, L6, b7, L8, L9, z10⟩, c4, c5, c6, c8, c9, rfl, ⟨rfl, v4, v5, v6, v8, v9⟩, ⟨?_, fun c hc => ?_, fun c hc => ?_, fun c hc => ?_, fun c hc => ?_, ⟨q8, q9⟩, ?_⟩⟩
     · show s2.size ≤ _
       omega
     · obtain ⟨⟨h1, h2, h3⟩, _⟩ := q4 c hc
       exact ⟨by omega, by omega, fun f hf => by have := h3 f hf; omega⟩
     · have := (q4 c hc).2
       omega
     · have := q5 c hc
       omega
     · have := q6 c hc
       omega
     · show L4.length ≤ _ ∧ L5.length ≤ _ ∧ L6.length ≤ _ ∧ L8.length ≤ _ ∧ L9.length ≤ _
       omega
theorem open_medias {fuel : Nat} {v : Value} {x : DataW H × List MemPlace} (h : DataW.trod enc Tryz.prog W base sp held fuel 24 [v] = some x) (hw : ∀ n ∈ x.1.weights Tryz.prog 24, n ≤ 140737488351232) :
 ∃ L, MediasV W W.heap.size v L ∧ L.length * 176 ≤ 140737488351232 ∧ ∀ m ∈ L, SizM m :=
 open_rows (e := 44) Tryz.underlying24 (by kernel_rfl) (by decide) (by kernel_rfl) (fun n cs y f hl hf ht hk => by
  obtain ⟨M, m, vC, vE, vR, vS, vY, rfl, hm, hz⟩ := open_mediaL hl ht hk
  exact ⟨m, ⟨M, vC, vE, vR, vS, vY, hm, fun j hj => by rw [hf j hj, Array.getElem?_toList]⟩, hz⟩) h hw
set_option maxRecDepth 100000 in
theorem open_u64 {fuel : Nat} {v : Value} {x : DataW H × List MemPlace} (h : DataW.trod enc Tryz.prog W base sp held fuel 22 [v] = some x) : ∃ n : Nat, v = .int .u64 (n : Int) ∧ n < 18446744073709551616 := by
 obtain ⟨z, e, _, hz⟩ := DataW.trod_int Tryz.underlying22 h
 simp [Lit.wf, IntKind.min, IntKind.max, IntKind.signed, IntKind.bits] at hz
 simp at e
 refine ⟨z.toNat, ?_, by omega⟩
 rw [e, show ((z.toNat : Nat) : Int) = z by omega]
end
structure AskS where
 o : DescS
 c : ConfigS
 name : ByteArray
 pass : ByteArray
 key : Tx
def AskV10 (w : World) (B : Nat) (X : Array Value) (a : AskS) : Prop :=
 ∃ D K vB vM kC kE, X = (D.toList ++ (K.toList ++ (.string a.name :: .string a.pass :: keyC a.key))).toArray ∧ DescV w B D a.o vB vM ∧ ConfV w B K a.c kC kE ∧ a.key.length = 30
structure SizAsk (a : AskS) : Prop where
 o : SizD a.o
 c : SizC a.c
 name : a.name.size ≤ 140737488355328
 pass : a.pass.size ≤ 140737488355328
section
variable {H : Type} {enc : TypeId × Value → H} {W : World} {base : Nat} {sp : Nat → Bool} {held : Bool}
set_option maxRecDepth 100000 in
theorem open_descL {fuel : Nat} {l : List Value} {x : DataW H × List MemPlace} (hl : l.length = 6) (h : DataW.trod enc Tryz.prog W 0 sp true fuel 26 l = some x) (hw : ∀ n ∈ x.1.weights Tryz.prog 26, n ≤ 140737488351232) :
 ∃ D d vB vM, l = D.toList ∧ DescV W W.heap.size D d vB vM ∧ SizD d := by
 obtain ⟨ys, n, _, hx, _, hyl, hf⟩ := DataW.trod_struct Tryz.underlying26 h
 have hy6 : ys.length = 6 := hyl
 have g0 : DataW.trod enc Tryz.prog W 0 sp true n 22 ((l.drop 0).take (Tryz.prog.cellsOf 22)) = ys[0]? := hf 0 _ rfl
 have g1 : DataW.trod enc Tryz.prog W 0 sp true n 22 ((l.drop 1).take (Tryz.prog.cellsOf 22)) = ys[1]? := hf 1 _ rfl
 have g2 : DataW.trod enc Tryz.prog W 0 sp true n 23 ((l.drop 2).take (Tryz.prog.cellsOf 23)) = ys[2]? := hf 2 _ rfl
 have g3 : DataW.trod enc Tryz.prog W 0 sp true n 9 ((l.drop 3).take (Tryz.prog.cellsOf 9)) = ys[3]? := hf 3 _ rfl
 have g4 : DataW.trod enc Tryz.prog W 0 sp true n 9 ((l.drop 4).take (Tryz.prog.cellsOf 9)) = ys[4]? := hf 4 _ rfl
 have g5 : DataW.trod enc Tryz.prog W 0 sp true n 24 ((l.drop 5).take (Tryz.prog.cellsOf 24)) = ys[5]? := hf 5 _ rfl
 rw [show Tryz.prog.cellsOf 22 = 1 by kernel_rfl] at g0 g1
 rw [show Tryz.prog.cellsOf 9 = 1 by kernel_rfl] at g3 g4
 rw [show Tryz.prog.cellsOf 23 = 1 by kernel_rfl] at g2
 rw [show Tryz.prog.cellsOf 24 = 1 by kernel_rfl] at g5
 clear hf hyl h
 match l, hl with
 | [c0, c1, c2, c3, c4, c5], _ =>
   match ys, hy6 with
   | [y0, y1, y2, y3, y4, y5], _ =>
     simp only [List.drop_zero, List.take_succ_cons, List.take_zero, List.drop_succ_cons, List.getElem?_cons_zero, List.getElem?_cons_succ] at g0 g1 g2 g3 g4 g5
     obtain ⟨z0, rfl, h0⟩ := open_u64 g0
     obtain ⟨z1, rfl, h1⟩ := open_u64 g1
     obtain ⟨L2, v2, l2, q2⟩ := open_texts g2 (fun k hk => hw k (by
      rw [hx]
      simp only [DataW.weights, Tryz.underlying26]
      exact DataW.weights_mem_each (j := 2) rfl rfl k hk))
     obtain ⟨s3, rfl, hs3⟩ := open_str g3 (fun k hk => hw k (by
      rw [hx]
      simp only [DataW.weights, Tryz.underlying26]
      exact DataW.weights_mem_each (j := 3) rfl rfl k hk))
     obtain ⟨s4, rfl, hs4⟩ := open_str g4 (fun k hk => hw k (by
      rw [hx]
      simp only [DataW.weights, Tryz.underlying26]
      exact DataW.weights_mem_each (j := 4) rfl rfl k hk))
     obtain ⟨L5, v5, l5, q5⟩ := open_medias g5 (fun k hk => hw k (by
      rw [hx]
      simp only [DataW.weights, Tryz.underlying26]
      exact DataW.weights_mem_each (j := 5) rfl rfl k hk))
     refine ⟨#[.int .u64 z0, .int .u64 z1, c2, .string s3, .string s4, c5], ⟨z0, z1, L2, s3, s4, L5⟩, c2, c5, rfl, ⟨rfl, v2, v5⟩, ⟨?_, ?_, fun b hb => ?_, ?_, ?_, q5, h0, h1⟩⟩
     · show s3.size ≤ _; omega
     · show s4.size ≤ _; omega
     · have := q2 b hb; omega
     · show L2.length ≤ _; omega
     · show L5.length ≤ _; omega
set_option maxRecDepth 100000 in
theorem open_confL {fuel : Nat} {l : List Value} {x : DataW H × List MemPlace} (hl : l.length = 3) (h : DataW.trod enc Tryz.prog W 0 sp true fuel 29 l = some x) (hw : ∀ n ∈ x.1.weights Tryz.prog 29, n ≤ 140737488351232) :
 ∃ K c kC kE, l = K.toList ∧ ConfV W W.heap.size K c kC kE ∧ SizC c := by
 obtain ⟨ys, n, _, hx, _, hyl, hf⟩ := DataW.trod_struct Tryz.underlying29 h
 have hy3 : ys.length = 3 := hyl
 have g0 : DataW.trod enc Tryz.prog W 0 sp true n 27 ((l.drop 0).take (Tryz.prog.cellsOf 27)) = ys[0]? := hf 0 _ rfl
 have g1 : DataW.trod enc Tryz.prog W 0 sp true n 23 ((l.drop 1).take (Tryz.prog.cellsOf 23)) = ys[1]? := hf 1 _ rfl
 have g2 : DataW.trod enc Tryz.prog W 0 sp true n 4 ((l.drop 2).take (Tryz.prog.cellsOf 4)) = ys[2]? := hf 2 _ rfl
 rw [show Tryz.prog.cellsOf 27 = 1 by kernel_rfl] at g0
 rw [show Tryz.prog.cellsOf 23 = 1 by kernel_rfl] at g1
 rw [show Tryz.prog.cellsOf 4 = 1 by kernel_rfl] at g2
 clear hf hyl h
 match l, hl with
 | [c0, c1, c2], _ =>
   match ys, hy3 with
   | [y0, y1, y2], _ =>
     simp only [List.drop_zero, List.take_succ_cons, List.take_zero, List.drop_succ_cons, List.getElem?_cons_zero, List.getElem?_cons_succ] at g0 g1 g2
     obtain ⟨L0, v0, l0, q0⟩ := open_codecs g0 (fun k hk => hw k (by
      rw [hx]
      simp only [DataW.weights, Tryz.underlying29]
      exact DataW.weights_mem_each (j := 0) rfl rfl k hk))
     obtain ⟨L1, v1, l1, q1⟩ := open_texts g1 (fun k hk => hw k (by
      rw [hx]
      simp only [DataW.weights, Tryz.underlying29]
      exact DataW.weights_mem_each (j := 1) rfl rfl k hk))
     obtain ⟨b2, e2, _⟩ := DataW.trod_bool Tryz.underlying4 g2
     simp at e2
     subst e2
     refine ⟨#[c0, c1, .bool b2], ⟨L0, L1, b2⟩, c0, c1, rfl, ⟨rfl, v0, v1⟩, ⟨?_, ?_, fun x hx => ?_⟩⟩
     · show L0.length ≤ _; omega
     · show L1.length ≤ _; omega
     · have := (q0 x hx).2; omega
set_option maxRecDepth 100000 in
theorem open_ask10 {fuel : Nat} {v : Value} {x : DataW H × List MemPlace} (hv : Value.okWide Tryz.prog W .any base 32 v) (h : DataW.trod enc Tryz.prog W 0 sp true fuel 32 v.cells.toList = some x) (hw : ∀ n ∈ x.1.weights Tryz.prog 32, n ≤ 140737488351232) :
 ∃ X a, v = .agg X ∧ AskV10 W W.heap.size X a ∧ SizAsk a := by
 obtain ⟨cs, rfl, hsz⟩ := okWide_struct Tryz.underlying32 hv
 rw [show Tryz.prog.cellsOf 32 = 41 by kernel_rfl] at hsz
 have h' : DataW.trod enc Tryz.prog W 0 sp true fuel 32 cs.toList = some x := h
 obtain ⟨ys, n, _, hx, _, hyl, hf⟩ := DataW.trod_struct Tryz.underlying32 h'
 obtain ⟨l⟩ := cs
 have hl : l.length = 41 := by simpa using hsz
 have hy5 : ys.length = 5 := hyl
 have g0 : DataW.trod enc Tryz.prog W 0 sp true n 26 ((l.drop 0).take (Tryz.prog.cellsOf 26)) = ys[0]? := hf 0 _ rfl
 have g1 : DataW.trod enc Tryz.prog W 0 sp true n 29 ((l.drop 6).take (Tryz.prog.cellsOf 29)) = ys[1]? := hf 1 _ rfl
 have g2 : DataW.trod enc Tryz.prog W 0 sp true n 9 ((l.drop 9).take (Tryz.prog.cellsOf 9)) = ys[2]? := hf 2 _ rfl
 have g3 : DataW.trod enc Tryz.prog W 0 sp true n 9 ((l.drop 10).take (Tryz.prog.cellsOf 9)) = ys[3]? := hf 3 _ rfl
 have g4 : DataW.trod enc Tryz.prog W 0 sp true n 30 ((l.drop 11).take (Tryz.prog.cellsOf 30)) = ys[4]? := hf 4 _ rfl
 rw [show Tryz.prog.cellsOf 26 = 6 by kernel_rfl] at g0
 rw [show Tryz.prog.cellsOf 29 = 3 by kernel_rfl] at g1
 rw [show Tryz.prog.cellsOf 9 = 1 by kernel_rfl] at g2 g3
 rw [show Tryz.prog.cellsOf 30 = 30 by kernel_rfl] at g4
 clear hf hyl hv h h'
 match ys, hy5 with
 | [y0, y1, y2, y3, y4], _ =>
   simp only [List.getElem?_cons_zero, List.getElem?_cons_succ] at g0 g1 g2 g3 g4
   obtain ⟨D, d, vB, vM, hD, dv, ds⟩ := open_descL (by simp; omega) g0 (fun k hk => hw k (by
    rw [hx]
    simp only [DataW.weights, Tryz.underlying32]
    exact DataW.weights_mem_each (j := 0) rfl rfl k hk))
   obtain ⟨K, c, kC, kE, hK, kv, ks⟩ := open_confL (by simp; omega) g1 (fun k hk => hw k (by
    rw [hx]
    simp only [DataW.weights, Tryz.underlying32]
    exact DataW.weights_mem_each (j := 1) rfl rfl k hk))
   have one : ∀ i, i < 41 → ∃ u, (l.drop i).take 1 = [u] := fun i hi => ⟨l[i]'(by omega), by rw [List.drop_eq_getElem_cons (by omega)]; rfl⟩
   obtain ⟨u2, e2⟩ := one 9 (by decide)
   obtain ⟨u3, e3⟩ := one 10 (by decide)
   rw [e2] at g2
   rw [e3] at g3
   obtain ⟨s2, rfl, h2⟩ := open_str g2 (fun k hk => hw k (by
    rw [hx]
    simp only [DataW.weights, Tryz.underlying32]
    exact DataW.weights_mem_each (j := 2) rfl rfl k hk))
   obtain ⟨s3, rfl, h3⟩ := open_str g3 (fun k hk => hw k (by
    rw [hx]
    simp only [DataW.weights, Tryz.underlying32]
    exact DataW.weights_mem_each (j := 3) rfl rfl k hk))
   obtain ⟨key, hkl, hke⟩ := open_key (by simp; omega) g4
   refine ⟨_, ⟨d, c, s2, s3, key⟩, rfl, ⟨D, K, vB, vM, kC, kE, ?_, dv, kv, hkl⟩, ⟨ds, ks, by show s2.size ≤ _; omega, by show s3.size ≤ _; omega⟩⟩
   congr 1
   show l = D.toList ++ (K.toList ++ (.string s2 :: .string s3 :: keyC key))
   rw [← hD, ← hK, ← hke]
   have t1 : l.drop 9 = .string s2 :: l.drop 10 := by
    have := List.take_append_drop 1 (l.drop 9)
    rw [e2, List.drop_drop] at this
    exact this.symm
   have t2 : l.drop 10 = .string s3 :: l.drop 11 := by
    have := List.take_append_drop 1 (l.drop 10)
    rw [e3, List.drop_drop] at this
    exact this.symm
   have t3 : (l.drop 11).take 30 = l.drop 11 := List.take_of_length_le (by simp; omega)
   rw [t3, ← t2, ← t1, List.drop_zero]
   have t4 : (l.drop 6).take 3 ++ l.drop 9 = l.drop 6 := by
    have := List.take_append_drop 3 (l.drop 6)
    rw [List.drop_drop] at this
    exact this
   rw [t4]
   exact (List.take_append_drop 6 l).symm
end
end Go.Proofs.YtibpnjakimobmaaGreat
namespace Go.Proofs.YtibpnjakimobmaaGreat
open Go.RowKit
set_option linter.unusedVariables false
set_option linter.unusedSimpArgs false
section
variable {ops : Array Oper} {rest : List Oper} {o : Oper} {a : Act} {w : World} {Q : Exit → Act → World → Prop} {f : Nat} {cap : Array Value} {R : Ending → World → Prop}
theorem wpList_callV1 (hgd : o.guard = none) (x y1 : Operand) (ho : ∃ T, o.op = .call { callee := .value x, args := #[y1], argTypes := T })
 (hx : a.eval x = .func (.func f) #[] cap) {u1 : Value} (h1 : a.eval y1 = u1) (eg : ∀ args w, (callFunc f args).run Tryz.prog w = .ok (.enter f args) w)
 (hc : Calls Tryz.prog f (#[u1] ++ cap) w R) (hr : ∀ e w', R e w' → ∃ v, e = .returned v ∧ wpList Tryz.prog ops Q rest (a.put o.dst v) w') : wpList Tryz.prog ops Q (o :: rest) a w := by
 refine wpList_plain hgd fun K hK => ?_
 obtain ⟨T, ho⟩ := ho
 have hrun : (execOp a.eval o).run Tryz.prog w = .ok (.enter f (#[u1] ++ cap)) w := by
  simp [execOp, ho, resolve, invoke, hx, h1, Result.andThen, eg, Deferred.ofValue]
 unfold Oper.wp
 rw [hrun, Oper.upon_enter]
 refine hc.mono fun e w'' hh => ?_
 obtain ⟨v, rfl, hk⟩ := hr e w'' hh
 exact hK _ _ hk
theorem wpList_callV2G (hw : Region.wanted o (yielded ops a.tmps) = true) (x y1 y2 : Operand) (ho : ∃ T, o.op = .call { callee := .value x, args := #[y1, y2], argTypes := T })
 (hx : a.eval x = .func (.func f) #[] cap) {u1 u2 : Value} (h1 : a.eval y1 = u1) (h2 : a.eval y2 = u2) (eg : ∀ args w, (callFunc f args).run Tryz.prog w = .ok (.enter f args) w)
 (hc : Calls Tryz.prog f (#[u1, u2] ++ cap) w R) (hr : ∀ e w', R e w' → ∃ v, e = .returned v ∧ wpList Tryz.prog ops Q rest (a.put o.dst v) w') : wpList Tryz.prog ops Q (o :: rest) a w := by
 refine wpList_step fun K hK => ?_
 rw [if_pos hw]
 obtain ⟨T, ho⟩ := ho
 have hrun : (execOp a.eval o).run Tryz.prog w = .ok (.enter f (#[u1, u2] ++ cap)) w := by
  simp [execOp, ho, resolve, invoke, hx, h1, h2, Result.andThen, eg, Deferred.ofValue]
 unfold Oper.wp
 rw [hrun, Oper.upon_enter]
 refine hc.mono fun e w'' hh => ?_
 obtain ⟨v, rfl, hk⟩ := hr e w'' hh
 exact hK _ _ hk
theorem wpList_callV2 (hgd : o.guard = none) (x y1 y2 : Operand) (ho : ∃ T, o.op = .call { callee := .value x, args := #[y1, y2], argTypes := T })
 (hx : a.eval x = .func (.func f) #[] cap) {u1 u2 : Value} (h1 : a.eval y1 = u1) (h2 : a.eval y2 = u2) (eg : ∀ args w, (callFunc f args).run Tryz.prog w = .ok (.enter f args) w)
 (hc : Calls Tryz.prog f (#[u1, u2] ++ cap) w R) (hr : ∀ e w', R e w' → ∃ v, e = .returned v ∧ wpList Tryz.prog ops Q rest (a.put o.dst v) w') : wpList Tryz.prog ops Q (o :: rest) a w :=
 wpList_callV2G (by simp [Region.wanted, hgd]) x y1 y2 ho hx h1 h2 eg hc hr
end
set_option maxHeartbeats 1600000 in
set_option maxRecDepth 100000 in
theorem indexSF_any (A : Option Addr) (n c : Nat) (L : List ByteArray) (q : ByteArray → Bool) (f : Nat) (cap : Array Value) (w : World) (h : TextsV w w.heap.size (.slice A n c) L) (hn : L.length = n) (hl : n ≤ 4611686018427387904)
 (eg : ∀ args w, (callFunc f args).run Tryz.prog w = .ok (.enter f args) w) (hp : ∀ (W : World) (x : ByteArray), Below w.heap.size w W → x ∈ L → Calls Tryz.prog f (#[.string x] ++ cap) W fun e w' => e = .returned (.bool (q x)) ∧ Below W.heap.size W w') :
 Calls Tryz.prog 65 #[.slice A n c, .func (.func f) #[] cap] w fun e w' => ∃ r : Int, e = .returned (.int .i64 r) ∧ decide (0 ≤ r) = L.any q ∧ Below w.heap.size w w' := by
 have HA := Lib.hid h
 have HP := Lib.hid hp
 have HEG := Lib.hid eg
 have HE := Lib.hid hn
 clear h hn hp eg
 go_enter Tryz.func65, Tryz.ntmps65
 go_wp2
 go_loopw [8] (fun s8 wr => ∃ k : Nat, k ≤ n ∧ s8 = .int .i64 k ∧ (∀ j, j < k → q (L.getD j default) = false) ∧ Below w.heap.size w wr) (fun s8 _ => n - (intOf s8).toNat)
 case atStart => exact ⟨0, by omega, rfl, (fun j hj => by omega), Below.refl _ w⟩
 case round =>
  obtain ⟨k, hk, rfl, hno, hb⟩ := hrel
  have HNO := Lib.hid hno
  clear hno
  by_cases hlt : k < n
  · have hlt' : k < L.length := by rw [HE.out]; exact hlt
    obtain ⟨ad, c', e1, had, c0⟩ := (HA.out.below hb).at_ hlt'
    injection e1 with e1 e1n e1c
    clear e1n e1c
    subst e1
    obtain ⟨x, hx⟩ : ∃ x, L.getD k default = x := ⟨_, rfl⟩
    have HM : Hid (x ∈ L) := Lib.hid (by rw [← hx]; exact getD_mem hlt')
    rw [hx] at c0
    have HX := Lib.hid hx
    have HB := Lib.hid (And.intro hb hlt')
    obtain ⟨b, hbb⟩ : ∃ b, q x = b := ⟨_, rfl⟩
    have HS := Lib.hid (HP.out wr x hb HM.out)
    rw [hbb] at HS
    have HBT := Lib.hid hbb
    clear hbb hx hb hlt' had
    have hk0 : (0 : Int) ≤ (k : Int) := by omega
    have hk1 : (k : Int) < (n : Int) := by omega
    cases b with
    | true =>
      go_wp2_with ((with_reducible refine wpList_callV1 ?_ (.tmp 11) (.tmp 15) ?_ ?_ ?_ HEG.out HS.out ?_); (with_reducible rfl); (exact ⟨_, rfl⟩); rfl; rfl; rintro e w2 ⟨rfl, hb2⟩; refine ⟨_, rfl, ?_⟩)
      go_ret
      exact ⟨_, rfl, by rw [any_yes HB.out.2 (by rw [HX.out]; exact HBT.out)]; exact decide_eq_true hk0, HB.out.1.trans (hb2.mono HB.out.1.size)⟩
    | false =>
      go_wp2_with ((with_reducible refine wpList_callV1 ?_ (.tmp 11) (.tmp 15) ?_ ?_ ?_ HEG.out HS.out ?_); (with_reducible rfl); (exact ⟨_, rfl⟩); rfl; rfl; rintro e w2 ⟨rfl, hb2⟩; refine ⟨_, rfl, ?_⟩)
      go_roundw
      case rel =>
       refine ⟨k + 1, by omega, by go_num, fun j hj => ?_, HB.out.1.trans (hb2.mono HB.out.1.size)⟩
       by_cases e : j = k
       · subst e
         rw [HX.out]
         exact HBT.out
       · exact HNO.out j (by omega)
      case measure => simp [intOf]; omega
  · have e : k = n := by omega
    subst e
    have HN : Hid (L.any q = false) := Lib.hid (any_no HE.out HNO.out)
    have HB := Lib.hid hb
    clear hb
    go_wp2
    go_ret
    exact ⟨_, rfl, by rw [HN.out]; rfl, HB.out⟩
set_option maxHeartbeats 800000 in
theorem containsSF_any (A : Option Addr) (n c : Nat) (L : List ByteArray) (q : ByteArray → Bool) (f : Nat) (cap : Array Value) (w : World) (h : TextsV w w.heap.size (.slice A n c) L) (hn : L.length = n) (hl : n ≤ 4611686018427387904)
 (eg : ∀ args w, (callFunc f args).run Tryz.prog w = .ok (.enter f args) w) (hp : ∀ (W : World) (x : ByteArray), Below w.heap.size w W → x ∈ L → Calls Tryz.prog f (#[.string x] ++ cap) W fun e w' => e = .returned (.bool (q x)) ∧ Below W.heap.size W w') :
 Calls Tryz.prog 56 #[.slice A n c, .func (.func f) #[] cap] w fun e w' => e = .returned (.bool (L.any q)) ∧ Below w.heap.size w w' := by
 have HC := Lib.hid (indexSF_any A n c L q f cap w h hn hl eg hp)
 clear h hp
 generalize L.any q = r at *
 go_enter Tryz.func56, Tryz.ntmps56
 go_wp2_with (go_at_call 65; (with_reducible refine HC.out.mono ?_); rintro e w2 ⟨i, rfl, hi, hb2⟩)
 go_ret
 first | exact ⟨rfl, hb2⟩ | exact ⟨ret_bool hi, hb2⟩
set_option maxHeartbeats 1600000 in
set_option maxRecDepth 100000 in
theorem indexEF_any (A : Option Addr) (n c : Nat) (L : List ExtS) (q : ExtS → Bool) (f : Nat) (cap : Array Value) (w : World) (h : ExtsV w w.heap.size (.slice A n c) L) (hn : L.length = n) (hl : n ≤ 4611686018427387904)
 (eg : ∀ args w, (callFunc f args).run Tryz.prog w = .ok (.enter f args) w) (hp : ∀ (W : World) (x : ExtS), Below w.heap.size w W → x ∈ L → Calls Tryz.prog f (#[.agg #[.int .i64 x.id, .string x.uri]] ++ cap) W fun e w' => e = .returned (.bool (q x)) ∧ Below W.heap.size W w') :
 Calls Tryz.prog 67 #[.slice A n c, .func (.func f) #[] cap] w fun e w' => ∃ r : Int, e = .returned (.int .i64 r) ∧ decide (0 ≤ r) = L.any q ∧ Below w.heap.size w w' := by
 have HA := Lib.hid h
 have HP := Lib.hid hp
 have HEG := Lib.hid eg
 have HE := Lib.hid hn
 clear h hn hp eg
 go_enter Tryz.func67, Tryz.ntmps67
 go_wp2
 go_loopw [8] (fun s8 wr => ∃ k : Nat, k ≤ n ∧ s8 = .int .i64 k ∧ (∀ j, j < k → q (L.getD j default) = false) ∧ Below w.heap.size w wr) (fun s8 _ => n - (intOf s8).toNat)
 case atStart => exact ⟨0, by omega, rfl, (fun j hj => by omega), Below.refl _ w⟩
 case round =>
  obtain ⟨k, hk, rfl, hno, hb⟩ := hrel
  have HNO := Lib.hid hno
  clear hno
  by_cases hlt : k < n
  · have hlt' : k < L.length := by rw [HE.out]; exact hlt
    obtain ⟨ad, c', e1, had, c0, c1⟩ := (HA.out.below hb).at_ hlt'
    injection e1 with e1 e1n e1c
    clear e1n e1c
    subst e1
    obtain ⟨x, hx⟩ : ∃ x, L.getD k default = x := ⟨_, rfl⟩
    have HM : Hid (x ∈ L) := Lib.hid (by rw [← hx]; exact getD_mem hlt')
    rw [hx] at c0 c1
    have HX := Lib.hid hx
    have HB := Lib.hid (And.intro hb hlt')
    obtain ⟨b, hbb⟩ : ∃ b, q x = b := ⟨_, rfl⟩
    have HS := Lib.hid (HP.out wr x hb HM.out)
    rw [hbb] at HS
    have HBT := Lib.hid hbb
    clear hbb hx hb hlt' had
    have hk0 : (0 : Int) ≤ (k : Int) := by omega
    have hk1 : (k : Int) < (n : Int) := by omega
    cases b with
    | true =>
      go_wp2_with ((with_reducible refine wpList_callV1 ?_ (.tmp 11) (.tmp 15) ?_ ?_ ?_ HEG.out HS.out ?_); (with_reducible rfl); (exact ⟨_, rfl⟩); rfl; rfl; rintro e w2 ⟨rfl, hb2⟩; refine ⟨_, rfl, ?_⟩)
      go_ret
      exact ⟨_, rfl, by rw [any_yes HB.out.2 (by rw [HX.out]; exact HBT.out)]; exact decide_eq_true hk0, HB.out.1.trans (hb2.mono HB.out.1.size)⟩
    | false =>
      go_wp2_with ((with_reducible refine wpList_callV1 ?_ (.tmp 11) (.tmp 15) ?_ ?_ ?_ HEG.out HS.out ?_); (with_reducible rfl); (exact ⟨_, rfl⟩); rfl; rfl; rintro e w2 ⟨rfl, hb2⟩; refine ⟨_, rfl, ?_⟩)
      go_roundw
      case rel =>
       refine ⟨k + 1, by omega, by go_num, fun j hj => ?_, HB.out.1.trans (hb2.mono HB.out.1.size)⟩
       by_cases e : j = k
       · subst e
         rw [HX.out]
         exact HBT.out
       · exact HNO.out j (by omega)
      case measure => simp [intOf]; omega
  · have e : k = n := by omega
    subst e
    have HN : Hid (L.any q = false) := Lib.hid (any_no HE.out HNO.out)
    have HB := Lib.hid hb
    clear hb
    go_wp2
    go_ret
    exact ⟨_, rfl, by rw [HN.out]; rfl, HB.out⟩
set_option maxHeartbeats 800000 in
theorem containsEF_any (A : Option Addr) (n c : Nat) (L : List ExtS) (q : ExtS → Bool) (f : Nat) (cap : Array Value) (w : World) (h : ExtsV w w.heap.size (.slice A n c) L) (hn : L.length = n) (hl : n ≤ 4611686018427387904)
 (eg : ∀ args w, (callFunc f args).run Tryz.prog w = .ok (.enter f args) w) (hp : ∀ (W : World) (x : ExtS), Below w.heap.size w W → x ∈ L → Calls Tryz.prog f (#[.agg #[.int .i64 x.id, .string x.uri]] ++ cap) W fun e w' => e = .returned (.bool (q x)) ∧ Below W.heap.size W w') :
 Calls Tryz.prog 59 #[.slice A n c, .func (.func f) #[] cap] w fun e w' => e = .returned (.bool (L.any q)) ∧ Below w.heap.size w w' := by
 have HC := Lib.hid (indexEF_any A n c L q f cap w h hn hl eg hp)
 clear h hp
 generalize L.any q = r at *
 go_enter Tryz.func59, Tryz.ntmps59
 go_wp2_with (go_at_call 67; (with_reducible refine HC.out.mono ?_); rintro e w2 ⟨i, rfl, hi, hb2⟩)
 go_ret
 first | exact ⟨rfl, hb2⟩ | exact ⟨ret_bool hi, hb2⟩
set_option maxHeartbeats 3200000 in
set_option maxRecDepth 100000 in
theorem eqFMF_any (v1 v2 : Value) (L M : List MediaS) (f : Nat) (cap : Array Value) (q : MediaS → MediaS → Bool) (w : World) (h1 : MediasV w w.heap.size v1 L) (h2 : MediasV w w.heap.size v2 M) (eg : ∀ args w, (callFunc f args).run Tryz.prog w = .ok (.enter f args) w)
 (hp : ∀ (W : World) (X Y : Array Value) (x y : MediaS) (vC vE vR vS vY uC uE uR uS uY : Value), Below w.heap.size w W → x ∈ L → y ∈ M → MediaV W W.heap.size X x vC vE vR vS vY → MediaV W W.heap.size Y y uC uE uR uS uY → Calls Tryz.prog f (#[.agg X, .agg Y] ++ cap) W fun e w' => e = .returned (.bool (q x y)) ∧ Below W.heap.size W w') : Calls Tryz.prog 37 #[v1, v2, .func (.func f) #[] cap] w fun e w' => e = .returned (.bool (pairsA q L M)) ∧ Below w.heap.size w w' := by
 obtain ⟨A1, c1, rfl, hc1, hm1, _⟩ := Rows.form h1
 obtain ⟨A2, c2, rfl, hc2, hm2, _⟩ := Rows.form h2
 have HEG := Lib.hid eg
 have HP := Lib.hid hp
 have H1 := Lib.hid h1
 have H2 := Lib.hid h2
 clear h1 h2 eg hp
 obtain ⟨n, hn⟩ : ∃ n, L.length = n := ⟨_, rfl⟩
 obtain ⟨m, hm⟩ : ∃ m, M.length = m := ⟨_, rfl⟩
 have HN := Lib.hid hn
 have HM := Lib.hid hm
 rw [hn] at hc1
 rw [hm] at hc2
 rw [hn, hm]
 unfold maxLen at hm1 hm2
 clear hn hm
 by_cases hnm : n = m
 · subst hnm
   have hz : ((n : Int) == (n : Int)) = true := by simp
   go_enter Tryz.func37, Tryz.ntmps37
   go_wp2
   go_loopw [17] (fun s17 wr => ∃ k : Nat, k ≤ n ∧ s17 = .int .i64 k ∧ (∀ j, j < k → q (L.getD j default) (M.getD j default) = true) ∧ Below w.heap.size w wr) (fun s17 _ => n - (intOf s17).toNat)
   case atStart => exact ⟨0, Nat.zero_le _, rfl, (fun j hj => by omega), Below.refl _ w⟩
   case round =>
    obtain ⟨k, hk, rfl, hsame, hb⟩ := hrel
    have HS := Lib.hid (And.intro hsame hb)
    clear hsame
    by_cases hlt : k < n
    · obtain ⟨ad1, c1', X, vC, vE, vR, vS, vY, e1, b1, hx, xs⟩ := MediasV.at_ (H1.out.below hb) (i := k) (by rw [HN.out]; exact hlt)
      obtain ⟨ad2, c2', Y, uC, uE, uR, uS, uY, e2, b2, hy, ys⟩ := MediasV.at_ (H2.out.below hb) (i := k) (by rw [HM.out]; exact hlt)
      injection e1 with e1 e1n e1c; clear e1n e1c
      injection e2 with e2 e2n e2c; clear e2n e2c
      subst e1 e2
      have gL := getD_mem (L := L) (i := k) (by rw [HN.out]; exact hlt)
      have gM := getD_mem (L := M) (i := k) (by rw [HM.out]; exact hlt)
      obtain ⟨a, ha⟩ : ∃ a, L.getD k default = a := ⟨_, rfl⟩
      obtain ⟨b, hbb⟩ : ∃ b, M.getD k default = b := ⟨_, rfl⟩
      rw [ha] at hx gL
      rw [hbb] at hy gM
      have HG := Lib.hid (And.intro gL gM)
      have HAB := Lib.hid (And.intro ha hbb)
      have hk0 : (0 : Int) ≤ (k : Int) := by omega
      have hk1 : (k : Int) < (n : Int) := by omega
      have hwr := hb.size
      have HLD1 : Hid (∀ (ops : Array Oper) (rest : List Oper) (op : Oper) (act : Act) (Q : Exit → Act → World → Prop), op.guard = none → op.op = .load 44 (.tmp 20) → act.eval (.tmp 20) = .pointer (some (ad1.add (k * 11))) → wpList Tryz.prog ops Q rest (act.put op.dst (.agg X)) wr → wpList Tryz.prog ops Q (op :: rest) act wr) :=
       Lib.hid fun ops rest op act Q h1 h2 h3 h4 => wpList_load_at h1 44 (.tmp 20) h2 _ h3 X.toList _ xs Tryz.underlying44 rfl (by rw [Array.length_toList, hx.size]; exact Tryz.sizeMedia) (by rw [Array.toArray_toList]; exact h4)
      have HLD2 : Hid (∀ (W : World) (ops : Array Oper) (rest : List Oper) (op : Oper) (act : Act) (Q : Exit → Act → World → Prop), Below w.heap.size wr W → op.guard = none → op.op = .load 44 (.tmp 24) → act.eval (.tmp 24) = .pointer (some (ad2.add (k * 11))) → wpList Tryz.prog ops Q rest (act.put op.dst (.agg Y)) W → wpList Tryz.prog ops Q (op :: rest) act W) :=
       Lib.hid fun W ops rest op act Q hW h1 h2 h3 h4 => wpList_load_at h1 44 (.tmp 24) h2 _ h3 Y.toList _ (fun j u hu => (hW.cell (p := (ad2.add (k * 11)).add j) (by rw [add_block, add_block]; exact b2)).trans (ys j u hu)) Tryz.underlying44 rfl (by rw [Array.length_toList, hy.size]; exact Tryz.sizeMedia) (by rw [Array.toArray_toList]; exact h4)
      have HNEW : Hid (∀ W : World, Whole (W.alloc (.cells #[.int .i64 0, .int .i64 0, .string ⟨#[]⟩, .int .i64 0, .slice none 0 0, .slice none 0 0, .slice none 0 0, .bool false, .slice none 0 0, .slice none 0 0, .int .i64 0] 44)) W.heap.size 44 #[.int .i64 0, .int .i64 0, .string ⟨#[]⟩, .int .i64 0, .slice none 0 0, .slice none 0 0, .slice none 0 0, .bool false, .slice none 0 0, .slice none 0 0, .int .i64 0]) := Lib.hid fun W => Whole.new _ _ _
      have HXS : Hid ((X.size = 11 ∧ X.toList.all (·.oneCell') = true) ∧ Y.size = 11 ∧ Y.toList.all (·.oneCell') = true) := Lib.hid ⟨⟨hx.size, hx.one⟩, hy.size, hy.one⟩
      have HW1 : Hid (Below w.heap.size wr ((wr.alloc (.cells #[.int .i64 0, .int .i64 0, .string ⟨#[]⟩, .int .i64 0, .slice none 0 0, .slice none 0 0, .slice none 0 0, .bool false, .slice none 0 0, .slice none 0 0, .int .i64 0] 44)).setRow wr.heap.size X) ∧ Whole ((wr.alloc (.cells #[.int .i64 0, .int .i64 0, .string ⟨#[]⟩, .int .i64 0, .slice none 0 0, .slice none 0 0, .slice none 0 0, .bool false, .slice none 0 0, .slice none 0 0, .int .i64 0] 44)).setRow wr.heap.size X) wr.heap.size 44 X) := Lib.hid ⟨below_row ((Below.refl _ wr).alloc hwr _) hwr _, (HNEW.out wr).row _⟩
      have HXY := Lib.hid (And.intro hx hy)
      clear gL gM ha hbb xs ys hx hy b1 b2 hb
      go_upto_region 6 with (first | ((with_reducible refine HLD1.out _ _ _ _ _ ?_ ?_ ?_ ?_); (with_reducible rfl); (with_reducible rfl); rfl) | ((with_reducible refine wpList_storeS X ?_ 44 (.tmp 8) (.tmp 21) ?_ ?_ ?_ (HNEW.out _) Tryz.sizeMedia HXS.out.1.1 ?_ HXS.out.1.2 ?_); (with_reducible rfl); (with_reducible rfl); rfl; rfl; rfl))
      clear HLD1
      generalize ((wr.alloc (.cells #[.int .i64 0, .int .i64 0, .string ⟨#[]⟩, .int .i64 0, .slice none 0 0, .slice none 0 0, .slice none 0 0, .bool false, .slice none 0 0, .slice none 0 0, .int .i64 0] 44)).setRow wr.heap.size X) = W1 at *
      have HG1 : Hid (w.heap.size ≤ wr.heap.size) := Lib.hid hwr
      clear hwr
      generalize wr.heap.size = g1 at *
      have hW1 : w.heap.size ≤ W1.heap.size := Nat.le_trans HS.out.2.size HW1.out.1.size
      have HW2 : Hid (Below w.heap.size wr ((W1.alloc (.cells #[.int .i64 0, .int .i64 0, .string ⟨#[]⟩, .int .i64 0, .slice none 0 0, .slice none 0 0, .slice none 0 0, .bool false, .slice none 0 0, .slice none 0 0, .int .i64 0] 44)).setRow W1.heap.size Y) ∧ Whole ((W1.alloc (.cells #[.int .i64 0, .int .i64 0, .string ⟨#[]⟩, .int .i64 0, .slice none 0 0, .slice none 0 0, .slice none 0 0, .bool false, .slice none 0 0, .slice none 0 0, .int .i64 0] 44)).setRow W1.heap.size Y) W1.heap.size 44 Y ∧ Whole ((W1.alloc (.cells #[.int .i64 0, .int .i64 0, .string ⟨#[]⟩, .int .i64 0, .slice none 0 0, .slice none 0 0, .slice none 0 0, .bool false, .slice none 0 0, .slice none 0 0, .int .i64 0] 44)).setRow W1.heap.size Y) g1 44 X) := Lib.hid ⟨below_row (HW1.out.1.alloc hW1 _) hW1 _, (HNEW.out W1).row _, (HW1.out.2.alloc _).farRow (Nat.ne_of_lt HW1.out.2.lt) _⟩
      go_upto_region 7 with (first | ((with_reducible refine HLD2.out _ _ _ _ _ _ HW1.out.1 ?_ ?_ ?_ ?_); (with_reducible rfl); (with_reducible rfl); rfl) | ((with_reducible refine wpList_storeS Y ?_ 44 (.tmp 9) (.tmp 25) ?_ ?_ ?_ (HNEW.out _) Tryz.sizeMedia HXS.out.2.1 ?_ HXS.out.2.2 ?_); (with_reducible rfl); (with_reducible rfl); rfl; rfl; rfl))
      clear HLD2 HNEW
      generalize ((W1.alloc (.cells #[.int .i64 0, .int .i64 0, .string ⟨#[]⟩, .int .i64 0, .slice none 0 0, .slice none 0 0, .slice none 0 0, .bool false, .slice none 0 0, .slice none 0 0, .int .i64 0] 44)).setRow W1.heap.size Y) = W2 at *
      generalize W1.heap.size = g2 at *
      have hW2 : w.heap.size ≤ W2.heap.size := Nat.le_trans HS.out.2.size HW2.out.1.size
      obtain ⟨qb, hq⟩ : ∃ r, q a b = r := ⟨_, rfl⟩
      have HCL : Hid (Calls Tryz.prog f (#[.agg X, .agg Y] ++ cap) W2 fun e w' => e = .returned (.bool qb) ∧ Below W2.heap.size W2 w') := Lib.hid (by
       have := HP.out W2 X Y a b vC vE vR vS vY uC uE uR uS uY (HS.out.2.trans HW2.out.1) HG.out.1 HG.out.2 ((HXY.out.1.below HW2.out.1).more hW2) ((HXY.out.2.below HW2.out.1).more hW2)
       rw [hq] at this
       exact this)
      have HQ : Hid (q (L.getD k default) (M.getD k default) = qb) := Lib.hid (by rw [HAB.out.1, HAB.out.2]; exact hq)
      have HFIN : Hid (∀ W, Below W2.heap.size W2 W → Below w.heap.size w W) := Lib.hid fun W hW => (HS.out.2.trans HW2.out.1).trans (hW.mono hW2)
      clear hq hW1 hW2
      cases qb with
      | true =>
        go_wp2_with (first | ((with_reducible refine wpList_load_all ?_ 44 (.tmp 8) ?_ HW2.out.2.2 ?_ Tryz.sizeMedia HXS.out.1.1 Tryz.underlying44 rfl ?_); (with_reducible rfl); (with_reducible rfl); rfl) | ((with_reducible refine wpList_load_all ?_ 44 (.tmp 9) ?_ HW2.out.2.1 ?_ Tryz.sizeMedia HXS.out.2.1 Tryz.underlying44 rfl ?_); (with_reducible rfl); (with_reducible rfl); rfl) | ((with_reducible refine wpList_callV2 ?_ (.tmp 26) (.tmp 27) (.tmp 28) ?_ ?_ ?_ ?_ HEG.out HCL.out ?_); (with_reducible rfl); (exact ⟨_, rfl⟩); rfl; rfl; rfl; rintro e w5 ⟨rfl, hb5⟩; refine ⟨_, rfl, ?_⟩))
        go_roundw
        case rel =>
         refine ⟨k + 1, by omega, by go_num, fun j hj => ?_, HFIN.out _ hb5⟩
         by_cases e : j = k
         · subst e
           exact HQ.out
         · exact HS.out.1 j (by omega)
        case measure => simp [intOf]; omega
      | false =>
        have HNO : Hid (pairsA q L M = false) := Lib.hid (pairs_no HN.out HM.out hlt HQ.out)
        go_wp2_with (first | ((with_reducible refine wpList_load_all ?_ 44 (.tmp 8) ?_ HW2.out.2.2 ?_ Tryz.sizeMedia HXS.out.1.1 Tryz.underlying44 rfl ?_); (with_reducible rfl); (with_reducible rfl); rfl) | ((with_reducible refine wpList_load_all ?_ 44 (.tmp 9) ?_ HW2.out.2.1 ?_ Tryz.sizeMedia HXS.out.2.1 Tryz.underlying44 rfl ?_); (with_reducible rfl); (with_reducible rfl); rfl) | ((with_reducible refine wpList_callV2 ?_ (.tmp 26) (.tmp 27) (.tmp 28) ?_ ?_ ?_ ?_ HEG.out HCL.out ?_); (with_reducible rfl); (exact ⟨_, rfl⟩); rfl; rfl; rfl; rintro e w5 ⟨rfl, hb5⟩; refine ⟨_, rfl, ?_⟩))
        go_ret
        exact ⟨ret_bool HNO.out.symm, HFIN.out _ hb5⟩
    · obtain rfl : k = n := by omega
      have HEQ : Hid (pairsA q L M = true) := Lib.hid (pairs_yes HN.out HM.out HS.out.1)
      clear hb
      go_wp2
      go_ret
      exact ⟨ret_bool HEQ.out.symm, HS.out.2⟩
 · have hz : ((n : Int) == (m : Int)) = false := by rw [beq_eq_false_iff_ne]; omega
   have HNE : Hid (pairsA q L M = false) := Lib.hid (pairs_len (by rw [HN.out, HM.out]; exact hnm))
   clear hnm
   go_enter Tryz.func37, Tryz.ntmps37
   go_wp2
   go_ret
   exact ⟨ret_bool HNE.out.symm, Below.refl _ w⟩
set_option maxHeartbeats 1600000 in
set_option maxRecDepth 100000 in
theorem juOpen_any (X Y : Array Value) (x y : MediaS) (vC vE vR vS vY uC uE uR uS uY : Value) (w : World) (h1 : MediaV w w.heap.size X x vC vE vR vS vY) (h2 : MediaV w w.heap.size Y y uC uE uR uS uY) :
 Calls Tryz.prog 22 #[.agg X, .agg Y] w fun e w' => e = .returned (.bool (openQ x y)) ∧ Below w.heap.size w w' := by
 obtain ⟨hb0, hbx, hby⟩ := two_boxes w 44 X Y
 have hx1 : X[1]? = some (.int .i64 x.port) := by rw [h1.form]; rfl
 have HX1 := Lib.hid hx1
 obtain ⟨N, hN⟩ : ∃ N, w.heap.size = N := ⟨_, rfl⟩
 have H0 := Lib.hid (And.intro hb0 (And.intro hbx hby))
 have HV := Lib.hid (And.intro h1 h2)
 have HSZ : Hid ((X.size = 11 ∧ X.toList.all (·.oneCell') = true) ∧ Y.size = 11 ∧ Y.toList.all (·.oneCell') = true) := Lib.hid ⟨⟨h1.size, h1.one⟩, h2.size, h2.one⟩
 rw [hN] at H0 HV
 have HN := Lib.hid hN
 clear h1 h2 hb0 hbx hby hN hx1
 have HQ : Hid (openQ x y = !(x.port == 0)) := Lib.hid (by unfold openQ; rw [Bool.eq_iff_iff]; simp)
 generalize openQ x y = r at *
 go_enter Tryz.func22, Tryz.ntmps22
 go_upto_region 1 with fail
 simp only [HN.out, Nat.add_assoc, Nat.reduceAdd]
 generalize ((w.alloc (.cells X 44)).alloc (.cells Y 44)) = W0 at *
 have cx1 : W0.cell? ⟨N, 1, none⟩ = some (.int .i64 x.port) := (H0.out.2.1.cell 1).trans HX1.out
 obtain ⟨b, hb⟩ : ∃ b, (x.port == 0) = b := ⟨_, rfl⟩
 have hb' : (x.port != 0) = !b := by rw [← hb]; rfl
 have HQ2 : Hid (r = !b) := Lib.hid (by rw [HQ.out, hb])
 clear HQ
 go_wp2
 go_ret
 exact ⟨ret_bool HQ2.out.symm, by rw [HN.out]; exact H0.out.1⟩
set_option maxHeartbeats 800000 in
theorem juTaken_any (X : Array Value) (p : Int) (w : World) (hx : X[1]? = some (.int .i64 p)) : Calls Tryz.prog 41 #[.agg X] w fun e w' => e = .returned (.bool (!(p == 0))) ∧ Below w.heap.size w w' := by
 have hb := (Below.refl w.heap.size w).alloc (Nat.le_refl _) (.cells X 44)
 have hc : (w.alloc (.cells X 44)).cell? ⟨w.heap.size, 1, none⟩ = some (.int .i64 p) := ((Whole.new w 44 X).cell 1).trans hx
 have HB := Lib.hid hb
 clear hb hx
 obtain ⟨b, hq⟩ : ∃ b, (p == 0) = b := ⟨_, rfl⟩
 have hq' : (p != 0) = !b := by rw [← hq]; rfl
 rw [hq]
 go_enter Tryz.func41, Tryz.ntmps41
 go_upto_region 1 with fail
 generalize (w.alloc (.cells X 44)) = W at *
 go_wp2
 go_ret
 exact ⟨rfl, HB.out⟩
set_option maxHeartbeats 800000 in
theorem juHas_any (X : Array Value) (d k : Int) (w : World) (hx : X[3]? = some (.int .i64 d)) (h0 : 0 ≤ d) (h3 : d ≤ 3) (hk : k = 1 ∨ k = 2) : Calls Tryz.prog 47 #[.agg X, .int .i64 k] w fun e w' => e = .returned (.bool (hasW d k)) ∧ Below w.heap.size w w' := by
 have hb := (Below.refl w.heap.size w).alloc (Nat.le_refl _) (.cells X 44)
 have hc : (w.alloc (.cells X 44)).cell? ⟨w.heap.size, 3, none⟩ = some (.int .i64 d) := ((Whole.new w 44 X).cell 3).trans hx
 have HB := Lib.hid hb
 clear hb hx
 have hd : d = 0 ∨ d = 1 ∨ d = 2 ∨ d = 3 := by omega
 clear h0 h3
 go_enter Tryz.func47, Tryz.ntmps47
 go_upto_region 1 with fail
 generalize (w.alloc (.cells X 44)) = W at *
 rcases hk with rfl | rfl <;> rcases hd with rfl | rfl | rfl | rfl
 all_goals
  go_wp2
  go_ret
  exact ⟨rfl, HB.out⟩
set_option maxHeartbeats 1600000 in
set_option maxRecDepth 100000 in
theorem juPlace_any (X Y : Array Value) (x y : MediaS) (vC vE vR vS vY uC uE uR uS uY : Value) (w : World) (h1 : MediaV w w.heap.size X x vC vE vR vS vY) (h2 : MediaV w w.heap.size Y y uC uE uR uS uY) :
 Calls Tryz.prog 38 #[.agg X, .agg Y] w fun e w' => e = .returned (.bool (placeQ x y)) ∧ Below w.heap.size w w' := by
 obtain ⟨hb0, hbx, hby⟩ := two_boxes w 44 X Y
 have hx0 : X[0]? = some (.int .i64 x.kind) := by rw [h1.form]; rfl
 have hx2 : X[2]? = some (.string x.mid) := by rw [h1.form]; rfl
 have hy0 : Y[0]? = some (.int .i64 y.kind) := by rw [h2.form]; rfl
 have hy2 : Y[2]? = some (.string y.mid) := by rw [h2.form]; rfl
 have HX0 := Lib.hid hx0
 have HX2 := Lib.hid hx2
 have HY0 := Lib.hid hy0
 have HY2 := Lib.hid hy2
 obtain ⟨N, hN⟩ : ∃ N, w.heap.size = N := ⟨_, rfl⟩
 have H0 := Lib.hid (And.intro hb0 (And.intro hbx hby))
 have HV := Lib.hid (And.intro h1 h2)
 have HSZ : Hid ((X.size = 11 ∧ X.toList.all (·.oneCell') = true) ∧ Y.size = 11 ∧ Y.toList.all (·.oneCell') = true) := Lib.hid ⟨⟨h1.size, h1.one⟩, h2.size, h2.one⟩
 rw [hN] at H0 HV
 have HN := Lib.hid hN
 clear h1 h2 hb0 hbx hby hN hx0 hx2 hy0 hy2
 have HQ : Hid (placeQ x y = ((x.kind == y.kind) && (x.mid.toList == y.mid.toList))) := Lib.hid (by unfold placeQ; rw [toList_tx, toList_tx, Bool.eq_iff_iff]; simp)
 generalize placeQ x y = r at *
 go_enter Tryz.func38, Tryz.ntmps38
 go_upto_region 1 with fail
 simp only [HN.out, Nat.add_assoc, Nat.reduceAdd]
 generalize ((w.alloc (.cells X 44)).alloc (.cells Y 44)) = W0 at *
 have cx0 : W0.cell? ⟨N, 0, none⟩ = some (.int .i64 x.kind) := (H0.out.2.1.cell 0).trans HX0.out
 have cx2 : W0.cell? ⟨N, 2, none⟩ = some (.string x.mid) := (H0.out.2.1.cell 2).trans HX2.out
 have cy0 : W0.cell? ⟨N + 1, 0, none⟩ = some (.int .i64 y.kind) := (H0.out.2.2.cell 0).trans HY0.out
 have cy2 : W0.cell? ⟨N + 1, 2, none⟩ = some (.string y.mid) := (H0.out.2.2.cell 2).trans HY2.out
 obtain ⟨b, hb⟩ : ∃ b, (x.kind == y.kind) = b := ⟨_, rfl⟩
 obtain ⟨b2, hb2⟩ : ∃ b, (x.mid.toList == y.mid.toList) = b := ⟨_, rfl⟩
 have HQ2 : Hid (r = (b && b2)) := Lib.hid (by rw [HQ.out, hb, hb2])
 clear HQ
 cases b with
 | false =>
   go_wp2
   go_ret
   exact ⟨ret_bool (by rw [HQ2.out]; rfl), by rw [HN.out]; exact H0.out.1⟩
 | true =>
   go_wp2
   go_ret
   exact ⟨ret_bool (by rw [HQ2.out]; rfl), by rw [HN.out]; exact H0.out.1⟩
theorem enters_to {f : Nat} {fn : Func} {c : Code} (hf : Tryz.prog.funcs[f]? = some fn) (hn : (fn.name == "runtime.NumGoroutine") = false) (hb : fn.body = some c) : ∀ args w, (callFunc f args).run Tryz.prog w = .ok (.enter f args) w := enters_of hf hn hb
set_option maxHeartbeats 800000 in
theorem juWithinT1_any (gb : Nat) (A : Option Addr) (n c : Nat) (s : ByteArray) (L : List ByteArray) (w : World) (h : TextsV w w.heap.size (.slice A n c) L) (hn : L.length = n) (hl : n ≤ 4611686018427387904) (hc : w.cell? ⟨gb, 0, none⟩ = some (.slice A n c)) :
 Calls Tryz.prog 57 #[.string s, .pointer (some ⟨gb, 0, none⟩)] w fun e w' => e = .returned (.bool (!inT L s)) ∧ Below w.heap.size w w' := by
 have HC := Lib.hid (hasT_any A n c s L w h hn hl)
 rw [inT_any] at HC
 have HB : Hid (Below w.heap.size w w) := Lib.hid (Below.refl _ _)
 clear h
 generalize inT L s = r at *
 go_enter Tryz.func57, Tryz.ntmps57
 go_wp2_with (go_at_call 58; (with_reducible refine HC.out.mono ?_); rintro e w2 ⟨rfl, rfl⟩)
 go_ret
 exact ⟨rfl, HB.out⟩
theorem all_not_any {α : Type} (q : α → Bool) : ∀ L : List α, (!L.any fun x => !q x) = L.all q
 | [] => rfl
 | a :: L => by rw [List.any_cons, List.all_cons, ← all_not_any q L]; cases q a <;> simp
set_option maxHeartbeats 1600000 in
theorem juWithinT_any (A : Option Addr) (n c : Nat) (B : Option Addr) (m k : Nat) (L M : List ByteArray) (w : World) (h : TextsV w w.heap.size (.slice A n c) L) (hn : L.length = n) (hl : n ≤ 4611686018427387904) (h2 : TextsV w w.heap.size (.slice B m k) M) (hm : M.length = m) (hl2 : m ≤ 4611686018427387904) :
 Calls Tryz.prog 45 #[.slice A n c, .slice B m k] w fun e w' => e = .returned (.bool (L.all (inT M))) ∧ Below w.heap.size w w' := by
 have hb0 : Below w.heap.size w (w.alloc (.cells #[.slice B m k] 23)) := (Below.refl _ w).alloc (Nat.le_refl _) _
 have hw := Whole.new w 23 #[.slice B m k]
 have HC := Lib.hid (containsSF_any A n c L (fun s => !inT M s) 57 #[.pointer (some ⟨w.heap.size, 0, none⟩)] (w.alloc (.cells #[.slice B m k] 23)) ((h.below hb0).more hb0.size) hn hl (enters_to Tryz.func57 (by kernel_rfl) rfl) (fun W x hW _ => by
  have hb := hb0.trans (hW.mono hb0.size)
  exact juWithinT1_any w.heap.size B m k x M W ((h2.below hb).more hb.size) hm hl2 ((hw.under hW).cell 0)))
 have HB := Lib.hid hb0
 have HR : Hid ((!L.any fun s => !inT M s) = L.all (inT M)) := Lib.hid (all_not_any _ _)
 clear h h2 hb0 hw
 generalize (L.any fun s => !inT M s) = r at *
 generalize L.all (inT M) = r2 at *
 go_enter Tryz.func45, Tryz.ntmps45
 go_upto_region 1 with fail
 generalize (w.alloc (.cells #[.slice B m k] 23)) = W at *
 go_wp2_with (go_at_call 56; (with_reducible refine HC.out.mono ?_); rintro e w2 ⟨rfl, hb2⟩)
 go_ret
 exact ⟨ret_bool HR.out, HB.out.trans (hb2.mono HB.out.size)⟩
set_option maxHeartbeats 1600000 in
set_option maxRecDepth 100000 in
theorem atE_any (A : Option Addr) (n c : Nat) (s : ExtS) (L : List ExtS) (w : World) (h : ExtsV w w.heap.size (.slice A n c) L) (hn : L.length = n) (hl : n ≤ 4611686018427387904) :
 Calls Tryz.prog 68 #[.slice A n c, .agg #[.int .i64 s.id, .string s.uri]] w fun e w' => ∃ r : Int, e = .returned (.int .i64 r) ∧ decide (0 ≤ r) = extIn L s ∧ Below w.heap.size w w' := by
 have hb0 : Below w.heap.size w (w.alloc (.cells #[.int .i64 s.id, .string s.uri] 49)) := (Below.refl _ w).alloc (Nat.le_refl _) _
 have hw := Whole.new w 49 #[.int .i64 s.id, .string s.uri]
 have HE := Lib.hid hn
 obtain ⟨q, hq⟩ : ∃ q : ExtS → Bool, (fun z : ExtS => s.id == z.id && s.uri.toList == z.uri.toList) = q := ⟨_, rfl⟩
 have HR : Hid (extIn L s = L.any q) := Lib.hid (by
  unfold extIn
  rw [← hq]
  congr 1
  funext z
  rw [Bool.beq_comm (a := z.id), Bool.beq_comm (a := z.uri.toList)])
 have HEQ : Hid (∀ (u : ExtS) W, (Op.equalIn 10000 49 (.agg #[.int .i64 s.id, .string s.uri]) (.agg #[.int .i64 u.id, .string u.uri])).run Tryz.prog W = .ok (q u) W) := Lib.hid fun u W => by rw [ext_eq, ← hq]
 rw [HR.out]
 have hgd := ext_guard
 have HA : Hid (∀ W, Below w.heap.size w W → ExtsV W w.heap.size (.slice A n c) L) := Lib.hid fun W hW => h.below hW
 have H0 := Lib.hid (And.intro hb0 hw)
 obtain ⟨N, hN⟩ : ∃ N, w.heap.size = N := ⟨_, rfl⟩
 rw [hN] at H0 HA
 have HN := Lib.hid hN
 clear h hn hq hb0 hw hN HR
 go_enter Tryz.func68, Tryz.ntmps68
 go_upto_region 1 with fail
 simp only [HN.out]
 generalize (w.alloc (.cells #[.int .i64 s.id, .string s.uri] 49)) = W0 at *
 go_wp2
 go_loopw [8] (fun s8 wr => ∃ k : Nat, k ≤ n ∧ s8 = .int .i64 k ∧ (∀ j, j < k → q (L.getD j default) = false) ∧ Below W0.heap.size W0 wr) (fun s8 _ => n - (intOf s8).toNat)
 case atStart => exact ⟨0, by omega, rfl, (fun j hj => by omega), Below.refl _ _⟩
 case round =>
  obtain ⟨k, hk, rfl, hno, hb⟩ := hrel
  have HNO := Lib.hid (And.intro hno hb)
  have HBN : Hid (Below N w wr) := Lib.hid (H0.out.1.trans (hb.mono (Nat.le_of_lt H0.out.2.lt)))
  have b0 : wr.cell? ⟨N, 0, none⟩ = some (.int .i64 s.id) := (H0.out.2.under hb).cell 0
  have b1 : wr.cell? ⟨N, 1, none⟩ = some (.string s.uri) := (H0.out.2.under hb).cell 1
  clear hno hb
  by_cases hlt : k < n
  · have hlt' : k < L.length := by rw [HE.out]; exact hlt
    obtain ⟨ad, c', e1, had, c0, c1⟩ := (HA.out wr HBN.out).at_ hlt'
    injection e1 with e1 e1n e1c
    clear e1n e1c
    subst e1
    obtain ⟨x, hx⟩ : ∃ x, L.getD k default = x := ⟨_, rfl⟩
    rw [hx] at c0 c1
    have HX := Lib.hid (And.intro hx hlt')
    have hq := HEQ.out x
    obtain ⟨b, hbb⟩ : ∃ b, q x = b := ⟨_, rfl⟩
    rw [hbb] at hq
    have HBT := Lib.hid hbb
    clear hx hlt' had hbb
    have hk0 : (0 : Int) ≤ (k : Int) := by omega
    have hk1 : (k : Int) < (n : Int) := by omega
    cases b with
    | true =>
      go_upto_region 4 with fail
      go_quiet (fail)
      go_wp2
      go_ret
      exact ⟨_, rfl, by rw [any_yes HX.out.2 (by rw [HX.out.1]; exact HBT.out)]; exact decide_eq_true hk0, by rw [HN.out]; exact below_drewN' HBN.out _⟩
    | false =>
      go_upto_region 4 with fail
      go_quiet (fail)
      go_wp2
      go_roundw
      case rel =>
       refine ⟨k + 1, by omega, by go_num, fun j hj => ?_, below_drewN' HNO.out.2 _⟩
       by_cases e : j = k
       · subst e
         rw [HX.out.1]
         exact HBT.out
       · exact HNO.out.1 j (by omega)
      case measure => simp [intOf]; omega
  · have e : k = n := by omega
    subst e
    have HN2 : Hid (L.any q = false) := Lib.hid (any_no HE.out HNO.out.1)
    go_wp2
    go_ret
    exact ⟨_, rfl, by rw [HN2.out]; rfl, by rw [HN.out]; exact HBN.out⟩
set_option maxHeartbeats 800000 in
theorem hasE_any (A : Option Addr) (n c : Nat) (s : ExtS) (L : List ExtS) (w : World) (h : ExtsV w w.heap.size (.slice A n c) L) (hn : L.length = n) (hl : n ≤ 4611686018427387904) :
 Calls Tryz.prog 61 #[.slice A n c, .agg #[.int .i64 s.id, .string s.uri]] w fun e w' => e = .returned (.bool (extIn L s)) ∧ Below w.heap.size w w' := by
 have hb0 : Below w.heap.size w (w.alloc (.cells #[.int .i64 s.id, .string s.uri] 49)) := (Below.refl _ w).alloc (Nat.le_refl _) _
 have hw := Whole.new w 49 #[.int .i64 s.id, .string s.uri]
 have c0 : (w.alloc (.cells #[.int .i64 s.id, .string s.uri] 49)).cell? ⟨w.heap.size, 0, none⟩ = some (.int .i64 s.id) := hw.cell 0
 have c1 : (w.alloc (.cells #[.int .i64 s.id, .string s.uri] 49)).cell? ⟨w.heap.size, 1, none⟩ = some (.string s.uri) := hw.cell 1
 have HC := Lib.hid (atE_any A n c s L (w.alloc (.cells #[.int .i64 s.id, .string s.uri] 49)) ((h.below hb0).more hb0.size) hn hl)
 have HB := Lib.hid hb0
 clear h hb0 hw
 generalize extIn L s = r at *
 go_enter Tryz.func61, Tryz.ntmps61
 go_upto_region 1 with fail
 generalize (w.alloc (.cells #[.int .i64 s.id, .string s.uri] 49)) = W at *
 go_wp2_with (go_at_call 68; (with_reducible refine HC.out.mono ?_); rintro e w2 ⟨i, rfl, hi, hb2⟩)
 go_ret
 first | exact ⟨rfl, HB.out.trans (hb2.mono HB.out.size)⟩ | exact ⟨ret_bool hi, HB.out.trans (hb2.mono HB.out.size)⟩
set_option maxHeartbeats 800000 in
theorem juWithinE1_any (gb : Nat) (A : Option Addr) (n c : Nat) (s : ExtS) (L : List ExtS) (w : World) (h : ExtsV w w.heap.size (.slice A n c) L) (hn : L.length = n) (hl : n ≤ 4611686018427387904) (hc : w.cell? ⟨gb, 0, none⟩ = some (.slice A n c)) :
 Calls Tryz.prog 60 #[.agg #[.int .i64 s.id, .string s.uri], .pointer (some ⟨gb, 0, none⟩)] w fun e w' => e = .returned (.bool (!extIn L s)) ∧ Below w.heap.size w w' := by
 have hb0 : Below w.heap.size w (w.alloc (.cells #[.int .i64 s.id, .string s.uri] 49)) := (Below.refl _ w).alloc (Nat.le_refl _) _
 have hw := Whole.new w 49 #[.int .i64 s.id, .string s.uri]
 have c0 : (w.alloc (.cells #[.int .i64 s.id, .string s.uri] 49)).cell? ⟨w.heap.size, 0, none⟩ = some (.int .i64 s.id) := hw.cell 0
 have c1 : (w.alloc (.cells #[.int .i64 s.id, .string s.uri] 49)).cell? ⟨w.heap.size, 1, none⟩ = some (.string s.uri) := hw.cell 1
 have c2 : (w.alloc (.cells #[.int .i64 s.id, .string s.uri] 49)).cell? ⟨gb, 0, none⟩ = some (.slice A n c) := (hb0.cell (p := ⟨gb, 0, none⟩) (block_lt_of_cell hc)).trans hc
 have HC := Lib.hid (hasE_any A n c s L (w.alloc (.cells #[.int .i64 s.id, .string s.uri] 49)) ((h.below hb0).more hb0.size) hn hl)
 have HB := Lib.hid hb0
 clear h hb0 hw hc
 generalize extIn L s = r at *
 go_enter Tryz.func60, Tryz.ntmps60
 go_upto_region 1 with fail
 generalize (w.alloc (.cells #[.int .i64 s.id, .string s.uri] 49)) = W at *
 go_wp2_with (go_at_call 61; (with_reducible refine HC.out.mono ?_); rintro e w2 ⟨rfl, hb2⟩)
 go_ret
 exact ⟨rfl, HB.out.trans (hb2.mono HB.out.size)⟩
set_option maxHeartbeats 1600000 in
theorem juWithinE_any (A : Option Addr) (n c : Nat) (B : Option Addr) (m k : Nat) (L M : List ExtS) (w : World) (h : ExtsV w w.heap.size (.slice A n c) L) (hn : L.length = n) (hl : n ≤ 4611686018427387904) (h2 : ExtsV w w.heap.size (.slice B m k) M) (hm : M.length = m) (hl2 : m ≤ 4611686018427387904) :
 Calls Tryz.prog 46 #[.slice A n c, .slice B m k] w fun e w' => e = .returned (.bool (L.all (extIn M))) ∧ Below w.heap.size w w' := by
 have hb0 : Below w.heap.size w (w.alloc (.cells #[.slice B m k] 40)) := (Below.refl _ w).alloc (Nat.le_refl _) _
 have hw := Whole.new w 40 #[.slice B m k]
 have HC := Lib.hid (containsEF_any A n c L (fun s => !extIn M s) 60 #[.pointer (some ⟨w.heap.size, 0, none⟩)] (w.alloc (.cells #[.slice B m k] 40)) ((h.below hb0).more hb0.size) hn hl (enters_to Tryz.func60 (by kernel_rfl) rfl) (fun W x hW _ => by
  have hb := hb0.trans (hW.mono hb0.size)
  exact juWithinE1_any w.heap.size B m k x M W ((h2.below hb).more hb.size) hm hl2 ((hw.under hW).cell 0)))
 have HB := Lib.hid hb0
 have HR : Hid ((!L.any fun s => !extIn M s) = L.all (extIn M)) := Lib.hid (all_not_any _ _)
 clear h h2 hb0 hw
 generalize (L.any fun s => !extIn M s) = r at *
 generalize L.all (extIn M) = r2 at *
 go_enter Tryz.func46, Tryz.ntmps46
 go_upto_region 1 with fail
 generalize (w.alloc (.cells #[.slice B m k] 40)) = W at *
 go_wp2_with (go_at_call 59; (with_reducible refine HC.out.mono ?_); rintro e w2 ⟨rfl, hb2⟩)
 go_ret
 exact ⟨ret_bool HR.out, HB.out.trans (hb2.mono HB.out.size)⟩
set_option maxHeartbeats 1600000 in
set_option maxRecDepth 100000 in
theorem juExts_any (X Y : Array Value) (x y : MediaS) (vC vE vR vS vY uC uE uR uS uY : Value) (w : World) (h1 : MediaV w w.heap.size X x vC vE vR vS vY) (h2 : MediaV w w.heap.size Y y uC uE uR uS uY) (hzx : SizM x) (hzy : SizM y) :
 Calls Tryz.prog 24 #[.agg X, .agg Y] w fun e w' => e = .returned (.bool (exts5 x y)) ∧ Below w.heap.size w w' := by
 obtain ⟨hb0, hbx, hby⟩ := two_boxes w 44 X Y
 obtain ⟨AX, cX, rfl, hcX, hmX, -⟩ := Rows.form h1.exts
 obtain ⟨AY, cY, rfl, hcY, hmY, -⟩ := Rows.form h2.exts
 obtain ⟨nx, hnx⟩ : ∃ n, x.exts.length = n := ⟨_, rfl⟩
 obtain ⟨ny, hny⟩ : ∃ n, y.exts.length = n := ⟨_, rfl⟩
 rw [hnx] at h1 hcX
 rw [hny] at h2 hcY
 have HNX := Lib.hid hnx
 have HNY := Lib.hid hny
 have hcx : nx ≤ 4611686018427387904 := by have := hzx.counts; omega
 have hcy : ny ≤ 4611686018427387904 := by have := hzy.counts; omega
 clear hnx hny
 have hx5 : X[5]? = some (.slice AX nx cX) := by rw [h1.form]; rfl
 have hy5 : Y[5]? = some (.slice AY ny cY) := by rw [h2.form]; rfl
 have HX5 := Lib.hid hx5
 have HY5 := Lib.hid hy5
 obtain ⟨N, hN⟩ : ∃ N, w.heap.size = N := ⟨_, rfl⟩
 have H0 := Lib.hid (And.intro hb0 (And.intro hbx hby))
 have HV := Lib.hid (And.intro h1 h2)
 have HSZ : Hid ((X.size = 11 ∧ X.toList.all (·.oneCell') = true) ∧ Y.size = 11 ∧ Y.toList.all (·.oneCell') = true) := Lib.hid ⟨⟨h1.size, h1.one⟩, h2.size, h2.one⟩
 rw [hN] at H0 HV
 have HN := Lib.hid hN
 clear h1 h2 hb0 hbx hby hN hx5 hy5
 have HR : Hid (exts5 x y = y.exts.all (extIn x.exts)) := Lib.hid (exts5_in x y)
 generalize exts5 x y = r at *
 go_enter Tryz.func24, Tryz.ntmps24
 go_upto_region 1 with fail
 simp only [HN.out, Nat.add_assoc, Nat.reduceAdd]
 generalize ((w.alloc (.cells X 44)).alloc (.cells Y 44)) = W0 at *
 have cx5 : W0.cell? ⟨N, 5, none⟩ = some (.slice AX nx cX) := (H0.out.2.1.cell 5).trans HX5.out
 have cy5 : W0.cell? ⟨N + 1, 5, none⟩ = some (.slice AY ny cY) := (H0.out.2.2.cell 5).trans HY5.out
 have HC : Hid (Calls Tryz.prog 46 #[.slice AY ny cY, .slice AX nx cX] W0 fun e w' => e = .returned (.bool r) ∧ Below W0.heap.size W0 w') := Lib.hid (by
  rw [HR.out]
  exact juWithinE_any AY ny cY AX nx cX y.exts x.exts W0 ((HV.out.2.exts.below H0.out.1).more (Nat.le_of_lt H0.out.2.1.lt)) HNY.out hcy ((HV.out.1.exts.below H0.out.1).more (Nat.le_of_lt H0.out.2.1.lt)) HNX.out hcx)
 go_wp2_with (go_at_call 46; (with_reducible refine HC.out.mono ?_); rintro e w1 ⟨rfl, hb1⟩)
 go_ret
 exact ⟨rfl, by rw [HN.out]; exact H0.out.1.trans (hb1.mono (Nat.le_of_lt H0.out.2.1.lt))⟩
set_option maxHeartbeats 1600000 in
set_option maxRecDepth 100000 in
theorem juRids_any (X Y : Array Value) (x y : MediaS) (vC vE vR vS vY uC uE uR uS uY : Value) (w : World) (h1 : MediaV w w.heap.size X x vC vE vR vS vY) (h2 : MediaV w w.heap.size Y y uC uE uR uS uY) (hzx : SizM x) (hzy : SizM y) :
 Calls Tryz.prog 26 #[.agg X, .agg Y] w fun e w' => e = .returned (.bool (ridsJ x y)) ∧ Below w.heap.size w w' := by
 obtain ⟨hb0, hbx, hby⟩ := two_boxes w 44 X Y
 obtain ⟨AX, cX, rfl, hcX, hmX, -⟩ := Rows.form h1.rids
 obtain ⟨AY, cY, rfl, hcY, hmY, -⟩ := Rows.form h2.rids
 obtain ⟨nx, hnx⟩ : ∃ n, x.rids.length = n := ⟨_, rfl⟩
 obtain ⟨ny, hny⟩ : ∃ n, y.rids.length = n := ⟨_, rfl⟩
 rw [hnx] at h1 hcX
 rw [hny] at h2 hcY
 have HNX := Lib.hid hnx
 have HNY := Lib.hid hny
 have hcx : nx ≤ 4611686018427387904 := by have := hzx.counts; omega
 have hcy : ny ≤ 4611686018427387904 := by have := hzy.counts; omega
 clear hnx hny
 have hx6 : X[6]? = some (.slice AX nx cX) := by rw [h1.form]; rfl
 have hx7 : X[7]? = some (.bool x.sending) := by rw [h1.form]; rfl
 have hy6 : Y[6]? = some (.slice AY ny cY) := by rw [h2.form]; rfl
 have hy7 : Y[7]? = some (.bool y.sending) := by rw [h2.form]; rfl
 have HX6 := Lib.hid hx6
 have HX7 := Lib.hid hx7
 have HY6 := Lib.hid hy6
 have HY7 := Lib.hid hy7
 obtain ⟨N, hN⟩ : ∃ N, w.heap.size = N := ⟨_, rfl⟩
 have H0 := Lib.hid (And.intro hb0 (And.intro hbx hby))
 have HV := Lib.hid (And.intro h1 h2)
 have HSZ : Hid ((X.size = 11 ∧ X.toList.all (·.oneCell') = true) ∧ Y.size = 11 ∧ Y.toList.all (·.oneCell') = true) := Lib.hid ⟨⟨h1.size, h1.one⟩, h2.size, h2.one⟩
 rw [hN] at H0 HV
 have HN := Lib.hid hN
 clear h1 h2 hb0 hbx hby hN hx6 hx7 hy6 hy7
 have HR : Hid (ridsJ x y = (y.rids.isEmpty || (y.rids.all (inT x.rids) && (y.sending != x.sending)))) := Lib.hid rfl
 generalize ridsJ x y = r at *
 go_enter Tryz.func26, Tryz.ntmps26
 go_upto_region 1 with fail
 simp only [HN.out, Nat.add_assoc, Nat.reduceAdd]
 generalize ((w.alloc (.cells X 44)).alloc (.cells Y 44)) = W0 at *
 have cx6 : W0.cell? ⟨N, 6, none⟩ = some (.slice AX nx cX) := (H0.out.2.1.cell 6).trans HX6.out
 have cx7 : W0.cell? ⟨N, 7, none⟩ = some (.bool x.sending) := (H0.out.2.1.cell 7).trans HX7.out
 have cy6 : W0.cell? ⟨N + 1, 6, none⟩ = some (.slice AY ny cY) := (H0.out.2.2.cell 6).trans HY6.out
 have cy7 : W0.cell? ⟨N + 1, 7, none⟩ = some (.bool y.sending) := (H0.out.2.2.cell 7).trans HY7.out
 have HC : Hid (Calls Tryz.prog 45 #[.slice AY ny cY, .slice AX nx cX] W0 fun e w' => e = .returned (.bool (y.rids.all (inT x.rids))) ∧ Below W0.heap.size W0 w') := Lib.hid (juWithinT_any AY ny cY AX nx cX y.rids x.rids W0 ((HV.out.2.rids.below H0.out.1).more (Nat.le_of_lt H0.out.2.1.lt)) HNY.out hcy ((HV.out.1.rids.below H0.out.1).more (Nat.le_of_lt H0.out.2.1.lt)) HNX.out hcx)
 have HS : Hid (∀ W, Below W0.heap.size W0 W → W.cell? ⟨N, 7, none⟩ = some (.bool x.sending) ∧ W.cell? ⟨N + 1, 7, none⟩ = some (.bool y.sending)) := Lib.hid fun W hW => ⟨((H0.out.2.1.under hW).cell 7).trans HX7.out, ((H0.out.2.2.under hW).cell 7).trans HY7.out⟩
 cases hl : y.rids with
 | nil =>
   have h0 : ny = 0 := by rw [← HNY.out, hl]; rfl
   have HQ : Hid (r = true) := Lib.hid (by rw [HR.out, hl]; rfl)
   subst h0
   clear HR hl
   go_wp2
   go_ret
   exact ⟨ret_bool HQ.out.symm, by rw [HN.out]; exact H0.out.1⟩
 | cons a l =>
   have hk0 : ((ny : Int) == 0) = false := by rw [beq_eq_false_iff_ne, ← HNY.out, hl]; simp; omega
   have HQ : Hid (r = (y.rids.all (inT x.rids) && (y.sending != x.sending))) := Lib.hid (by rw [HR.out, hl]; rfl)
   clear HR hl
   generalize y.rids.all (inT x.rids) = b at *
   generalize y.sending = sy at *
   generalize x.sending = sx at *
   cases b with
   | false =>
     go_wp2_with (go_at_call 45; (with_reducible refine HC.out.mono ?_); rintro e w1 ⟨rfl, hb1⟩)
     go_ret
     exact ⟨ret_bool (by rw [HQ.out]; rfl), by rw [HN.out]; exact H0.out.1.trans (hb1.mono (Nat.le_of_lt H0.out.2.1.lt))⟩
   | true =>
     go_wp2_with (go_at_call 45; (with_reducible refine HC.out.mono ?_); rintro e w1 ⟨rfl, hb1⟩; have s1 := (HS.out w1 hb1).1; have s2 := (HS.out w1 hb1).2)
     go_ret
     exact ⟨ret_bool (by rw [HQ.out]; rfl), by rw [HN.out]; exact H0.out.1.trans (hb1.mono (Nat.le_of_lt H0.out.2.1.lt))⟩
set_option maxHeartbeats 3200000 in
set_option maxRecDepth 100000 in
theorem juDir_any (X Y : Array Value) (x y : MediaS) (vC vE vR vS vY uC uE uR uS uY : Value) (w : World) (h1 : MediaV w w.heap.size X x vC vE vR vS vY) (h2 : MediaV w w.heap.size Y y uC uE uR uS uY) (hdx : 0 ≤ x.dir ∧ x.dir ≤ 3) (hdy : 0 ≤ y.dir ∧ y.dir ≤ 3) :
 Calls Tryz.prog 25 #[.agg X, .agg Y] w fun e w' => e = .returned (.bool (dirJ x y)) ∧ Below w.heap.size w w' := by
 obtain ⟨hb0, hbx, hby⟩ := two_boxes w 44 X Y
 have hx3 : X[3]? = some (.int .i64 x.dir) := by rw [h1.form]; rfl
 have hy3 : Y[3]? = some (.int .i64 y.dir) := by rw [h2.form]; rfl
 have HX3 := Lib.hid hx3
 have HY3 := Lib.hid hy3
 obtain ⟨N, hN⟩ : ∃ N, w.heap.size = N := ⟨_, rfl⟩
 have H0 := Lib.hid (And.intro hb0 (And.intro hbx hby))
 have HV := Lib.hid (And.intro h1 h2)
 have HSZ : Hid ((X.size = 11 ∧ X.toList.all (·.oneCell') = true) ∧ Y.size = 11 ∧ Y.toList.all (·.oneCell') = true) := Lib.hid ⟨⟨h1.size, h1.one⟩, h2.size, h2.one⟩
 rw [hN] at H0 HV
 have HN := Lib.hid hN
 clear h1 h2 hb0 hbx hby hN hx3 hy3
 obtain ⟨a1, ha1⟩ : ∃ b, hasW y.dir 1 = b := ⟨_, rfl⟩
 obtain ⟨o2, ho2⟩ : ∃ b, hasW x.dir 2 = b := ⟨_, rfl⟩
 obtain ⟨a2, ha2⟩ : ∃ b, hasW y.dir 2 = b := ⟨_, rfl⟩
 obtain ⟨o1, ho1⟩ : ∃ b, hasW x.dir 1 = b := ⟨_, rfl⟩
 have HE := Lib.hid (And.intro ha1 (And.intro ho2 (And.intro ha2 ho1)))
 have HQ : Hid (dirJ x y = ((!a1 || o2) && (!a2 || o1))) := Lib.hid (by unfold dirJ; rw [ha1, ho2, ha2, ho1])
 generalize dirJ x y = r at *
 clear ha1 ho2 ha2 ho1
 go_enter Tryz.func25, Tryz.ntmps25
 go_upto_region 1 with fail
 simp only [HN.out, Nat.add_assoc, Nat.reduceAdd]
 generalize ((w.alloc (.cells X 44)).alloc (.cells Y 44)) = W0 at *
 have cx3 : W0.cell? ⟨N, 3, none⟩ = some (.int .i64 x.dir) := (H0.out.2.1.cell 3).trans HX3.out
 have cy3 : W0.cell? ⟨N + 1, 3, none⟩ = some (.int .i64 y.dir) := (H0.out.2.2.cell 3).trans HY3.out
 have HA1 : Hid (∀ W, Calls Tryz.prog 47 #[.agg Y, .int .i64 1] W fun e w' => e = .returned (.bool a1) ∧ Below W.heap.size W w') := Lib.hid fun W => by rw [← HE.out.1]; exact juHas_any Y y.dir 1 W HY3.out hdy.1 hdy.2 (.inl rfl)
 have HO2 : Hid (∀ W, Calls Tryz.prog 47 #[.agg X, .int .i64 2] W fun e w' => e = .returned (.bool o2) ∧ Below W.heap.size W w') := Lib.hid fun W => by rw [← HE.out.2.1]; exact juHas_any X x.dir 2 W HX3.out hdx.1 hdx.2 (.inr rfl)
 have HA2 : Hid (∀ W, Calls Tryz.prog 47 #[.agg Y, .int .i64 2] W fun e w' => e = .returned (.bool a2) ∧ Below W.heap.size W w') := Lib.hid fun W => by rw [← HE.out.2.2.1]; exact juHas_any Y y.dir 2 W HY3.out hdy.1 hdy.2 (.inr rfl)
 have HO1 : Hid (∀ W, Calls Tryz.prog 47 #[.agg X, .int .i64 1] W fun e w' => e = .returned (.bool o1) ∧ Below W.heap.size W w') := Lib.hid fun W => by rw [← HE.out.2.2.2]; exact juHas_any X x.dir 1 W HX3.out hdx.1 hdx.2 (.inl rfl)
 clear cx3 cy3
 cases a1 with
 | false =>
   cases a2 with
   | false =>
     go_wp2_with (first | ((with_reducible refine wpList_load_allG ?_ 44 (.tmp 2) ?_ H2.out.2.1 ?_ Tryz.sizeMedia HSZ.out.1.1 Tryz.underlying44 rfl ?_); rfl; (with_reducible rfl); rfl) | ((with_reducible refine wpList_load_allG ?_ 44 (.tmp 3) ?_ H2.out.2.2 ?_ Tryz.sizeMedia HSZ.out.2.1 Tryz.underlying44 rfl ?_); rfl; (with_reducible rfl); rfl) | ((with_reducible refine wpList_load_allG ?_ 44 (.tmp 2) ?_ H1.out.2.1 ?_ Tryz.sizeMedia HSZ.out.1.1 Tryz.underlying44 rfl ?_); rfl; (with_reducible rfl); rfl) | ((with_reducible refine wpList_load_allG ?_ 44 (.tmp 3) ?_ H1.out.2.2 ?_ Tryz.sizeMedia HSZ.out.2.1 Tryz.underlying44 rfl ?_); rfl; (with_reducible rfl); rfl) | ((with_reducible refine wpList_load_allG ?_ 44 (.tmp 2) ?_ H0.out.2.1 ?_ Tryz.sizeMedia HSZ.out.1.1 Tryz.underlying44 rfl ?_); rfl; (with_reducible rfl); rfl) | ((with_reducible refine wpList_load_allG ?_ 44 (.tmp 3) ?_ H0.out.2.2 ?_ Tryz.sizeMedia HSZ.out.2.1 Tryz.underlying44 rfl ?_); rfl; (with_reducible rfl); rfl) | (go_at_call 47; (with_reducible refine (HA2.out _).mono ?_); rintro e w2 ⟨rfl, hb2⟩; have H2 : Hid (Below N w w2 ∧ Whole w2 N 44 X ∧ Whole w2 (N + 1) 44 Y) := Lib.hid ⟨H1.out.1.trans (hb2.mono (Nat.le_of_lt H1.out.2.1.lt)), H1.out.2.1.under hb2, H1.out.2.2.under hb2⟩; clear hb2) | (go_at_call 47; (with_reducible refine (HA1.out _).mono ?_); rintro e w1 ⟨rfl, hb1⟩; have H1 : Hid (Below N w w1 ∧ Whole w1 N 44 X ∧ Whole w1 (N + 1) 44 Y) := Lib.hid ⟨H0.out.1.trans (hb1.mono (Nat.le_of_lt H0.out.2.1.lt)), H0.out.2.1.under hb1, H0.out.2.2.under hb1⟩; clear hb1))
     go_ret
     exact ⟨ret_bool (by rw [HQ.out]; rfl), by rw [HN.out]; exact H2.out.1⟩
   | true =>
     go_wp2_with (first | ((with_reducible refine wpList_load_allG ?_ 44 (.tmp 2) ?_ H3.out.2.1 ?_ Tryz.sizeMedia HSZ.out.1.1 Tryz.underlying44 rfl ?_); rfl; (with_reducible rfl); rfl) | ((with_reducible refine wpList_load_allG ?_ 44 (.tmp 3) ?_ H3.out.2.2 ?_ Tryz.sizeMedia HSZ.out.2.1 Tryz.underlying44 rfl ?_); rfl; (with_reducible rfl); rfl) | ((with_reducible refine wpList_load_allG ?_ 44 (.tmp 2) ?_ H2.out.2.1 ?_ Tryz.sizeMedia HSZ.out.1.1 Tryz.underlying44 rfl ?_); rfl; (with_reducible rfl); rfl) | ((with_reducible refine wpList_load_allG ?_ 44 (.tmp 3) ?_ H2.out.2.2 ?_ Tryz.sizeMedia HSZ.out.2.1 Tryz.underlying44 rfl ?_); rfl; (with_reducible rfl); rfl) | ((with_reducible refine wpList_load_allG ?_ 44 (.tmp 2) ?_ H1.out.2.1 ?_ Tryz.sizeMedia HSZ.out.1.1 Tryz.underlying44 rfl ?_); rfl; (with_reducible rfl); rfl) | ((with_reducible refine wpList_load_allG ?_ 44 (.tmp 3) ?_ H1.out.2.2 ?_ Tryz.sizeMedia HSZ.out.2.1 Tryz.underlying44 rfl ?_); rfl; (with_reducible rfl); rfl) | ((with_reducible refine wpList_load_allG ?_ 44 (.tmp 2) ?_ H0.out.2.1 ?_ Tryz.sizeMedia HSZ.out.1.1 Tryz.underlying44 rfl ?_); rfl; (with_reducible rfl); rfl) | ((with_reducible refine wpList_load_allG ?_ 44 (.tmp 3) ?_ H0.out.2.2 ?_ Tryz.sizeMedia HSZ.out.2.1 Tryz.underlying44 rfl ?_); rfl; (with_reducible rfl); rfl) | (go_at_call 47; (with_reducible refine (HO1.out _).mono ?_); rintro e w3 ⟨rfl, hb3⟩; have H3 : Hid (Below N w w3 ∧ Whole w3 N 44 X ∧ Whole w3 (N + 1) 44 Y) := Lib.hid ⟨H2.out.1.trans (hb3.mono (Nat.le_of_lt H2.out.2.1.lt)), H2.out.2.1.under hb3, H2.out.2.2.under hb3⟩; clear hb3) | (go_at_call 47; (with_reducible refine (HA2.out _).mono ?_); rintro e w2 ⟨rfl, hb2⟩; have H2 : Hid (Below N w w2 ∧ Whole w2 N 44 X ∧ Whole w2 (N + 1) 44 Y) := Lib.hid ⟨H1.out.1.trans (hb2.mono (Nat.le_of_lt H1.out.2.1.lt)), H1.out.2.1.under hb2, H1.out.2.2.under hb2⟩; clear hb2) | (go_at_call 47; (with_reducible refine (HA1.out _).mono ?_); rintro e w1 ⟨rfl, hb1⟩; have H1 : Hid (Below N w w1 ∧ Whole w1 N 44 X ∧ Whole w1 (N + 1) 44 Y) := Lib.hid ⟨H0.out.1.trans (hb1.mono (Nat.le_of_lt H0.out.2.1.lt)), H0.out.2.1.under hb1, H0.out.2.2.under hb1⟩; clear hb1))
     go_ret
     exact ⟨ret_bool (by rw [HQ.out]; rfl), by rw [HN.out]; exact H3.out.1⟩
 | true =>
   cases o2 with
   | false =>
     go_wp2_with (first | ((with_reducible refine wpList_load_allG ?_ 44 (.tmp 2) ?_ H2.out.2.1 ?_ Tryz.sizeMedia HSZ.out.1.1 Tryz.underlying44 rfl ?_); rfl; (with_reducible rfl); rfl) | ((with_reducible refine wpList_load_allG ?_ 44 (.tmp 3) ?_ H2.out.2.2 ?_ Tryz.sizeMedia HSZ.out.2.1 Tryz.underlying44 rfl ?_); rfl; (with_reducible rfl); rfl) | ((with_reducible refine wpList_load_allG ?_ 44 (.tmp 2) ?_ H1.out.2.1 ?_ Tryz.sizeMedia HSZ.out.1.1 Tryz.underlying44 rfl ?_); rfl; (with_reducible rfl); rfl) | ((with_reducible refine wpList_load_allG ?_ 44 (.tmp 3) ?_ H1.out.2.2 ?_ Tryz.sizeMedia HSZ.out.2.1 Tryz.underlying44 rfl ?_); rfl; (with_reducible rfl); rfl) | ((with_reducible refine wpList_load_allG ?_ 44 (.tmp 2) ?_ H0.out.2.1 ?_ Tryz.sizeMedia HSZ.out.1.1 Tryz.underlying44 rfl ?_); rfl; (with_reducible rfl); rfl) | ((with_reducible refine wpList_load_allG ?_ 44 (.tmp 3) ?_ H0.out.2.2 ?_ Tryz.sizeMedia HSZ.out.2.1 Tryz.underlying44 rfl ?_); rfl; (with_reducible rfl); rfl) | (go_at_call 47; (with_reducible refine (HO2.out _).mono ?_); rintro e w2 ⟨rfl, hb2⟩; have H2 : Hid (Below N w w2 ∧ Whole w2 N 44 X ∧ Whole w2 (N + 1) 44 Y) := Lib.hid ⟨H1.out.1.trans (hb2.mono (Nat.le_of_lt H1.out.2.1.lt)), H1.out.2.1.under hb2, H1.out.2.2.under hb2⟩; clear hb2) | (go_at_call 47; (with_reducible refine (HA1.out _).mono ?_); rintro e w1 ⟨rfl, hb1⟩; have H1 : Hid (Below N w w1 ∧ Whole w1 N 44 X ∧ Whole w1 (N + 1) 44 Y) := Lib.hid ⟨H0.out.1.trans (hb1.mono (Nat.le_of_lt H0.out.2.1.lt)), H0.out.2.1.under hb1, H0.out.2.2.under hb1⟩; clear hb1))
     go_ret
     exact ⟨ret_bool (by rw [HQ.out]; rfl), by rw [HN.out]; exact H2.out.1⟩
   | true =>
     cases a2 with
     | false =>
       go_wp2_with (first | ((with_reducible refine wpList_load_allG ?_ 44 (.tmp 2) ?_ H3.out.2.1 ?_ Tryz.sizeMedia HSZ.out.1.1 Tryz.underlying44 rfl ?_); rfl; (with_reducible rfl); rfl) | ((with_reducible refine wpList_load_allG ?_ 44 (.tmp 3) ?_ H3.out.2.2 ?_ Tryz.sizeMedia HSZ.out.2.1 Tryz.underlying44 rfl ?_); rfl; (with_reducible rfl); rfl) | ((with_reducible refine wpList_load_allG ?_ 44 (.tmp 2) ?_ H2.out.2.1 ?_ Tryz.sizeMedia HSZ.out.1.1 Tryz.underlying44 rfl ?_); rfl; (with_reducible rfl); rfl) | ((with_reducible refine wpList_load_allG ?_ 44 (.tmp 3) ?_ H2.out.2.2 ?_ Tryz.sizeMedia HSZ.out.2.1 Tryz.underlying44 rfl ?_); rfl; (with_reducible rfl); rfl) | ((with_reducible refine wpList_load_allG ?_ 44 (.tmp 2) ?_ H1.out.2.1 ?_ Tryz.sizeMedia HSZ.out.1.1 Tryz.underlying44 rfl ?_); rfl; (with_reducible rfl); rfl) | ((with_reducible refine wpList_load_allG ?_ 44 (.tmp 3) ?_ H1.out.2.2 ?_ Tryz.sizeMedia HSZ.out.2.1 Tryz.underlying44 rfl ?_); rfl; (with_reducible rfl); rfl) | ((with_reducible refine wpList_load_allG ?_ 44 (.tmp 2) ?_ H0.out.2.1 ?_ Tryz.sizeMedia HSZ.out.1.1 Tryz.underlying44 rfl ?_); rfl; (with_reducible rfl); rfl) | ((with_reducible refine wpList_load_allG ?_ 44 (.tmp 3) ?_ H0.out.2.2 ?_ Tryz.sizeMedia HSZ.out.2.1 Tryz.underlying44 rfl ?_); rfl; (with_reducible rfl); rfl) | (go_at_call 47; (with_reducible refine (HA2.out _).mono ?_); rintro e w3 ⟨rfl, hb3⟩; have H3 : Hid (Below N w w3 ∧ Whole w3 N 44 X ∧ Whole w3 (N + 1) 44 Y) := Lib.hid ⟨H2.out.1.trans (hb3.mono (Nat.le_of_lt H2.out.2.1.lt)), H2.out.2.1.under hb3, H2.out.2.2.under hb3⟩; clear hb3) | (go_at_call 47; (with_reducible refine (HO2.out _).mono ?_); rintro e w2 ⟨rfl, hb2⟩; have H2 : Hid (Below N w w2 ∧ Whole w2 N 44 X ∧ Whole w2 (N + 1) 44 Y) := Lib.hid ⟨H1.out.1.trans (hb2.mono (Nat.le_of_lt H1.out.2.1.lt)), H1.out.2.1.under hb2, H1.out.2.2.under hb2⟩; clear hb2) | (go_at_call 47; (with_reducible refine (HA1.out _).mono ?_); rintro e w1 ⟨rfl, hb1⟩; have H1 : Hid (Below N w w1 ∧ Whole w1 N 44 X ∧ Whole w1 (N + 1) 44 Y) := Lib.hid ⟨H0.out.1.trans (hb1.mono (Nat.le_of_lt H0.out.2.1.lt)), H0.out.2.1.under hb1, H0.out.2.2.under hb1⟩; clear hb1))
       go_ret
       exact ⟨ret_bool (by rw [HQ.out]; rfl), by rw [HN.out]; exact H3.out.1⟩
     | true =>
       go_wp2_with (first | ((with_reducible refine wpList_load_allG ?_ 44 (.tmp 2) ?_ H4.out.2.1 ?_ Tryz.sizeMedia HSZ.out.1.1 Tryz.underlying44 rfl ?_); rfl; (with_reducible rfl); rfl) | ((with_reducible refine wpList_load_allG ?_ 44 (.tmp 3) ?_ H4.out.2.2 ?_ Tryz.sizeMedia HSZ.out.2.1 Tryz.underlying44 rfl ?_); rfl; (with_reducible rfl); rfl) | ((with_reducible refine wpList_load_allG ?_ 44 (.tmp 2) ?_ H3.out.2.1 ?_ Tryz.sizeMedia HSZ.out.1.1 Tryz.underlying44 rfl ?_); rfl; (with_reducible rfl); rfl) | ((with_reducible refine wpList_load_allG ?_ 44 (.tmp 3) ?_ H3.out.2.2 ?_ Tryz.sizeMedia HSZ.out.2.1 Tryz.underlying44 rfl ?_); rfl; (with_reducible rfl); rfl) | ((with_reducible refine wpList_load_allG ?_ 44 (.tmp 2) ?_ H2.out.2.1 ?_ Tryz.sizeMedia HSZ.out.1.1 Tryz.underlying44 rfl ?_); rfl; (with_reducible rfl); rfl) | ((with_reducible refine wpList_load_allG ?_ 44 (.tmp 3) ?_ H2.out.2.2 ?_ Tryz.sizeMedia HSZ.out.2.1 Tryz.underlying44 rfl ?_); rfl; (with_reducible rfl); rfl) | ((with_reducible refine wpList_load_allG ?_ 44 (.tmp 2) ?_ H1.out.2.1 ?_ Tryz.sizeMedia HSZ.out.1.1 Tryz.underlying44 rfl ?_); rfl; (with_reducible rfl); rfl) | ((with_reducible refine wpList_load_allG ?_ 44 (.tmp 3) ?_ H1.out.2.2 ?_ Tryz.sizeMedia HSZ.out.2.1 Tryz.underlying44 rfl ?_); rfl; (with_reducible rfl); rfl) | ((with_reducible refine wpList_load_allG ?_ 44 (.tmp 2) ?_ H0.out.2.1 ?_ Tryz.sizeMedia HSZ.out.1.1 Tryz.underlying44 rfl ?_); rfl; (with_reducible rfl); rfl) | ((with_reducible refine wpList_load_allG ?_ 44 (.tmp 3) ?_ H0.out.2.2 ?_ Tryz.sizeMedia HSZ.out.2.1 Tryz.underlying44 rfl ?_); rfl; (with_reducible rfl); rfl) | (go_at_call 47; (with_reducible refine (HO1.out _).mono ?_); rintro e w4 ⟨rfl, hb4⟩; have H4 : Hid (Below N w w4 ∧ Whole w4 N 44 X ∧ Whole w4 (N + 1) 44 Y) := Lib.hid ⟨H3.out.1.trans (hb4.mono (Nat.le_of_lt H3.out.2.1.lt)), H3.out.2.1.under hb4, H3.out.2.2.under hb4⟩; clear hb4) | (go_at_call 47; (with_reducible refine (HA2.out _).mono ?_); rintro e w3 ⟨rfl, hb3⟩; have H3 : Hid (Below N w w3 ∧ Whole w3 N 44 X ∧ Whole w3 (N + 1) 44 Y) := Lib.hid ⟨H2.out.1.trans (hb3.mono (Nat.le_of_lt H2.out.2.1.lt)), H2.out.2.1.under hb3, H2.out.2.2.under hb3⟩; clear hb3) | (go_at_call 47; (with_reducible refine (HO2.out _).mono ?_); rintro e w2 ⟨rfl, hb2⟩; have H2 : Hid (Below N w w2 ∧ Whole w2 N 44 X ∧ Whole w2 (N + 1) 44 Y) := Lib.hid ⟨H1.out.1.trans (hb2.mono (Nat.le_of_lt H1.out.2.1.lt)), H1.out.2.1.under hb2, H1.out.2.2.under hb2⟩; clear hb2) | (go_at_call 47; (with_reducible refine (HA1.out _).mono ?_); rintro e w1 ⟨rfl, hb1⟩; have H1 : Hid (Below N w w1 ∧ Whole w1 N 44 X ∧ Whole w1 (N + 1) 44 Y) := Lib.hid ⟨H0.out.1.trans (hb1.mono (Nat.le_of_lt H0.out.2.1.lt)), H0.out.2.1.under hb1, H0.out.2.2.under hb1⟩; clear hb1))
       go_ret
       exact ⟨ret_bool (by rw [HQ.out]; rfl), by rw [HN.out]; exact H4.out.1⟩
end Go.Proofs.YtibpnjakimobmaaGreat
