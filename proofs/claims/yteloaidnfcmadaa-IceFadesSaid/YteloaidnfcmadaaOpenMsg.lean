/- A message that came in by value, opened. -/
import Derived.Test.YteloaidnfcmadaaStBase
import Derived.Deep.Slices
import Derived.Deep.Fields
import Derived.ProofKit
import Derived.OpenShut
import Derived.ChangeOld
import Derived.ChangeSame
import Derived.SizedLaws
import Derived.Test.YteloaidnfcmadaaStSameP
namespace Go.Proofs.Yteloaidnfcmadaa
open Go.RowKit Go.ChangeShapes Go.WideShapes Go.ChangeAt Go.Deep
set_option linter.unusedVariables false

section
variable {H : Type} {enc : TypeId × Value → H} {P : Program} {w : World} {base : Nat} {spare : Nat → Bool} {held : Bool}
theorem open_slice_fields {t e : TypeId} {fs : Array Field} {fuel : Nat} {cs : List Value} {x : DataW H × List MemPlace} (ht : P.underlying t = some (.slice e)) (he : P.underlying e = some (.struct fs))
    (hone : oneCellFields P fs = true) (hC : P.cellsOf e = fs.size) (h : DataW.trod enc P w base spare held fuel t cs = some x) :
    (cs = [.slice none 0 0] ∧ x = (.nil, [])) ∨
    ∃ (a : Addr) (len cap m : Nat) (D : Nat → DataW H) (Pl : Nat → List MemPlace), cs = [.slice (some a) len cap] ∧ base ≤ a.block ∧ len ≤ cap ∧ cap ≤ maxLen ∧ m = (if spare a.block then cap else len) ∧
      x = (.slice ((List.range len).map D) ((List.range (m - len)).map fun j => D (len + j)), MemPlace.row a (m * fs.size) ++ (List.range m).flatMap Pl) ∧
      ∀ i, i < m → ∃ (ys : List (DataW H × List MemPlace)) (n : Nat), D i = .agg (ys.map (·.1)) ∧ Pl i = ys.flatMap (·.2) ∧ ys.length = fs.size ∧
        ∀ (j : Nat) (f : Field), fs[j]? = some f → ∃ (v : Value) (y : DataW H × List MemPlace), w.cell? (a.add (i * fs.size + j)) = some v ∧ ys[j]? = some y ∧ DataW.trod enc P w base spare held n f.type [v] = some y := by
  rcases open_slice ht h with h0 | ⟨a, len, cap, m, n, D, Pl, hcs, hb, hl, hm, hmm, hx, hi⟩
  · exact .inl h0
  · refine .inr ⟨a, len, cap, m, D, Pl, hcs, hb, hl, hm, hmm, by rw [hC] at hx; exact hx, fun i him => ?_⟩
    obtain ⟨cs', hc, ht'⟩ := hi i him
    rw [hC] at hc
    obtain ⟨ys, n', hn', hy, hlen, hyl, hf⟩ := DataW.trod_struct he ht'
    obtain ⟨_, hcl, hat⟩ := World.cells?_some hc
    simp only [Prod.mk.injEq] at hy
    refine ⟨ys, n', hy.1, hy.2, hyl, fun j f hj => ?_⟩
    obtain ⟨ho, hk⟩ := hone_of hone j f hj
    have hjl : j < fs.size := (Array.getElem?_eq_some_iff.1 hj).1
    have hcell := hat j hjl
    have hv : cs'[j]? = some (cs'[j]'(by omega)) := List.getElem?_eq_getElem (by omega)
    have h1 := hf j f hj
    rw [ho, hk] at h1
    have hone' : (cs'.drop j).take 1 = [cs'[j]'(by omega)] := by
      rw [List.drop_eq_getElem_cons (by omega)]
      rfl
    rw [hone'] at h1
    have hys : ys[j]? = some (ys[j]'(by omega)) := List.getElem?_eq_getElem (by omega)
    refine ⟨_, _, ?_, hys, h1.trans hys⟩
    rw [← Go.Deep.add_add, hcell, hv]
theorem weights_mem_all {e : TypeId} {ds : List (DataW H)} {d : DataW H} (h : d ∈ ds) : ∀ n ∈ d.weights P e, n ∈ DataW.weightsAll P e ds := by
  induction ds with
  | nil => cases h
  | cons d0 r ih =>
    intro n hn
    simp only [DataW.weightsAll, List.mem_append]
    rcases List.mem_cons.1 h with rfl | h
    · exact .inl hn
    · exact .inr (ih h n hn)
end

theorem add_next (a : Addr) (n k : Nat) (hk : k ≠ 0) : a.add (n + k) = ⟨(a.add n).block, (a.add n).off + k, none⟩ := by
  unfold Addr.add
  rw [if_neg (by omega)]
  split
  · next h => subst h; simp
  · simp [Nat.add_assoc]
theorem Try.bytesByte : Try.prog.bytesOf 5 = 1 := by kernel_rfl
theorem Try.bytesRAttr : Try.prog.bytesOf 57 = 32 := by kernel_rfl
theorem Try.cellsByte : Try.prog.cellsOf 5 = 1 := by kernel_rfl
theorem Try.cellsRMsg : Try.prog.cellsOf 40 = 15 := by kernel_rfl
theorem Try.cellsA12 : Try.prog.cellsOf 37 = 12 := by kernel_rfl
theorem Try.cellsInt : Try.prog.cellsOf 3 = 1 := by kernel_rfl
theorem Try.cellsRAttrs : Try.prog.cellsOf 38 = 1 := by kernel_rfl

section
variable {H : Type} {enc : TypeId × Value → H} {W : World} {base : Nat} {sp : Nat → Bool} {held : Bool}
theorem open_bytes {fuel : Nat} {v : Value} {x : DataW H × List MemPlace} (h : DataW.trod enc Try.prog W base sp held fuel 22 [v] = some x) (hw : ∀ n ∈ x.1.weights Try.prog 22, n ≤ 140737488351232) :
    ∃ xs, V8 W W.heap.size v xs ∧ (∀ i, 0 ≤ xs.getD i 0 ∧ xs.getD i 0 < 256) ∧ xs.length ≤ 140737488351232 := by
  rcases open_ints Try.underlying22 Try.underlying5 (by kernel_rfl) h with ⟨hcs, _⟩ | ⟨a, l, c, zs, hcs, _, hl, hm, hz, hx, hcell, hwz⟩
  · simp at hcs
    subst hcs
    exact ⟨[], ⟨none, 0, rfl, Nat.le_refl _, Nat.zero_le _, fun _ => rfl, rfl, fun hn => by simp at hn⟩, fun i => by simp, by simp⟩
  · simp at hcs
    subst hcs
    have hlz : l ≤ zs.length := by rw [hz]; split <;> omega
    have hin : In8 W (some a) l c (zs.take l) := by
      refine ⟨⟨by rw [List.length_take]; omega, fun hn => ⟨a, rfl, ?_, fun i hi => ?_⟩⟩, hl, hm, (fun e => by cases e), fun i => ?_⟩
      · have := block_lt_of_cell (hcell 0 (by omega))
        rwa [add_block] at this
      · rw [hcell i (by omega)]
        simp [List.getD, hi]
      · by_cases hi : i < l ∧ i < zs.length
        · have hmm := hwz zs[i] (List.getElem_mem hi.2)
          have e : (zs.take l).getD i 0 = zs[i] := by simp [List.getD, hi.1, hi.2]
          rw [e]
          simp [Lit.wf, IntKind.min, IntKind.max, IntKind.signed, IntKind.bits] at hmm
          omega
        · have e : (zs.take l).getD i 0 = 0 := by
            simp only [List.getD]
            rw [List.getElem?_eq_none (by rw [List.length_take]; omega)]
            rfl
          rw [e]
          omega
    refine ⟨zs.take l, hin.v8, hin.in8, ?_⟩
    have := hw (zs.length * Try.prog.bytesOf 5) (by
      rw [hx]
      simp only [DataW.weights, Try.underlying22, List.mem_cons]
      refine .inl ?_
      congr 1
      simp [lits]
      omega)
    rw [Try.bytesByte] at this
    rw [List.length_take]
    omega

theorem open_attrs {fuel : Nat} {A : Option Addr} {n c : Nat} {x : DataW H × List MemPlace} (h : DataW.trod enc Try.prog W base sp held fuel 38 [.slice A n c] = some x) (hw : ∀ k ∈ x.1.weights Try.prog 38, k ≤ 140737488351232) :
    ∃ L : List At, L.length = n ∧ n ≤ c ∧ c ≤ maxLen ∧ (A = none → c = 0) ∧ Ats W W.heap.size A L ∧ (∀ a ∈ L, 0 ≤ a.ty ∧ a.ty < 65536) ∧ (∀ a ∈ L, ∀ i, 0 ≤ a.val.getD i 0 ∧ a.val.getD i 0 < 256) ∧ (∀ a ∈ L, a.val.length ≤ 140737488351232) ∧ n ≤ 4398046511102 := by
  rcases open_slice_fields Try.underlying38 Try.underlying57 (by kernel_rfl) (by kernel_rfl) h with ⟨hcs, _⟩ | ⟨ad, l, cap, m, D, Pl, hcs, _, hl, hm, hmm, hx, hf⟩
  · simp at hcs
    obtain ⟨rfl, rfl, rfl⟩ := hcs
    exact ⟨[], rfl, Nat.le_refl _, Nat.zero_le _, fun _ => rfl, Ats.nil _ _ _, fun a ha => by simp at ha, fun a ha => by simp at ha, fun a ha => by simp at ha, by omega⟩
  · simp at hcs
    obtain ⟨rfl, rfl, rfl⟩ := hcs
    have hlm : n ≤ m := by rw [hmm]; split <;> omega
    have each : ∀ i, i < n → ∃ a : At, (0 ≤ a.ty ∧ a.ty < 65536) ∧ (∀ j, 0 ≤ a.val.getD j 0 ∧ a.val.getD j 0 < 256) ∧ a.val.length ≤ 140737488351232 ∧ W.cell? (ad.add (i * 2)) = some (.int .u16 a.ty) ∧
        ∃ v, W.cell? ⟨(ad.add (i * 2)).block, (ad.add (i * 2)).off + 1, none⟩ = some v ∧ V8 W W.heap.size v a.val := by
      intro i hi
      obtain ⟨ys, n', hD, _, hyl, hj⟩ := hf i (by omega)
      obtain ⟨v0, y0, c0, g0, t0⟩ := hj 0 _ rfl
      obtain ⟨v1, y1, c1, g1, t1⟩ := hj 1 _ rfl
      obtain ⟨k0, e0, _, f0⟩ := DataW.trod_int Try.underlying31 t0
      simp at e0
      subst e0
      have hwy : ∀ k ∈ y1.1.weights Try.prog 22, k ≤ 140737488351232 := by
        intro k hk
        refine hw k ?_
        rw [hx]
        simp only [DataW.weights, Try.underlying38, List.mem_cons, List.mem_append]
        refine .inr (.inl (weights_mem_all (d := D i) (List.mem_map.2 ⟨i, List.mem_range.2 hi, rfl⟩) k ?_))
        rw [hD]
        simp only [DataW.weights, Try.underlying57]
        exact DataW.weights_mem_each (j := 1) rfl (by rw [List.getElem?_map, g1]; rfl) k hk
      obtain ⟨xs, hv, hr, hxl⟩ := open_bytes t1 hwy
      refine ⟨⟨k0, xs⟩, ?_, hr, hxl, c0, v1, ?_, hv⟩
      · simp [Lit.wf, IntKind.min, IntKind.max, IntKind.signed, IntKind.bits] at f0
        show 0 ≤ k0 ∧ k0 < 65536
        omega
      · rw [← add_next _ _ 1 (by decide)]; exact c1
    obtain ⟨f, hff⟩ := choose_at each
    have hget : ∀ i, i < n → ((List.range n).map f).getD i default = f i := by
      intro i hi
      simp [List.getD, hi]
    have hmem : ∀ a ∈ (List.range n).map f, ∃ i, i < n ∧ a = f i := by
      intro a ha
      obtain ⟨i, hi, rfl⟩ := List.mem_map.1 ha
      exact ⟨i, List.mem_range.1 hi, rfl⟩
    refine ⟨(List.range n).map f, by simp, hl, hm, (fun e => by cases e), ?_, ?_, ?_, ?_, ?_⟩
    · intro hn
      simp only [List.length_map, List.length_range] at hn
      refine ⟨ad, rfl, ?_, fun i hi => ?_⟩
      · have := block_lt_of_cell (hff 0 hn).2.2.2.1
        rwa [add_block] at this
      · simp only [List.length_map, List.length_range] at hi
        rw [hget i hi]
        exact ⟨(hff i hi).2.2.2.1, (hff i hi).2.2.2.2⟩
    · intro a ha
      obtain ⟨i, hi, rfl⟩ := hmem a ha
      exact (hff i hi).1
    · intro a ha
      obtain ⟨i, hi, rfl⟩ := hmem a ha
      exact (hff i hi).2.1
    · intro a ha
      obtain ⟨i, hi, rfl⟩ := hmem a ha
      exact (hff i hi).2.2.1
    · have := hw ((n + (m - n)) * Try.prog.bytesOf 57) (by
        rw [hx]
        simp only [DataW.weights, Try.underlying38, List.mem_cons]
        refine .inl ?_
        simp)
      rw [Try.bytesRAttr] at this
      omega

/-- What a message that came in is. -/
structure InMsg (W : World) (M : Array Value) (m : Msg) (A : Option Addr) (c : Nat) : Prop where
  msg : MsgV W W.heap.size M m A c
  fine : Fine m
  most : m.at_.length ≤ 4398046511102
  lens : ∀ a ∈ m.at_, a.val.length ≤ 140737488351232
set_option maxRecDepth 100000 in
theorem open_msg {fuel : Nat} {v : Value} {x : DataW H × List MemPlace} (hv : Value.okWide Try.prog W .any base 40 v) (h : DataW.trod enc Try.prog W 0 sp true fuel 40 v.cells.toList = some x) (hw : ∀ n ∈ x.1.weights Try.prog 40, n ≤ 140737488351232) :
    ∃ M m A c, v = .agg M ∧ InMsg W M m A c := by
  obtain ⟨cs, rfl, hsz⟩ := okWide_struct Try.underlying40 hv
  rw [Try.cellsRMsg] at hsz
  have h' : DataW.trod enc Try.prog W 0 sp true fuel 40 cs.toList = some x := h
  obtain ⟨ys, n, _, hx, _, hyl, hf⟩ := DataW.trod_struct Try.underlying40 h'
  have f0 : DataW.trod enc Try.prog W 0 sp true n 3 ((cs.toList.drop 0).take (Try.prog.cellsOf 3)) = ys[0]? := hf 0 _ rfl
  have f1 : DataW.trod enc Try.prog W 0 sp true n 3 ((cs.toList.drop 1).take (Try.prog.cellsOf 3)) = ys[1]? := hf 1 _ rfl
  have f2 : DataW.trod enc Try.prog W 0 sp true n 37 ((cs.toList.drop 2).take (Try.prog.cellsOf 37)) = ys[2]? := hf 2 _ rfl
  have f3 : DataW.trod enc Try.prog W 0 sp true n 38 ((cs.toList.drop 14).take (Try.prog.cellsOf 38)) = ys[3]? := hf 3 _ rfl
  have hy4 : ys.length = 4 := hyl
  rw [Try.cellsInt] at f0 f1
  rw [Try.cellsA12] at f2
  rw [Try.cellsRAttrs] at f3
  clear hf hyl hv h h'
  obtain ⟨l⟩ := cs
  have hl : l.length = 15 := by simpa using hsz
  match l, hl with
  | [c0, c1, b0, b1, b2, b3, b4, b5, b6, b7, b8, b9, b10, b11, s], _ =>
    match ys, hy4 with
    | [y0, y1, y2, y3], _ =>
      simp only [List.drop_zero, List.take_succ_cons, List.take_zero, List.drop_succ_cons, List.getElem?_cons_zero, List.getElem?_cons_succ] at f0 f1 f2 f3
      obtain ⟨cl, e0, _, _⟩ := DataW.trod_int Try.underlying3 f0
      obtain ⟨me, e1, _, _⟩ := DataW.trod_int Try.underlying3 f1
      obtain rfl : c0 = .int .i64 cl := by simpa using e0
      obtain rfl : c1 = .int .i64 me := by simpa using e1
      have hbs : ∀ i, i < 12 → ∃ n : Int, [b0, b1, b2, b3, b4, b5, b6, b7, b8, b9, b10, b11][i]? = some (.int .u8 n) ∧ 0 ≤ n ∧ n < 256 := by
        obtain ⟨xs, m, _, _, _, hxl, hat⟩ := DataW.trod_array Try.underlying37 f2
        intro i hi
        have h1 := hat i hi
        rw [Try.cellsByte, Nat.mul_one] at h1
        have hi' : i < [b0, b1, b2, b3, b4, b5, b6, b7, b8, b9, b10, b11].length := hi
        have h2 : ([b0, b1, b2, b3, b4, b5, b6, b7, b8, b9, b10, b11].drop i).take 1 = [[b0, b1, b2, b3, b4, b5, b6, b7, b8, b9, b10, b11][i]] := by
          rw [List.drop_eq_getElem_cons hi']
          rfl
        rw [h2, List.getElem?_eq_getElem (by omega)] at h1
        obtain ⟨k, e2, _, e4⟩ := DataW.trod_int Try.underlying5 h1
        refine ⟨k, ?_, ?_⟩
        · rw [List.getElem?_eq_getElem hi']
          simpa using e2
        · simp [Lit.wf, IntKind.min, IntKind.max, IntKind.signed, IntKind.bits] at e4
          omega
      obtain ⟨f, hff⟩ := choose_at hbs
      have hid : [b0, b1, b2, b3, b4, b5, b6, b7, b8, b9, b10, b11] = ((List.range 12).map f).map (Value.int .u8) := by
        apply List.ext_getElem?
        intro i
        by_cases hi : i < 12
        · rw [(hff i hi).1]
          simp [hi]
        · rw [List.getElem?_eq_none (by simp; omega), List.getElem?_eq_none (by simp; omega)]
      have hs : ∃ A n' c, s = .slice A n' c := by
        rcases open_slice Try.underlying38 f3 with ⟨e, _⟩ | ⟨a, l', c', _, _, _, _, e, _⟩
        · exact ⟨_, _, _, by simpa using e⟩
        · exact ⟨_, _, _, by simpa using e⟩
      obtain ⟨A, n', c, rfl⟩ := hs
      obtain ⟨L, hL, h1, h2, h3, h4, h5, h6, h7, h8⟩ := open_attrs f3 (fun k hk => hw k (by
        rw [hx]
        simp only [DataW.weights, Try.underlying40]
        exact DataW.weights_mem_each (j := 3) rfl rfl k hk))
      subst hL
      refine ⟨_, ⟨cl, me, (List.range 12).map f, L⟩, A, c, rfl, ⟨?_, by simp, h1, h2, h3, h4⟩, ⟨by simp, ?_, h5, h6⟩, h8, h7⟩
      · show #[Value.int .i64 cl, .int .i64 me, b0, b1, b2, b3, b4, b5, b6, b7, b8, b9, b10, b11, .slice A L.length c] = mv cl me ((List.range 12).map f) (.slice A L.length c)
        unfold mv
        rw [← hid]
        rfl
      · intro i
        by_cases hi : i < 12
        · have : ((List.range 12).map f).getD i 0 = f i := by simp [List.getD, hi]
          show 0 ≤ ((List.range 12).map f).getD i 0 ∧ ((List.range 12).map f).getD i 0 < 256
          rw [this]
          exact (hff i hi).2
        · have : ((List.range 12).map f).getD i 0 = 0 := by simp [List.getD, hi]
          show 0 ≤ ((List.range 12).map f).getD i 0 ∧ ((List.range 12).map f).getD i 0 < 256
          rw [this]
          omega
end
end Go.Proofs.Yteloaidnfcmadaa
