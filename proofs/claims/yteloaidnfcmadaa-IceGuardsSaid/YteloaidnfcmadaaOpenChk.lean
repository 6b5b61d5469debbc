/- Bytes, addresses and checks that came in, opened (OpenMsg, OpenAddr and OpenChecks in one). -/
import Derived.Test.YteloaidnfcmadaaStBase
import Derived.Deep.Slices
import Derived.Deep.Fields
import Derived.ProofKit
import Derived.OpenShut
import Derived.ChangeOld
import Derived.ChangeSame
import Derived.SizedLaws
import Derived.Test.YteloaidnfcmadaaStSameP
import Derived.Test.YteloaidnfcmadaaIceGuardsW
namespace Go.Proofs.Yteloaidnfcmadaa
open Go.RowKit Go.ChangeShapes Go.WideShapes Go.ChangeAt Go.Deep
set_option linter.unusedVariables false

section
variable {H : Type} {enc : TypeId × Value → H} {P : Program} {w : World} {base : Nat} {spare : Nat → Bool} {held : Bool}
theorem open_slice_fields {t e : TypeId} {fs : Array Field} {fuel : Nat} {cs : List Value} {x : DataW H × List MemPlace} (ht : P.underlying t = some (.slice e)) (he : P.underlying e = some (.struct fs))
    (hone : oneCellFields P fs = true) (hC : P.cellsOf e = fs.size) (h : DataW.trod enc P w base spare held fuel t cs = some x) :
    (cs = [.slice none 0 0] ∧ x = (.nil, [])) ∨
    ∃ (a : Addr) (len cap m : Nat) (D : Nat → DataW H) (Pl : Nat → List MemPlace), cs = [.slice (some a) len cap] ∧ base ≤ a.block ∧ len ≤ cap ∧ cap ≤ maxLen ∧ m = (if spare a.block then cap else len) ∧
      x = (.slice ((List.range len).map D) ((List.range (m - len)).map fun j => D (len + j)), MemPlace.row a (m * fs.size) ++ (List.range m).flatMap Pl) ∧
      ∀ i, i < m → ∃ (ys : List (DataW H × List MemPlace)) (n : Nat), D i = .agg (ys.map (·.1)) ∧ Pl i = ys.flatMap (·.2) ∧ ys.length = fs.size ∧
        ∀ (j : Nat) (f : Field), fs[j]? = some f → ∃ (v : Value) (y : DataW H × List MemPlace), w.cell? (a.add (i * fs.size + j)) = some v ∧ ys[j]? = some y ∧ DataW.trod enc P w base spare held n f.type [v] = some y := by
  rcases open_slice ht h with h0 | ⟨a, len, cap, m, n, D, Pl, hcs, hb, hl, hm, hmm, hx, hi⟩
  · exact .inl h0
  · refine .inr ⟨a, len, cap, m, D, Pl, hcs, hb, hl, hm, hmm, by rw [hC] at hx; exact hx, fun i him => ?_⟩
    obtain ⟨cs', hc, ht'⟩ := hi i him
    rw [hC] at hc
    obtain ⟨ys, n', hn', hy, hlen, hyl, hf⟩ := DataW.trod_struct he ht'
    obtain ⟨_, hcl, hat⟩ := World.cells?_some hc
    simp only [Prod.mk.injEq] at hy
    refine ⟨ys, n', hy.1, hy.2, hyl, fun j f hj => ?_⟩
    obtain ⟨ho, hk⟩ := hone_of hone j f hj
    have hjl : j < fs.size := (Array.getElem?_eq_some_iff.1 hj).1
    have hcell := hat j hjl
    have hv : cs'[j]? = some (cs'[j]'(by omega)) := List.getElem?_eq_getElem (by omega)
    have h1 := hf j f hj
    rw [ho, hk] at h1
    have hone' : (cs'.drop j).take 1 = [cs'[j]'(by omega)] := by
      rw [List.drop_eq_getElem_cons (by omega)]
      rfl
    rw [hone'] at h1
    have hys : ys[j]? = some (ys[j]'(by omega)) := List.getElem?_eq_getElem (by omega)
    refine ⟨_, _, ?_, hys, h1.trans hys⟩
    rw [← Go.Deep.add_add, hcell, hv]
theorem weights_mem_all {e : TypeId} {ds : List (DataW H)} {d : DataW H} (h : d ∈ ds) : ∀ n ∈ d.weights P e, n ∈ DataW.weightsAll P e ds := by
  induction ds with
  | nil => cases h
  | cons d0 r ih =>
    intro n hn
    simp only [DataW.weightsAll, List.mem_append]
    rcases List.mem_cons.1 h with rfl | h
    · exact .inl hn
    · exact .inr (ih h n hn)
end

theorem add_next (a : Addr) (n k : Nat) (hk : k ≠ 0) : a.add (n + k) = ⟨(a.add n).block, (a.add n).off + k, none⟩ := by
  unfold Addr.add
  rw [if_neg (by omega)]
  split
  · next h => subst h; simp
  · simp [Nat.add_assoc]
theorem Try.bytesByte : Try.prog.bytesOf 5 = 1 := by kernel_rfl
theorem Try.bytesRAttr : Try.prog.bytesOf 57 = 32 := by kernel_rfl
theorem Try.cellsByte : Try.prog.cellsOf 5 = 1 := by kernel_rfl
theorem Try.cellsRMsg : Try.prog.cellsOf 40 = 15 := by kernel_rfl
theorem Try.cellsA12 : Try.prog.cellsOf 37 = 12 := by kernel_rfl
theorem Try.cellsInt : Try.prog.cellsOf 3 = 1 := by kernel_rfl
theorem Try.cellsRAttrs : Try.prog.cellsOf 38 = 1 := by kernel_rfl

section
variable {H : Type} {enc : TypeId × Value → H} {W : World} {base : Nat} {sp : Nat → Bool} {held : Bool}
theorem open_bytes {fuel : Nat} {v : Value} {x : DataW H × List MemPlace} (h : DataW.trod enc Try.prog W base sp held fuel 22 [v] = some x) (hw : ∀ n ∈ x.1.weights Try.prog 22, n ≤ 140737488351232) :
    ∃ xs, V8 W W.heap.size v xs ∧ (∀ i, 0 ≤ xs.getD i 0 ∧ xs.getD i 0 < 256) ∧ xs.length ≤ 140737488351232 := by
  rcases open_ints Try.underlying22 Try.underlying5 (by kernel_rfl) h with ⟨hcs, _⟩ | ⟨a, l, c, zs, hcs, _, hl, hm, hz, hx, hcell, hwz⟩
  · simp at hcs
    subst hcs
    exact ⟨[], ⟨none, 0, rfl, Nat.le_refl _, Nat.zero_le _, fun _ => rfl, rfl, fun hn => by simp at hn⟩, fun i => by simp, by simp⟩
  · simp at hcs
    subst hcs
    have hlz : l ≤ zs.length := by rw [hz]; split <;> omega
    have hin : In8 W (some a) l c (zs.take l) := by
      refine ⟨⟨by rw [List.length_take]; omega, fun hn => ⟨a, rfl, ?_, fun i hi => ?_⟩⟩, hl, hm, (fun e => by cases e), fun i => ?_⟩
      · have := block_lt_of_cell (hcell 0 (by omega))
        rwa [add_block] at this
      · rw [hcell i (by omega)]
        simp [List.getD, hi]
      · by_cases hi : i < l ∧ i < zs.length
        · have hmm := hwz zs[i] (List.getElem_mem hi.2)
          have e : (zs.take l).getD i 0 = zs[i] := by simp [List.getD, hi.1, hi.2]
          rw [e]
          simp [Lit.wf, IntKind.min, IntKind.max, IntKind.signed, IntKind.bits] at hmm
          omega
        · have e : (zs.take l).getD i 0 = 0 := by
            simp only [List.getD]
            rw [List.getElem?_eq_none (by rw [List.length_take]; omega)]
            rfl
          rw [e]
          omega
    refine ⟨zs.take l, hin.v8, hin.in8, ?_⟩
    have := hw (zs.length * Try.prog.bytesOf 5) (by
      rw [hx]
      simp only [DataW.weights, Try.underlying22, List.mem_cons]
      refine .inl ?_
      congr 1
      simp [lits]
      omega)
    rw [Try.bytesByte] at this
    rw [List.length_take]
    omega

theorem open_attrs {fuel : Nat} {A : Option Addr} {n c : Nat} {x : DataW H × List MemPlace} (h : DataW.trod enc Try.prog W base sp held fuel 38 [.slice A n c] = some x) (hw : ∀ k ∈ x.1.weights Try.prog 38, k ≤ 140737488351232) :
    ∃ L : List At, L.length = n ∧ n ≤ c ∧ c ≤ maxLen ∧ (A = none → c = 0) ∧ Ats W W.heap.size A L ∧ (∀ a ∈ L, 0 ≤ a.ty ∧ a.ty < 65536) ∧ (∀ a ∈ L, ∀ i, 0 ≤ a.val.getD i 0 ∧ a.val.getD i 0 < 256) ∧ (∀ a ∈ L, a.val.length ≤ 140737488351232) ∧ n ≤ 4398046511102 := by
  rcases open_slice_fields Try.underlying38 Try.underlying57 (by kernel_rfl) (by kernel_rfl) h with ⟨hcs, _⟩ | ⟨ad, l, cap, m, D, Pl, hcs, _, hl, hm, hmm, hx, hf⟩
  · simp at hcs
    obtain ⟨rfl, rfl, rfl⟩ := hcs
    exact ⟨[], rfl, Nat.le_refl _, Nat.zero_le _, fun _ => rfl, Ats.nil _ _ _, fun a ha => by simp at ha, fun a ha => by simp at ha, fun a ha => by simp at ha, by omega⟩
  · simp at hcs
    obtain ⟨rfl, rfl, rfl⟩ := hcs
    have hlm : n ≤ m := by rw [hmm]; split <;> omega
    have each : ∀ i, i < n → ∃ a : At, (0 ≤ a.ty ∧ a.ty < 65536) ∧ (∀ j, 0 ≤ a.val.getD j 0 ∧ a.val.getD j 0 < 256) ∧ a.val.length ≤ 140737488351232 ∧ W.cell? (ad.add (i * 2)) = some (.int .u16 a.ty) ∧
        ∃ v, W.cell? ⟨(ad.add (i * 2)).block, (ad.add (i * 2)).off + 1, none⟩ = some v ∧ V8 W W.heap.size v a.val := by
      intro i hi
      obtain ⟨ys, n', hD, _, hyl, hj⟩ := hf i (by omega)
      obtain ⟨v0, y0, c0, g0, t0⟩ := hj 0 _ rfl
      obtain ⟨v1, y1, c1, g1, t1⟩ := hj 1 _ rfl
      obtain ⟨k0, e0, _, f0⟩ := DataW.trod_int Try.underlying31 t0
      simp at e0
      subst e0
      have hwy : ∀ k ∈ y1.1.weights Try.prog 22, k ≤ 140737488351232 := by
        intro k hk
        refine hw k ?_
        rw [hx]
        simp only [DataW.weights, Try.underlying38, List.mem_cons, List.mem_append]
        refine .inr (.inl (weights_mem_all (d := D i) (List.mem_map.2 ⟨i, List.mem_range.2 hi, rfl⟩) k ?_))
        rw [hD]
        simp only [DataW.weights, Try.underlying57]
        exact DataW.weights_mem_each (j := 1) rfl (by rw [List.getElem?_map, g1]; rfl) k hk
      obtain ⟨xs, hv, hr, hxl⟩ := open_bytes t1 hwy
      refine ⟨⟨k0, xs⟩, ?_, hr, hxl, c0, v1, ?_, hv⟩
      · simp [Lit.wf, IntKind.min, IntKind.max, IntKind.signed, IntKind.bits] at f0
        show 0 ≤ k0 ∧ k0 < 65536
        omega
      · rw [← add_next _ _ 1 (by decide)]; exact c1
    obtain ⟨f, hff⟩ := choose_at each
    have hget : ∀ i, i < n → ((List.range n).map f).getD i default = f i := by
      intro i hi
      simp [List.getD, hi]
    have hmem : ∀ a ∈ (List.range n).map f, ∃ i, i < n ∧ a = f i := by
      intro a ha
      obtain ⟨i, hi, rfl⟩ := List.mem_map.1 ha
      exact ⟨i, List.mem_range.1 hi, rfl⟩
    refine ⟨(List.range n).map f, by simp, hl, hm, (fun e => by cases e), ?_, ?_, ?_, ?_, ?_⟩
    · intro hn
      simp only [List.length_map, List.length_range] at hn
      refine ⟨ad, rfl, ?_, fun i hi => ?_⟩
      · have := block_lt_of_cell (hff 0 hn).2.2.2.1
        rwa [add_block] at this
      · simp only [List.length_map, List.length_range] at hi
        rw [hget i hi]
        exact ⟨(hff i hi).2.2.2.1, (hff i hi).2.2.2.2⟩
    · intro a ha
      obtain ⟨i, hi, rfl⟩ := hmem a ha
      exact (hff i hi).1
    · intro a ha
      obtain ⟨i, hi, rfl⟩ := hmem a ha
      exact (hff i hi).2.1
    · intro a ha
      obtain ⟨i, hi, rfl⟩ := hmem a ha
      exact (hff i hi).2.2.1
    · have := hw ((n + (m - n)) * Try.prog.bytesOf 57) (by
        rw [hx]
        simp only [DataW.weights, Try.underlying38, List.mem_cons]
        refine .inl ?_
        simp)
      rw [Try.bytesRAttr] at this
      omega

/-- What a message that came in is. -/
structure InMsg (W : World) (M : Array Value) (m : Msg) (A : Option Addr) (c : Nat) : Prop where
  msg : MsgV W W.heap.size M m A c
  fine : Fine m
  most : m.at_.length ≤ 4398046511102
  lens : ∀ a ∈ m.at_, a.val.length ≤ 140737488351232
set_option maxRecDepth 100000 in
theorem open_msg {fuel : Nat} {v : Value} {x : DataW H × List MemPlace} (hv : Value.okWide Try.prog W .any base 40 v) (h : DataW.trod enc Try.prog W 0 sp true fuel 40 v.cells.toList = some x) (hw : ∀ n ∈ x.1.weights Try.prog 40, n ≤ 140737488351232) :
    ∃ M m A c, v = .agg M ∧ InMsg W M m A c := by
  obtain ⟨cs, rfl, hsz⟩ := okWide_struct Try.underlying40 hv
  rw [Try.cellsRMsg] at hsz
  have h' : DataW.trod enc Try.prog W 0 sp true fuel 40 cs.toList = some x := h
  obtain ⟨ys, n, _, hx, _, hyl, hf⟩ := DataW.trod_struct Try.underlying40 h'
  have f0 : DataW.trod enc Try.prog W 0 sp true n 3 ((cs.toList.drop 0).take (Try.prog.cellsOf 3)) = ys[0]? := hf 0 _ rfl
  have f1 : DataW.trod enc Try.prog W 0 sp true n 3 ((cs.toList.drop 1).take (Try.prog.cellsOf 3)) = ys[1]? := hf 1 _ rfl
  have f2 : DataW.trod enc Try.prog W 0 sp true n 37 ((cs.toList.drop 2).take (Try.prog.cellsOf 37)) = ys[2]? := hf 2 _ rfl
  have f3 : DataW.trod enc Try.prog W 0 sp true n 38 ((cs.toList.drop 14).take (Try.prog.cellsOf 38)) = ys[3]? := hf 3 _ rfl
  have hy4 : ys.length = 4 := hyl
  rw [Try.cellsInt] at f0 f1
  rw [Try.cellsA12] at f2
  rw [Try.cellsRAttrs] at f3
  clear hf hyl hv h h'
  obtain ⟨l⟩ := cs
  have hl : l.length = 15 := by simpa using hsz
  match l, hl with
  | [c0, c1, b0, b1, b2, b3, b4, b5, b6, b7, b8, b9, b10, b11, s], _ =>
    match ys, hy4 with
    | [y0, y1, y2, y3], _ =>
      simp only [List.drop_zero, List.take_succ_cons, List.take_zero, List.drop_succ_cons, List.getElem?_cons_zero, List.getElem?_cons_succ] at f0 f1 f2 f3
      obtain ⟨cl, e0, _, _⟩ := DataW.trod_int Try.underlying3 f0
      obtain ⟨me, e1, _, _⟩ := DataW.trod_int Try.underlying3 f1
      obtain rfl : c0 = .int .i64 cl := by simpa using e0
      obtain rfl : c1 = .int .i64 me := by simpa using e1
      have hbs : ∀ i, i < 12 → ∃ n : Int, [b0, b1, b2, b3, b4, b5, b6, b7, b8, b9, b10, b11][i]? = some (.int .u8 n) ∧ 0 ≤ n ∧ n < 256 := by
        obtain ⟨xs, m, _, _, _, hxl, hat⟩ := DataW.trod_array Try.underlying37 f2
        intro i hi
        have h1 := hat i hi
        rw [Try.cellsByte, Nat.mul_one] at h1
        have hi' : i < [b0, b1, b2, b3, b4, b5, b6, b7, b8, b9, b10, b11].length := hi
        have h2 : ([b0, b1, b2, b3, b4, b5, b6, b7, b8, b9, b10, b11].drop i).take 1 = [[b0, b1, b2, b3, b4, b5, b6, b7, b8, b9, b10, b11][i]] := by
          rw [List.drop_eq_getElem_cons hi']
          rfl
        rw [h2, List.getElem?_eq_getElem (by omega)] at h1
        obtain ⟨k, e2, _, e4⟩ := DataW.trod_int Try.underlying5 h1
        refine ⟨k, ?_, ?_⟩
        · rw [List.getElem?_eq_getElem hi']
          simpa using e2
        · simp [Lit.wf, IntKind.min, IntKind.max, IntKind.signed, IntKind.bits] at e4
          omega
      obtain ⟨f, hff⟩ := choose_at hbs
      have hid : [b0, b1, b2, b3, b4, b5, b6, b7, b8, b9, b10, b11] = ((List.range 12).map f).map (Value.int .u8) := by
        apply List.ext_getElem?
        intro i
        by_cases hi : i < 12
        · rw [(hff i hi).1]
          simp [hi]
        · rw [List.getElem?_eq_none (by simp; omega), List.getElem?_eq_none (by simp; omega)]
      have hs : ∃ A n' c, s = .slice A n' c := by
        rcases open_slice Try.underlying38 f3 with ⟨e, _⟩ | ⟨a, l', c', _, _, _, _, e, _⟩
        · exact ⟨_, _, _, by simpa using e⟩
        · exact ⟨_, _, _, by simpa using e⟩
      obtain ⟨A, n', c, rfl⟩ := hs
      obtain ⟨L, hL, h1, h2, h3, h4, h5, h6, h7, h8⟩ := open_attrs f3 (fun k hk => hw k (by
        rw [hx]
        simp only [DataW.weights, Try.underlying40]
        exact DataW.weights_mem_each (j := 3) rfl rfl k hk))
      subst hL
      refine ⟨_, ⟨cl, me, (List.range 12).map f, L⟩, A, c, rfl, ⟨?_, by simp, h1, h2, h3, h4⟩, ⟨by simp, ?_, h5, h6⟩, h8, h7⟩
      · show #[Value.int .i64 cl, .int .i64 me, b0, b1, b2, b3, b4, b5, b6, b7, b8, b9, b10, b11, .slice A L.length c] = mv cl me ((List.range 12).map f) (.slice A L.length c)
        unfold mv
        rw [← hid]
        rfl
      · intro i
        by_cases hi : i < 12
        · have : ((List.range 12).map f).getD i 0 = f i := by simp [List.getD, hi]
          show 0 ≤ ((List.range 12).map f).getD i 0 ∧ ((List.range 12).map f).getD i 0 < 256
          rw [this]
          exact (hff i hi).2
        · have : ((List.range 12).map f).getD i 0 = 0 := by simp [List.getD, hi]
          show 0 ≤ ((List.range 12).map f).getD i 0 ∧ ((List.range 12).map f).getD i 0 < 256
          rw [this]
          omega
end
end Go.Proofs.Yteloaidnfcmadaa

namespace Go.Proofs.Yteloaidnfcmadaa
open Go.RowKit Go.ChangeShapes Go.WideShapes Go.ChangeAt Go.Deep
set_option linter.unusedVariables false

section
variable {H : Type} {enc : TypeId × Value → H} {W : World} {base : Nat} {sp : Nat → Bool} {held : Bool}
theorem Try.cellsU32 : Try.prog.cellsOf 30 = 1 := by kernel_rfl
theorem Try.cellsU16 : Try.prog.cellsOf 31 = 1 := by kernel_rfl
theorem Try.cellsAddr : Try.prog.cellsOf 33 = 2 := by kernel_rfl
set_option maxRecDepth 100000 in
theorem open_addr {fuel : Nat} {v : Value} {x : DataW H × List MemPlace} (hv : Value.okWide Try.prog W .any base 33 v) (h : DataW.trod enc Try.prog W 0 sp true fuel 33 v.cells.toList = some x) :
    ∃ ip po : Int, v = .agg #[.int .u32 ip, .int .u16 po] ∧ (Lit.int .u32 ip).wf = true ∧ (Lit.int .u16 po).wf = true := by
  obtain ⟨cs, rfl, hsz⟩ := okWide_struct Try.underlying33 hv
  rw [Try.cellsAddr] at hsz
  have h' : DataW.trod enc Try.prog W 0 sp true fuel 33 cs.toList = some x := h
  obtain ⟨ys, n, _, hx, _, hyl, hf⟩ := DataW.trod_struct Try.underlying33 h'
  have f0 : DataW.trod enc Try.prog W 0 sp true n 30 ((cs.toList.drop 0).take (Try.prog.cellsOf 30)) = ys[0]? := hf 0 _ rfl
  have f1 : DataW.trod enc Try.prog W 0 sp true n 31 ((cs.toList.drop 1).take (Try.prog.cellsOf 31)) = ys[1]? := hf 1 _ rfl
  have hy2 : ys.length = 2 := hyl
  rw [Try.cellsU32] at f0
  rw [Try.cellsU16] at f1
  clear hf hyl hv h h'
  obtain ⟨l⟩ := cs
  have hl : l.length = 2 := by simpa using hsz
  match l, hl with
  | [c0, c1], _ =>
    match ys, hy2 with
    | [y0, y1], _ =>
      simp only [List.drop_zero, List.take_succ_cons, List.take_zero, List.drop_succ_cons, List.getElem?_cons_zero, List.getElem?_cons_succ] at f0 f1
      obtain ⟨ip, e0, _, w0⟩ := DataW.trod_int Try.underlying30 f0
      obtain ⟨po, e1, _, w1⟩ := DataW.trod_int Try.underlying31 f1
      obtain rfl : c0 = .int .u32 ip := by simpa using e0
      obtain rfl : c1 = .int .u16 po := by simpa using e1
      exact ⟨ip, po, rfl, w0, w1⟩
end
end Go.Proofs.Yteloaidnfcmadaa

namespace Go.Proofs.Yteloaidnfcmadaa
open Go.RowKit Go.ChangeShapes Go.WideShapes Go.ChangeAt Go.Deep
set_option linter.unusedVariables false

theorem Try.bytesU16 : Try.prog.bytesOf 31 = 2 := by kernel_rfl
theorem Try.cellsI64 : Try.prog.cellsOf 2 = 1 := by kernel_rfl
theorem Try.cellsStr : Try.prog.cellsOf 9 = 1 := by kernel_rfl
theorem Try.cellsBool : Try.prog.cellsOf 4 = 1 := by kernel_rfl
theorem Try.cellsU16s : Try.prog.cellsOf 34 = 1 := by kernel_rfl
theorem Try.cellsBytes : Try.prog.cellsOf 22 = 1 := by kernel_rfl
theorem Try.cellsCheck5 : Try.prog.cellsOf 36 = 14 := by kernel_rfl


section
variable {H : Type} {enc : TypeId × Value → H} {W : World} {base : Nat} {sp : Nat → Bool} {held : Bool}
theorem open_str {fuel : Nat} {v : Value} {x : DataW H × List MemPlace} (h : DataW.trod enc Try.prog W base sp held fuel 9 [v] = some x) (hw : ∀ n ∈ x.1.weights Try.prog 9, n ≤ 140737488351232) :
    ∃ s : ByteArray, v = .string s ∧ s.size ≤ 140737488351232 := by
  obtain ⟨s, e, hx, _⟩ := DataW.trod_string Try.underlying9 h
  refine ⟨s, by simpa using e, ?_⟩
  have := hw s.data.toList.length (by rw [hx]; simp [DataW.weights])
  rw [Array.length_toList] at this
  exact this
theorem open_u16s {fuel : Nat} {v : Value} {x : DataW H × List MemPlace} (h : DataW.trod enc Try.prog W base sp held fuel 34 [v] = some x) (hw : ∀ n ∈ x.1.weights Try.prog 34, n ≤ 140737488351232) :
    ∃ A n c us, v = .slice A n c ∧ Hs W W.heap.size A n us ∧ (∀ i, 0 ≤ us.getD i 0 ∧ us.getD i 0 < 65536) ∧ n ≤ 140737488351232 := by
  rcases open_ints Try.underlying34 Try.underlying31 (by kernel_rfl) h with ⟨hcs, _⟩ | ⟨a, l, c, zs, hcs, _, hl, hm, hz, hx, hcell, hwz⟩
  · simp at hcs
    subst hcs
    exact ⟨none, 0, 0, [], rfl, ⟨rfl, fun hn => by omega⟩, fun i => by simp, by omega⟩
  · simp at hcs
    subst hcs
    have hlz : l ≤ zs.length := by rw [hz]; split <;> omega
    refine ⟨some a, l, c, zs.take l, rfl, ⟨by rw [List.length_take]; omega, fun hn => ⟨a, rfl, ?_, fun i hi => ?_⟩⟩, fun i => ?_, ?_⟩
    · have := block_lt_of_cell (hcell 0 (by omega))
      rwa [add_block] at this
    · rw [hcell i (by omega)]
      simp [List.getD, hi]
    · by_cases hi : i < l ∧ i < zs.length
      · have hmm := hwz zs[i] (List.getElem_mem hi.2)
        have e : (zs.take l).getD i 0 = zs[i] := by simp [List.getD, hi.1, hi.2]
        rw [e]
        simp [Lit.wf, IntKind.min, IntKind.max, IntKind.signed, IntKind.bits] at hmm
        omega
      · have e : (zs.take l).getD i 0 = 0 := by
          simp only [List.getD]
          rw [List.getElem?_eq_none (by rw [List.length_take]; omega)]
          rfl
        rw [e]
        omega
    · have := hw (zs.length * Try.prog.bytesOf 31) (by
        rw [hx]
        simp only [DataW.weights, Try.underlying34, List.mem_cons]
        refine .inl ?_
        congr 1
        simp [lits]
        omega)
      rw [Try.bytesU16] at this
      omega

set_option maxHeartbeats 1600000 in
set_option maxRecDepth 100000 in
theorem open_checks {fuel : Nat} {A : Option Addr} {n c : Nat} {x : DataW H × List MemPlace} (h : DataW.trod enc Try.prog W base sp held fuel 26 [.slice A n c] = some x) (hw : ∀ k ∈ x.1.weights Try.prog 26, k ≤ 140737488351232) : ChksIn W A n := by
  rcases open_slice Try.underlying26 h with ⟨hcs, _⟩ | ⟨ad, l, cap, m, fl, D, Pl, hcs, _, hl, hm, hmm, hx, hi⟩
  · simp at hcs
    obtain ⟨rfl, rfl, rfl⟩ := hcs
    exact fun i hi => by omega
  · simp at hcs
    obtain ⟨rfl, rfl, rfl⟩ := hcs
    have hlm : n ≤ m := by rw [hmm]; split <;> omega
    intro i hin
    obtain ⟨cs', hc, ht'⟩ := hi i (by omega)
    rw [Try.cellsCheck5] at hc
    obtain ⟨ys, n', _, hD, _, hyl, hf⟩ := DataW.trod_struct Try.underlying36 ht'
    obtain ⟨_, hcl, hat⟩ := World.cells?_some hc
    have f0 : DataW.trod enc Try.prog W base sp held n' 33 ((cs'.drop 0).take (Try.prog.cellsOf 33)) = ys[0]? := hf 0 _ rfl
    have f1 : DataW.trod enc Try.prog W base sp held n' 2 ((cs'.drop 2).take (Try.prog.cellsOf 2)) = ys[1]? := hf 1 _ rfl
    have f2 : DataW.trod enc Try.prog W base sp held n' 9 ((cs'.drop 3).take (Try.prog.cellsOf 9)) = ys[2]? := hf 2 _ rfl
    have f3 : DataW.trod enc Try.prog W base sp held n' 9 ((cs'.drop 4).take (Try.prog.cellsOf 9)) = ys[3]? := hf 3 _ rfl
    have f4 : DataW.trod enc Try.prog W base sp held n' 3 ((cs'.drop 5).take (Try.prog.cellsOf 3)) = ys[4]? := hf 4 _ rfl
    have f5 : DataW.trod enc Try.prog W base sp held n' 3 ((cs'.drop 6).take (Try.prog.cellsOf 3)) = ys[5]? := hf 5 _ rfl
    have f6 : DataW.trod enc Try.prog W base sp held n' 4 ((cs'.drop 7).take (Try.prog.cellsOf 4)) = ys[6]? := hf 6 _ rfl
    have f7 : DataW.trod enc Try.prog W base sp held n' 4 ((cs'.drop 8).take (Try.prog.cellsOf 4)) = ys[7]? := hf 7 _ rfl
    have f8 : DataW.trod enc Try.prog W base sp held n' 34 ((cs'.drop 9).take (Try.prog.cellsOf 34)) = ys[8]? := hf 8 _ rfl
    have f9 : DataW.trod enc Try.prog W base sp held n' 3 ((cs'.drop 10).take (Try.prog.cellsOf 3)) = ys[9]? := hf 9 _ rfl
    have f10 : DataW.trod enc Try.prog W base sp held n' 5 ((cs'.drop 11).take (Try.prog.cellsOf 5)) = ys[10]? := hf 10 _ rfl
    have f11 : DataW.trod enc Try.prog W base sp held n' 4 ((cs'.drop 12).take (Try.prog.cellsOf 4)) = ys[11]? := hf 11 _ rfl
    have f12 : DataW.trod enc Try.prog W base sp held n' 22 ((cs'.drop 13).take (Try.prog.cellsOf 22)) = ys[12]? := hf 12 _ rfl
    have hy13 : ys.length = 13 := hyl
    rw [Try.cellsAddr] at f0
    rw [Try.cellsI64] at f1
    rw [Try.cellsStr] at f2
    rw [Try.cellsStr] at f3
    rw [Try.cellsInt] at f4
    rw [Try.cellsInt] at f5
    rw [Try.cellsBool] at f6
    rw [Try.cellsBool] at f7
    rw [Try.cellsU16s] at f8
    rw [Try.cellsInt] at f9
    rw [Try.cellsByte] at f10
    rw [Try.cellsBool] at f11
    rw [Try.cellsBytes] at f12
    clear hf hyl hc ht'
    have hwi : ∀ k ∈ (D i).weights Try.prog 36, k ≤ 140737488351232 := fun k hk => hw k (by
      rw [hx]
      simp only [DataW.weights, Try.underlying26, List.mem_cons, List.mem_append]
      exact .inr (.inl (weights_mem_all (d := D i) (List.mem_map.2 ⟨i, List.mem_range.2 hin, rfl⟩) k hk)))
    have hD' : D i = .agg (ys.map (·.1)) := by simpa using congrArg Prod.fst hD
    obtain ⟨y0, g0⟩ : ∃ y, ys[0]? = some y := ⟨_, List.getElem?_eq_getElem (by omega)⟩
    rw [g0] at f0
    obtain ⟨y1, g1⟩ : ∃ y, ys[1]? = some y := ⟨_, List.getElem?_eq_getElem (by omega)⟩
    rw [g1] at f1
    obtain ⟨y2, g2⟩ : ∃ y, ys[2]? = some y := ⟨_, List.getElem?_eq_getElem (by omega)⟩
    rw [g2] at f2
    obtain ⟨y3, g3⟩ : ∃ y, ys[3]? = some y := ⟨_, List.getElem?_eq_getElem (by omega)⟩
    rw [g3] at f3
    obtain ⟨y4, g4⟩ : ∃ y, ys[4]? = some y := ⟨_, List.getElem?_eq_getElem (by omega)⟩
    rw [g4] at f4
    obtain ⟨y5, g5⟩ : ∃ y, ys[5]? = some y := ⟨_, List.getElem?_eq_getElem (by omega)⟩
    rw [g5] at f5
    obtain ⟨y6, g6⟩ : ∃ y, ys[6]? = some y := ⟨_, List.getElem?_eq_getElem (by omega)⟩
    rw [g6] at f6
    obtain ⟨y7, g7⟩ : ∃ y, ys[7]? = some y := ⟨_, List.getElem?_eq_getElem (by omega)⟩
    rw [g7] at f7
    obtain ⟨y8, g8⟩ : ∃ y, ys[8]? = some y := ⟨_, List.getElem?_eq_getElem (by omega)⟩
    rw [g8] at f8
    obtain ⟨y9, g9⟩ : ∃ y, ys[9]? = some y := ⟨_, List.getElem?_eq_getElem (by omega)⟩
    rw [g9] at f9
    obtain ⟨y10, g10⟩ : ∃ y, ys[10]? = some y := ⟨_, List.getElem?_eq_getElem (by omega)⟩
    rw [g10] at f10
    obtain ⟨y11, g11⟩ : ∃ y, ys[11]? = some y := ⟨_, List.getElem?_eq_getElem (by omega)⟩
    rw [g11] at f11
    obtain ⟨y12, g12⟩ : ∃ y, ys[12]? = some y := ⟨_, List.getElem?_eq_getElem (by omega)⟩
    rw [g12] at f12
    have hw2 : ∀ k ∈ y2.1.weights Try.prog 9, k ≤ 140737488351232 := fun k hk => hwi k (by
      rw [hD']
      simp only [DataW.weights, Try.underlying36]
      exact DataW.weights_mem_each (j := 2) rfl (by rw [List.getElem?_map, g2]; rfl) k hk)
    have hw3 : ∀ k ∈ y3.1.weights Try.prog 9, k ≤ 140737488351232 := fun k hk => hwi k (by
      rw [hD']
      simp only [DataW.weights, Try.underlying36]
      exact DataW.weights_mem_each (j := 3) rfl (by rw [List.getElem?_map, g3]; rfl) k hk)
    have hw8 : ∀ k ∈ y8.1.weights Try.prog 34, k ≤ 140737488351232 := fun k hk => hwi k (by
      rw [hD']
      simp only [DataW.weights, Try.underlying36]
      exact DataW.weights_mem_each (j := 8) rfl (by rw [List.getElem?_map, g8]; rfl) k hk)
    have hw12 : ∀ k ∈ y12.1.weights Try.prog 22, k ≤ 140737488351232 := fun k hk => hwi k (by
      rw [hD']
      simp only [DataW.weights, Try.underlying36]
      exact DataW.weights_mem_each (j := 12) rfl (by rw [List.getElem?_map, g12]; rfl) k hk)
    match cs', hcl with
    | [c0, c1, c2, c3, c4, c5, c6, c7, c8, c9, c10, c11, c12, c13], _ =>
        simp only [List.drop_zero, List.take_succ_cons, List.take_zero, List.drop_succ_cons] at f0 f1 f2 f3 f4 f5 f6 f7 f8 f9 f10 f11 f12
        obtain ⟨zs, nz, _, _, _, hzl, hzf⟩ := DataW.trod_struct Try.underlying33 f0
        have z0 : DataW.trod enc Try.prog W base sp held nz 30 (([c0, c1].drop 0).take (Try.prog.cellsOf 30)) = zs[0]? := hzf 0 _ rfl
        have z1 : DataW.trod enc Try.prog W base sp held nz 31 (([c0, c1].drop 1).take (Try.prog.cellsOf 31)) = zs[1]? := hzf 1 _ rfl
        rw [Try.cellsU32] at z0
        rw [Try.cellsU16] at z1
        have hz2 : zs.length = 2 := hzl
        obtain ⟨q0, r0⟩ : ∃ y, zs[0]? = some y := ⟨_, List.getElem?_eq_getElem (by omega)⟩
        obtain ⟨q1, r1⟩ : ∃ y, zs[1]? = some y := ⟨_, List.getElem?_eq_getElem (by omega)⟩
        rw [r0] at z0
        rw [r1] at z1
        · simp only [List.drop_zero, List.take_succ_cons, List.take_zero, List.drop_succ_cons] at z0 z1
          obtain ⟨ip, e0, _, _⟩ := DataW.trod_int Try.underlying30 z0
          obtain ⟨po, e1, _, _⟩ := DataW.trod_int Try.underlying31 z1
          obtain ⟨now, e2, _, wn⟩ := DataW.trod_int Try.underlying2 f1
          obtain ⟨us, rfl, su⟩ := open_str f2 hw2
          obtain ⟨ke, rfl, sk⟩ := open_str f3 hw3
          obtain ⟨cl, e5, _, _⟩ := DataW.trod_int Try.underlying3 f4
          obtain ⟨me, e6, _, _⟩ := DataW.trod_int Try.underlying3 f5
          obtain ⟨pr, e7, _⟩ := DataW.trod_bool Try.underlying4 f6
          obtain ⟨ca, e8, _⟩ := DataW.trod_bool Try.underlying4 f7
          obtain ⟨Am, nm, cm, mu, rfl, hs, hu, hnl⟩ := open_u16s f8 hw8
          obtain ⟨at_, e10, _, _⟩ := DataW.trod_int Try.underlying3 f9
          obtain ⟨by_, e11, _, _⟩ := DataW.trod_int Try.underlying5 f10
          obtain ⟨pl, e12, _⟩ := DataW.trod_bool Try.underlying4 f11
          obtain ⟨rs, hv, hr, hrl⟩ := open_bytes f12 hw12
          simp only [List.cons.injEq, and_true] at e0 e1 e2 e5 e6 e7 e8 e10 e11 e12
          subst e0 e1 e2 e5 e6 e7 e8 e10 e11 e12
          have hcell : ∀ j, j < 14 → W.cell? ((ad.add (i * 14)).add j) = (chkc ⟨ip, po, now, us, ke, cl, me, pr, ca, at_, by_, pl⟩ (.slice Am nm cm) c13)[j]? := fun j hj => by
            have h14 := hat j hj
            rw [h14]
            simp [chkc]
          refine ⟨ad, ⟨ip, po, now, us, ke, cl, me, pr, ca, at_, by_, pl⟩, Am, nm, cm, mu, c13, rs, rfl, ?_, ⟨hcell 0 (by omega), fun j h0 h1 => ?_⟩, ⟨hs, hu, hnl, hv, hr, hrl, su, sk, ?_⟩⟩
          · have h0 := hcell 0 (by omega)
            have := block_lt_of_cell (h0.trans (by rfl : _ = some (Value.int .u32 ip)))
            rwa [add_block, add_block] at this
          · rw [← hcell j h1]
            congr 1
            have := add_next (ad.add (i * 14)) 0 j (by omega)
            rw [Nat.zero_add] at this
            exact this.symm
          · simp [Lit.wf, IntKind.min, IntKind.max, IntKind.signed, IntKind.bits] at wn
            show now < 9223372036854775808
            omega
end
end Go.Proofs.Yteloaidnfcmadaa
