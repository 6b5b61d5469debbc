/- A packet that came in by value, opened. -/
import Derived.Test.YtapbodiakkdfmaaRpX
namespace Go.Proofs.Ytapbodiakkdfmaa
open Go.RowKit Go.ChangeShapes Go.WideShapes Go.ChangeAt Go.Deep
set_option linter.unusedVariables false
set_option linter.unusedSimpArgs false

/-- Numbers of 32 bits lie from A on, below B. -/
def U32s (w : World) (B : Nat) (A : Option Addr) (us : List Int) : Prop :=
  0 < us.length → ∃ ad, A = some ad ∧ ad.block < B ∧ ∀ i, i < us.length → w.cell? (ad.add i) = some (.int .u32 (us.getD i 0))
theorem U32s.below {w w' : World} {B : Nat} {A : Option Addr} {us : List Int} (h : U32s w B A us) (hb : Below B w w') : U32s w' B A us := fun hn => by
  obtain ⟨ad, h1, h2, h3⟩ := h hn
  exact ⟨ad, h1, h2, fun i hi => (hb.cell (p := ad.add i) (by rw [add_block]; exact h2)).trans (h3 i hi)⟩

/-- A packet, and where its slices lie. -/
structure PkX where
  mr : Bool
  ty : Int
  sq : Int
  ti : Int
  so : Int
  pad : Int
  us : List Int
  xs : List At
  ys : List Int
  A5 : Option Addr
  A6 : Option Addr
  A7 : Option Addr
  c5 : Nat
  c6 : Nat
  c7 : Nat

/-- A packet that came in. -/
structure InPk (W : World) (M : Array Value) (X : PkX) : Prop where
  form : M = pk X.mr X.ty X.sq X.ti X.so (.slice X.A5 X.us.length X.c5) (.slice X.A6 X.xs.length X.c6) (.slice X.A7 X.ys.length X.c7) X.pad
  us : U32s W W.heap.size X.A5 X.us
  fits5 : X.us.length ≤ X.c5
  most5 : X.c5 ≤ maxLen
  none5 : X.A5 = none → X.c5 = 0
  len5 : X.us.length ≤ 35184372087808
  xs : AtX W W.heap.size X.A6 X.xs
  fits6 : X.xs.length ≤ X.c6
  most6 : X.c6 ≤ maxLen
  none6 : X.A6 = none → X.c6 = 0
  len6 : X.xs.length ≤ 4398046511102
  vals6 : ∀ a ∈ X.xs, a.val.length ≤ 140737488351232
  byt6 : ∀ a ∈ X.xs, ∀ i, 0 ≤ a.val.getD i 0 ∧ a.val.getD i 0 < 256
  ys : V8 W W.heap.size (.slice X.A7 X.ys.length X.c7) X.ys
  len7 : X.ys.length ≤ 140737488351232

section
variable {H : Type} {enc : TypeId × Value → H} {W : World} {base : Nat} {sp : Nat → Bool} {held : Bool}
theorem open_u32s {fuel : Nat} {v : Value} {x : DataW H × List MemPlace} (h : DataW.trod enc Try.prog W base sp held fuel 25 [v] = some x) (hw : ∀ n ∈ x.1.weights Try.prog 25, n ≤ 140737488351232) :
    ∃ A c us, v = .slice A us.length c ∧ U32s W W.heap.size A us ∧ us.length ≤ c ∧ c ≤ maxLen ∧ (A = none → c = 0) ∧ us.length ≤ 35184372087808 := by
  rcases open_ints Try.underlying25 Try.underlying24 (by kernel_rfl) h with ⟨hcs, _⟩ | ⟨a, l, c, zs, hcs, _, hl, hm, hz, hx, hcell, hwz⟩
  · simp at hcs
    subst hcs
    exact ⟨none, 0, [], rfl, fun hn => by simp at hn, Nat.le_refl _, Nat.zero_le _, fun _ => rfl, by simp⟩
  · simp at hcs
    subst hcs
    have hlz : l ≤ zs.length := by rw [hz]; split <;> omega
    have e : (zs.take l).length = l := by rw [List.length_take]; omega
    refine ⟨some a, c, zs.take l, by rw [e], fun hn => ⟨a, rfl, ?_, fun i hi => ?_⟩, by omega, hm, (fun e => by cases e), ?_⟩
    · have := block_lt_of_cell (hcell 0 (by omega))
      rwa [add_block] at this
    · rw [hcell i (by omega)]
      simp [List.getD, show i < l by omega]
    · have := hw (zs.length * Try.prog.bytesOf 24) (by
        rw [hx]
        simp only [DataW.weights, Try.underlying25, List.mem_cons]
        refine .inl ?_
        congr 1
        simp [lits]
        omega)
      rw [Try.bytesU32] at this
      omega

theorem Try.cellsA : Try.prog.cellsOf 4 = 1 ∧ Try.prog.cellsOf 3 = 1 ∧ Try.prog.cellsOf 23 = 1 ∧ Try.prog.cellsOf 24 = 1 ∧ Try.prog.cellsOf 25 = 1 ∧ Try.prog.cellsOf 26 = 1 ∧ Try.prog.cellsOf 22 = 1 := ⟨by kernel_rfl, by kernel_rfl, by kernel_rfl, by kernel_rfl, by kernel_rfl, by kernel_rfl, by kernel_rfl⟩

set_option maxHeartbeats 800000 in
set_option maxRecDepth 100000 in
theorem open_pk {fuel : Nat} {v : Value} {x : DataW H × List MemPlace} (hv : Value.okWide Try.prog W .any base 28 v) (h : DataW.trod enc Try.prog W 0 sp true fuel 28 v.cells.toList = some x) (hw : ∀ n ∈ x.1.weights Try.prog 28, n ≤ 140737488351232) :
    ∃ M X, v = .agg M ∧ InPk W M X := by
  obtain ⟨cs, rfl, hsz⟩ := okWide_struct Try.underlying28 hv
  rw [Try.cellsPk] at hsz
  have h' : DataW.trod enc Try.prog W 0 sp true fuel 28 cs.toList = some x := h
  obtain ⟨ys, n, _, hx, _, hyl, hf⟩ := DataW.trod_struct Try.underlying28 h'
  obtain ⟨k0, k1, k2, k3, k5, k6, k7⟩ := Try.cellsA
  have f0 : DataW.trod enc Try.prog W 0 sp true n 4 ((cs.toList.drop 0).take (Try.prog.cellsOf 4)) = ys[0]? := hf 0 _ rfl
  have f1 : DataW.trod enc Try.prog W 0 sp true n 3 ((cs.toList.drop 1).take (Try.prog.cellsOf 3)) = ys[1]? := hf 1 _ rfl
  have f2 : DataW.trod enc Try.prog W 0 sp true n 23 ((cs.toList.drop 2).take (Try.prog.cellsOf 23)) = ys[2]? := hf 2 _ rfl
  have f3 : DataW.trod enc Try.prog W 0 sp true n 24 ((cs.toList.drop 3).take (Try.prog.cellsOf 24)) = ys[3]? := hf 3 _ rfl
  have f4 : DataW.trod enc Try.prog W 0 sp true n 24 ((cs.toList.drop 4).take (Try.prog.cellsOf 24)) = ys[4]? := hf 4 _ rfl
  have f5 : DataW.trod enc Try.prog W 0 sp true n 25 ((cs.toList.drop 5).take (Try.prog.cellsOf 25)) = ys[5]? := hf 5 _ rfl
  have f6 : DataW.trod enc Try.prog W 0 sp true n 26 ((cs.toList.drop 6).take (Try.prog.cellsOf 26)) = ys[6]? := hf 6 _ rfl
  have f7 : DataW.trod enc Try.prog W 0 sp true n 22 ((cs.toList.drop 7).take (Try.prog.cellsOf 22)) = ys[7]? := hf 7 _ rfl
  have f8 : DataW.trod enc Try.prog W 0 sp true n 3 ((cs.toList.drop 8).take (Try.prog.cellsOf 3)) = ys[8]? := hf 8 _ rfl
  have hy9 : ys.length = 9 := hyl
  rw [k0] at f0
  rw [k1] at f1 f8
  rw [k2] at f2
  rw [k3] at f3 f4
  rw [k5] at f5
  rw [k6] at f6
  rw [k7] at f7
  clear hf hyl hv h h'
  obtain ⟨l⟩ := cs
  have hl : l.length = 9 := by simpa using hsz
  match l, hl with
  | [c0, c1, c2, c3, c4, c5, c6, c7, c8], _ =>
    match ys, hy9 with
    | [y0, y1, y2, y3, y4, y5, y6, y7, y8], _ =>
      simp only [List.drop_zero, List.take_succ_cons, List.take_zero, List.drop_succ_cons, List.getElem?_cons_zero, List.getElem?_cons_succ] at f0 f1 f2 f3 f4 f5 f6 f7 f8
      have hw5 : ∀ k ∈ y5.1.weights Try.prog 25, k ≤ 140737488351232 := fun k hk => hw k (by rw [hx]; simp only [DataW.weights, Try.underlying28]; exact DataW.weights_mem_each (j := 5) rfl rfl k hk)
      have hw6 : ∀ k ∈ y6.1.weights Try.prog 26, k ≤ 140737488351232 := fun k hk => hw k (by rw [hx]; simp only [DataW.weights, Try.underlying28]; exact DataW.weights_mem_each (j := 6) rfl rfl k hk)
      have hw7 : ∀ k ∈ y7.1.weights Try.prog 22, k ≤ 140737488351232 := fun k hk => hw k (by rw [hx]; simp only [DataW.weights, Try.underlying28]; exact DataW.weights_mem_each (j := 7) rfl rfl k hk)
      obtain ⟨b, e0, _⟩ := DataW.trod_bool Try.underlying4 f0
      obtain ⟨ty, e1, _, _⟩ := DataW.trod_int Try.underlying3 f1
      obtain ⟨sq, e2, _, _⟩ := DataW.trod_int Try.underlying23 f2
      obtain ⟨ti, e3, _, _⟩ := DataW.trod_int Try.underlying24 f3
      obtain ⟨so, e4, _, _⟩ := DataW.trod_int Try.underlying24 f4
      obtain ⟨pad, e8, _, _⟩ := DataW.trod_int Try.underlying3 f8
      obtain rfl : c0 = .bool b := by simpa using e0
      obtain rfl : c1 = .int .i64 ty := by simpa using e1
      obtain rfl : c2 = .int .u16 sq := by simpa using e2
      obtain rfl : c3 = .int .u32 ti := by simpa using e3
      obtain rfl : c4 = .int .u32 so := by simpa using e4
      obtain rfl : c8 = .int .i64 pad := by simpa using e8
      obtain ⟨A5, c5', us, rfl, g1, g2, g3, g4, g5⟩ := open_u32s f5 hw5
      obtain ⟨vs7, v7, r7, l7⟩ := open_bytes f7 hw7
      obtain ⟨A7, c7', rfl, p2, p3, p4, p5⟩ := v7
      obtain ⟨A6, n6, c6', rfl⟩ : ∃ A n c, c6 = .slice A n c := by
        rcases open_slice_fields Try.underlying26 Try.underlying50 (by kernel_rfl) (by kernel_rfl) f6 with ⟨hcs, _⟩ | ⟨ad, l, cap, m, D, Pl, hcs, _⟩
        · simp at hcs; exact ⟨none, 0, 0, hcs⟩
        · simp at hcs; exact ⟨_, _, _, hcs⟩
      obtain ⟨L, q0, q1, q2, q3, q4, _, q6, q7, q8⟩ := open_exts12 f6 hw6
      subst q0
      exact ⟨_, ⟨b, ty, sq, ti, so, pad, us, L, vs7, A5, A6, A7, c5', c6', c7'⟩, rfl, rfl, g1, g2, g3, g4, g5, q4, q1, q2, q3, q8, q7, q6, ⟨A7, c7', rfl, p2, p3, p4, p5⟩, l7⟩
end
end Go.Proofs.Ytapbodiakkdfmaa
