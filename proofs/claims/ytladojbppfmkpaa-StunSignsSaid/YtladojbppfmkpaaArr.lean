/- Arrays of numbers that the call makes: loaded whole, stored whole, handed back, out of blocks that are known whole. -/
import Derived.Test.YtladojbppfmkpaaTools
namespace Go.Proofs.Ytladojbppfmkpaa
open Go.RowKit
set_option linter.unusedVariables false

def arr (k : IntKind) (ws : List Int) : Array Value := (ws.map (Value.int k)).toArray
@[simp] theorem arr_size (k : IntKind) (ws : List Int) : (arr k ws).size = ws.length := by simp [arr]
theorem arr_get {k : IntKind} {ws : List Int} {i : Nat} (h : i < ws.length) : (arr k ws)[i]? = some (.int k (ws.getD i 0)) := by
  simp [arr, List.getD, h]
theorem arr_set (k : IntKind) (ws : List Int) (i : Nat) (x : Int) : (arr k ws).setIfInBounds i (.int k x) = arr k (ws.set i x) := by
  simp [arr]
theorem arr_one (k : IntKind) (ws : List Int) : (arr k ws).all (·.oneCell') = true := by
  rw [Array.all_eq_true_iff_forall_mem]
  intro v hv
  simp [arr] at hv
  obtain ⟨x, _, rfl⟩ := hv
  rfl
theorem arr_toList (k : IntKind) (ws : List Int) : (arr k ws).toList = ws.map (Value.int k) := by simp [arr]

section
variable {w w' : World} {g : Nat} {t : TypeId} {k : IntKind} {ws : List Int}
theorem Whole.at_ (h : Whole w g t (arr k ws)) {i : Nat} (hi : i < ws.length) : w.cell? ⟨g, i, none⟩ = some (.int k (ws.getD i 0)) := (h.cell i).trans (arr_get hi)
theorem Whole.put (h : Whole w g t (arr k ws)) (i : Nat) (x : Int) : Whole (w.setCell ⟨g, i, none⟩ (.int k x)) g t (arr k (ws.set i x)) := by
  have := h.set i (.int k x)
  rwa [arr_set] at this
theorem Whole.new2 (w : World) (o : Obj) (t : TypeId) (cs : Array Value) : Whole ((w.alloc o).alloc (.cells cs t)) (w.heap.size + 1) t cs := by
  have := Whole.new (w.alloc o) t cs
  rw [World.size_alloc] at this
  exact this
/-- A whole array is stored. -/
theorem Whole.row {old : Array Value} (h : Whole w g t old) (cs : Array Value) : Whole (w.setRow g cs) g t cs := setRow_heap w g old cs t (0, 0) h
theorem Whole.farRow {cs : Array Value} (h : Whole w g t cs) {g' : Nat} (hne : g ≠ g') (cs' : Array Value) : Whole (w.setRow g' cs') g t cs := (setRow_other w g' g cs' hne).trans h
theorem below_row {B : Nat} {a w : World} (h : Below B a w) {g : Nat} (hg : B ≤ g) (cs : Array Value) : Below B a (w.setRow g cs) := below_setRow h hg cs
end

/-- Below, where a block of the call's own is stored into whole. -/
theorem two_new {w : World} (t t' : TypeId) (cs cs' : Array Value) : Below w.heap.size w ((w.alloc (.cells cs t)).alloc (.cells cs' t')) := ((Below.refl _ w).alloc (Nat.le_refl _) _).alloc (by simp) _

section
variable {ops : Array Oper} {rest : List Oper} {o : Oper} {a : Act} {w : World} {Q : Exit → Act → World → Prop} {g : Nat} {t ty : TypeId} {cs : Array Value} {n : Nat}
/-- A whole array is loaded. -/
theorem wpList_load_whole (hgd : o.guard = none) (ty : TypeId) (x : Operand) (ho : o.op = .load ty x) (hx : a.eval x = .pointer (some ⟨g, 0, none⟩)) (hg : Whole w g t cs)
    {m : Nat} {e : TypeId} (hu : Try.prog.underlying ty = some (.array m e)) (hi : (Try.prog.info? ty).map (·.size) = some n) (hn : cs.size = n)
    (h : wpList Try.prog ops Q rest (a.put o.dst (.agg cs)) w) : wpList Try.prog ops Q (o :: rest) a w :=
  wpList_load_row hgd ty x ho g hx t cs (0, 0) _ hg hu rfl (by rw [hi, hn]) h
/-- A whole array is stored. -/
theorem wpList_store_whole {old : Array Value} (hgd : o.guard = none) (ty : TypeId) (x y : Operand) (ho : o.op = .store ty x y) (hx : a.eval x = .pointer (some ⟨g, 0, none⟩)) (hy : a.eval y = .agg cs) (hg : Whole w g t old)
    (hi : (Try.prog.info? ty).map (·.size) = some n) (hn : cs.size = n) (hold : old.size = n) (h1 : cs.all (·.oneCell') = true)
    (h : wpList Try.prog ops Q rest (a.put o.dst undef) (w.setRow g cs)) : wpList Try.prog ops Q (o :: rest) a w :=
  wpList_store_row hgd ty x y ho g cs hx hy t old hg (by rw [hi, hn]) (by rw [hn, hold]) h1 h
end

/-- The cells of a block of five numbers, and that they may be written. -/
theorem Whole.five {w : World} {g : Nat} {t : TypeId} {a b c d e : Int} (h : Whole w g t (arr .u32 [a, b, c, d, e])) :
    w.cell? ⟨g, 0, none⟩ = some (.int .u32 a) ∧ w.cell? ⟨g, 1, none⟩ = some (.int .u32 b) ∧ w.cell? ⟨g, 2, none⟩ = some (.int .u32 c) ∧ w.cell? ⟨g, 3, none⟩ = some (.int .u32 d) ∧ w.cell? ⟨g, 4, none⟩ = some (.int .u32 e) ∧
    w.frozen? ⟨g, 0, none⟩ = false ∧ w.frozen? ⟨g, 1, none⟩ = false ∧ w.frozen? ⟨g, 2, none⟩ = false ∧ w.frozen? ⟨g, 3, none⟩ = false ∧ w.frozen? ⟨g, 4, none⟩ = false :=
  ⟨h.cell 0, h.cell 1, h.cell 2, h.cell 3, h.cell 4, h.frz 0, h.frz 1, h.frz 2, h.frz 3, h.frz 4⟩
/-- Five numbers are stored one by one. -/
theorem Whole.put5 {w : World} {g : Nat} {t : TypeId} {a b c d e a' b' c' d' e' : Int} (h : Whole w g t (arr .u32 [a, b, c, d, e])) :
    Whole (((((w.setCell ⟨g, 0, none⟩ (.int .u32 a')).setCell ⟨g, 1, none⟩ (.int .u32 b')).setCell ⟨g, 2, none⟩ (.int .u32 c')).setCell ⟨g, 3, none⟩ (.int .u32 d')).setCell ⟨g, 4, none⟩ (.int .u32 e')) g t (arr .u32 [a', b', c', d', e']) :=
  ((((h.put 0 a').put 1 b').put 2 c').put 3 d').put 4 e'
theorem below_put5 {B : Nat} {a w : World} (h : Below B a w) {g : Nat} (hg : B ≤ g) (u0 u1 u2 u3 u4 : Value) :
    Below B a (((((w.setCell ⟨g, 0, none⟩ u0).setCell ⟨g, 1, none⟩ u1).setCell ⟨g, 2, none⟩ u2).setCell ⟨g, 3, none⟩ u3).setCell ⟨g, 4, none⟩ u4) :=
  ((((h.setCell (p := ⟨g, 0, none⟩) hg _).setCell (p := ⟨g, 1, none⟩) hg _).setCell (p := ⟨g, 2, none⟩) hg _).setCell (p := ⟨g, 3, none⟩) hg _).setCell (p := ⟨g, 4, none⟩) hg _

theorem wp_store_whole {o : Oper} {a : Act} {w : World} {K : Act → World → Prop} {Q : Exit → Act → World → Prop} {g n : Nat} {t : TypeId} {cs old : Array Value} (ty : TypeId) (x y : Operand) (ho : o.op = .store ty x y) (hx : a.eval x = .pointer (some ⟨g, 0, none⟩)) (hy : a.eval y = .agg cs) (hg : Whole w g t old)
    (hi : (Try.prog.info? ty).map (·.size) = some n) (hn : cs.size = n) (hold : old.size = n) (h1 : cs.all (·.oneCell') = true)
    (h : K (a.put o.dst undef) (w.setRow g cs)) : o.wp Try.prog a w K Q :=
  wp_store_row ty x y ho g cs hx hy t old hg (by rw [hi, hn]) (by rw [hn, hold]) h1 h
/-- The same at a step of a region that draws its order. -/
theorem step_store_whole {ops : Array Oper} {o : Oper} {a : Act} {w : World} {K : Act → World → Prop} {Q : Exit → Act → World → Prop} {E : Prop} {g n : Nat} {t : TypeId} {cs old : Array Value} (hgd : o.guard = none) (ty : TypeId) (x y : Operand) (ho : o.op = .store ty x y) (hx : a.eval x = .pointer (some ⟨g, 0, none⟩)) (hy : a.eval y = .agg cs) (hg : Whole w g t old)
    (hi : (Try.prog.info? ty).map (·.size) = some n) (hn : cs.size = n) (hold : old.size = n) (h1 : cs.all (·.oneCell') = true)
    (h : K (a.put o.dst undef) (w.setRow g cs)) : if Region.wanted o (yielded ops a.tmps) = true then Oper.wp Try.prog o a w K Q else E := by
  have hw : Region.wanted o (yielded ops a.tmps) = true := by simp [Region.wanted, hgd]
  rw [if_pos hw]
  exact wp_store_whole ty x y ho hx hy hg hi hn hold h1 h

theorem ret_whole {fn : Func} {p : Tmp} {ty t : TypeId} {cs : Array Value} {n g : Nat} {tmps : Array Value} {w : World} (h : fn.results = #[.cell p ty]) (hp : tmps.getD p undef = .pointer (some ⟨g, 0, none⟩)) (hg : Whole w g t cs)
    {m : Nat} {e : TypeId} (hu : Try.prog.underlying ty = some (.array m e)) (hi : (Try.prog.info? ty).map (·.size) = some n) (hn : cs.size = n) :
    (results fn tmps).run Try.prog w = .ok (.agg cs) w :=
  results_cell_row h tmps w g t cs (0, 0) _ hp hg hu rfl (by rw [hi, hn])

/-- An array's element, by value. -/
theorem run_index_arr {T e : TypeId} {m : Nat} {ik : IntKind} (hu : Try.prog.underlying T = some (.array m e)) (he : Try.prog.underlying e = some (.int ik)) (hz : ∀ w, (sizeOf e).run Try.prog w = .ok 1 w) (w : World) (k : IntKind) (L : List Int) (i : Nat) (hi : i < L.length) (hm : m = L.length) :
    (Instr.index T (.agg (arr k L)) (.int .i64 i)).run Try.prog w = .ok (.int k (L.getD i 0)) w := by
  have h1 := arr_get (k := k) hi
  simp [Instr.index, asIntOf, Sem.run_bind, run_underlying hu, hz, part, run_underlying he, h1, isAgg]
  omega

theorem Try.infoU8 : (Try.prog.info? 5).map (fun i => (i.zero, i.size, i.bytes)) = some (some (.int .u8 0), 1, 1) := by kernel_rfl

set_option maxRecDepth 20000 in
/-- make([]byte, n). -/
theorem make_bytes (n : Nat) (hn : n ≤ 281474976710656) (w : World) : (Instr.makeSlice 27 (.int .i64 n) (.int .i64 n)).run Try.prog w = .ok (.slice (some ⟨w.heap.size, 0, none⟩) n n) (w.alloc (.cells (arr .u8 (List.replicate n 0)) 5)) := by
  obtain ⟨i0, hi, hz0, hz1, hz2⟩ := info_parts Try.infoU8
  have h := run_make (P := Try.prog) w 27 5 i0 (.int .u8 0) Try.underlying27 hi hz0 .i64 .i64 n n (by omega) (by omega) (by rw [hz2]; omega) (by omega)
  rw [h]
  congr 1
  congr 1
  apply congrArg (fun c => Obj.cells c 5)
  rw [hz1]
  apply Array.ext
  · simp [madeCells, arr]
  · intro j h1 h2
    simp [madeCells, arr, Value.cells, Nat.mod_one]

/-- n bytes lie at A, in blocks below B; they are xs. -/
def Bs (w : World) (B : Nat) (A : Option Addr) (n : Nat) (xs : List Int) : Prop :=
  xs.length = n ∧ (0 < n → ∃ ad, A = some ad ∧ ad.block < B ∧ ∀ i, i < n → w.cell? (ad.add i) = some (.int .u8 (xs.getD i 0)))

theorem add_block (a : Addr) (n : Nat) : (a.add n).block = a.block := by unfold Addr.add; split <;> rfl
theorem add_add (a : Addr) (n m : Nat) : (a.add n).add m = a.add (n + m) := by
  unfold Addr.add
  by_cases h0 : n = 0 <;> by_cases h1 : m = 0 <;> simp [h0, h1] <;> omega

section
variable {w w' : World} {B : Nat} {A : Option Addr} {n : Nat} {xs : List Int}
theorem Bs.below (h : Bs w B A n xs) (hb : Below B w w') : Bs w' B A n xs :=
  ⟨h.1, fun hn => by
    obtain ⟨ad, h1, h2, h3⟩ := h.2 hn
    exact ⟨ad, h1, h2, fun i hi => (hb.cell (p := ad.add i) (by rw [add_block]; exact h2)).trans (h3 i hi)⟩⟩
theorem Bs.more {B' : Nat} (h : Bs w B A n xs) (hB : B ≤ B') : Bs w B' A n xs :=
  ⟨h.1, fun hn => by
    obtain ⟨ad, h1, h2, h3⟩ := h.2 hn
    exact ⟨ad, h1, by omega, h3⟩⟩
theorem Bs.cut (h : Bs w B A n xs) {k cap : Nat} (hk : k ≤ n) (hc : n ≤ cap) : Bs w B (if cap = k then A else A.map (·.add k)) (n - k) (xs.drop k) := by
  refine ⟨by rw [List.length_drop, h.1], fun hn => ?_⟩
  obtain ⟨ad, rfl, h2, h3⟩ := h.2 (by omega)
  rw [if_neg (by omega)]
  refine ⟨ad.add k, rfl, by rw [add_block]; exact h2, fun i hi => ?_⟩
  rw [add_add, h3 (k + i) (by omega)]
  simp [List.getD]
theorem Bs.head (h : Bs w B A n xs) {k : Nat} (hk : k ≤ n) : Bs w B A k (xs.take k) :=
  ⟨by rw [List.length_take, h.1]; omega, fun hn => by
    obtain ⟨ad, h1, h2, h3⟩ := h.2 (by omega)
    refine ⟨ad, h1, h2, fun i hi => ?_⟩
    rw [h3 i (by omega)]
    simp [List.getD, hi]⟩
end

/-- A row of bytes in a block that is known whole, from its place off on. -/
theorem Bs.row {w : World} {g : Nat} {t : TypeId} {ys : List Int} (h : Whole w g t (arr .u8 ys)) (off : Nat) (ho : off ≤ ys.length) : Bs w (g + 1) (some ⟨g, off, none⟩) (ys.length - off) (ys.drop off) :=
  ⟨by simp, fun _ => ⟨_, rfl, Nat.lt_succ_self _, fun i hi => by
    rw [Addr.add_lit]
    have := h.at_ (i := off + i) (by omega)
    rw [this]
    simp [List.getD]⟩⟩

theorem Try.sizeByte : (Try.prog.info? 5).map (·.size) = some 1 := by kernel_rfl

theorem splice_map {α β : Type} (f : α → β) (L : List α) (off : Nat) (cs : List α) : splice (L.map f) off (cs.map f) = (splice L off cs).map f := by simp [splice]

/-- copy into a block that is known whole; m is the lesser of the two lengths. -/
theorem wpList_copy_arr {w : World} {ops : Array Oper} {rest : List Oper} {o : Oper} {a : Act} {Q : Exit → Act → World → Prop} (hgd : o.guard = none) (d s : Operand)
    (ho : o.op = .call { callee := .builtin .copy, args := #[d, s], argTypes := #[27, 27] }) {g off dLen dCap sLen sCap : Nat} {sp : Option Addr} (hd : a.eval d = .slice (some ⟨g, off, none⟩) dLen dCap) (hs : a.eval s = .slice sp sLen sCap)
    {t : TypeId} {ys xs : List Int} (hg : Whole w g t (arr .u8 ys)) {B' : Nat} (hsrc : Bs w B' sp sLen xs) (hfit : off + dLen ≤ ys.length) {B : Nat} {w0 : World} (hb : Below B w0 w) (hBg : B ≤ g) {m : Nat} (hm : m = Nat.min sLen dLen)
    (h : ∀ w', Hid (Whole w' g t (arr .u8 (splice ys off (xs.take m)))) → Below B w0 w' → wpList Try.prog ops Q rest (a.put o.dst (goInt m)) w') :
    wpList Try.prog ops Q (o :: rest) a w := by
  have m1 : m ≤ sLen := by rw [hm]; exact Nat.min_le_left _ _
  have m2 : m ≤ dLen := by rw [hm]; exact Nat.min_le_right _ _
  have hx := hsrc.1
  have hl : ((xs.take m).map (Value.int .u8)).length = m := by
    simp only [List.length_map, List.length_take]
    omega
  refine wpList_copy_splice hgd d s 27 27 ho 5 Try.underlying27 Try.sizeByte (some ⟨g, off, none⟩) sp dLen dCap sLen sCap hd hs g off (ys.map (Value.int .u8)) t hg ((xs.take m).map (Value.int .u8)) (hl.trans hm) ?_ ?_ ?_ B w0 hb hBg ?_
  · intro h0
    rw [hl] at h0
    obtain ⟨ad, h2, _, h3⟩ := hsrc.2 (by omega)
    refine ⟨rfl, ad, h2, fun j v hj => ?_⟩
    have hjl : j < m := by
      have := (List.getElem?_eq_some_iff.1 hj).1
      rwa [hl] at this
    rw [h3 j (by omega), ← hj]
    simp [List.getD, hjl, show j < xs.length by omega]
  · rw [hl, List.length_map]
    omega
  · intro v hv
    obtain ⟨x, _, rfl⟩ := List.mem_map.1 hv
    rfl
  · intro w' h1 h2
    have h1' := h1.out
    rw [splice_map] at h1'
    rw [hl]
    exact h w' (Lib.hid h1') h2

end Go.Proofs.Ytladojbppfmkpaa
