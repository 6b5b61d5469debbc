/- What holds between two calls of the law WireTables. -/
import Derived.Test.YtgcnocaibhiggaaTableAnySX
import Derived.Test.YtgcnocaibhiggaaTableGetSX
import Derived.Test.YtgcnocaibhiggaaRingsLoop
namespace Go.Proofs.Ytgcnocaibhiggaa
open Go.RowKit Go.Shelf Go.Maps
set_option linter.unusedVariables false

theorem Try.infoString : (Try.prog.info? 9).map (fun i => (i.zero, i.size, i.bytes)) = some (some (.string .empty), 1, 16) := by kernel_rfl

def strs (ks : List ByteArray) : List Value := ks.map Value.string
@[simp] theorem strs_length (ks : List ByteArray) : (strs ks).length = ks.length := by simp [strs]

theorem Sl.whole' {w : World} {e : TypeId} {v : Value} {xs : List Value} {ob : Option Nat} (h : Sl w e v xs ob) {g : Nat} (hg : ob = some g) : ∃ cs, Whole w g e cs := by
  rcases h with ⟨A, _, _, h0⟩ | ⟨g', off, cap, cur, _, h0, hw, _⟩
  · rw [h0] at hg; cases hg
  · rw [h0] at hg; cases hg; exact ⟨cur, hw⟩

theorem str_eq {a b : ByteArray} (h : a = b) : (a.toList == b.toList) = true := by subst h; simp
theorem str_neq {a b : ByteArray} (h : a ≠ b) : (a.toList != b.toList) = true := by
  have e : a.toList ≠ b.toList := by
    intro e
    rw [ByteArray.toList_eq, ByteArray.toList_eq] at e
    obtain ⟨⟨la⟩⟩ := a
    obtain ⟨⟨lb⟩⟩ := b
    simp only at e
    exact h (by rw [e])
  simpa using e
theorem str_ne {a b : ByteArray} (h : a ≠ b) : (a.toList == b.toList) = false := by
  cases hh : (a.toList == b.toList) with
  | false => rfl
  | true =>
    have e := beq_iff_eq.1 hh
    rw [ByteArray.toList_eq, ByteArray.toList_eq] at e
    refine absurd ?_ h
    obtain ⟨⟨la⟩⟩ := a
    obtain ⟨⟨lb⟩⟩ := b
    simp only at e
    rw [e]

/-- The table's keys, its values. -/
def kS (L : List (Ent KeySX)) : List ByteArray := L.map (·.1)
def vS (L : List (Ent KeySX)) : List Int := L.map (·.2.1)
@[simp] theorem kS_length (L : List (Ent KeySX)) : (kS L).length = L.length := by simp [kS]
@[simp] theorem vS_length (L : List (Ent KeySX)) : (vS L).length = L.length := by simp [vS]
theorem kS_set (L : List (Ent KeySX)) (p : Nat) (u : Int) : kS (setVal L p u) = kS L := setVal_keys L p u
theorem vS_set (L : List (Ent KeySX)) (p : Nat) (u : Int) : vS (setVal L p u) = (vS L).set p u := by
  apply List.ext_getElem?
  intro j
  simp only [vS, List.getElem?_map, setVal_get, List.getElem?_set]
  by_cases h : p = j
  · subst h
    rw [if_pos rfl]
    by_cases hl : p < L.length
    · simp [hl]
    · simp [hl]
  · rw [if_neg h]
    cases L[j]? with
    | none => rfl
    | some x => simp [h]
theorem kS_snoc (L : List (Ent KeySX)) (x : Ent KeySX) : kS (L ++ [x]) = kS L ++ [x.1] := by simp [kS]
theorem vS_snoc (L : List (Ent KeySX)) (x : Ent KeySX) : vS (L ++ [x]) = vS L ++ [x.2.1] := by simp [vS]
theorem kS_erase (L : List (Ent KeySX)) (p : Nat) : kS (L.eraseIdx p) = (kS L).take p ++ (kS L).drop (p + 1) := by
  unfold kS
  rw [map_eraseSX, List.eraseIdx_eq_take_drop_succ]
theorem vS_erase (L : List (Ent KeySX)) (p : Nat) : vS (L.eraseIdx p) = (vS L).take p ++ (vS L).drop (p + 1) := by
  unfold vS
  rw [map_eraseSX, List.eraseIdx_eq_take_drop_succ]

/-- The last place ahead of i where k lies; -1 if it lies nowhere. -/
def lastAt (ks : List ByteArray) (k : ByteArray) : Nat → Int
  | 0 => -1
  | i + 1 => if ks.getD i .empty = k then (i : Int) else lastAt ks k i
theorem lastAt_succ (ks : List ByteArray) (k : ByteArray) (i : Nat) : lastAt ks k (i + 1) = if ks.getD i .empty = k then (i : Int) else lastAt ks k i := rfl
theorem lastAt_none {ks : List ByteArray} {k : ByteArray} : ∀ i, i ≤ ks.length → (∀ q ∈ ks, q ≠ k) → lastAt ks k i = -1
  | 0, _, _ => rfl
  | i + 1, hi, h => by
    unfold lastAt
    have hl : i < ks.length := by omega
    have e : ks.getD i .empty = ks[i] := by simp [List.getD, List.getElem?_eq_getElem hl]
    rw [e, if_neg (h _ (List.getElem_mem hl))]
    exact lastAt_none i (by omega) h
theorem lastAt_some {ks : List ByteArray} {k : ByteArray} (hnd : ks.Nodup) {p : Nat} (hp : ks[p]? = some k) : ∀ i, i ≤ ks.length → p < i → lastAt ks k i = p
  | 0, _, h => absurd h (Nat.not_lt_zero _)
  | i + 1, hi, h => by
    unfold lastAt
    have hl : i < ks.length := by omega
    have e : ks.getD i .empty = ks[i] := by simp [List.getD, List.getElem?_eq_getElem hl]
    by_cases hip : p = i
    · subst hip
      rw [List.getElem?_eq_getElem hl] at hp
      injection hp with hp
      rw [e, if_pos hp]
    · rw [e, if_neg (fun e2 => ?_)]
      · exact lastAt_some hnd hp i (by omega) (by omega)
      · have hpl : p < ks.length := by omega
        rw [List.getElem?_eq_getElem hpl] at hp
        injection hp with hp
        exact List.pairwise_iff_getElem.1 hnd p i hpl hl (by omega) (hp.trans e2.symm)

theorem lastAt_cases {w : World} {tb : Nat} {most : Int} {mv : Option Nat} {L : List (Ent KeySX)} (h : TabSX w tb most mv L) (k : ByteArray) :
    (blkOf L k = none ∧ lastAt (kS L) k L.length = -1) ∨ ∃ p u g, p < L.length ∧ L[p]? = some (k, u, g) ∧ lastAt (kS L) k L.length = (p : Int) := by
  cases hb : blkOf L k with
  | none =>
    refine .inl ⟨rfl, lastAt_none _ (by simp) fun q hq e => ?_⟩
    obtain ⟨x, hx, rfl⟩ := List.mem_map.1 hq
    exact blkOf_none.1 hb x hx e
  | some g =>
    obtain ⟨p, u, hp⟩ := blkOf_some hb
    have hl := (List.getElem?_eq_some_iff.1 hp).1
    exact .inr ⟨p, u, g, hl, hp, lastAt_some h.keys (by simp [hp]) _ (by simp) hl⟩
theorem lastAt_lt {ks : List ByteArray} {k : ByteArray} : ∀ i, -1 ≤ lastAt ks k i ∧ lastAt ks k i < i
  | 0 => by simp [lastAt]
  | i + 1 => by
    unfold lastAt
    have := lastAt_lt (ks := ks) (k := k) i
    split <;> omega

theorem tlen_q {w : World} {tb : Nat} {most : Int} {mv : Option Nat} {L : List (Ent KeySX)} (h : TabSX w tb most mv L) (n : Nat) (hn : L.length = n) : Calls Try.prog 23 #[.pointer (some ⟨tb, 0, none⟩)] w fun e w' => e = .returned (.int .i64 n) ∧ w' = w :=
  (tlen_atSX h).mono fun e w' ⟨h1, h2⟩ => ⟨by rw [h1, hn], h2.symm⟩

theorem step_append_own {P : Program} (w : World) {ops : Array Oper} {o : Oper} {a : Act} {K : Act → World → Prop} {Q : Exit → Act → World → Prop} {E : Prop} (hgd : o.guard = none) (s x : Operand) (t : TypeId)
    (ho : o.op = .call { callee := .builtin .append, args := #[s, x], argTypes := #[t, t] })
    (base : Nat) (e : TypeId) (i : TypeInfo) (z : Value) (size bytes : Nat) (ht : P.underlying t = some (.slice e)) (hi : P.info? e = some i) (hz : i.zero = some z)
    (hsize : i.size = size) (hby : i.bytes = bytes) (hzs : z.cells.size = size) (hsz : 0 < size)
    (v : Value) (n : Nat) (xs : List Value) (hs : a.eval s = v) (hown : w.ownsRow base e size v n xs)
    (ad : Addr) (m c : Nat) (news : List Value) (hx : a.eval x = .slice (some ad) m c) (hl : news.length = m * size) (hnews : ∀ j u, news[j]? = some u → w.cell? (ad.add j) = some u) (h1 : ∀ u ∈ news, u.oneCell' = true)
    (h63 : n + m ≤ maxLen) (hbytes : (n + m) * bytes ≤ 140737488355328) (hbase : base ≤ w.heap.size)
    (h : ∀ v' w', w'.ownsRow base e size v' (n + m) (xs ++ news) → w.grownBy w' v.ownBlock → (v' = .slice none 0 0 ↔ v = .slice none 0 0 ∧ m = 0) → K (a.put o.dst v') w') :
    if Region.wanted o (yielded ops a.tmps) = true then Oper.wp P o a w K Q else E := by
  have hw : Region.wanted o (yielded ops a.tmps) = true := by simp [Region.wanted, hgd]
  rw [if_pos hw]
  exact wp_append_own w s x t ho base e i z size bytes ht hi hz hsize hby hzs hsz v n xs hs hown ad m c news hx hl hnews h1 h63 hbytes hbase h

theorem cellGrown {w w' : World} {row : Option Nat} {a : Addr} {v : Value} (hg : w.grownBy w' row) (h : w.cell? a = some v) (hf : w.frozen? a = false) (hne : row ≠ some a.block) : w'.cell? a = some v ∧ w'.frozen? a = false :=
  ⟨hg.cell h (fun e => hne e.symm), (World.frozen?_of_block (hg.block a.block (cell_lt h) (fun e => hne e.symm))).trans hf⟩
theorem own_empty (w : World) (e : TypeId) : (w.alloc (.cells #[] e)).ownsRow w.heap.size e 1 (.slice (some ⟨w.heap.size, 0, none⟩) 0 0) 0 [] := ⟨rfl, .inr ⟨w.heap.size, 0, #[], rfl, Nat.le_refl _, Whole.new _ _ _, Nat.le_refl _, by unfold maxLen; omega, rfl, rfl⟩⟩
theorem Sl.cells {w : World} {e : TypeId} {v : Value} {xs : List Value} {ob : Option Nat} (h : Sl w e v xs ob) {g off n cap : Nat} (hv : v = .slice (some ⟨g, off, none⟩) n cap) : ∀ i u, xs[i]? = some u → w.cell? ⟨g, off + i, none⟩ = some u := by
  intro i u hi
  have hl : i < xs.length := (List.getElem?_eq_some_iff.1 hi).1
  obtain ⟨g', off', cap', hv', _, _, hc, _⟩ := h.at_ hl
  rw [hv] at hv'
  injection hv' with e1 _ _
  injection e1 with e1
  injection e1 with e1 e2 _
  rw [e1, e2, hc, hi]
theorem own_slice {w : World} {base : Nat} {e : TypeId} {size n : Nat} {v : Value} {xs : List Value} (h : w.ownsRow base e size v n xs) : ∃ A c, v = .slice A n c := by
  rcases h.2 with ⟨rfl, rfl⟩ | ⟨g, cap, cur, rfl, _⟩
  · exact ⟨_, _, rfl⟩
  · exact ⟨_, _, rfl⟩
theorem own_lt {w : World} {base : Nat} {e : TypeId} {size n : Nat} {v : Value} {xs : List Value} (h : w.ownsRow base e size v n xs) {k : Nat} (hk : k < base) : v.ownBlock ≠ some k := fun e => by
  have := (h.lt k e).1
  omega
theorem only_own {S : Nat → Prop} {a w w' : World} {base : Nat} {e : TypeId} {size n : Nat} {v : Value} {xs : List Value} (h : Only S a w) (hown : w.ownsRow base e size v n xs) (hb : a.heap.size ≤ base) (hg : w.grownBy w' v.ownBlock) : Only S a w' :=
  h.grown hg (fun k e => .inr (Nat.le_trans hb (hown.lt k e).1))
theorem one_strs (ks : List ByteArray) : ∀ u ∈ strs ks, u.oneCell' = true := by
  intro u hu; obtain ⟨x, _, rfl⟩ := List.mem_map.1 hu; rfl
theorem one_i32s (vs : List Int) : ∀ u ∈ i32s vs, u.oneCell' = true := by
  intro u hu; obtain ⟨x, _, rfl⟩ := List.mem_map.1 hu; rfl
theorem sl_two {w : World} {base n p : Nat} {e : TypeId} {v : Value} {l : List Value} (h : w.ownsRow base e 1 v n (l.take p ++ l.drop (p + 1))) : ∃ ob, Sl w e v (l.take p ++ l.drop (p + 1)) ob ∧ ∀ g, ob = some g → base ≤ g := by
  obtain ⟨ob, hs, ho⟩ := Sl.of_own h
  exact ⟨ob, hs, fun g e => (h.lt g (by rw [← ho, e])).1⟩

section
variable {P : Program} {ops : Array Oper} {o : Oper} {a : Act} {K : Act → World → Prop} {Q : Exit → Act → World → Prop} {E : Prop}

theorem cut_at {w : World} {g off cap n p : Nat} {xs : List Value} (hn : xs.length = n) (hp : p < n) (hc : n ≤ cap) (HC : ∀ i u, xs[i]? = some u → w.cell? ⟨g, off + i, none⟩ = some u) :
    ∃ ad, (if cap = p + 1 then some (⟨g, off, none⟩ : Addr) else some ⟨g, off + (p + 1), none⟩) = some ad ∧ ∀ i u, (xs.drop (p + 1))[i]? = some u → w.cell? (ad.add i) = some u := by
  by_cases h : cap = p + 1
  · refine ⟨⟨g, off, none⟩, by rw [if_pos h], fun i u hu => ?_⟩
    rw [List.drop_of_length_le (by omega)] at hu
    simp at hu
  · refine ⟨⟨g, off + (p + 1), none⟩, by rw [if_neg h], fun i u hu => ?_⟩
    rw [Addr.add_lit, Nat.add_assoc]
    rw [List.getElem?_drop] at hu
    exact HC _ _ hu

/-- The first of the two appends by which an element is taken out of a slice. -/
theorem step_first (w9 : World) (hgd : o.guard = none) (s x : Operand) (t : TypeId) (ho : o.op = .call { callee := .builtin .append, args := #[s, x], argTypes := #[t, t] })
    (e : TypeId) (i : TypeInfo) (z : Value) (bytes : Nat) (ht : P.underlying t = some (.slice e)) (hi : P.info? e = some i) (hz : i.zero = some z) (hsize : i.size = 1) (hby : i.bytes = bytes) (hzs : z.cells.size = 1)
    (g off cap p : Nat) (xs : List Value) (hs : a.eval s = .slice (some ⟨w9.heap.size, 0, none⟩) 0 0) (hx : a.eval x = .slice (some ⟨g, off, none⟩) p cap)
    (HC : ∀ i u, xs[i]? = some u → w9.cell? ⟨g, off + i, none⟩ = some u) (hone : ∀ u ∈ xs, u.oneCell' = true) (hp : p ≤ xs.length) (hb : p ≤ 1000 ∧ bytes ≤ 100) (bx : Addr) (bv : Value) (hbx : w9.cell? bx = some bv) (hbf : w9.frozen? bx = false)
    (h : ∀ v1 W2, W2.ownsRow w9.heap.size e 1 v1 p (xs.take p) → (w9.alloc (.cells #[] e)).grownBy W2 (some w9.heap.size) → W2.cell? bx = some bv → W2.frozen? bx = false → K (a.put o.dst v1) W2) :
    if Region.wanted o (yielded ops a.tmps) = true then Oper.wp P o a (w9.alloc (.cells #[] e)).drew K Q else E := by
  have hbl := cell_lt hbx
  refine step_append_own _ hgd s x t ho w9.heap.size e i z 1 bytes ht hi hz hsize hby hzs (by decide) (.slice (some ⟨w9.heap.size, 0, none⟩) 0 0) 0 [] hs (own_empty w9 e) ⟨g, off, none⟩ p cap (xs.take p) hx (by simp; omega) ?_ (fun u hu => hone u (List.mem_of_mem_take hu)) (by unfold maxLen; omega) ?_ (by simp) ?_
  · intro j u hu
    rw [Addr.add_lit]
    refine Go.Lib.cell?_alloc_some (W := w9) _ (HC j u ?_)
    rw [List.getElem?_take] at hu
    split at hu
    · exact hu
    · cases hu
  · have : p * bytes ≤ 1000 * 100 := Nat.mul_le_mul hb.1 hb.2
    simp only [Nat.zero_add]
    omega
  · intro v1 W2 h1 h2 _
    simp only [List.nil_append, Nat.zero_add] at h1
    have h2' : (w9.alloc (.cells #[] e)).grownBy W2 (some w9.heap.size) := ⟨h2.os, h2.tape, h2.output, h2.size, h2.block⟩
    obtain ⟨c1, c2⟩ := cellGrown h2' (a := bx) (Go.Lib.cell?_alloc_some _ hbx) ((World.frozen?_of_block (Below.heap_alloc _ _ _ hbl)).trans hbf) (by intro e; injection e with e; omega)
    exact h v1 W2 h1 h2' c1 c2

/-- The second. -/
theorem step_second (w9 W2 : World) (hgd : o.guard = none) (s x : Operand) (t : TypeId) (ho : o.op = .call { callee := .builtin .append, args := #[s, x], argTypes := #[t, t] })
    (e : TypeId) (i : TypeInfo) (z : Value) (bytes : Nat) (ht : P.underlying t = some (.slice e)) (hi : P.info? e = some i) (hz : i.zero = some z) (hsize : i.size = 1) (hby : i.bytes = bytes) (hzs : z.cells.size = 1)
    (A2 : Option Addr) (c n p : Nat) (xs : List Value) (v1 : Value) (hs : a.eval s = v1) (h1 : W2.ownsRow w9.heap.size e 1 v1 p (xs.take p)) (h2 : (w9.alloc (.cells #[] e)).grownBy W2 (some w9.heap.size)) (hx : a.eval x = .slice A2 (n - (p + 1)) c) (ad : Addr) (hA2 : A2 = some ad)
    (HC : ∀ i u, (xs.drop (p + 1))[i]? = some u → w9.cell? (ad.add i) = some u) (hone : ∀ u ∈ xs, u.oneCell' = true) (hn : xs.length = n) (hp : p < n) (hb : n ≤ 1000 ∧ bytes ≤ 100) (bx : Addr) (bv : Value) (hbl : bx.block < w9.heap.size) (hbx : W2.cell? bx = some bv) (hbf : W2.frozen? bx = false)
    (h : ∀ A2 c2 W3, W3.ownsRow w9.heap.size e 1 (.slice A2 (n - 1) c2) (n - 1) (xs.take p ++ xs.drop (p + 1)) → Below w9.heap.size w9 W3 → W3.cell? bx = some bv → W3.frozen? bx = false → K (a.put o.dst (.slice A2 (n - 1) c2)) W3) :
    if Region.wanted o (yielded ops a.tmps) = true then Oper.wp P o a W2 K Q else E := by
  subst hA2
  have hz2 := h2.size
  simp at hz2
  refine step_append_own W2 hgd s x t ho w9.heap.size e i z 1 bytes ht hi hz hsize hby hzs (by decide) v1 p (xs.take p) hs h1 ad (n - (p + 1)) c (xs.drop (p + 1)) hx (by simp [hn]) ?_ (fun u hu => hone u (List.mem_of_mem_drop hu)) (by unfold maxLen; omega) ?_ (by omega) ?_
  · intro j u hu
    have := HC j u hu
    refine h2.cell (Go.Lib.cell?_alloc_some _ this) ?_
    have := cell_lt this
    intro e
    injection e with e
    omega
  · have : (p + (n - (p + 1))) * bytes ≤ 1000 * 100 := Nat.mul_le_mul (by omega) hb.2
    omega
  · intro v2 W3 g1 g2 _
    rw [show p + (n - (p + 1)) = n - 1 by omega] at g1
    obtain ⟨c1, c2⟩ := cellGrown g2 (a := bx) hbx hbf (own_lt h1 hbl)
    obtain ⟨A2, c2', rfl⟩ := own_slice g1
    refine h A2 c2' W3 g1 ?_ c1 c2
    have b1 : Below w9.heap.size w9 (w9.alloc (.cells #[] e)) := (Below.refl _ w9).alloc (Nat.le_refl _) _
    have b2 := b1.grown h2 (by simp) (fun k e => by cases e; exact Nat.le_refl _)
    exact b2.grown g2 (by omega) (fun k e => (h1.lt k e).1)
end

theorem erase_tabS (tb : Nat) (mv : Option Nat) (L : List (Ent KeySX)) (i j : Nat) (h : TabSSX tb mv (L.eraseIdx i) j) : TabSSX tb mv L j := by
  rcases h with h | h | ⟨x, hx, rfl⟩
  · exact .inl h
  · exact .inr (.inl h)
  · exact .inr (.inr ⟨x, List.mem_of_mem_eraseIdx hx, rfl⟩)

/-- What holds all along. -/
structure WInv (w wr : World) (tb kB vB : Nat) (m stop : Int) (kv : Value) (kob : Option Nat) (ks : List ByteArray) (vv : Value) (vob : Option Nat) (vs : List Int) (mv : Option Nat) (L : List (Ent KeySX)) : Prop where
  stop : Whole wr w.heap.size 3 #[.int .i64 stop]
  res : Whole wr (w.heap.size + 1) 4 #[.bool false]
  kbox : Whole wr kB 42 #[kv]
  vbox : Whole wr vB 29 #[vv]
  keys : Sl wr 9 kv (strs ks) kob
  vals : Sl wr 21 vv (i32s vs) vob
  tab : TabSX wr tb m mv L
  below : Below w.heap.size w wr
  kIn : ∀ g, kob = some g → w.heap.size ≤ g
  vIn : ∀ g, vob = some g → w.heap.size ≤ g
  tabIn : ∀ j, TabSSX tb mv L j → w.heap.size ≤ j
  kBin : w.heap.size ≤ kB
  vBin : w.heap.size ≤ vB

section
variable {w wr w1 : World} {tb kB vB : Nat} {m stop : Int} {kv kv' : Value} {kob kob' : Option Nat} {ks ks' : List ByteArray} {vv vv' : Value} {vob vob' : Option Nat} {vs vs' : List Int} {mv mv' : Option Nat} {L L' : List (Ent KeySX)}

theorem WInv.drew (h : WInv w wr tb kB vB m stop kv kob ks vv vob vs mv L) : WInv w wr.drew tb kB vB m stop kv kob ks vv vob vs mv L :=
  ⟨h.stop, h.res, h.kbox, h.vbox, h.keys, h.vals, h.tab.drew, h.below.drew, h.kIn, h.vIn, h.tabIn, h.kBin, h.vBin⟩
theorem WInv.drewN (h : WInv w wr tb kB vB m stop kv kob ks vv vob vs mv L) (n : Nat) : WInv w (wr.drewN n) tb kB vB m stop kv kob ks vv vob vs mv L :=
  ⟨h.stop, h.res, h.kbox, h.vbox, h.keys, h.vals, h.tab.drewN n, below_drewN' h.below n, h.kIn, h.vIn, h.tabIn, h.kBin, h.vBin⟩

/-- Nothing of it is turned. -/
theorem WInv.only {S : Nat → Prop} (h : WInv w wr tb kB vB m stop kv kob ks vv vob vs mv L) (hO : Only S wr w1) (hS : ∀ j, S j → w.heap.size ≤ j)
    (h1 : ∀ g t cs, Whole wr g t cs → t = 3 ∨ t = 4 ∨ t = 42 ∨ t = 29 ∨ t = 9 ∨ t = 21 → ¬ S g) (h2 : ∀ j, TabSSX tb mv L j → ¬ S j) : WInv w w1 tb kB vB m stop kv kob ks vv vob vs mv L := by
  refine ⟨h.stop.only hO (h1 _ _ _ h.stop (by simp)), h.res.only hO (h1 _ _ _ h.res (by simp)), h.kbox.only hO (h1 _ _ _ h.kbox (by simp)), h.vbox.only hO (h1 _ _ _ h.vbox (by simp)), h.keys.only hO ?_, h.vals.only hO ?_, h.tab.only hO h2, h.below.trans (hO.below hS h.below.size), h.kIn, h.vIn, h.tabIn, h.kBin, h.vBin⟩
  · intro g e
    obtain ⟨cs, hw⟩ := h.keys.whole' e
    exact h1 _ _ _ hw (by simp)
  · intro g e
    obtain ⟨cs, hw⟩ := h.vals.whole' e
    exact h1 _ _ _ hw (by simp)

theorem WInv.under (h : WInv w wr tb kB vB m stop kv kob ks vv vob vs mv L) (hb : Below wr.heap.size wr w1) : WInv w w1 tb kB vB m stop kv kob ks vv vob vs mv L :=
  h.only (S := fun _ => False) ⟨hb.os, hb.tape, hb.output, hb.size, fun k hk _ => hb.block k hk⟩ (fun _ e => e.elim) (fun _ _ _ _ _ e => e) (fun _ _ e => e)

theorem WInv.grown {row : Option Nat} (h : WInv w wr tb kB vB m stop kv kob ks vv vob vs mv L) (hg : wr.grownBy w1 row) (hr : ∀ r, row = some r → w.heap.size ≤ r ∧ (∃ o : Obj, wr.heap[r]? = some o ∧ o.isCells = false) ∧ mv ≠ some r) :
    WInv w w1 tb kB vB m stop kv kob ks vv vob vs mv L :=
  have hr' := fun r e => (hr r e).2.1
  ⟨h.stop.grownOther hg hr', h.res.grownOther hg hr', h.kbox.grownOther hg hr', h.vbox.grownOther hg hr', h.keys.grownOther hg hr', h.vals.grownOther hg hr', h.tab.grownOther hg (fun r e => (hr r e).2), h.below.grown hg h.below.size (fun k e => (hr k e).1), h.kIn, h.vIn, h.tabIn, h.kBin, h.vBin⟩

/-- Behind a call of the table's Put or Drop. -/
theorem winv_tab (h : WInv w wr tb kB vB m stop kv kob ks vv vob vs mv L) (hT : TabSX w1 tb m mv' L') (hO : Only (TabSSX tb mv L) wr w1) (hin : ∀ j, TabSSX tb mv' L' j → TabSSX tb mv L j ∨ wr.heap.size ≤ j) :
    WInv w w1 tb kB vB m stop kv kob ks vv vob vs mv' L' := by
  have hz := h.below.size
  have off : ∀ {g : Nat} {t : TypeId} {cs : Array Value}, Whole wr g t cs → t ≠ 83 → t ≠ 87 → Whole w1 g t cs := fun hg h1 h2 => hg.only hO (h.tab.offT hg h1 h2)
  refine ⟨off h.stop (by decide) (by decide), off h.res (by decide) (by decide), off h.kbox (by decide) (by decide), off h.vbox (by decide) (by decide), h.keys.only hO ?_, h.vals.only hO ?_, hT, h.below.trans (hO.below h.tabIn hz), h.kIn, h.vIn, ?_, h.kBin, h.vBin⟩
  · intro g e
    obtain ⟨cs, hw⟩ := h.keys.whole' e
    exact h.tab.offT hw (by decide) (by decide)
  · intro g e
    obtain ⟨cs, hw⟩ := h.vals.whole' e
    exact h.tab.offT hw (by decide) (by decide)
  · intro j hj
    rcases hin j hj with e | e
    · exact h.tabIn j e
    · omega

/-- The law's own keys and values are others. -/
theorem winv_lists (h : WInv w wr tb kB vB m stop kv kob ks vv vob vs mv L) (hO : Only (fun j => kob = some j ∨ vob = some j) wr w1)
    (hK : Sl w1 9 kv' (strs ks') kob') (hV : Sl w1 21 vv' (i32s vs') vob') (hk : ∀ g, kob' = some g → w.heap.size ≤ g) (hv : ∀ g, vob' = some g → w.heap.size ≤ g) :
    WInv w ((w1.setCell ⟨kB, 0, none⟩ kv').setCell ⟨vB, 0, none⟩ vv') tb kB vB m stop kv' kob' ks' vv' vob' vs' mv L := by
  have off : ∀ {g : Nat} {t : TypeId} {cs : Array Value}, Whole wr g t cs → t ≠ 9 → t ≠ 21 → Whole w1 g t cs := by
    intro g t cs hg h1 h2
    refine hg.only hO ?_
    rintro (e | e)
    · obtain ⟨cs2, hw⟩ := h.keys.whole' e
      exact hg.ne hw h1 rfl
    · obtain ⟨cs2, hw⟩ := h.vals.whole' e
      exact hg.ne hw h2 rfl
  have hkb := off h.kbox (by decide) (by decide)
  have hvb := off h.vbox (by decide) (by decide)
  have hkv : kB ≠ vB := hkb.ne hvb (by decide)
  have hT1 : TabSX w1 tb m mv L := h.tab.only hO (by
    intro j hj
    rintro (e | e)
    · obtain ⟨cs2, hw⟩ := h.keys.whole' e
      exact h.tab.offT hw (by decide) (by decide) hj
    · obtain ⟨cs2, hw⟩ := h.vals.whole' e
      exact h.tab.offT hw (by decide) (by decide) hj)
  have hb1 : Below w.heap.size w w1 := h.below.trans (hO.below (by
    rintro j (e | e)
    · exact h.kIn j e
    · exact h.vIn j e) h.below.size)
  have far : ∀ {g : Nat} {t : TypeId} {cs : Array Value}, Whole w1 g t cs → t ≠ 42 → t ≠ 29 → Whole ((w1.setCell ⟨kB, 0, none⟩ kv').setCell ⟨vB, 0, none⟩ vv') g t cs := fun hg h1 h2 => (hg.far (p := ⟨kB, 0, none⟩) (hg.ne hkb h1) _).far (p := ⟨vB, 0, none⟩) (hg.ne hvb h2) _
  refine ⟨far (off h.stop (by decide) (by decide)) (by decide) (by decide), far (off h.res (by decide) (by decide)) (by decide) (by decide), (hkb.set 0 kv').far (p := ⟨vB, 0, none⟩) hkv _, (hvb.far (p := ⟨kB, 0, none⟩) (Ne.symm hkv) _).set 0 vv',
    ?_, ?_, ?_, (hb1.setCell (p := ⟨kB, 0, none⟩) h.kBin _).setCell (p := ⟨vB, 0, none⟩) h.vBin _, hk, hv, h.tabIn, h.kBin, h.vBin⟩
  · exact (hK.far (p := ⟨kB, 0, none⟩) (hK.ne_whole hkb (by decide)) _).far (p := ⟨vB, 0, none⟩) (hK.ne_whole hvb (by decide)) _
  · exact (hV.far (p := ⟨kB, 0, none⟩) (hV.ne_whole hkb (by decide)) _).far (p := ⟨vB, 0, none⟩) (hV.ne_whole hvb (by decide)) _
  · refine hT1.only (((Only.refl (fun j => j = kB ∨ j = vB) w1).setCell (p := ⟨kB, 0, none⟩) (.inl (.inl rfl)) _).setCell (p := ⟨vB, 0, none⟩) (.inl (.inr rfl)) _) ?_
    rintro j hj (rfl | rfl)
    · exact hT1.offT hkb (by decide) (by decide) hj
    · exact hT1.offT hvb (by decide) (by decide) hj

/-- Behind 'keys = ..'. -/
theorem winv_keys (h : WInv w wr tb kB vB m stop kv kob ks vv vob vs mv L) (hO : Only (fun j => kob = some j) wr w1)
    (hK : Sl w1 9 kv' (strs ks') kob') (hk : ∀ g, kob' = some g → w.heap.size ≤ g) :
    WInv w (w1.setCell ⟨kB, 0, none⟩ kv') tb kB vB m stop kv' kob' ks' vv vob vs mv L := by
  have off : ∀ {g : Nat} {t : TypeId} {cs : Array Value}, Whole wr g t cs → t ≠ 9 → Whole w1 g t cs := by
    intro g t cs hg h1
    refine hg.only hO ?_
    intro e
    obtain ⟨cs2, hw⟩ := h.keys.whole' e
    exact hg.ne hw h1 rfl
  have hkb := off h.kbox (by decide)
  have far : ∀ {g : Nat} {t : TypeId} {cs : Array Value}, Whole w1 g t cs → t ≠ 42 → Whole (w1.setCell ⟨kB, 0, none⟩ kv') g t cs := fun hg h1 => hg.far (p := ⟨kB, 0, none⟩) (hg.ne hkb h1) _
  have hT1 : TabSX w1 tb m mv L := h.tab.only hO (by
    intro j hj e
    obtain ⟨cs2, hw⟩ := h.keys.whole' e
    exact h.tab.offT hw (by decide) (by decide) hj)
  have hV1 : Sl w1 21 vv (i32s vs) vob := h.vals.only hO (by
    intro g e e2
    obtain ⟨cs2, hw⟩ := h.keys.whole' e2
    exact h.vals.ne_whole hw (by decide) e)
  refine ⟨far (off h.stop (by decide)) (by decide), far (off h.res (by decide)) (by decide), hkb.set 0 kv', far (off h.vbox (by decide)) (by decide),
    hK.far (p := ⟨kB, 0, none⟩) (hK.ne_whole hkb (by decide)) _, hV1.far (p := ⟨kB, 0, none⟩) (hV1.ne_whole hkb (by decide)) _, ?_, (h.below.trans (hO.below (fun j e => h.kIn j e) h.below.size)).setCell (p := ⟨kB, 0, none⟩) h.kBin _, hk, h.vIn, h.tabIn, h.kBin, h.vBin⟩
  refine hT1.only ((Only.refl (fun j => j = kB) w1).setCell (p := ⟨kB, 0, none⟩) (.inl rfl) _) ?_
  rintro j hj rfl
  exact hT1.offT hkb (by decide) (by decide) hj

/-- Behind 'values = ..'. -/
theorem winv_vals (h : WInv w wr tb kB vB m stop kv kob ks vv vob vs mv L) (hO : Only (fun j => vob = some j) wr w1)
    (hV : Sl w1 21 vv' (i32s vs') vob') (hv : ∀ g, vob' = some g → w.heap.size ≤ g) :
    WInv w (w1.setCell ⟨vB, 0, none⟩ vv') tb kB vB m stop kv kob ks vv' vob' vs' mv L := by
  have off : ∀ {g : Nat} {t : TypeId} {cs : Array Value}, Whole wr g t cs → t ≠ 21 → Whole w1 g t cs := by
    intro g t cs hg h1
    refine hg.only hO ?_
    intro e
    obtain ⟨cs2, hw⟩ := h.vals.whole' e
    exact hg.ne hw h1 rfl
  have hvb := off h.vbox (by decide)
  have far : ∀ {g : Nat} {t : TypeId} {cs : Array Value}, Whole w1 g t cs → t ≠ 29 → Whole (w1.setCell ⟨vB, 0, none⟩ vv') g t cs := fun hg h1 => hg.far (p := ⟨vB, 0, none⟩) (hg.ne hvb h1) _
  have hT1 : TabSX w1 tb m mv L := h.tab.only hO (by
    intro j hj e
    obtain ⟨cs2, hw⟩ := h.vals.whole' e
    exact h.tab.offT hw (by decide) (by decide) hj)
  have hK1 : Sl w1 9 kv (strs ks) kob := h.keys.only hO (by
    intro g e e2
    obtain ⟨cs2, hw⟩ := h.vals.whole' e2
    exact h.keys.ne_whole hw (by decide) e)
  refine ⟨far (off h.stop (by decide)) (by decide), far (off h.res (by decide)) (by decide), far (off h.kbox (by decide)) (by decide), hvb.set 0 vv',
    hK1.far (p := ⟨vB, 0, none⟩) (hK1.ne_whole hvb (by decide)) _, hV.far (p := ⟨vB, 0, none⟩) (hV.ne_whole hvb (by decide)) _, ?_, (h.below.trans (hO.below (fun j e => h.vIn j e) h.below.size)).setCell (p := ⟨vB, 0, none⟩) h.vBin _, h.kIn, hv, h.tabIn, h.kBin, h.vBin⟩
  refine hT1.only ((Only.refl (fun j => j = vB) w1).setCell (p := ⟨vB, 0, none⟩) (.inl rfl) _) ?_
  rintro j hj rfl
  exact hT1.offT hvb (by decide) (by decide) hj

/-- A value is written in place. -/
theorem winv_set (h : WInv w wr tb kB vB m stop kv kob ks vv vob vs mv L) {g off cap p : Nat} (hv : vv = .slice (some ⟨g, off, none⟩) vs.length cap) (hp : p < vs.length) (x : Int) :
    WInv w (wr.setCell ⟨g, off + p, none⟩ (.int .i32 x)) tb kB vB m stop kv kob ks vv vob (vs.set p x) mv L := by
  obtain ⟨g', off', cap', hv', ho, hgl, _⟩ := h.vals.at_ (i := p) (by simpa using hp)
  have eg : g' = g := by
    rw [hv] at hv'
    injection hv' with e1 _ _
    injection e1 with e1
    injection e1 with e1 _ _
    exact e1.symm
  subst eg
  obtain ⟨cs, hw⟩ := h.vals.whole' ho
  have far : ∀ {g2 : Nat} {t : TypeId} {cs : Array Value}, Whole wr g2 t cs → t ≠ 21 → Whole (wr.setCell ⟨g', off + p, none⟩ (.int .i32 x)) g2 t cs := fun hg h1 => hg.far (p := ⟨g', off + p, none⟩) (hg.ne hw h1) _
  refine ⟨far h.stop (by decide), far h.res (by decide), far h.kbox (by decide), far h.vbox (by decide), h.keys.far (p := ⟨g', off + p, none⟩) (h.keys.ne_whole hw (by decide)) _, ?_, ?_, h.below.setCell (p := ⟨g', off + p, none⟩) (h.vIn _ ho) _, h.kIn, h.vIn, h.tabIn, h.kBin, h.vBin⟩
  · have := h.vals.set (g := g') (off := off) (cap := cap) (by rw [i32s_length]; exact hv) (i := p) (by simpa using hp) (.int .i32 x)
    have es : (i32s vs).set p (.int .i32 x) = i32s (vs.set p x) := by simp [i32s, List.map_set]
    rw [es] at this
    exact this
  · refine h.tab.only ((Only.refl (fun j => j = g') wr).setCell (p := ⟨g', off + p, none⟩) (.inl rfl) _) ?_
    rintro j hj rfl
    exact h.tab.offT hw (by decide) (by decide) hj

/-- Behind a store into a block of another type. -/
theorem winv_far (h : WInv w wr tb kB vB m stop kv kob ks vv vob vs mv L) {p : Addr} {t : TypeId} {cs : Array Value} (hp : Whole wr p.block t cs) (hB : w.heap.size ≤ p.block) (h1 : p.block ≠ w.heap.size) (h2 : p.block ≠ w.heap.size + 1) (h3 : t ≠ 42) (h4 : t ≠ 29) (h5 : t ≠ 9) (h6 : t ≠ 21) (h7 : t ≠ 83) (h8 : t ≠ 87) (u : Value) :
    WInv w (wr.setCell p u) tb kB vB m stop kv kob ks vv vob vs mv L := by
  refine ⟨h.stop.far (Ne.symm h1) u, h.res.far (Ne.symm h2) u, h.kbox.far (Ne.symm (hp.ne h.kbox h3)) u, h.vbox.far (Ne.symm (hp.ne h.vbox h4)) u, h.keys.far (h.keys.ne_whole hp (Ne.symm h5)) u, h.vals.far (h.vals.ne_whole hp (Ne.symm h6)) u, ?_, h.below.setCell hB u, h.kIn, h.vIn, h.tabIn, h.kBin, h.vBin⟩
  refine h.tab.only ((Only.refl (fun j => j = p.block) wr).setCell (p := p) (.inl rfl) u) ?_
  intro j hj e
  subst e
  exact h.tab.offT hp h7 h8 hj

theorem keys_drop (h : WInv w wr tb kB vB m stop kv kob ks vv vob vs mv L) {W3 : World} {p n : Nat} {v2 : Value} (hown : W3.ownsRow wr.heap.size 9 1 v2 n ((strs ks).take p ++ (strs ks).drop (p + 1))) (hb : Below wr.heap.size wr W3) :
    WInv w (W3.setCell ⟨kB, 0, none⟩ v2) tb kB vB m stop v2 v2.ownBlock (ks.take p ++ ks.drop (p + 1)) vv vob vs mv L := by
  obtain ⟨ob, hs, ho⟩ := Sl.of_own hown
  have e : (strs ks).take p ++ (strs ks).drop (p + 1) = strs (ks.take p ++ ks.drop (p + 1)) := by simp [strs, List.map_take, List.map_drop]
  rw [e, ho] at hs
  have hz := h.below.size
  exact winv_keys h ⟨hb.os, hb.tape, hb.output, hb.size, fun k hk _ => hb.block k hk⟩ hs (fun g e => by have := (hown.lt g e).1; omega)

theorem vals_drop (h : WInv w wr tb kB vB m stop kv kob ks vv vob vs mv L) {W3 : World} {p n : Nat} {v2 : Value} (hown : W3.ownsRow wr.heap.size 21 1 v2 n ((i32s vs).take p ++ (i32s vs).drop (p + 1))) (hb : Below wr.heap.size wr W3) :
    WInv w (W3.setCell ⟨vB, 0, none⟩ v2) tb kB vB m stop kv kob ks v2 v2.ownBlock (vs.take p ++ vs.drop (p + 1)) mv L := by
  obtain ⟨ob, hs, ho⟩ := Sl.of_own hown
  have e : (i32s vs).take p ++ (i32s vs).drop (p + 1) = i32s (vs.take p ++ vs.drop (p + 1)) := by simp [i32s, List.map_take, List.map_drop]
  rw [e, ho] at hs
  have hz := h.below.size
  exact winv_vals h ⟨hb.os, hb.tape, hb.output, hb.size, fun k hk _ => hb.block k hk⟩ hs (fun g e => by have := (hown.lt g e).1; omega)

end

end Go.Proofs.Ytgcnocaibhiggaa
