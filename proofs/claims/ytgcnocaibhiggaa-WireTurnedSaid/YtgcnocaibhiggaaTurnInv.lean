/- What holds in the law WireTurned; what its loops leave as it is. -/
import Derived.Test.YtgcnocaibhiggaaTableAnyIX
import Derived.Test.YtgcnocaibhiggaaIterAny
namespace Go.Proofs.Ytgcnocaibhiggaa
open Go.RowKit Go.Shelf Go.Maps
set_option linter.unusedVariables false

theorem Sl.whole {w : World} {e : TypeId} {v : Value} {xs : List Value} {ob : Option Nat} (h : Sl w e v xs ob) {g : Nat} (hg : ob = some g) : ∃ cs, Whole w g e cs := by
  rcases h with ⟨A, _, _, h0⟩ | ⟨g', off, cap, cur, _, h0, hw, _⟩
  · rw [h0] at hg; cases hg
  · rw [h0] at hg; cases hg; exact ⟨cur, hw⟩

theorem kok_small (k : Int) (h0 : 0 ≤ k) (h1 : k ≤ 1000) : kokIX k := by
  show (Lit.int .i64 k).wf = true
  have e1 : IntKind.i64.min = -9223372036854775808 := by decide
  have e2 : IntKind.i64.max = 9223372036854775807 := by decide
  simp [Lit.wf, e1, e2]
  omega

/-- Safe: made since the loop began, and not where the ring's things lie. -/
def SafeR (B b : Nat) (W : World) (g : Nat) : Prop := B ≤ g ∧ g < W.heap.size ∧ ∃ A l c, W.cell? ⟨b, 1, none⟩ = some (.slice A l c) ∧ ∀ ad, A = some ad → ad.block ≠ g

section
variable {W W' : World} {b B k k' : Nat} {most : Int} {v v' : Value} {xs xs' : List Int} {ob ob' : Option Nat}

theorem Ring.form (h : Ring W b most v k xs ob) (hk : 0 < xs.length) : ∃ g off c, v = .slice (some ⟨g, off, none⟩) xs.length c ∧ ob = some g ∧ g < W.heap.size := by
  obtain ⟨g, off, cap, hv, ho, hl, _⟩ := h.2.at_ (i := 0) (by simpa using hk)
  exact ⟨g, off, cap, by rw [hv, i32s_length], ho, hl⟩
theorem Ring.cell1 (h : Ring W b most v k xs ob) : W.cell? ⟨b, 1, none⟩ = some v := by have := h.1.cell 1; simpa using this

theorem kpR_step (hR : Ring W b most v k xs ob) (hk : 0 < xs.length) (hb : b < B) (hO : Only (RingS b ob) W W') (hR1 : Ring W' b most v' k' xs' ob') (hk1 : 0 < xs'.length) (hat : ob' = ob ∨ ∃ g, ob' = some g ∧ W.heap.size ≤ g) : KpS (SafeR B b) W W' := by
  intro g cs t fr hs hg
  obtain ⟨h1, h2, A, l, c, hc, hA⟩ := hs
  obtain ⟨g0, off, c0, rfl, rfl, hg0⟩ := hR.form hk
  have e := hR.cell1.symm.trans hc
  simp at e
  have hne := hA _ e.1.symm
  simp only at hne
  have hn : ¬ RingS b (some g0) g := by
    rintro (e | e)
    · omega
    · injection e with e; exact hne e
  obtain ⟨g1, off1, c1, rfl, rfl, hg1⟩ := hR1.form hk1
  refine ⟨hO.same hg hn, h1, Nat.lt_of_lt_of_le h2 hO.size, _, _, _, hR1.cell1, fun ad e => ?_⟩
  cases e
  simp only
  rcases hat with e | ⟨g2, e, e2⟩
  · injection e with e; rw [e]; exact hne
  · injection e with e; omega

theorem kpR_far {p : Addr} (hb : b ≠ p.block) (hB : p.block < B) (u : Value) : KpS (SafeR B b) W (W.setCell p u) := by
  intro g cs2 t2 fr hs hg
  obtain ⟨h1, h2, A, l, c, hc, hA⟩ := hs
  refine ⟨(Below.heap_setCell W p u g (by omega)).trans hg, h1, by simpa [World.setCell] using h2, A, l, c, ?_, hA⟩
  exact (World.cell?_of_block (Below.heap_setCell W p u b hb)).trans hc

theorem kpR_put (hb : b < B) (W : World) (l : Nat) (o o' : Obj) (hB : B ≤ l) (hl : W.heap[l]? = some o) (hc : o.isCells = false) : KpS (SafeR B b) W (W.putObj l o') := by
  intro g cs t fr hs hg
  obtain ⟨h1, h2, A, n, c, hcc, hA⟩ := hs
  refine ⟨(World.putObj_heap_other (by
    intro e
    subst e
    rw [hg] at hl
    cases hl
    cases hc)).trans hg, h1, ?_, A, n, c, ?_, hA⟩
  · exact Nat.lt_of_lt_of_le h2 (grownBy_putObj' W l o').size
  · exact (World.cell?_of_block (World.putObj_heap_other (show b ≠ l by omega))).trans hcc

theorem safeR_start (h : Ring W b most v k xs ob) (hk : 0 < xs.length ∨ v = .slice none 0 0) : ∀ W' g, Below W.heap.size W W' → W.heap.size ≤ g → g < W'.heap.size → SafeR W.heap.size b W' g := by
  intro W' g hb hg hl
  have hc := h.cell1
  have hc' := (hb.cell (p := ⟨b, 1, none⟩) h.1.lt).trans hc
  rcases hk with hk | rfl
  · obtain ⟨g0, off, c, rfl, rfl, hg0⟩ := h.form hk
    exact ⟨hg, hl, _, _, _, hc', fun ad e => by cases e; show g0 ≠ g; omega⟩
  · exact ⟨hg, hl, _, _, _, hc', fun ad e => by cases e⟩

/-- A ring's Put, whatever the ring. -/
theorem rput_any (h : Ring W b most v k xs ob) (hk : k < xs.length ∨ (xs = [] ∧ k = 0 ∧ v = .slice none 0 0)) (x : Int) (hbig : xs.length ≤ 1000000) :
    Calls Try.prog 16 #[.pointer (some ⟨b, 0, none⟩), .int .i32 x] W fun e w' => ∃ r v' k' xs' ob', e = .returned r ∧ Ring w' b most v' k' xs' ob' ∧ k' < xs'.length ∧ xs'.length ≤ xs.length + 1 ∧ ((xs.length : Int) ≤ max most 1 → (xs'.length : Int) ≤ max most 1) ∧ Only (RingS b ob) W w' ∧ (ob' = ob ∨ ∃ g, ob' = some g ∧ W.heap.size ≤ g) := by
  by_cases hlt : (xs.length : Int) < max most 1
  · refine (put_room b most v k xs ob x W h hlt hbig).mono ?_
    rintro e w' ⟨rfl, v', ob', hR, hO, hat⟩
    refine ⟨_, v', k, _, ob', rfl, hR, ?_, by simp, fun _ => by simp; omega, hO, hat⟩
    rcases hk with hk | ⟨rfl, rfl, _⟩
    · simp; omega
    · simp
  · have hk' : k < xs.length := by
      rcases hk with hk | ⟨rfl, rfl, _⟩
      · exact hk
      · simp at hlt; omega
    refine (put_full b most v k xs ob x W h (by omega) _ (List.getElem?_eq_getElem hk') hbig).mono ?_
    rintro e w' ⟨rfl, hR, hO⟩
    exact ⟨_, v, _, _, ob, rfl, hR, by rw [List.length_set]; exact Nat.mod_lt _ (by omega), by simp, fun h => by simpa using h, hO, .inl rfl⟩
end

/-- What holds all along. -/
structure TInv (w wr : World) (a : Option Addr) (n cap : Nat) (more : Int) (rB tB b tb : Nat) (v : Value) (ob : Option Nat) (k : Nat) (xs : List Int) (mv : Option Nat) (L : List (Ent KeyIX)) : Prop where
  lst : Whole wr w.heap.size 29 #[.slice a n cap]
  more : Whole wr (w.heap.size + 1) 21 #[.int .i32 more]
  res : Whole wr (w.heap.size + 2) 4 #[.bool false]
  rbox : Whole wr rB 30 #[.pointer (some ⟨b, 0, none⟩)]
  tbox : Whole wr tB 52 #[.pointer (some ⟨tb, 0, none⟩)]
  ring : Ring wr b ((n : Int) + 1) v k xs ob
  tab : TabIX wr tb ((n : Int) + 1) mv L
  below : Below w.heap.size w wr
  apart : ob ≠ some (w.heap.size + 1)
  obIn : ∀ g, ob = some g → w.heap.size ≤ g
  bIn : w.heap.size ≤ b
  tabIn : ∀ j, TabSIX tb mv L j → w.heap.size ≤ j

section
variable {w wr w1 : World} {a : Option Addr} {n cap rB tB b tb k k' : Nat} {more : Int} {v v' : Value} {ob ob' mv mv' : Option Nat} {xs xs' : List Int} {L L' : List (Ent KeyIX)}

theorem TInv.offR (h : TInv w wr a n cap more rB tB b tb v ob k xs mv L) {g : Nat} {t : TypeId} {cs : Array Value} (hg : Whole wr g t cs) (h1 : t ≠ 78) (h2 : t ≠ 21) : ¬ RingS b ob g := by
  rintro (rfl | e)
  · exact hg.ne h.ring.1 h1 rfl
  · obtain ⟨cs2, hw⟩ := h.ring.2.whole e
    exact hg.ne hw h2 rfl
theorem TInv.offR1 (h : TInv w wr a n cap more rB tB b tb v ob k xs mv L) : ¬ RingS b ob (w.heap.size + 1) := by
  rintro (e | e)
  · exact h.more.ne h.ring.1 (by decide) e
  · exact h.apart e
theorem TInv.ringTab (h : TInv w wr a n cap more rB tB b tb v ob k xs mv L) : ∀ j, TabSIX tb mv L j → ¬ RingS b ob j := by
  intro j hj hr
  rcases hr with rfl | e
  · exact h.tab.offT h.ring.1 (by decide) (by decide) hj
  · obtain ⟨cs, hw⟩ := h.ring.2.whole e
    exact h.tab.offT hw (by decide) (by decide) hj

/-- Behind a call of the ring's Put. -/
theorem tinv_ring (h : TInv w wr a n cap more rB tB b tb v ob k xs mv L) (hR : Ring w1 b ((n : Int) + 1) v' k' xs' ob') (hO : Only (RingS b ob) wr w1) (hat : ob' = ob ∨ ∃ g, ob' = some g ∧ wr.heap.size ≤ g) :
    TInv w w1 a n cap more rB tB b tb v' ob' k' xs' mv L := by
  have hz := h.below.size
  refine ⟨h.lst.only hO (h.offR h.lst (by decide) (by decide)), h.more.only hO h.offR1, h.res.only hO (h.offR h.res (by decide) (by decide)), h.rbox.only hO (h.offR h.rbox (by decide) (by decide)), h.tbox.only hO (h.offR h.tbox (by decide) (by decide)), hR, h.tab.only hO h.ringTab, ?_, ?_, ?_, h.bIn, h.tabIn⟩
  · refine h.below.trans (hO.below (fun j e => ?_) hz)
    rcases e with rfl | e
    · exact h.bIn
    · exact h.obIn j e
  · rcases hat with rfl | ⟨g, rfl, hg⟩
    · exact h.apart
    · intro e
      injection e with e
      have := h.more.lt
      omega
  · intro g e
    rcases hat with rfl | ⟨g', e2, hg⟩
    · exact h.obIn g e
    · rw [e2] at e; cases e; omega

/-- Behind a call of the table's Put or Drop. -/
theorem tinv_tab (h : TInv w wr a n cap more rB tB b tb v ob k xs mv L) (hT : TabIX w1 tb ((n : Int) + 1) mv' L') (hO : Only (TabSIX tb mv L) wr w1) (hin : ∀ j, TabSIX tb mv' L' j → TabSIX tb mv L j ∨ wr.heap.size ≤ j) :
    TInv w w1 a n cap more rB tB b tb v ob k xs mv' L' := by
  have hz := h.below.size
  have off : ∀ {g : Nat} {t : TypeId} {cs : Array Value}, Whole wr g t cs → t ≠ 94 → t ≠ 98 → Whole w1 g t cs := fun hg h1 h2 => hg.only hO (h.tab.offT hg h1 h2)
  refine ⟨off h.lst (by decide) (by decide), off h.more (by decide) (by decide), off h.res (by decide) (by decide), off h.rbox (by decide) (by decide), off h.tbox (by decide) (by decide), ⟨off h.ring.1 (by decide) (by decide), h.ring.2.only hO (fun g e hj => ?_)⟩, hT, h.below.trans (hO.below h.tabIn hz), h.apart, h.obIn, h.bIn, ?_⟩
  · exact h.ringTab g hj (.inr e)
  · intro j hj
    rcases hin j hj with e | e
    · exact h.tabIn j e
    · omega

/-- Behind a store into a block of numbers. -/
theorem tinv_far (h : TInv w wr a n cap more rB tB b tb v ob k xs mv L) {p : Addr} {cs : Array Value} (hp : Whole wr p.block 3 cs) (hB : w.heap.size ≤ p.block) (u : Value) : TInv w (wr.setCell p u) a n cap more rB tB b tb v ob k xs mv L := by
  have hO := (Only.refl (fun j => j = p.block) wr).setCell (p := p) (.inl rfl) u
  have off : ∀ {g : Nat} {t : TypeId} {cs : Array Value}, Whole wr g t cs → t ≠ 3 → Whole (wr.setCell p u) g t cs := fun hg h1 => hg.only hO (fun e => (hg.ne hp h1) e)
  refine ⟨off h.lst (by decide), off h.more (by decide), off h.res (by decide), off h.rbox (by decide), off h.tbox (by decide), ⟨off h.ring.1 (by decide), h.ring.2.only hO (fun g e hj => ?_)⟩, h.tab.only hO (fun j hj e => ?_), h.below.setCell hB u, h.apart, h.obIn, h.bIn, h.tabIn⟩
  · obtain ⟨cs2, hw⟩ := h.ring.2.whole e
    exact hw.ne hp (by decide) hj
  · have : j = p.block := e
    subst this
    exact h.tab.offT hp (by decide) (by decide) hj

theorem TInv.grown {row : Option Nat} (h : TInv w wr a n cap more rB tB b tb v ob k xs mv L) (hg : wr.grownBy w1 row) (hr : ∀ r, row = some r → w.heap.size ≤ r ∧ (∃ o : Obj, wr.heap[r]? = some o ∧ o.isCells = false) ∧ mv ≠ some r) :
    TInv w w1 a n cap more rB tB b tb v ob k xs mv L :=
  have hr' := fun r e => (hr r e).2.1
  ⟨h.lst.grownOther hg hr', h.more.grownOther hg hr', h.res.grownOther hg hr', h.rbox.grownOther hg hr', h.tbox.grownOther hg hr', ⟨h.ring.1.grownOther hg hr', h.ring.2.grownOther hg hr'⟩, h.tab.grownOther hg (fun r e => (hr r e).2), h.below.grown hg h.below.size (fun k e => (hr k e).1), h.apart, h.obIn, h.bIn, h.tabIn⟩

theorem TInv.under (h : TInv w wr a n cap more rB tB b tb v ob k xs mv L) (hb : Below wr.heap.size wr w1) : TInv w w1 a n cap more rB tB b tb v ob k xs mv L :=
  h.grown (below_grown hb) (fun r e => by cases e)
theorem TInv.drew (h : TInv w wr a n cap more rB tB b tb v ob k xs mv L) : TInv w wr.drew a n cap more rB tB b tb v ob k xs mv L :=
  ⟨h.lst, h.more, h.res, h.rbox, h.tbox, ⟨h.ring.1, h.ring.2⟩, h.tab.drew, h.below.drew, h.apart, h.obIn, h.bIn, h.tabIn⟩
theorem TInv.drewN (h : TInv w wr a n cap more rB tB b tb v ob k xs mv L) (m : Nat) : TInv w (wr.drewN m) a n cap more rB tB b tb v ob k xs mv L :=
  ⟨h.lst, h.more, h.res, h.rbox, h.tbox, ⟨h.ring.1, h.ring.2⟩, h.tab.drewN m, below_drewN' h.below m, h.apart, h.obIn, h.bIn, h.tabIn⟩

/-- Nothing but cells is turned from B on. -/
theorem keepsFrom_only {S : Nat → Prop} {B : Nat} {W W' : World} (hO : Only S W W') (hS : ∀ j, S j → j < B ∨ ∃ t cs, Whole W j t cs) : KeepsFrom B W W' :=
  ⟨hO.size, fun k o hB hk hc => by
    refine hO.same hk (fun hs => ?_)
    rcases hS k hs with e | ⟨t, cs, hw⟩
    · omega
    · have hw' : W.heap[k]? = some (Obj.cells cs t (0, 0)) := hw
      rw [hk] at hw'
      cases hw'
      cases hc⟩
theorem TInv.keepsR (h : TInv w wr a n cap more rB tB b tb v ob k xs mv L) {B : Nat} (hO : Only (RingS b ob) wr w1) : KeepsFrom B wr w1 :=
  keepsFrom_only hO (fun j hj => .inr (by
    rcases hj with rfl | e
    · exact ⟨_, _, h.ring.1⟩
    · obtain ⟨cs, hw⟩ := h.ring.2.whole e
      exact ⟨_, _, hw⟩))
theorem TInv.keepsT (h : TInv w wr a n cap more rB tB b tb v ob k xs mv L) {B : Nat} (hmv : ∀ mb, mv = some mb → mb < B) (hO : Only (TabSIX tb mv L) wr w1) : KeepsFrom B wr w1 :=
  keepsFrom_only hO (fun j hj => by
    rcases hj with rfl | e | ⟨x, hx, rfl⟩
    · exact .inr ⟨_, _, h.tab.tab⟩
    · exact .inl (hmv j e)
    · obtain ⟨i, hi⟩ := List.getElem?_of_mem hx
      exact .inr ⟨_, _, h.tab.ents i x hi⟩)
end

theorem firsts_cons {α : Type} (f : Nat → α) (k : Nat) : firsts f (k + 1) = f 0 :: firsts (fun i => f (i + 1)) k := by
  simp [firsts, List.range_succ_eq_map, Function.comp_def]
theorem firsts_mem {α : Type} {f : Nat → α} {k : Nat} {x : α} (h : x ∈ firsts f k) : ∃ i, i < k ∧ x = f i := by
  obtain ⟨i, hi, rfl⟩ := List.mem_map.1 h
  exact ⟨i, List.mem_range.1 hi, rfl⟩
theorem firsts_get {α : Type} (f : Nat → α) {k i : Nat} (h : i < k) : (firsts f k)[i]? = some (f i) := by simp [firsts, h]

/-- What the table holds when m of the n rounds are done. -/
def QQ (zs : List Int) (more : Int) (n m : Nat) : List (KeyIX × Int) := firsts (fun i => (((m + i : Nat) : Int), zs.getD (m + i) 0)) (n - m) ++ firsts (fun i => (((n + i : Nat) : Int), more)) m
theorem QQ_zero (zs : List Int) (more : Int) (n : Nat) : QQ zs more n 0 = firsts (fun i => (((i : Nat) : Int), zs.getD i 0)) n := by simp [QQ, firsts]
theorem QQ_length (zs : List Int) (more : Int) {n m : Nat} (h : m ≤ n) : (QQ zs more n m).length = n := by simp [QQ, firsts_length]; omega
theorem QQ_head (zs : List Int) (more : Int) {n m : Nat} (h : m < n) : QQ zs more n m = ((m : Int), zs.getD m 0) :: (QQ zs more n m).tail ∧ (QQ zs more n m).tail ++ [(((n + m : Nat) : Int), more)] = QQ zs more n (m + 1) ∧ ∀ q ∈ (QQ zs more n m).tail, q.1 ≠ ((n + m : Nat) : Int) := by
  obtain ⟨d, hd⟩ : ∃ d, n - m = d + 1 := ⟨n - m - 1, by omega⟩
  have e1 : QQ zs more n m = ((m : Int), zs.getD m 0) :: (firsts (fun i => (((m + 1 + i : Nat) : Int), zs.getD (m + 1 + i) 0)) d ++ firsts (fun i => (((n + i : Nat) : Int), more)) m) := by
    unfold QQ
    have hf : (fun i : Nat => (((m + (i + 1) : Nat) : Int), zs.getD (m + (i + 1)) 0)) = fun i => (((m + 1 + i : Nat) : Int), zs.getD (m + 1 + i) 0) := by
      funext i
      rw [show m + (i + 1) = m + 1 + i by omega]
    rw [hd, firsts_cons, hf]
    rfl
  refine ⟨by rw [e1]; rfl, ?_, ?_⟩
  · rw [e1, List.tail_cons, List.append_assoc]
    unfold QQ
    rw [firsts_succ, show n - (m + 1) = d by omega]
  · rw [e1, List.tail_cons]
    intro q hq
    rcases List.mem_append.1 hq with hq | hq
    · obtain ⟨i, hi, rfl⟩ := firsts_mem hq
      intro e
      have e2 : ((m + 1 + i : Nat) : Int) = ((n + m : Nat) : Int) := e
      omega
    · obtain ⟨i, hi, rfl⟩ := firsts_mem hq
      intro e
      have e2 : ((n + i : Nat) : Int) = ((n + m : Nat) : Int) := e
      omega

end Go.Proofs.Ytgcnocaibhiggaa
