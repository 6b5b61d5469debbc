/- Values of bytes in blocks of their own, frozen or not; rows of attributes of such values. -/
import Derived.Test.YteloaidnfcmadaaStRSign
import Derived.Test.YteloaidnfcmadaaIceFault
namespace Go.Proofs.Yteloaidnfcmadaa
open Go.RowKit
set_option linter.unusedVariables false

/-- The slice v reads as xs, in a block of bytes. -/
def Byt (w : World) (v : Value) (xs : List Int) : Prop := ∃ A c, v = .slice A xs.length c ∧ xs.length ≤ c ∧ c ≤ maxLen ∧ (A = none → c = 0) ∧ (0 < xs.length → ∃ g off cs fz, A = some ⟨g, off, none⟩ ∧ w.heap[g]? = some (Obj.cells cs 5 fz) ∧ ∀ i, i < xs.length → cs[off + i]? = some (.int .u8 (xs.getD i 0)))
/-- Blocks of bytes are kept. -/
def KeptB (w w' : World) : Prop := ∀ (g : Nat) (cs : Array Value) (fz : Nat × Nat), w.heap[g]? = some (Obj.cells cs 5 fz) → w'.heap[g]? = some (Obj.cells cs 5 fz)
section
variable {w w' w2 : World} {v : Value} {xs : List Int}
theorem KeptB.trans (h : KeptB w w') (k : KeptB w' w2) : KeptB w w2 := fun g cs fz hg => k g cs fz (h g cs fz hg)
theorem KeptB.under (hb : Below w.heap.size w w') : KeptB w w' := fun g cs fz hg => (hb.block g (Array.getElem?_eq_some_iff.1 hg).1).trans hg
theorem KeptB.drew (w : World) : KeptB w w.drew := fun _ _ _ h => h
theorem KeptB.put {g : Nat} {t : TypeId} {cs : Array Value} (h : Whole w g t cs) (ht : t ≠ 5) (i : Nat) (u : Value) : KeptB w (w.setCell ⟨g, i, none⟩ u) := fun g' cs' fz hg => by
  have hne : g' ≠ g := fun e => by
    subst e
    have e1 : some (Obj.cells cs t (0, 0)) = some (Obj.cells cs' 5 fz) := Eq.trans (Eq.symm h) hg
    injection e1 with e2
    injection e2 with _ e3
    exact ht e3
  exact (Below.heap_setCell w ⟨g, i, none⟩ u g' hne).trans hg
theorem KeptB.grown {e : TypeId} {base : Nat} {ps : List (Int × Value)} (h : Row2 e w base v ps) (he : e ≠ 5) (hg : w.grownBy w' v.ownBlock) : KeptB w w' := fun g' cs' fz hg' => by
  refine (hg.block g' (Array.getElem?_eq_some_iff.1 hg').1 fun e1 => ?_).trans hg'
  obtain ⟨cs2, h2⟩ := h.whole e1.symm
  have e2 : some (Obj.cells cs2 e (0, 0)) = some (Obj.cells cs' 5 fz) := Eq.trans (Eq.symm h2) hg'
  injection e2 with e3
  injection e3 with _ e4
  exact he e4
theorem Byt.keep (h : Byt w v xs) (hk : KeptB w w') : Byt w' v xs := by
  obtain ⟨A, c, h1, h2, h3, h4, h5⟩ := h
  refine ⟨A, c, h1, h2, h3, h4, fun hn => ?_⟩
  obtain ⟨g, off, cs, fz, e1, e2, e3⟩ := h5 hn
  exact ⟨g, off, cs, fz, e1, hk g cs fz e2, e3⟩
theorem Byt.v8 (h : Byt w v xs) : V8 w w.heap.size v xs := by
  obtain ⟨A, c, h1, h2, h3, h4, h5⟩ := h
  refine ⟨A, c, h1, h2, h3, h4, rfl, fun hn => ?_⟩
  obtain ⟨g, off, cs, fz, e1, e2, e3⟩ := h5 hn
  refine ⟨_, e1, (Array.getElem?_eq_some_iff.1 e2).1, fun i hi => ?_⟩
  rw [Addr.add_lit, cell_of_row w g _ cs 5 fz e2]
  exact e3 i hi
theorem Byt.nil (w : World) : Byt w (.slice none 0 0) [] := ⟨none, 0, rfl, Nat.le_refl _, Nat.zero_le _, fun _ => rfl, fun hn => by simp at hn⟩
theorem Byt.whole {g : Nat} (h : Whole w g 5 (arr .u8 xs)) (hl : xs.length ≤ 100) : Byt w (.slice (some ⟨g, 0, none⟩) xs.length xs.length) xs :=
  ⟨_, _, rfl, Nat.le_refl _, by unfold maxLen; omega, (fun e => by cases e), fun hn => ⟨g, 0, _, _, rfl, h, fun i hi => by rw [Nat.zero_add]; exact arr_get hi⟩⟩
end
/-- A text as bytes. -/
theorem conv_byt (s : ByteArray) (w : World) (hs : s.size ≤ maxLen) : ∃ c W, (convert 9 22 (.string s)).run Try.prog w = .ok (.slice (some ⟨w.heap.size, 0, none⟩) s.size c) W ∧ W.heap.size = w.heap.size + 1 ∧
    Byt W (.slice (some ⟨w.heap.size, 0, none⟩) s.size c) (nums s) ∧ Below w.heap.size w W := by
  have hsz : ∀ o : Obj, (w.drew.alloc o).heap.size = w.heap.size + 1 := fun o => by
    show (w.heap.push o).size = _
    simp
  refine ⟨_, _, run_bytes_of_string w 9 22 5 s Try.underlying9 Try.underlying22 Try.underlying5, hsz _, ?_, (Below.refl _ w).drew.alloc (Nat.le_refl _) _⟩
  refine ⟨_, _, by rw [nums_length], by rw [nums_length]; exact grownCap_ge _ _ _ _, grownCap_le_maxLen _ _ _ _ hs, (fun e => by cases e), fun hn => ⟨w.heap.size, 0, bytesRow s (grownCap w s.size 0 5), ((bytesRow s (grownCap w s.size 0 5)).size, (bytesRow s (grownCap w s.size 0 5)).size + 1), rfl, ?_, fun i hi => ?_⟩⟩
  · show (w.heap.push _)[w.heap.size]? = _
    simp
  · rw [nums_length] at hi
    have hi' : i < s.data.size := hi
    simp only [bytesRow, nums, List.getD, Array.getElem?_append, Array.size_map, List.getElem?_map, Array.getElem?_map, Array.getElem?_toList, Nat.zero_add]
    rw [if_pos hi', Array.getElem?_eq_getElem hi']
    rfl

/-- The pairs ps read as the attributes L. -/
def ElsB (w : World) (ps : List (Int × Value)) (L : List At) : Prop := ps.length = L.length ∧ ∀ i, i < ps.length → (ps.getD i (0, undef)).1 = (L.getD i default).ty ∧ Byt w (ps.getD i (0, undef)).2 (L.getD i default).val
theorem ElsB.keep {w w' : World} {ps : List (Int × Value)} {L : List At} (h : ElsB w ps L) (hk : KeptB w w') : ElsB w' ps L := ⟨h.1, fun i hi => ⟨(h.2 i hi).1, (h.2 i hi).2.keep hk⟩⟩
theorem ElsB.nil (w : World) : ElsB w [] [] := ⟨rfl, fun i hi => by simp at hi⟩
theorem ElsB.snoc {w : World} {ps : List (Int × Value)} {L : List At} (h : ElsB w ps L) {v : Value} {a : At} (hv : Byt w v a.val) : ElsB w (ps ++ [(a.ty, v)]) (L ++ [a]) := by
  have hl := h.1
  refine ⟨by simp [hl], fun i hi => ?_⟩
  simp only [List.length_append, List.length_cons, List.length_nil] at hi
  by_cases hil : i < ps.length
  · have e1 : (ps ++ [(a.ty, v)]).getD i (0, undef) = ps.getD i (0, undef) := by simp [List.getD, List.getElem?_append_left hil]
    have e2 : (L ++ [a]).getD i default = L.getD i default := by simp [List.getD, List.getElem?_append_left (show i < L.length by omega)]
    rw [e1, e2]
    exact h.2 i hil
  · obtain rfl : i = ps.length := by omega
    have e1 : (ps ++ [(a.ty, v)]).getD ps.length (0, undef) = (a.ty, v) := by simp [List.getD]
    have e2 : (L ++ [a]).getD ps.length default = a := by simp [List.getD, hl]
    rw [e1, e2]
    exact ⟨rfl, hv⟩
theorem Row2.atsB {e : TypeId} {w : World} {base : Nat} {A : Option Addr} {n c : Nat} {ps : List (Int × Value)} {L : List At} (h : Row2 e w base (.slice A n c) ps) (hl : ElsB w ps L) : Ats w w.heap.size A L := by
  intro hn
  rcases h.2 with ⟨hv, h0⟩ | ⟨g, cap, cur, hv, h2, h3, h4⟩
  · have := hl.1; omega
  · cases hv
    refine ⟨_, rfl, (Array.getElem?_eq_some_iff.1 h3).1, fun i hi => ?_⟩
    have hip : i < ps.length := by rw [hl.1]; exact hi
    have hc := acells_at ps i hip
    have c0 := World.ownsRow.cells (g := g) h rfl _ _ hc.1
    have c1 := World.ownsRow.cells (g := g) h rfl _ _ hc.2
    obtain ⟨e1, e2⟩ := hl.2 i hip
    rw [e1] at c0
    rw [Addr.add_lit] at c0 c1
    refine ⟨by rw [Addr.add_lit]; exact c0, _, ?_, e2.v8⟩
    rw [Addr.add_lit]
    simpa [Nat.add_assoc] using c1

/-- What is known while the request is made: the check's box, the message's box, the row of attributes. -/
structure Mk (gc gm N : Nat) (C : Array Value) (cl me : Int) (id : List Int) (w W : World) (v : Value) (ps : List (Int × Value)) (L : List At) : Prop where
  chk : Whole W gc 36 C
  box : Whole W gm 40 (mv cl me id v)
  id12 : id.length = 12
  row : Row2 57 W N v ps
  els : ElsB W ps L
  below : Below N w W
  low : N ≤ gm
section
variable {gc gm N : Nat} {C : Array Value} {cl me : Int} {id : List Int} {w W W' : World} {v v' : Value} {ps : List (Int × Value)} {L : List At}
theorem Mk.under (h : Mk gc gm N C cl me id w W v ps L) (hb : Below W.heap.size W W') : Mk gc gm N C cl me id w W' v ps L :=
  ⟨h.chk.under hb, h.box.under hb, h.id12, h.row.under hb, h.els.keep (KeptB.under hb), h.below.trans (hb.mono (Nat.le_trans h.low (Nat.le_of_lt h.box.lt))), h.low⟩
theorem Mk.slot (h : Mk gc gm N C cl me id w W v ps L) : W.cell? ⟨gm, 14, none⟩ = some v := by rw [h.box.cell]; exact mv_14 _ _ _ _ h.id12
theorem Mk.hN (h : Mk gc gm N C cl me id w W v ps L) : N ≤ W.heap.size := Nat.le_trans h.low (Nat.le_of_lt h.box.lt)
/-- An attribute was appended. -/
theorem Mk.grow {a : At} {u : Value} (h : Mk gc gm N C cl me id w W v ps L) (hr : Row2 57 W' N v' (ps ++ [(a.ty, u)])) (hg : W.grownBy W' v.ownBlock) (hu : Byt W u a.val) : Mk gc gm N C cl me id w (W'.setCell ⟨gm, 14, none⟩ v') v' (ps ++ [(a.ty, u)]) (L ++ [a]) := by
  have hkb := KeptB.grown h.row (by decide) hg
  have b := h.box.grown hg (fun e => h.row.far h.box (by decide) e.symm)
  have c := h.chk.grown hg (fun e => h.row.far h.chk (by decide) e.symm)
  have hk2 : KeptB W' (W'.setCell ⟨gm, 14, none⟩ v') := KeptB.put b (by decide) 14 v'
  have hb1 : Below N W W' := (Below.refl _ W).grown hg h.hN (fun k hk => (h.row.lt hk).1)
  have hb2 : Below N W' (W'.setCell ⟨gm, 14, none⟩ v') := (Below.refl _ W').setCell (p := ⟨gm, 14, none⟩) h.low _
  refine ⟨c.far (p := ⟨gm, 14, none⟩) (c.ne b (by decide)) _, ?_, h.id12, hr.keep fun g cs hw => hw.far (p := ⟨gm, 14, none⟩) (hw.ne b (by decide)) _, ((h.els.keep hkb).keep hk2).snoc ((hu.keep hkb).keep hk2), (h.below.trans hb1).trans hb2, h.low⟩
  have := b.set 14 v'
  rwa [mv_set _ _ _ _ _ h.id12] at this
theorem Mk.msg {A : Option Addr} {l c : Nat} (h : Mk gc gm N C cl me id w W (.slice A l c) ps L) : MsgV W W.heap.size (mv cl me id (.slice A l c)) ⟨cl, me, id, L⟩ A c := by
  obtain ⟨A2, c2, hv, f1, f2, f3⟩ := h.row.form
  injection hv with e1 e2 e3
  subst e1
  subst e3
  subst e2
  exact ⟨by rw [h.els.1], h.id12, by show L.length ≤ c; rw [← h.els.1]; exact f1, f2, f3, h.row.atsB h.els⟩
end
theorem wpList_appR {ops : Array Oper} {rest : List Oper} {o : Oper} {a : Act} {Q : Exit → Act → World → Prop} (hgd : o.guard = none) (s y : Operand) (ho : o.op = .call { callee := .builtin .append, args := #[s, y], argTypes := #[38, 38] })
    {w : World} {base : Nat} {v : Value} {ps : List (Int × Value)} (hs : a.eval s = v) (hown : Row2 57 w base v ps) {g c : Nat} {x : Int} {u : Value} (hy : a.eval y = .slice (some ⟨g, 0, none⟩) 1 c)
    (hg : Whole w g 57 #[.int .u16 x, u]) (hu : u.oneCell' = true) (h63 : ps.length + 1 ≤ 4398046511103) (hbase : base ≤ w.heap.size)
    (h : ∀ v' w', Row2 57 w' base v' (ps ++ [(x, u)]) → w.grownBy w' v.ownBlock → wpList Try.prog ops Q rest (a.put o.dst v') w') : wpList Try.prog ops Q (o :: rest) a w :=
  wpList_plain hgd fun _ hk => wp_append2 s y ho Try.underlying38 Try.infoRAttr rfl hs hown hy hg hu h63 hbase fun v' w' h1 h2 _ => hk _ _ (h v' w' h1 h2)
end Go.Proofs.Yteloaidnfcmadaa
