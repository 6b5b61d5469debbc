/- Sign, of the document: what is known while it signs. -/
import Derived.Test.YteloaidnfcmadaaStSign
import Derived.Test.YteloaidnfcmadaaStRParse
import Derived.Test.YteloaidnfcmadaaRMac
namespace Go.Proofs.Yteloaidnfcmadaa
open Go.RowKit
set_option linter.unusedVariables false
set_option linter.unusedSimpArgs false

theorem wp_append2s {o : Oper} {a : Act} {K : Act → World → Prop} {Q : Exit → Act → World → Prop} {e T : TypeId} {z : Value} (s y : Operand) (ho : o.op = .call { callee := .builtin .append, args := #[s, y], argTypes := #[T, T] })
    (hT : Try.prog.underlying T = some (.slice e)) (hi : (Try.prog.info? e).map (fun i => (i.zero, i.size, i.bytes)) = some (some z, 2, 32)) (hz : z.cells.size = 2) {w : World} {base : Nat} {v : Value} {ps qs : List (Int × Value)} (hs : a.eval s = v) (hown : Row2 e w base v ps) {A : Option Addr} {m c : Nat} (hy : a.eval y = .slice A m c)
    (hsrc : Src w A m c qs) (h63 : ps.length + m ≤ 4398046511103) (hbase : base ≤ w.heap.size)
    (h : ∀ v' w', Row2 e w' base v' (ps ++ qs) → w.grownBy w' v.ownBlock → (v'.ownBlock = v.ownBlock ∨ v'.ownBlock = some w.heap.size) → K (a.put o.dst v') w') : o.wp Try.prog a w K Q := by
  obtain ⟨v', w', hrun, h2, h3, h4⟩ := run_append2s o.type hT hi hz hown hsrc h63 hbase
  unfold Oper.wp execOp
  simp only [ho, resolve, invoke, builtin, Sem.run_bind, Sem.run_pure, Result.andThen_ok, List.map_toArray, List.map_cons, List.map_nil, hs, hy, hrun]
  exact h v' w' h2 h3 h4
theorem Row2.made (w : World) {N : Nat} (h : N ≤ w.heap.size) : Row2 57 (w.alloc (.cells #[] 57)) N (.slice (some ⟨w.heap.size, 0, none⟩) 0 0) [] := World.ownsRow_made w #[] 0 h (Nat.zero_le _) rfl

/-- The message's box in block N, the copy in the next. -/
structure R8 (w : World) (N : Nat) (M M1 : Array Value) (X : World) : Prop where
  box : Whole X N 40 M
  full : Whole X (N + 1) 40 M1
  below : Below N w X
section
variable {w X X' : World} {N : Nat} {M M1 : Array Value} {v v' : Value} {ps : List (Int × Value)}
theorem R8.size (h : R8 w N M M1 X) : N + 2 ≤ X.heap.size := h.full.lt
theorem R8.under (h : R8 w N M M1 X) (hb : Below X.heap.size X X') : R8 w N M M1 X' := ⟨h.box.under hb, h.full.under hb, h.below.trans (hb.mono (by have := h.size; omega))⟩
theorem R8.alloc (h : R8 w N M M1 X) (o : Obj) : R8 w N M M1 (X.alloc o) := h.under ((Below.refl _ X).alloc (Nat.le_refl _) o)
theorem R8.grown (h : R8 w N M M1 X) (hr : Row2 57 X (N + 2) v ps) (hg : X.grownBy X' v.ownBlock) : R8 w N M M1 X' := by
  have hs := h.size
  have hb : Below (N + 2) X X' := (Below.refl _ X).grown hg hs (fun k hk => (hr.lt hk).1)
  exact ⟨h.box.below hb (by omega), h.full.below hb (by omega), h.below.trans (hb.mono (by omega))⟩
end
theorem ne_new {X : World} {g : Nat} {t : TypeId} {cs : Array Value} (h : Whole X g t cs) : (Value.slice (some ⟨X.heap.size, 0, none⟩) 0 0).ownBlock ≠ some g := fun e => by
  cases e
  exact absurd h.lt (Nat.lt_irrefl _)
theorem ne_row {X : World} {N : Nat} {v : Value} {ps : List (Int × Value)} (h : Row2 57 X N v ps) : v.ownBlock ≠ some X.heap.size := fun e => by
  have := (h.lt e).2
  omega
theorem ne_next {X : World} {g : Nat} {t : TypeId} {cs : Array Value} {v v' : Value} (hne : v.ownBlock ≠ some g) (h : Whole X g t cs) (hh : v'.ownBlock = v.ownBlock ∨ v'.ownBlock = some X.heap.size) : v'.ownBlock ≠ some g := fun e => by
  rcases hh with h1 | h1
  · rw [h1] at e; exact hne e
  · rw [h1] at e
    cases e
    exact absurd h.lt (Nat.lt_irrefl _)
/-- The copy, with the attributes so far, in a world behind w. -/
structure R9 (w : World) (N : Nat) (M : Array Value) (m : Msg) (q1 : List (Int × Value)) (L : List At) (g20 : Nat) (A7 : Option Addr) (c7 : Nat) (X : World) : Prop where
  box : Whole X N 40 M
  full : Whole X (N + 1) 40 (mv m.cl m.me m.id (.slice A7 (q1 ++ [((8 : Int), Value.slice (some ⟨g20, 0, none⟩) 20 20)]).length c7))
  row : Row2 57 X (N + 2) (.slice A7 (q1 ++ [((8 : Int), Value.slice (some ⟨g20, 0, none⟩) 20 20)]).length c7) (q1 ++ [(8, .slice (some ⟨g20, 0, none⟩) 20 20)])
  zz : Whole X g20 5 (arr .u8 z20)
  els : ElsV X N q1 L
  below : Below N w X
theorem sign_full {w X : World} {N c g20 c7 : Nat} {A A7 : Option Addr} {M : Array Value} {m : Msg} {q1 : List (Int × Value)} {L : List At} (hf : M = mv m.cl m.me m.id (.slice A m.at_.length c)) (h12 : m.id.length = 12) (hR : R8 w N M M X)
    (hr : Row2 57 X (N + 2) (.slice A7 (q1 ++ [((8 : Int), Value.slice (some ⟨g20, 0, none⟩) 20 20)]).length c7) (q1 ++ [(8, .slice (some ⟨g20, 0, none⟩) 20 20)])) (h20 : Whole X g20 5 (arr .u8 z20)) (he : ElsV X N q1 L) :
    R9 w N M m q1 L g20 A7 c7 (X.setCell ⟨N + 1, 14, none⟩ (.slice A7 (q1 ++ [((8 : Int), Value.slice (some ⟨g20, 0, none⟩) 20 20)]).length c7)) := by
  have hb : Below (N + 1) X (X.setCell ⟨N + 1, 14, none⟩ (.slice A7 (q1 ++ [((8 : Int), Value.slice (some ⟨g20, 0, none⟩) 20 20)]).length c7)) := (Below.refl (N + 1) X).setCell (p := ⟨N + 1, 14, none⟩) (Nat.le_refl _) _
  refine ⟨hR.box.below hb (Nat.lt_succ_self N), ?_, hr.keep fun g cs hw => hw.far (p := ⟨N + 1, 14, none⟩) (fun e => hw.ne hR.full (by decide) e) _, h20.far (p := ⟨N + 1, 14, none⟩) (fun e => h20.ne hR.full (by decide) e) _, he.below (hb.mono (Nat.le_succ N)), hR.below.trans (hb.mono (Nat.le_succ N))⟩
  have h := hR.full
  rw [hf] at h
  have := h.set 14 (.slice A7 (q1 ++ [((8 : Int), Value.slice (some ⟨g20, 0, none⟩) 20 20)]).length c7)
  rwa [mv_set _ _ _ _ _ h12] at this

/-- An attribute whose value is a whole block. -/
def Ext (X : World) (p : Int × Value) (a : At) : Prop := ∃ g t, p = (a.ty, .slice (some ⟨g, 0, none⟩) a.val.length a.val.length) ∧ Whole X g t (arr .u8 a.val) ∧ t ≠ 40 ∧ t ≠ 57 ∧ a.val.length ≤ 100
theorem Ext.v8 {X : World} {p : Int × Value} {a : At} (h : Ext X p a) : p.1 = a.ty ∧ V8 X X.heap.size p.2 a.val := by
  obtain ⟨g, t, rfl, hw, _, _, hl⟩ := h
  have h1 := Bs.row hw 0 (Nat.zero_le _)
  rw [Nat.sub_zero, List.drop_zero] at h1
  exact ⟨rfl, _, _, rfl, Nat.le_refl _, by unfold maxLen; omega, (fun e => by cases e), h1.more hw.lt⟩
theorem Ext.under {X X' : World} {p : Int × Value} {a : At} (h : Ext X p a) (hb : Below X.heap.size X X') : Ext X' p a := by
  obtain ⟨g, t, e, hw, h1, h2, hl⟩ := h
  exact ⟨g, t, e, hw.under hb, h1, h2, hl⟩
theorem Ext.put {X : World} {p : Int × Value} {a : At} (h : Ext X p a) {g' i : Nat} {t' : TypeId} {cs : Array Value} (hw' : Whole X g' t' cs) (ht : t' = 40 ∨ t' = 57) (u : Value) : Ext (X.setCell ⟨g', i, none⟩ u) p a := by
  obtain ⟨g, t, e, hw, h1, h2, hl⟩ := h
  refine ⟨g, t, e, hw.far (p := ⟨g', i, none⟩) (fun e => hw.ne hw' (fun e2 => ?_) e) u, h1, h2, hl⟩
  rcases ht with ht | ht
  · exact h1 (e2.trans ht)
  · exact h2 (e2.trans ht)
theorem Ext.grown {X X' : World} {p : Int × Value} {a : At} {N : Nat} {v : Value} {ps : List (Int × Value)} (h : Ext X p a) (hr : Row2 57 X N v ps) (hg : X.grownBy X' v.ownBlock) : Ext X' p a := by
  obtain ⟨g, t, e, hw, h1, h2, hl⟩ := h
  exact ⟨g, t, e, hw.grown hg (fun e2 => hr.far hw (fun e3 => h2 e3.symm) e2.symm), h1, h2, hl⟩
def ExtL (X : World) : List (Int × Value) → List At → Prop
  | [], [] => True
  | p :: ps, a :: bs => Ext X p a ∧ ExtL X ps bs
  | _, _ => False
theorem ExtL.map {X X' : World} (hk : ∀ p a, Ext X p a → Ext X' p a) : ∀ {ps : List (Int × Value)} {bs : List At}, ExtL X ps bs → ExtL X' ps bs
  | [], [], h => trivial
  | p :: ps, a :: bs, h => ⟨hk _ _ h.1, ExtL.map hk h.2⟩
  | [], _ :: _, h => h.elim
  | _ :: _, [], h => h.elim
theorem ExtL.els {X : World} : ∀ {ps : List (Int × Value)} {bs : List At}, ExtL X ps bs → ElsV X X.heap.size ps bs
  | [], [], h => ⟨rfl, fun i hi => by simp at hi⟩
  | p :: ps, a :: bs, h => by
    obtain ⟨h1, h2⟩ := h
    have k := ExtL.els h2
    refine ⟨by simp [k.1], fun i hi => ?_⟩
    cases i with
    | zero => exact h1.v8
    | succ i => exact k.2 i (by simpa using hi)
  | [], _ :: _, h => h.elim
  | _ :: _, [], h => h.elim
/-- The copy, with attributes of its own behind those of the message. -/
structure RQ (w : World) (N : Nat) (M : Array Value) (m : Msg) (q1 ex : List (Int × Value)) (exL : List At) (A7 : Option Addr) (l7 c7 : Nat) (X : World) : Prop where
  len : l7 = (q1 ++ ex).length
  box : Whole X N 40 M
  full : Whole X (N + 1) 40 (mv m.cl m.me m.id (.slice A7 l7 c7))
  row : Row2 57 X (N + 2) (.slice A7 l7 c7) (q1 ++ ex)
  els : ElsV X N q1 m.at_
  ext : ExtL X ex exL
  below : Below N w X
section
variable {w X X' : World} {N : Nat} {M : Array Value} {m : Msg} {q1 ex : List (Int × Value)} {exL : List At} {A7 : Option Addr} {l7 c7 : Nat}
theorem RQ.size (h : RQ w N M m q1 ex exL A7 l7 c7 X) : N + 2 ≤ X.heap.size := h.full.lt
theorem RQ.under (h : RQ w N M m q1 ex exL A7 l7 c7 X) (hb : Below X.heap.size X X') : RQ w N M m q1 ex exL A7 l7 c7 X' :=
  ⟨h.len, h.box.under hb, h.full.under hb, h.row.under hb, h.els.below (hb.mono (by have := h.size; omega)), h.ext.map (fun _ _ k => k.under hb), h.below.trans (hb.mono (by have := h.size; omega))⟩
theorem RQ.msg (h : RQ w N M m q1 ex exL A7 l7 c7 X) (h12 : m.id.length = 12) : MsgV X X.heap.size (mv m.cl m.me m.id (.slice A7 l7 c7)) ⟨m.cl, m.me, m.id, m.at_ ++ exL⟩ A7 c7 := by
  obtain ⟨A', c', e, f1, f2, f3⟩ := h.row.form
  cases e
  have hN := h.size
  have ke := h.ext.els
  have hl : (q1 ++ ex).length = (m.at_ ++ exL).length := by have a := h.els.1; have b := ke.1; simp [a, b]
  refine ⟨?_, h12, by show (m.at_ ++ exL).length ≤ c7; rw [← hl]; exact f1, f2, f3, h.row.ats (N := X.heap.size) ((h.els.more (by omega)).app ke).els (Nat.le_refl _)⟩
  show _ = mv m.cl m.me m.id (.slice A7 (m.at_ ++ exL).length c7)
  rw [h.len, hl]
end
theorem R9.rq {w X : World} {N : Nat} {M : Array Value} {m : Msg} {q1 : List (Int × Value)} {g20 c7 : Nat} {A7 : Option Addr} (h : R9 w N M m q1 m.at_ g20 A7 c7 X) : RQ w N M m q1 [(8, .slice (some ⟨g20, 0, none⟩) 20 20)] [⟨8, z20⟩] A7 (q1 ++ [((8 : Int), Value.slice (some ⟨g20, 0, none⟩) 20 20)]).length c7 X :=
  ⟨rfl, h.box, h.full, h.row, h.els, ⟨⟨g20, 5, by simp [z20], h.zz, by decide, by decide, by simp [z20]⟩, trivial⟩, h.below⟩
/-- The value of the last attribute is another. -/
theorem Row2.last {X : World} {N g l c : Nat} {q : List (Int × Value)} {x : Int} {u : Value} (h : Row2 57 X N (.slice (some ⟨g, 0, none⟩) l c) (q ++ [(x, u)])) (u' : Value) : Row2 57 (X.setCell ⟨g, q.length * 2 + 1, none⟩ u') N (.slice (some ⟨g, 0, none⟩) l c) (q ++ [(x, u')]) ∧ N ≤ g ∧ (∃ cs, Whole X g 57 cs) ∧ q.length < c ∧ c ≤ maxLen ∧ l = q.length + 1 := by
  have h1 := h.1
  obtain ⟨A', c', e, f1, f2, f3⟩ := h.form
  have hl : l = (q ++ [(x, u)]).length := by cases e; rfl
  rcases h.2 with ⟨e, _⟩ | ⟨g', cap, cur, e, hg, hw, hc, hm, hsz, ht⟩
  · cases e
  simp only [Value.slice.injEq, Option.some.injEq, Addr.mk.injEq] at e
  obtain ⟨⟨rfl, -, -⟩, -, rfl⟩ := e
  have hlq : (q ++ [(x, u)]).length = q.length + 1 := by simp
  rw [hlq] at hc ht
  have hset : Whole (X.setCell ⟨g, q.length * 2 + 1, none⟩ u') g 57 (cur.setIfInBounds (q.length * 2 + 1) u') := Whole.set hw _ _
  have hac : acells (q ++ [(x, u')]) = (acells (q ++ [(x, u)])).set (q.length * 2 + 1) u' := by
    rw [acells_append, acells_append, List.set_append_right _ _ (by rw [acells_length]; omega)]
    rw [acells_length, show q.length * 2 + 1 - q.length * 2 = 1 by omega]
    rfl
  refine ⟨?_, hg, ⟨cur, hw⟩, by omega, hm, by rw [hl, hlq]⟩
  unfold Row2
  rw [show (q ++ [(x, u')]).length = q.length + 1 by simp]
  refine ⟨by rw [acells_length]; simp, .inr ⟨g, c, cur.setIfInBounds (q.length * 2 + 1) u', by rw [hl, hlq], hg, hset, hc, hm, by simpa using hsz, ?_⟩⟩
  rw [hac, ← ht]
  obtain ⟨cur⟩ := cur
  simp only [List.setIfInBounds_toArray, List.take_set]

theorem RQ.blk {w X : World} {N : Nat} {M : Array Value} {m : Msg} {q1 ex : List (Int × Value)} {exL : List At} {A7 : Option Addr} {l7 c7 : Nat} (h : RQ w N M m q1 ex exL A7 l7 c7 X) (hp : 0 < ex.length) : ∃ g7, A7 = some ⟨g7, 0, none⟩ := by
  rcases h.row.2 with ⟨e, _⟩ | ⟨g', cap, cur, e, _⟩
  · exfalso
    have hl := h.len
    simp only [Value.slice.injEq] at e
    rw [e.2.1] at hl
    simp at hl
    omega
  · simp only [Value.slice.injEq] at e
    exact ⟨g', e.1⟩
theorem V8.in8' {w : World} {v : Value} {xs : List Int} (h : V8 w w.heap.size v xs) (hx : In256 xs) : ∃ A c, v = .slice A xs.length c ∧ In8 w A xs.length c xs := h.in8 hx

theorem RQ.tag {w X : World} {N : Nat} {M : Array Value} {m : Msg} {q1 : List (Int × Value)} {u : Value} {a0 : At} {g7 gt l7 c7 : Nat} {T : List Int} (h : RQ w N M m q1 [(8, u)] [a0] (some ⟨g7, 0, none⟩) l7 c7 X) (hgt : Whole X gt 81 (arr .u8 T)) (hT : T.length = 20) :
    RQ w N M m q1 [(8, .slice (some ⟨gt, 0, none⟩) 20 20)] [⟨8, T⟩] (some ⟨g7, 0, none⟩) l7 c7 (X.setCell ⟨g7, q1.length * 2 + 1, none⟩ (.slice (some ⟨gt, 0, none⟩) 20 20)) := by
  obtain ⟨hrl, hgN, ⟨csR, hwR⟩, hqc, hcm, -⟩ := h.row.last (.slice (some ⟨gt, 0, none⟩) 20 20)
  have hb : Below (N + 2) X (X.setCell ⟨g7, q1.length * 2 + 1, none⟩ (.slice (some ⟨gt, 0, none⟩) 20 20)) := (Below.refl (N + 2) X).setCell (p := ⟨g7, q1.length * 2 + 1, none⟩) hgN _
  have hl := h.len
  exact ⟨by rw [hl]; simp, h.box.below hb (by omega), h.full.below hb (by omega), hrl, h.els.below (hb.mono (by omega)), ⟨⟨gt, 81, by rw [hT], hgt.far (p := ⟨g7, q1.length * 2 + 1, none⟩) (fun e => hgt.ne hwR (by decide) e) _, by decide, by decide, by rw [hT]; omega⟩, trivial⟩, h.below.trans (hb.mono (by omega))⟩
theorem ExtL.app {X : World} {p : Int × Value} {a : At} (hp : Ext X p a) : ∀ {ps : List (Int × Value)} {bs : List At}, ExtL X ps bs → ExtL X (ps ++ [p]) (bs ++ [a])
  | [], [], h => ⟨hp, trivial⟩
  | q :: ps, b :: bs, h => ⟨h.1, ExtL.app hp h.2⟩
  | [], _ :: _, h => h.elim
  | _ :: _, [], h => h.elim
theorem RQ.app {w X X' : World} {N : Nat} {M : Array Value} {m : Msg} {q1 ex : List (Int × Value)} {exL : List At} {A7 A' : Option Addr} {l7 c7 l' c' : Nat} {p : Int × Value} {a : At} (h : RQ w N M m q1 ex exL A7 l7 c7 X) (hr : Row2 57 X' (N + 2) (.slice A' l' c') (q1 ++ ex ++ [p])) (hg : X.grownBy X' (Value.slice A7 l7 c7).ownBlock) (he : Ext X p a) (h12 : m.id.length = 12) :
    RQ w N M m q1 (ex ++ [p]) (exL ++ [a]) A' l' c' (X'.setCell ⟨N + 1, 14, none⟩ (.slice A' l' c')) := by
  have hs := h.size
  have hb0 : Below (N + 2) X X' := (Below.refl _ X).grown hg hs (fun k hk => (h.row.lt hk).1)
  have hbox := h.box.below hb0 (by omega)
  have hfull := h.full.below hb0 (by omega)
  have hb : Below (N + 1) X' (X'.setCell ⟨N + 1, 14, none⟩ (.slice A' l' c')) := (Below.refl (N + 1) X').setCell (p := ⟨N + 1, 14, none⟩) (Nat.le_refl _) _
  have hbN : Below N X (X'.setCell ⟨N + 1, 14, none⟩ (.slice A' l' c')) := (hb0.mono (by omega)).trans (hb.mono (Nat.le_succ N))
  have hext : ExtL X (ex ++ [p]) (exL ++ [a]) := ExtL.app he h.ext
  obtain ⟨A'', c'', e, f1, f2, f3⟩ := hr.form
  have hl : l' = (q1 ++ ex ++ [p]).length := by cases e; rfl
  refine ⟨by rw [hl]; simp, hbox.below hb (Nat.lt_succ_self N), ?_, ?_, h.els.below hbN, (hext.map fun _ _ k => k.grown h.row hg).map fun _ _ k => k.put hfull (.inl rfl) _, h.below.trans hbN⟩
  · have := hfull.set 14 (.slice A' l' c')
    rwa [mv_set _ _ _ _ _ h12] at this
  · rw [← List.append_assoc]
    exact hr.keep fun g cs hw => hw.far (p := ⟨N + 1, 14, none⟩) (fun e => hw.ne hfull (by decide) e) _
/-- The message's bytes, with the sum copied into them. -/
theorem sum_in_place {m : Msg} {ks : List Int} (h12 : m.id.length = 12) : (msgBytes (with2 m (tagOf m ks) z4)).take (szN m + 32 - 8) = preC m (tagOf m ks) ∧ splice (msgBytes (with2 m (tagOf m ks) z4)) (szN m + 32 - 4) (be4 (bits .xor .u32 (crc (preC m (tagOf m ks))) 1398035790)) = signB m ks := by
  have ht := tag_len m ks
  have e0 := with2_bytes m (c := z4) ht z4_len
  constructor
  · rw [e0, List.take_append_of_le_length (by rw [preC_len h12 ht]; omega), List.take_of_length_le (by rw [preC_len h12 ht]; omega)]
  · rw [splice_at (a := preC m (tagOf m ks) ++ [128, 40, 0, 4]) (b := z4) (c := []) (by rw [e0]; simp) (by simp [preC_len h12 ht]) (by simp [z4]), signB_is]
    unfold sumOf
    simp

end Go.Proofs.Yteloaidnfcmadaa

namespace Go.Proofs.Yteloaidnfcmadaa
open Go.RowKit
set_option linter.unusedVariables false
set_option linter.unusedSimpArgs false

set_option maxHeartbeats 6400000 in
set_option maxRecDepth 100000 in
theorem rsign_any (M : Array Value) (m : Msg) (A : Option Addr) (c : Nat) (vk : Value) (ks : List Int) (w : World) (h : MsgV w w.heap.size M m A c) (hf : Fine m) (hs : m.at_.length ≤ 4398046511102) (hv : V8 w w.heap.size vk ks) (hkx : In256 ks) (hkl : ks.length ≤ 140737488351232) :
    Calls Try.prog 17 #[.agg M, vk] w fun e w' => ∃ v x, e = .returned (.tuple #[v, .int .i64 x]) ∧ SignV w w' m ks v x ∧ Below w.heap.size w w' := by
  have hz := Try.zeroRMsg
  obtain ⟨Z, hZ⟩ : ∃ Z, zM = Z := ⟨_, rfl⟩
  have HZS : Hid (Z.size = 15) := Lib.hid (by rw [← hZ]; rfl)
  simp only [hZ] at hz
  clear hZ
  have hg := Whole.new w 40 M
  have hb0 : Below w.heap.size w (w.alloc (.cells M 40)) := (Below.refl _ w).alloc (Nat.le_refl _) _
  have hz0 : (w.alloc (.cells M 40)).heap.size = w.heap.size + 1 := by simp
  have hm14 : M[14]? = some (.slice A m.at_.length c) := by rw [h.form]; exact mv_14 _ _ _ _ h.id12
  obtain ⟨q1, hq1, hs1, hq1b⟩ := src_of h.ats h.nil (fun e => by have := h.fits; have := h.nil e; omega)
  have H0 := Lib.hid (And.intro hg (And.intro hb0 hz0))
  have HM := Lib.hid h
  have HF := Lib.hid hf
  have HK := Lib.hid (And.intro hv (And.intro hkx hkl))
  have HSZ := Lib.hid (And.intro h.size h.one)
  have HQL := Lib.hid hq1.1
  have HQ : Hid (∀ W, Below w.heap.size w W → ElsV W w.heap.size q1 m.at_ ∧ Src W A m.at_.length c q1) := Lib.hid fun W hb => ⟨hq1.below hb, hs1.below hq1b hb⟩
  clear h hf hv hkx hkl hg hb0 hz0 hq1 hs1 hq1b
  obtain ⟨n, hn⟩ : ∃ x, m.at_.length = x := ⟨_, rfl⟩
  have HE := Lib.hid hn
  rw [hn] at hm14 hs HQ HQL
  have HM14 := Lib.hid hm14
  clear hn hm14
  obtain ⟨N, hN⟩ : ∃ N, w.heap.size = N := ⟨_, rfl⟩
  have HN := Lib.hid hN
  rw [hN] at H0 HQ ⊢
  have HS1 : Hid (∀ W, Whole W N 40 M → W.cell? ⟨N, 14, none⟩ = some (.slice A n c)) := Lib.hid fun W h => (h.cell 14).trans HM14.out
  have HS : Hid (∀ W, R8 w N M M W → W.cell? ⟨N, 14, none⟩ = some (.slice A n c)) := Lib.hid fun W h => HS1.out W h.box
  go_enter Try.func17, Try.ntmps17
  go_upto_region 1 with fail
  generalize w.alloc (.cells M 40) = W0 at *
  clear hN
  have d14 := HS1.out _ H0.out.1
  go_wp2
  go_loopw [15] (fun s15 wr => ∃ k : Nat, k ≤ n ∧ s15 = .int .i64 k ∧ (∀ j, j < k → isTy (m.at_.getD j default).ty = false) ∧ wr = W0) (fun s15 _ => n - (intOf s15).toNat)
  case atStart => exact ⟨0, by omega, rfl, (fun j hj => by omega), rfl⟩
  case round =>
    obtain ⟨k, hk, rfl, hno, rfl⟩ := hrel
    have hb := H0.out.2.1
    have hgr := H0.out.1
    have HNO := Lib.hid hno
    clear hno d14
    have d14 := HS1.out _ hgr
    by_cases hlt : k < n
    · have hlt' : k < m.at_.length := by rw [HE.out]; exact hlt
      have hat := HM.out.ats
      rw [HN.out] at hat
      obtain ⟨ad, A', c', rfl, had, c0, c1, l1, l2, l3, hbs⟩ := (hat.below hb).at_ hlt'
      obtain ⟨ty, hty⟩ : ∃ x, (m.at_.getD k default).ty = x := ⟨_, rfl⟩
      rw [hty] at c0
      have HTY := Lib.hid hty
      have HB := Lib.hid (And.intro hb (And.intro hgr hlt'))
      clear hbs hb hgr hlt' hty l1 l2 l3 had c1 hat
      have hk0 : (0 : Int) ≤ (k : Int) := by omega
      have hk1 : (k : Int) < (n : Int) := by omega
      by_cases h8 : ty = 8
      · subst h8
        have HNV : Hid (¬ CanSign m) := Lib.hid (fun hc => not_free HB.out.2.2 (by rw [HTY.out]; rfl) hc.free)
        go_wp2
        go_ret2
        exact ⟨_, _, rfl, .inr ⟨HNV.out, rfl, rfl⟩, HB.out.1⟩
      · by_cases h9 : ty = 32808
        · subst h9
          have HNV : Hid (¬ CanSign m) := Lib.hid (fun hc => not_free HB.out.2.2 (by rw [HTY.out]; rfl) hc.free)
          go_wp2
          go_ret2
          exact ⟨_, _, rfl, .inr ⟨HNV.out, rfl, rfl⟩, HB.out.1⟩
        · have HIT : Hid (isTy ty = false) := Lib.hid (by simp [isTy, h8, h9])
          have hb8 : (ty == 8) = false := by simp [h8]
          have hb9 : (ty == 32808) = false := by simp [h9]
          go_wp2
          go_roundw
          case rel =>
            refine ⟨k + 1, by omega, by go_num, fun j hj => ?_, (by first | rfl | trivial)⟩
            by_cases e : j = k
            · subst e
              rw [HTY.out]
              exact HIT.out
            · exact HNO.out j (by omega)
          case measure => simp [intOf]; omega
    · obtain rfl : n = k := by omega
      have HFR := Lib.hid (free_of (L := m.at_) (fun j hj => HNO.out j (by rw [HE.out] at hj; omega)))
      have HB := Lib.hid (And.intro hb hgr)
      clear hb hgr
      go_upto_region 7 with fail
      go_upto_region 8 with (first
        | (refine wpList_load_all rfl 40 (.tmp 2) rfl HB.out.2 rfl Try.sizeRMsg HSZ.out.1 Try.underlying40 rfl ?_)
        | (refine wpList_store_whole rfl 40 (.tmp 7) (.tmp 35) rfl rfl rfl (Whole.new wr 40 Z) Try.sizeRMsg HSZ.out.1 HZS.out HSZ.out.2 ?_))
      have hs1 := H0.out.2.2
      rw [hs1]
      have hf1 : Whole ((wr.alloc (.cells Z 40)).setRow (N + 1) M) (N + 1) 40 M := by
        have := (Whole.new wr 40 Z).row M
        rw [hs1] at this
        exact this
      have hR0 : R8 w N M M ((wr.alloc (.cells Z 40)).setRow (N + 1) M) := ⟨(HB.out.2.alloc _).farRow (by omega) _, hf1, below_row (HB.out.1.alloc (by omega) _) (Nat.le_succ N) _⟩
      have HR0 := Lib.hid hR0
      clear hs1 hf1 hR0
      generalize (wr.alloc (.cells Z 40)).setRow (N + 1) M = W1 at *
      try simp only [Act.put]
      go_cut [36] from 36 to 44 (fun s36 wc => ∃ g20 A7 c7, R9 w N M m q1 m.at_ g20 A7 c7 wc)
      case first =>
        have hheld0 : W1.drew.cell? ⟨N, 14, none⟩ = some (.slice A n c) := show W1.cell? ⟨N, 14, none⟩ = some (.slice A n c) from HS.out _ HR0.out
        refine wp_region_held_drew (S := (fun W => W.cell? ⟨N, 14, none⟩ = some (.slice A n c))) (by kernel_rfl) hheld0 (fun hHeld => ?_)
        refine wpAnyH_take (i := 1) (v := .pointer (some ⟨N, 14, none⟩)) rfl (by kernel_rfl) (by kernel_rfl) (by kernel_rfl) (fun _ _ _ h => h) (Or.inl ⟨by rfl, fun w h => by go_simp⟩) (by assumption) ?_
        simp only [Act.put, List.getElem_toArray, List.getElem_cons_succ, List.getElem_cons_zero, List.setIfInBounds_toArray, List.set_cons_succ, List.set_cons_zero]
        refine wpAnyH_take (i := 2) (v := .slice A n c) rfl (by kernel_rfl) (by kernel_rfl) (by kernel_rfl) (fun _ _ _ h => h) (Or.inl ⟨by rfl, fun w h => by go_simp⟩) (by assumption) ?_
        simp only [Act.put, List.getElem_toArray, List.getElem_cons_succ, List.getElem_cons_zero, List.setIfInBounds_toArray, List.set_cons_succ, List.set_cons_zero]
        have hR0 : R8 w N M M W1.drew := ⟨HR0.out.box.drew, HR0.out.full.drew, HR0.out.below.drew⟩
        have hm20 := zero20
        obtain ⟨Z20, hZ20⟩ : ∃ Z, arr .u8 z20 = Z := ⟨_, rfl⟩
        simp only [hZ20] at hm20
        have HZ20 := Lib.hid hZ20
        clear hZ20 hHeld hheld0
        generalize W1.drew = X0 at *
        refine wpAnyH_ready (rs := [0, 4]) (by kernel_rfl) (by simp) ?_
        refine AllReadyH.cons (i := 0) rfl (fun K hK => ?_) (AllReadyH.cons (i := 4) rfl (fun K hK => ?_) AllReadyH.nil)
        · go_simp
          have hr1 := Row2.made X0 (hR0.size)
          have hR1 := hR0.alloc (.cells #[] 57)
          refine hK.out _ _ (HS.out _ hR1) (fun hHeld => ?_)
          clear hK K hHeld
          try simp only [Act.put]
          generalize X0.alloc (.cells #[] 57) = X1 at *
          obtain ⟨g0, hg0⟩ : ∃ g, X0.heap.size = g := ⟨_, rfl⟩
          rw [hg0] at hr1 ⊢
          clear hg0
          clear hR0
          have hheld : X1.cell? ⟨N, 14, none⟩ = some (.slice A n c) := HS.out _ hR1
          clear hheld
          refine wpAnyH_ready (rs := [3, 4]) (by kernel_rfl) (by simp) ?_
          refine AllReadyH.cons (i := 3) rfl (fun K hK => ?_) (AllReadyH.cons (i := 4) rfl (fun K hK => ?_) AllReadyH.nil)
          · refine step_of rfl (wp_append2s (.tmp 36) (.tmp 38) rfl Try.underlying38 Try.infoRAttr rfl rfl hr1 rfl (HQ.out _ hR1.below).2 (by simp; omega) hR1.size ?_)
            intro v3 X2 hr2 hg2 hh2
            have hR2 := hR1.grown hr1 hg2
            rw [List.nil_append] at hr2
            refine hK.out _ _ (HS.out _ hR2) (fun hHeld => ?_)
            clear hK K hHeld hg2 hh2
            try simp only [Act.put]
            clear hR1 hr1
            have hheld : X2.cell? ⟨N, 14, none⟩ = some (.slice A n c) := HS.out _ hR2
            clear hheld
            refine wpAnyH_ready (rs := [4]) (by kernel_rfl) (by simp) ?_
            refine AllReadyH.cons (i := 4) rfl (fun K hK => ?_) AllReadyH.nil
            go_simp
            have h20_3 := Whole.new X2 5 Z20
            have hR3 := hR2.alloc (.cells Z20 5)
            have hr3 := hr2.alloc (.cells Z20 5)
            refine hK.out _ _ (HS.out _ hR3) (fun hHeld => ?_)
            clear hK K hHeld
            try simp only [Act.put]
            generalize X2.alloc (.cells Z20 5) = X3 at *
            obtain ⟨g20, hg20⟩ : ∃ g, X2.heap.size = g := ⟨_, rfl⟩
            rw [hg20] at h20_3 ⊢
            clear hg20
            clear hR2 hr2
            have hheld : X3.cell? ⟨N, 14, none⟩ = some (.slice A n c) := HS.out _ hR3
            refine wpAnyH_take (i := 5) (v := .agg #[.int .u16 8, .slice (some ⟨g20, 0, none⟩) 20 20]) rfl (by kernel_rfl) (by kernel_rfl) (by kernel_rfl) (fun _ _ _ h => h) (Or.inl ⟨by rfl, fun w h => by go_simp⟩) (by assumption) ?_
            simp only [Act.put, List.getElem_toArray, List.getElem_cons_succ, List.getElem_cons_zero, List.setIfInBounds_toArray, List.set_cons_succ, List.set_cons_zero]
            clear hheld
            refine wpAnyH_ready (rs := [6]) (by kernel_rfl) (by simp) ?_
            refine AllReadyH.cons (i := 6) rfl (fun K hK => ?_) AllReadyH.nil
            go_simp
            have h6_4 := Whole.new X3 57 #[.int .u16 8, .slice (some ⟨g20, 0, none⟩) 20 20]
            have hn4 := ne_row hr3
            have hR4 := hR3.alloc (.cells #[.int .u16 8, .slice (some ⟨g20, 0, none⟩) 20 20] 57)
            have hr4 := hr3.alloc (.cells #[.int .u16 8, .slice (some ⟨g20, 0, none⟩) 20 20] 57)
            have h20_4 := h20_3.alloc (.cells #[.int .u16 8, .slice (some ⟨g20, 0, none⟩) 20 20] 57)
            refine hK.out _ _ (HS.out _ hR4) (fun hHeld => ?_)
            clear hK K hHeld
            try simp only [Act.put]
            generalize X3.alloc (.cells #[.int .u16 8, .slice (some ⟨g20, 0, none⟩) 20 20] 57) = X4 at *
            obtain ⟨g6, hg6⟩ : ∃ g, X3.heap.size = g := ⟨_, rfl⟩
            rw [hg6] at h6_4 hn4 ⊢
            clear hg6
            clear hR3 hr3 h20_3
            have hheld : X4.cell? ⟨N, 14, none⟩ = some (.slice A n c) := HS.out _ hR4
            clear hheld
            refine wpAnyH_ready (rs := [7]) (by kernel_rfl) (by simp) ?_
            refine AllReadyH.cons (i := 7) rfl (fun K hK => ?_) AllReadyH.nil
            refine step_of rfl (wp_append2 (e := 57) (.tmp 39) (.tmp 42) rfl Try.underlying38 Try.infoRAttr rfl rfl hr4 rfl h6_4 rfl (by have := HQL.out; omega) hR4.size ?_)
            intro v7 Y7 hr7 hg7 hh7
            have hR7 := hR4.grown hr4 hg7
            have h207 := h20_4.grown hg7 (fun e => hr4.far h20_4 (by decide) e.symm)
            refine hK.out _ _ (HS.out _ hR7) (fun hHeld => ?_)
            clear hK K hh7 hr4 hR4 h20_4 h6_4 hn4 hg7
            try simp only [Act.put]
            refine wpAnyH_take (i := 8) (v := .pointer (some ⟨N + 1, 14, none⟩)) rfl (by kernel_rfl) (by kernel_rfl) (by kernel_rfl) (fun _ _ _ h => h) (Or.inl ⟨by rfl, fun w h => by go_simp⟩) (by assumption) ?_
            simp only [Act.put, List.getElem_toArray, List.getElem_cons_succ, List.getElem_cons_zero, List.setIfInBounds_toArray, List.set_cons_succ, List.set_cons_zero]
            have e14 : Y7.cell? ⟨N + 1, 14, none⟩ = some (.slice A n c) := (hR7.full.cell 14).trans HM14.out
            have f14 : Y7.frozen? ⟨N + 1, 14, none⟩ = false := hR7.full.frz 14
            obtain ⟨A7, c7, rfl, -⟩ := id hr7.form
            have hR8 := sign_full (m := m) (A := A) (c := c) HM.out.form HM.out.id12 hR7 hr7 (by rw [HZ20.out]; exact h207) (HQ.out _ hR7.below).1
            obtain ⟨l7, hl7⟩ : ∃ l, (q1 ++ [((8 : Int), Value.slice (some ⟨g20, 0, none⟩) 20 20)]).length = l := ⟨_, rfl⟩
            rw [hl7] at hr7 hR8 ⊢
            clear hl7 hHeld
            have H88 := Lib.hid (And.intro hR7 hR8)
            clear hR7 hR8 hr7 h207
            refine wpAnyH_ready (rs := [9]) (by kernel_rfl) (by simp) ?_
            refine AllReadyH.cons (i := 9) rfl (fun K hK => ?_) AllReadyH.nil
            go_simp
            refine hK.out _ _ (HS1.out _ H88.out.2.box) (fun hHeld => ?_)
            clear hK K e14 f14 hHeld
            try simp only [Act.put]
            refine wpAnyH_done (by kernel_rfl) ?_ _
            try simp only [Act.put, List.getElem_toArray, List.getElem_cons_succ, List.getElem_cons_zero, List.setIfInBounds_toArray, List.set_cons_succ, List.set_cons_zero]
            go_wp2
            go_meet
            exact ⟨_, _, _, H88.out.2⟩
          · go_simp
            have h20_2 := Whole.new X1 5 Z20
            have hR2 := hR1.alloc (.cells Z20 5)
            have hr2 := hr1.alloc (.cells Z20 5)
            refine hK.out _ _ (HS.out _ hR2) (fun hHeld => ?_)
            clear hK K hHeld
            try simp only [Act.put]
            generalize X1.alloc (.cells Z20 5) = X2 at *
            obtain ⟨g20, hg20⟩ : ∃ g, X1.heap.size = g := ⟨_, rfl⟩
            rw [hg20] at h20_2 ⊢
            clear hg20
            clear hR1 hr1
            have hheld : X2.cell? ⟨N, 14, none⟩ = some (.slice A n c) := HS.out _ hR2
            refine wpAnyH_take (i := 5) (v := .agg #[.int .u16 8, .slice (some ⟨g20, 0, none⟩) 20 20]) rfl (by kernel_rfl) (by kernel_rfl) (by kernel_rfl) (fun _ _ _ h => h) (Or.inl ⟨by rfl, fun w h => by go_simp⟩) (by assumption) ?_
            simp only [Act.put, List.getElem_toArray, List.getElem_cons_succ, List.getElem_cons_zero, List.setIfInBounds_toArray, List.set_cons_succ, List.set_cons_zero]
            clear hheld
            refine wpAnyH_ready (rs := [3, 6]) (by kernel_rfl) (by simp) ?_
            refine AllReadyH.cons (i := 3) rfl (fun K hK => ?_) (AllReadyH.cons (i := 6) rfl (fun K hK => ?_) AllReadyH.nil)
            · refine step_of rfl (wp_append2s (.tmp 36) (.tmp 38) rfl Try.underlying38 Try.infoRAttr rfl rfl hr2 rfl (HQ.out _ hR2.below).2 (by simp; omega) hR2.size ?_)
              intro v3 X3 hr3 hg3 hh3
              have hR3 := hR2.grown hr2 hg3
              have h20_3 := h20_2.grown hg3 (fun e => hr2.far h20_2 (by decide) e.symm)
              rw [List.nil_append] at hr3
              refine hK.out _ _ (HS.out _ hR3) (fun hHeld => ?_)
              clear hK K hHeld hg3 hh3
              try simp only [Act.put]
              clear hR2 hr2 h20_2
              have hheld : X3.cell? ⟨N, 14, none⟩ = some (.slice A n c) := HS.out _ hR3
              clear hheld
              refine wpAnyH_ready (rs := [6]) (by kernel_rfl) (by simp) ?_
              refine AllReadyH.cons (i := 6) rfl (fun K hK => ?_) AllReadyH.nil
              go_simp
              have h6_4 := Whole.new X3 57 #[.int .u16 8, .slice (some ⟨g20, 0, none⟩) 20 20]
              have hn4 := ne_row hr3
              have hR4 := hR3.alloc (.cells #[.int .u16 8, .slice (some ⟨g20, 0, none⟩) 20 20] 57)
              have hr4 := hr3.alloc (.cells #[.int .u16 8, .slice (some ⟨g20, 0, none⟩) 20 20] 57)
              have h20_4 := h20_3.alloc (.cells #[.int .u16 8, .slice (some ⟨g20, 0, none⟩) 20 20] 57)
              refine hK.out _ _ (HS.out _ hR4) (fun hHeld => ?_)
              clear hK K hHeld
              try simp only [Act.put]
              generalize X3.alloc (.cells #[.int .u16 8, .slice (some ⟨g20, 0, none⟩) 20 20] 57) = X4 at *
              obtain ⟨g6, hg6⟩ : ∃ g, X3.heap.size = g := ⟨_, rfl⟩
              rw [hg6] at h6_4 hn4 ⊢
              clear hg6
              clear hR3 hr3 h20_3
              have hheld : X4.cell? ⟨N, 14, none⟩ = some (.slice A n c) := HS.out _ hR4
              clear hheld
              refine wpAnyH_ready (rs := [7]) (by kernel_rfl) (by simp) ?_
              refine AllReadyH.cons (i := 7) rfl (fun K hK => ?_) AllReadyH.nil
              refine step_of rfl (wp_append2 (e := 57) (.tmp 39) (.tmp 42) rfl Try.underlying38 Try.infoRAttr rfl rfl hr4 rfl h6_4 rfl (by have := HQL.out; omega) hR4.size ?_)
              intro v7 Y7 hr7 hg7 hh7
              have hR7 := hR4.grown hr4 hg7
              have h207 := h20_4.grown hg7 (fun e => hr4.far h20_4 (by decide) e.symm)
              refine hK.out _ _ (HS.out _ hR7) (fun hHeld => ?_)
              clear hK K hh7 hr4 hR4 h20_4 h6_4 hn4 hg7
              try simp only [Act.put]
              refine wpAnyH_take (i := 8) (v := .pointer (some ⟨N + 1, 14, none⟩)) rfl (by kernel_rfl) (by kernel_rfl) (by kernel_rfl) (fun _ _ _ h => h) (Or.inl ⟨by rfl, fun w h => by go_simp⟩) (by assumption) ?_
              simp only [Act.put, List.getElem_toArray, List.getElem_cons_succ, List.getElem_cons_zero, List.setIfInBounds_toArray, List.set_cons_succ, List.set_cons_zero]
              have e14 : Y7.cell? ⟨N + 1, 14, none⟩ = some (.slice A n c) := (hR7.full.cell 14).trans HM14.out
              have f14 : Y7.frozen? ⟨N + 1, 14, none⟩ = false := hR7.full.frz 14
              obtain ⟨A7, c7, rfl, -⟩ := id hr7.form
              have hR8 := sign_full (m := m) (A := A) (c := c) HM.out.form HM.out.id12 hR7 hr7 (by rw [HZ20.out]; exact h207) (HQ.out _ hR7.below).1
              obtain ⟨l7, hl7⟩ : ∃ l, (q1 ++ [((8 : Int), Value.slice (some ⟨g20, 0, none⟩) 20 20)]).length = l := ⟨_, rfl⟩
              rw [hl7] at hr7 hR8 ⊢
              clear hl7 hHeld
              have H88 := Lib.hid (And.intro hR7 hR8)
              clear hR7 hR8 hr7 h207
              refine wpAnyH_ready (rs := [9]) (by kernel_rfl) (by simp) ?_
              refine AllReadyH.cons (i := 9) rfl (fun K hK => ?_) AllReadyH.nil
              go_simp
              refine hK.out _ _ (HS1.out _ H88.out.2.box) (fun hHeld => ?_)
              clear hK K e14 f14 hHeld
              try simp only [Act.put]
              refine wpAnyH_done (by kernel_rfl) ?_ _
              try simp only [Act.put, List.getElem_toArray, List.getElem_cons_succ, List.getElem_cons_zero, List.setIfInBounds_toArray, List.set_cons_succ, List.set_cons_zero]
              go_wp2
              go_meet
              exact ⟨_, _, _, H88.out.2⟩
            · go_simp
              have h6_3 := Whole.new X2 57 #[.int .u16 8, .slice (some ⟨g20, 0, none⟩) 20 20]
              have hn3 := ne_row hr2
              have hR3 := hR2.alloc (.cells #[.int .u16 8, .slice (some ⟨g20, 0, none⟩) 20 20] 57)
              have hr3 := hr2.alloc (.cells #[.int .u16 8, .slice (some ⟨g20, 0, none⟩) 20 20] 57)
              have h20_3 := h20_2.alloc (.cells #[.int .u16 8, .slice (some ⟨g20, 0, none⟩) 20 20] 57)
              refine hK.out _ _ (HS.out _ hR3) (fun hHeld => ?_)
              clear hK K hHeld
              try simp only [Act.put]
              generalize X2.alloc (.cells #[.int .u16 8, .slice (some ⟨g20, 0, none⟩) 20 20] 57) = X3 at *
              obtain ⟨g6, hg6⟩ : ∃ g, X2.heap.size = g := ⟨_, rfl⟩
              rw [hg6] at h6_3 hn3 ⊢
              clear hg6
              clear hR2 hr2 h20_2
              have hheld : X3.cell? ⟨N, 14, none⟩ = some (.slice A n c) := HS.out _ hR3
              clear hheld
              refine wpAnyH_ready (rs := [3]) (by kernel_rfl) (by simp) ?_
              refine AllReadyH.cons (i := 3) rfl (fun K hK => ?_) AllReadyH.nil
              refine step_of rfl (wp_append2s (.tmp 36) (.tmp 38) rfl Try.underlying38 Try.infoRAttr rfl rfl hr3 rfl (HQ.out _ hR3.below).2 (by simp; omega) hR3.size ?_)
              intro v3 X4 hr4 hg4 hh4
              have hR4 := hR3.grown hr3 hg4
              have h20_4 := h20_3.grown hg4 (fun e => hr3.far h20_3 (by decide) e.symm)
              have h6_4 := h6_3.grown hg4 (fun e => hn3 e.symm)
              have hn4 := ne_next hn3 h6_3 hh4
              rw [List.nil_append] at hr4
              refine hK.out _ _ (HS.out _ hR4) (fun hHeld => ?_)
              clear hK K hHeld hg4 hh4
              try simp only [Act.put]
              clear hR3 hr3 h20_3 h6_3 hn3
              have hheld : X4.cell? ⟨N, 14, none⟩ = some (.slice A n c) := HS.out _ hR4
              clear hheld
              refine wpAnyH_ready (rs := [7]) (by kernel_rfl) (by simp) ?_
              refine AllReadyH.cons (i := 7) rfl (fun K hK => ?_) AllReadyH.nil
              refine step_of rfl (wp_append2 (e := 57) (.tmp 39) (.tmp 42) rfl Try.underlying38 Try.infoRAttr rfl rfl hr4 rfl h6_4 rfl (by have := HQL.out; omega) hR4.size ?_)
              intro v7 Y7 hr7 hg7 hh7
              have hR7 := hR4.grown hr4 hg7
              have h207 := h20_4.grown hg7 (fun e => hr4.far h20_4 (by decide) e.symm)
              refine hK.out _ _ (HS.out _ hR7) (fun hHeld => ?_)
              clear hK K hh7 hr4 hR4 h20_4 h6_4 hn4 hg7
              try simp only [Act.put]
              refine wpAnyH_take (i := 8) (v := .pointer (some ⟨N + 1, 14, none⟩)) rfl (by kernel_rfl) (by kernel_rfl) (by kernel_rfl) (fun _ _ _ h => h) (Or.inl ⟨by rfl, fun w h => by go_simp⟩) (by assumption) ?_
              simp only [Act.put, List.getElem_toArray, List.getElem_cons_succ, List.getElem_cons_zero, List.setIfInBounds_toArray, List.set_cons_succ, List.set_cons_zero]
              have e14 : Y7.cell? ⟨N + 1, 14, none⟩ = some (.slice A n c) := (hR7.full.cell 14).trans HM14.out
              have f14 : Y7.frozen? ⟨N + 1, 14, none⟩ = false := hR7.full.frz 14
              obtain ⟨A7, c7, rfl, -⟩ := id hr7.form
              have hR8 := sign_full (m := m) (A := A) (c := c) HM.out.form HM.out.id12 hR7 hr7 (by rw [HZ20.out]; exact h207) (HQ.out _ hR7.below).1
              obtain ⟨l7, hl7⟩ : ∃ l, (q1 ++ [((8 : Int), Value.slice (some ⟨g20, 0, none⟩) 20 20)]).length = l := ⟨_, rfl⟩
              rw [hl7] at hr7 hR8 ⊢
              clear hl7 hHeld
              have H88 := Lib.hid (And.intro hR7 hR8)
              clear hR7 hR8 hr7 h207
              refine wpAnyH_ready (rs := [9]) (by kernel_rfl) (by simp) ?_
              refine AllReadyH.cons (i := 9) rfl (fun K hK => ?_) AllReadyH.nil
              go_simp
              refine hK.out _ _ (HS1.out _ H88.out.2.box) (fun hHeld => ?_)
              clear hK K e14 f14 hHeld
              try simp only [Act.put]
              refine wpAnyH_done (by kernel_rfl) ?_ _
              try simp only [Act.put, List.getElem_toArray, List.getElem_cons_succ, List.getElem_cons_zero, List.setIfInBounds_toArray, List.set_cons_succ, List.set_cons_zero]
              go_wp2
              go_meet
              exact ⟨_, _, _, H88.out.2⟩
        · go_simp
          have h20_1 := Whole.new X0 5 Z20
          have hR1 := hR0.alloc (.cells Z20 5)
          refine hK.out _ _ (HS.out _ hR1) (fun hHeld => ?_)
          clear hK K hHeld
          try simp only [Act.put]
          generalize X0.alloc (.cells Z20 5) = X1 at *
          obtain ⟨g20, hg20⟩ : ∃ g, X0.heap.size = g := ⟨_, rfl⟩
          rw [hg20] at h20_1 ⊢
          clear hg20
          clear hR0
          have hheld : X1.cell? ⟨N, 14, none⟩ = some (.slice A n c) := HS.out _ hR1
          refine wpAnyH_take (i := 5) (v := .agg #[.int .u16 8, .slice (some ⟨g20, 0, none⟩) 20 20]) rfl (by kernel_rfl) (by kernel_rfl) (by kernel_rfl) (fun _ _ _ h => h) (Or.inl ⟨by rfl, fun w h => by go_simp⟩) (by assumption) ?_
          simp only [Act.put, List.getElem_toArray, List.getElem_cons_succ, List.getElem_cons_zero, List.setIfInBounds_toArray, List.set_cons_succ, List.set_cons_zero]
          clear hheld
          refine wpAnyH_ready (rs := [0, 6]) (by kernel_rfl) (by simp) ?_
          refine AllReadyH.cons (i := 0) rfl (fun K hK => ?_) (AllReadyH.cons (i := 6) rfl (fun K hK => ?_) AllReadyH.nil)
          · go_simp
            have hr2 := Row2.made X1 (hR1.size)
            have hR2 := hR1.alloc (.cells #[] 57)
            have h20_2 := h20_1.alloc (.cells #[] 57)
            refine hK.out _ _ (HS.out _ hR2) (fun hHeld => ?_)
            clear hK K hHeld
            try simp only [Act.put]
            generalize X1.alloc (.cells #[] 57) = X2 at *
            obtain ⟨g0, hg0⟩ : ∃ g, X1.heap.size = g := ⟨_, rfl⟩
            rw [hg0] at hr2 ⊢
            clear hg0
            clear hR1 h20_1
            have hheld : X2.cell? ⟨N, 14, none⟩ = some (.slice A n c) := HS.out _ hR2
            clear hheld
            refine wpAnyH_ready (rs := [3, 6]) (by kernel_rfl) (by simp) ?_
            refine AllReadyH.cons (i := 3) rfl (fun K hK => ?_) (AllReadyH.cons (i := 6) rfl (fun K hK => ?_) AllReadyH.nil)
            · refine step_of rfl (wp_append2s (.tmp 36) (.tmp 38) rfl Try.underlying38 Try.infoRAttr rfl rfl hr2 rfl (HQ.out _ hR2.below).2 (by simp; omega) hR2.size ?_)
              intro v3 X3 hr3 hg3 hh3
              have hR3 := hR2.grown hr2 hg3
              have h20_3 := h20_2.grown hg3 (fun e => hr2.far h20_2 (by decide) e.symm)
              rw [List.nil_append] at hr3
              refine hK.out _ _ (HS.out _ hR3) (fun hHeld => ?_)
              clear hK K hHeld hg3 hh3
              try simp only [Act.put]
              clear hR2 hr2 h20_2
              have hheld : X3.cell? ⟨N, 14, none⟩ = some (.slice A n c) := HS.out _ hR3
              clear hheld
              refine wpAnyH_ready (rs := [6]) (by kernel_rfl) (by simp) ?_
              refine AllReadyH.cons (i := 6) rfl (fun K hK => ?_) AllReadyH.nil
              go_simp
              have h6_4 := Whole.new X3 57 #[.int .u16 8, .slice (some ⟨g20, 0, none⟩) 20 20]
              have hn4 := ne_row hr3
              have hR4 := hR3.alloc (.cells #[.int .u16 8, .slice (some ⟨g20, 0, none⟩) 20 20] 57)
              have hr4 := hr3.alloc (.cells #[.int .u16 8, .slice (some ⟨g20, 0, none⟩) 20 20] 57)
              have h20_4 := h20_3.alloc (.cells #[.int .u16 8, .slice (some ⟨g20, 0, none⟩) 20 20] 57)
              refine hK.out _ _ (HS.out _ hR4) (fun hHeld => ?_)
              clear hK K hHeld
              try simp only [Act.put]
              generalize X3.alloc (.cells #[.int .u16 8, .slice (some ⟨g20, 0, none⟩) 20 20] 57) = X4 at *
              obtain ⟨g6, hg6⟩ : ∃ g, X3.heap.size = g := ⟨_, rfl⟩
              rw [hg6] at h6_4 hn4 ⊢
              clear hg6
              clear hR3 hr3 h20_3
              have hheld : X4.cell? ⟨N, 14, none⟩ = some (.slice A n c) := HS.out _ hR4
              clear hheld
              refine wpAnyH_ready (rs := [7]) (by kernel_rfl) (by simp) ?_
              refine AllReadyH.cons (i := 7) rfl (fun K hK => ?_) AllReadyH.nil
              refine step_of rfl (wp_append2 (e := 57) (.tmp 39) (.tmp 42) rfl Try.underlying38 Try.infoRAttr rfl rfl hr4 rfl h6_4 rfl (by have := HQL.out; omega) hR4.size ?_)
              intro v7 Y7 hr7 hg7 hh7
              have hR7 := hR4.grown hr4 hg7
              have h207 := h20_4.grown hg7 (fun e => hr4.far h20_4 (by decide) e.symm)
              refine hK.out _ _ (HS.out _ hR7) (fun hHeld => ?_)
              clear hK K hh7 hr4 hR4 h20_4 h6_4 hn4 hg7
              try simp only [Act.put]
              refine wpAnyH_take (i := 8) (v := .pointer (some ⟨N + 1, 14, none⟩)) rfl (by kernel_rfl) (by kernel_rfl) (by kernel_rfl) (fun _ _ _ h => h) (Or.inl ⟨by rfl, fun w h => by go_simp⟩) (by assumption) ?_
              simp only [Act.put, List.getElem_toArray, List.getElem_cons_succ, List.getElem_cons_zero, List.setIfInBounds_toArray, List.set_cons_succ, List.set_cons_zero]
              have e14 : Y7.cell? ⟨N + 1, 14, none⟩ = some (.slice A n c) := (hR7.full.cell 14).trans HM14.out
              have f14 : Y7.frozen? ⟨N + 1, 14, none⟩ = false := hR7.full.frz 14
              obtain ⟨A7, c7, rfl, -⟩ := id hr7.form
              have hR8 := sign_full (m := m) (A := A) (c := c) HM.out.form HM.out.id12 hR7 hr7 (by rw [HZ20.out]; exact h207) (HQ.out _ hR7.below).1
              obtain ⟨l7, hl7⟩ : ∃ l, (q1 ++ [((8 : Int), Value.slice (some ⟨g20, 0, none⟩) 20 20)]).length = l := ⟨_, rfl⟩
              rw [hl7] at hr7 hR8 ⊢
              clear hl7 hHeld
              have H88 := Lib.hid (And.intro hR7 hR8)
              clear hR7 hR8 hr7 h207
              refine wpAnyH_ready (rs := [9]) (by kernel_rfl) (by simp) ?_
              refine AllReadyH.cons (i := 9) rfl (fun K hK => ?_) AllReadyH.nil
              go_simp
              refine hK.out _ _ (HS1.out _ H88.out.2.box) (fun hHeld => ?_)
              clear hK K e14 f14 hHeld
              try simp only [Act.put]
              refine wpAnyH_done (by kernel_rfl) ?_ _
              try simp only [Act.put, List.getElem_toArray, List.getElem_cons_succ, List.getElem_cons_zero, List.setIfInBounds_toArray, List.set_cons_succ, List.set_cons_zero]
              go_wp2
              go_meet
              exact ⟨_, _, _, H88.out.2⟩
            · go_simp
              have h6_3 := Whole.new X2 57 #[.int .u16 8, .slice (some ⟨g20, 0, none⟩) 20 20]
              have hn3 := ne_row hr2
              have hR3 := hR2.alloc (.cells #[.int .u16 8, .slice (some ⟨g20, 0, none⟩) 20 20] 57)
              have hr3 := hr2.alloc (.cells #[.int .u16 8, .slice (some ⟨g20, 0, none⟩) 20 20] 57)
              have h20_3 := h20_2.alloc (.cells #[.int .u16 8, .slice (some ⟨g20, 0, none⟩) 20 20] 57)
              refine hK.out _ _ (HS.out _ hR3) (fun hHeld => ?_)
              clear hK K hHeld
              try simp only [Act.put]
              generalize X2.alloc (.cells #[.int .u16 8, .slice (some ⟨g20, 0, none⟩) 20 20] 57) = X3 at *
              obtain ⟨g6, hg6⟩ : ∃ g, X2.heap.size = g := ⟨_, rfl⟩
              rw [hg6] at h6_3 hn3 ⊢
              clear hg6
              clear hR2 hr2 h20_2
              have hheld : X3.cell? ⟨N, 14, none⟩ = some (.slice A n c) := HS.out _ hR3
              clear hheld
              refine wpAnyH_ready (rs := [3]) (by kernel_rfl) (by simp) ?_
              refine AllReadyH.cons (i := 3) rfl (fun K hK => ?_) AllReadyH.nil
              refine step_of rfl (wp_append2s (.tmp 36) (.tmp 38) rfl Try.underlying38 Try.infoRAttr rfl rfl hr3 rfl (HQ.out _ hR3.below).2 (by simp; omega) hR3.size ?_)
              intro v3 X4 hr4 hg4 hh4
              have hR4 := hR3.grown hr3 hg4
              have h20_4 := h20_3.grown hg4 (fun e => hr3.far h20_3 (by decide) e.symm)
              have h6_4 := h6_3.grown hg4 (fun e => hn3 e.symm)
              have hn4 := ne_next hn3 h6_3 hh4
              rw [List.nil_append] at hr4
              refine hK.out _ _ (HS.out _ hR4) (fun hHeld => ?_)
              clear hK K hHeld hg4 hh4
              try simp only [Act.put]
              clear hR3 hr3 h20_3 h6_3 hn3
              have hheld : X4.cell? ⟨N, 14, none⟩ = some (.slice A n c) := HS.out _ hR4
              clear hheld
              refine wpAnyH_ready (rs := [7]) (by kernel_rfl) (by simp) ?_
              refine AllReadyH.cons (i := 7) rfl (fun K hK => ?_) AllReadyH.nil
              refine step_of rfl (wp_append2 (e := 57) (.tmp 39) (.tmp 42) rfl Try.underlying38 Try.infoRAttr rfl rfl hr4 rfl h6_4 rfl (by have := HQL.out; omega) hR4.size ?_)
              intro v7 Y7 hr7 hg7 hh7
              have hR7 := hR4.grown hr4 hg7
              have h207 := h20_4.grown hg7 (fun e => hr4.far h20_4 (by decide) e.symm)
              refine hK.out _ _ (HS.out _ hR7) (fun hHeld => ?_)
              clear hK K hh7 hr4 hR4 h20_4 h6_4 hn4 hg7
              try simp only [Act.put]
              refine wpAnyH_take (i := 8) (v := .pointer (some ⟨N + 1, 14, none⟩)) rfl (by kernel_rfl) (by kernel_rfl) (by kernel_rfl) (fun _ _ _ h => h) (Or.inl ⟨by rfl, fun w h => by go_simp⟩) (by assumption) ?_
              simp only [Act.put, List.getElem_toArray, List.getElem_cons_succ, List.getElem_cons_zero, List.setIfInBounds_toArray, List.set_cons_succ, List.set_cons_zero]
              have e14 : Y7.cell? ⟨N + 1, 14, none⟩ = some (.slice A n c) := (hR7.full.cell 14).trans HM14.out
              have f14 : Y7.frozen? ⟨N + 1, 14, none⟩ = false := hR7.full.frz 14
              obtain ⟨A7, c7, rfl, -⟩ := id hr7.form
              have hR8 := sign_full (m := m) (A := A) (c := c) HM.out.form HM.out.id12 hR7 hr7 (by rw [HZ20.out]; exact h207) (HQ.out _ hR7.below).1
              obtain ⟨l7, hl7⟩ : ∃ l, (q1 ++ [((8 : Int), Value.slice (some ⟨g20, 0, none⟩) 20 20)]).length = l := ⟨_, rfl⟩
              rw [hl7] at hr7 hR8 ⊢
              clear hl7 hHeld
              have H88 := Lib.hid (And.intro hR7 hR8)
              clear hR7 hR8 hr7 h207
              refine wpAnyH_ready (rs := [9]) (by kernel_rfl) (by simp) ?_
              refine AllReadyH.cons (i := 9) rfl (fun K hK => ?_) AllReadyH.nil
              go_simp
              refine hK.out _ _ (HS1.out _ H88.out.2.box) (fun hHeld => ?_)
              clear hK K e14 f14 hHeld
              try simp only [Act.put]
              refine wpAnyH_done (by kernel_rfl) ?_ _
              try simp only [Act.put, List.getElem_toArray, List.getElem_cons_succ, List.getElem_cons_zero, List.setIfInBounds_toArray, List.set_cons_succ, List.set_cons_zero]
              go_wp2
              go_meet
              exact ⟨_, _, _, H88.out.2⟩
          · go_simp
            have h6_2 := Whole.new X1 57 #[.int .u16 8, .slice (some ⟨g20, 0, none⟩) 20 20]
            have hR2 := hR1.alloc (.cells #[.int .u16 8, .slice (some ⟨g20, 0, none⟩) 20 20] 57)
            have h20_2 := h20_1.alloc (.cells #[.int .u16 8, .slice (some ⟨g20, 0, none⟩) 20 20] 57)
            refine hK.out _ _ (HS.out _ hR2) (fun hHeld => ?_)
            clear hK K hHeld
            try simp only [Act.put]
            generalize X1.alloc (.cells #[.int .u16 8, .slice (some ⟨g20, 0, none⟩) 20 20] 57) = X2 at *
            obtain ⟨g6, hg6⟩ : ∃ g, X1.heap.size = g := ⟨_, rfl⟩
            rw [hg6] at h6_2 ⊢
            clear hg6
            clear hR1 h20_1
            have hheld : X2.cell? ⟨N, 14, none⟩ = some (.slice A n c) := HS.out _ hR2
            clear hheld
            refine wpAnyH_ready (rs := [0]) (by kernel_rfl) (by simp) ?_
            refine AllReadyH.cons (i := 0) rfl (fun K hK => ?_) AllReadyH.nil
            go_simp
            have hr3 := Row2.made X2 (hR2.size)
            have hn3 := ne_new h6_2
            have hR3 := hR2.alloc (.cells #[] 57)
            have h20_3 := h20_2.alloc (.cells #[] 57)
            have h6_3 := h6_2.alloc (.cells #[] 57)
            refine hK.out _ _ (HS.out _ hR3) (fun hHeld => ?_)
            clear hK K hHeld
            try simp only [Act.put]
            generalize X2.alloc (.cells #[] 57) = X3 at *
            obtain ⟨g0, hg0⟩ : ∃ g, X2.heap.size = g := ⟨_, rfl⟩
            rw [hg0] at hr3 hn3 ⊢
            clear hg0
            clear hR2 h20_2 h6_2
            have hheld : X3.cell? ⟨N, 14, none⟩ = some (.slice A n c) := HS.out _ hR3
            clear hheld
            refine wpAnyH_ready (rs := [3]) (by kernel_rfl) (by simp) ?_
            refine AllReadyH.cons (i := 3) rfl (fun K hK => ?_) AllReadyH.nil
            refine step_of rfl (wp_append2s (.tmp 36) (.tmp 38) rfl Try.underlying38 Try.infoRAttr rfl rfl hr3 rfl (HQ.out _ hR3.below).2 (by simp; omega) hR3.size ?_)
            intro v3 X4 hr4 hg4 hh4
            have hR4 := hR3.grown hr3 hg4
            have h20_4 := h20_3.grown hg4 (fun e => hr3.far h20_3 (by decide) e.symm)
            have h6_4 := h6_3.grown hg4 (fun e => hn3 e.symm)
            have hn4 := ne_next hn3 h6_3 hh4
            rw [List.nil_append] at hr4
            refine hK.out _ _ (HS.out _ hR4) (fun hHeld => ?_)
            clear hK K hHeld hg4 hh4
            try simp only [Act.put]
            clear hR3 hr3 h20_3 h6_3 hn3
            have hheld : X4.cell? ⟨N, 14, none⟩ = some (.slice A n c) := HS.out _ hR4
            clear hheld
            refine wpAnyH_ready (rs := [7]) (by kernel_rfl) (by simp) ?_
            refine AllReadyH.cons (i := 7) rfl (fun K hK => ?_) AllReadyH.nil
            refine step_of rfl (wp_append2 (e := 57) (.tmp 39) (.tmp 42) rfl Try.underlying38 Try.infoRAttr rfl rfl hr4 rfl h6_4 rfl (by have := HQL.out; omega) hR4.size ?_)
            intro v7 Y7 hr7 hg7 hh7
            have hR7 := hR4.grown hr4 hg7
            have h207 := h20_4.grown hg7 (fun e => hr4.far h20_4 (by decide) e.symm)
            refine hK.out _ _ (HS.out _ hR7) (fun hHeld => ?_)
            clear hK K hh7 hr4 hR4 h20_4 h6_4 hn4 hg7
            try simp only [Act.put]
            refine wpAnyH_take (i := 8) (v := .pointer (some ⟨N + 1, 14, none⟩)) rfl (by kernel_rfl) (by kernel_rfl) (by kernel_rfl) (fun _ _ _ h => h) (Or.inl ⟨by rfl, fun w h => by go_simp⟩) (by assumption) ?_
            simp only [Act.put, List.getElem_toArray, List.getElem_cons_succ, List.getElem_cons_zero, List.setIfInBounds_toArray, List.set_cons_succ, List.set_cons_zero]
            have e14 : Y7.cell? ⟨N + 1, 14, none⟩ = some (.slice A n c) := (hR7.full.cell 14).trans HM14.out
            have f14 : Y7.frozen? ⟨N + 1, 14, none⟩ = false := hR7.full.frz 14
            obtain ⟨A7, c7, rfl, -⟩ := id hr7.form
            have hR8 := sign_full (m := m) (A := A) (c := c) HM.out.form HM.out.id12 hR7 hr7 (by rw [HZ20.out]; exact h207) (HQ.out _ hR7.below).1
            obtain ⟨l7, hl7⟩ : ∃ l, (q1 ++ [((8 : Int), Value.slice (some ⟨g20, 0, none⟩) 20 20)]).length = l := ⟨_, rfl⟩
            rw [hl7] at hr7 hR8 ⊢
            clear hl7 hHeld
            have H88 := Lib.hid (And.intro hR7 hR8)
            clear hR7 hR8 hr7 h207
            refine wpAnyH_ready (rs := [9]) (by kernel_rfl) (by simp) ?_
            refine AllReadyH.cons (i := 9) rfl (fun K hK => ?_) AllReadyH.nil
            go_simp
            refine hK.out _ _ (HS1.out _ H88.out.2.box) (fun hHeld => ?_)
            clear hK K e14 f14 hHeld
            try simp only [Act.put]
            refine wpAnyH_done (by kernel_rfl) ?_ _
            try simp only [Act.put, List.getElem_toArray, List.getElem_cons_succ, List.getElem_cons_zero, List.setIfInBounds_toArray, List.set_cons_succ, List.set_cons_zero]
            go_wp2
            go_meet
            exact ⟨_, _, _, H88.out.2⟩
      case rest =>
        obtain ⟨g20, A7, c7, hR9⟩ := hcut
        have hq := hR9.rq
        obtain ⟨l7, hl7⟩ : ∃ l, (q1 ++ [((8 : Int), Value.slice (some ⟨g20, 0, none⟩) 20 20)]).length = l := ⟨_, rfl⟩
        rw [hl7] at hq
        have hl7n : l7 = n + 1 := by rw [← hl7]; simp [HQL.out]
        obtain ⟨g7, rfl⟩ := hq.blk (by simp)
        have hm1 := hq.msg HM.out.id12
        have hfull := hq.full
        obtain ⟨M1, hM1⟩ : ∃ x, mv m.cl m.me m.id (.slice (some ⟨g7, 0, none⟩) l7 c7) = x := ⟨_, rfl⟩
        rw [hM1] at hm1 hfull
        have HBD := Lib.hid (rbuild_v M1 (with1 m z20) (some ⟨g7, 0, none⟩) c7 wc hm1 (HF.out.re1 (in256_zeros 20)))
        have HQ1 := Lib.hid (And.intro hq (And.intro hfull (And.intro hm1.size (And.intro hM1 hl7n))))
        have HSB := Lib.hid hs
        clear hR9 hq hm1 hfull hM1 hl7 hl7n hs d14
        go_upto_region 10 with (first
          | (refine wpList_load_all rfl 40 (.tmp 7) rfl HQ1.out.2.1 rfl Try.sizeRMsg HQ1.out.2.2.1 Try.underlying40 rfl ?_)
          | (go_at_call 18; (with_reducible refine HBD.out.mono ?_); rintro e w9 ⟨v9, x9, rfl, hb9, hbl9⟩))
        have HQ9 := Lib.hid (And.intro (HQ1.out.1.under hbl9) hbl9)
        rcases hb9 with ⟨hv1, rfl, ho9⟩ | ⟨hv1, rfl, rfl⟩
        · have HV1 := Lib.hid hv1
          have hln := msgBytes_length (with1 m z20) HF.out.id12
          rw [with1_size z20_len] at hln
          have h15 := hv1.size
          rw [with1_size z20_len] at h15
          obtain ⟨A9, c9, rfl, f1, f2, f3, hbs9⟩ := ho9.form
          obtain ⟨l1, hl1⟩ : ∃ l, szN m + 24 = l := ⟨_, rfl⟩
          rw [hln, hl1] at f1 hbs9 ⊢
          rw [hl1] at h15
          obtain ⟨ad9, rfl, -, -⟩ := hbs9.2 (by omega)
          have hpre : (msgBytes (with1 m z20)).take (l1 - 24) = preM m := by
            rw [with1_bytes m z20_len, List.take_append_of_le_length (by rw [preM_len HF.out.id12]; omega), List.take_of_length_le (by rw [preM_len HF.out.id12]; omega)]
          have hbm := hbs9.head (k := l1 - 24) (by omega)
          rw [hpre] at hbm
          have hvk : V8 w9 w9.heap.size vk ks := by
            have h0 := HK.out.1
            rw [HN.out] at h0
            exact (h0.below HQ9.out.1.below).more (by have := HQ9.out.1.size; omega)
          obtain ⟨Ak, ck, hvke, hink⟩ := hvk.in8' HK.out.2.1
          have HMC := rmac_any Ak (some ad9) ks.length ck (l1 - 24) c9 ks (preM m) w9 hink ⟨hbm, by omega, f2, f3, in256_preM HF.out⟩ (by have := HK.out.2.2; omega) (by omega)
          rw [← hvke] at HMC
          have hs1 : ∀ W, (Instr.slice 22 (.slice (some ad9) l1 c9) none (some (.int .i64 ((l1 : Int) - 24))) none).run Try.prog W = .ok (.slice (some ad9) (l1 - 24) c9) W := fun W => cut_head (by omega) (by omega) W
          have hl24 : 24 ≤ l1 := by omega
          obtain ⟨R, hR⟩ : ∃ R, arr .u8 (mac ks (preM m)) = R := ⟨_, rfl⟩
          have hRS : R.size = 20 ∧ R.all (·.oneCell') = true := by rw [← hR]; exact fit20_mac _ _
          rw [hR] at HMC
          have HMC := Lib.hid HMC
          have HRR := Lib.hid (And.intro hR (And.intro hRS hl1))
          have hza := Try.zero81
          obtain ⟨ZA, hZA⟩ : ∃ Z, arr .u8 z20 = Z := ⟨_, rfl⟩
          have HZA : Hid (ZA.size = 20) := Lib.hid (by rw [← hZA]; rfl)
          simp only [hZA] at hza
          clear hln ho9 f1 f2 f3 hbs9 hpre hbm hvk hvke hink hR hRS hZA hl1
          go_upto_region 13 with (first
            | (go_at_call 32; (with_reducible refine HMC.out.mono ?_); rintro e w12 ⟨rfl, hb12⟩)
            | (refine wpList_store_whole rfl 81 (.tmp 10) (.tmp 58) rfl rfl rfl (Whole.new w12 81 ZA) Try.info81 HRR.out.2.1.1 HZA.out HRR.out.2.1.2 ?_))
          have hbw : Below w12.heap.size w12 ((w12.alloc (.cells ZA 81)).setRow w12.heap.size R) := below_row ((Below.refl _ w12).alloc (Nat.le_refl _) _) (Nat.le_refl _) _
          have hgt : Whole ((w12.alloc (.cells ZA 81)).setRow w12.heap.size R) w12.heap.size 81 R := (Whole.new w12 81 ZA).row _
          have hq12 := HQ9.out.1.under (hb12.trans (hbw.mono hb12.size))
          generalize (w12.alloc (.cells ZA 81)).setRow w12.heap.size R = W12 at *
          generalize w12.heap.size = gt at *
          have e15 : W12.cell? ⟨N + 1, 14, none⟩ = some (.slice (some ⟨g7, 0, none⟩) l7 c7) := (hq12.full.cell 14).trans (mv_14 _ _ _ _ HM.out.id12)
          have e14 : W12.cell? ⟨N, 14, none⟩ = some (.slice A n c) := HS1.out _ hq12.box
          obtain ⟨hrl, hgN, ⟨csR, hwR⟩, hqc, hcm, -⟩ := hq12.row.last (.slice (some ⟨gt, 0, none⟩) 20 20)
          have ec : W12.cell? ⟨g7, n * 2 + 1, none⟩ = some (.slice (some ⟨g20, 0, none⟩) 20 20) := by
            have h1 := (acells_at (q1 ++ [((8 : Int), Value.slice (some ⟨g20, 0, none⟩) 20 20)]) n (by simp [HQL.out])).2
            have := World.ownsRow.cells (g := g7) hq12.row rfl (n * 2 + 1) (.slice (some ⟨g20, 0, none⟩) 20 20) (by rw [h1]; simp [List.getD, ← HQL.out])
            rw [Addr.add_lit, Nat.zero_add] at this
            exact this
          have fc : W12.frozen? ⟨g7, n * 2 + 1, none⟩ = false := hwR.frz _
          have hl7 := HQ1.out.2.2.2.2
          rw [HQL.out] at hrl hqc
          have H12 := Lib.hid (And.intro hq12 (And.intro hgt (And.intro hrl (And.intro hgN (And.intro hwR hqc)))))
          clear hbw hgt hq12 hb12 hrl hgN hwR hqc hcm
          have hn0 : (0 : Int) ≤ (n : Int) := by omega
          have hn1 : (n : Int) < (l7 : Int) := by omega
          have hn2 : n < l7 := by omega
          clear hs1 hl7
          refine wp_region_still_tail 8 (by kernel_rfl) (by kernel_rfl) ?_
          simp only [List.take_succ_cons, List.take_zero, List.drop_succ_cons, List.drop_zero]
          repeat still_step
          refine wpStill_nil ?_
          change wpList _ _ _ _ _ W12.drew
          clear hn0 hn1 hn2 e14 e15
          go_upto_region 14 with fail
          have hgt := H12.out.2.1
          rw [← HRR.out.1] at hgt
          have hTL : (mac ks (preM m)).length = 20 := tag_len m ks
          have hq13 := H12.out.1.tag hgt hTL
          rw [HQL.out] at hq13
          have HQ13 := Lib.hid hq13
          clear hq13 hgt hTL ec fc
          generalize hW13 : W12.setCell ⟨g7, n * 2 + 1, none⟩ (.slice (some ⟨gt, 0, none⟩) 20 20) = W13 at *
          clear hW13
          have hq14 : RQ w N M m q1 [((8 : Int), Value.slice (some ⟨gt, 0, none⟩) 20 20)] [⟨8, mac ks (preM m)⟩] (some ⟨g7, 0, none⟩) l7 c7 W13.drew := HQ13.out.under (Below.refl _ _).drew
          have HQ14 := Lib.hid hq14
          clear hq14
          generalize W13.drew = W14 at *
          have HTL : Hid (∀ W L, RQ w N M m q1 [((8 : Int), Value.slice (some ⟨gt, 0, none⟩) 20 20)] [⟨8, mac ks (preM m)⟩] (some ⟨g7, 0, none⟩) l7 c7 W → (TillOne (fun _ => True) (fun W => W.cell? ⟨N + 1, 14, none⟩ = some (.slice (some ⟨g7, 0, none⟩) l7 c7)) 7) L W) := Lib.hid fun W L h => TillOne.mk trivial ((h.full.cell 14).trans (mv_14 _ _ _ _ HM.out.id12))
          have HG1 : Hid (∀ W, Ahead (TillOne (fun _ => True) (fun W => W.cell? ⟨N + 1, 14, none⟩ = some (.slice (some ⟨g7, 0, none⟩) l7 c7)) 7) 7 W → W.cell? ⟨N + 1, 14, none⟩ = some (.slice (some ⟨g7, 0, none⟩) l7 c7)) := Lib.hid fun W h => (TillOne.get h).2
          have hqd : RQ w N M m q1 [((8 : Int), Value.slice (some ⟨gt, 0, none⟩) 20 20)] [⟨8, mac ks (preM m)⟩] (some ⟨g7, 0, none⟩) l7 c7 W14.drew := HQ14.out.under (Below.refl _ _).drew
          have HTS : Hid (∀ L, (TillOne (fun _ => True) (fun W => W.cell? ⟨N + 1, 14, none⟩ = some (.slice (some ⟨g7, 0, none⟩) l7 c7)) 7) L W14.drew) := Lib.hid fun L => HTL.out _ L hqd
          have HQD := Lib.hid hqd
          clear hqd
          refine wp_region_late (TillOne (fun _ => True) (fun W => W.cell? ⟨N + 1, 14, none⟩ = some (.slice (some ⟨g7, 0, none⟩) l7 c7)) 7) (by as_aux_lemma => kernel_rfl) ?_
          change wpLate Try.prog .any _ _ _ 8 #[false, false, false, false, false, false, false, false] _ _
          generalize W14.drew = X0 at *
          refine wpLate.take (i := 0) (q := 7) (oi := _) (v := ?_) rfl (by as_aux_lemma => kernel_rfl) (by as_aux_lemma => kernel_rfl) (by as_aux_lemma => kernel_rfl) (by as_aux_lemma => kernel_rfl) (by rfl) (fun _ _ _ h => h) (TillOne.set (by decide)) (HTS.out _) (Or.inl ⟨by rfl, ?_⟩) ?_
          case refine_2 => intro W hw; have e0 := HG1.out W hw; clear hw; go_simp; (try with_reducible rfl)
          simp only [Act.put, List.setIfInBounds_toArray, List.set_cons_succ, List.set_cons_zero]
          refine wpLate.take (i := 1) (q := 7) (oi := _) (v := ?_) rfl (by as_aux_lemma => kernel_rfl) (by as_aux_lemma => kernel_rfl) (by as_aux_lemma => kernel_rfl) (by as_aux_lemma => kernel_rfl) (by rfl) (fun _ _ _ h => h) (TillOne.set (by decide)) (HTS.out _) (Or.inl ⟨by rfl, ?_⟩) ?_
          case refine_2 => intro W hw; have e0 := HG1.out W hw; clear hw; go_simp; (try with_reducible rfl)
          simp only [Act.put, List.setIfInBounds_toArray, List.set_cons_succ, List.set_cons_zero]
          have hm4 := zero4
          obtain ⟨Z4, hZ4⟩ : ∃ Z, arr .u8 z4 = Z := ⟨_, rfl⟩
          simp only [hZ4] at hm4
          have HZ4 := Lib.hid hZ4
          clear hZ4
          refine wpLate.ready (rs := [2]) (by as_aux_lemma => kernel_rfl) (by simp) (eachLate.cons rfl (fun K' hK' => ?_) eachLate.nil)
          go_simp
          have h4 := Whole.new X0 5 Z4
          have hqa := HQD.out.under ((Below.refl _ X0).alloc (Nat.le_refl _) (.cells Z4 5))
          refine hK'.out _ _ (HTL.out _ _ hqa) ?_
          clear hK' K' hm4
          try simp only [Act.put]
          generalize X0.alloc (.cells Z4 5) = X1 at *
          obtain ⟨g4, hg4⟩ : ∃ g, X0.heap.size = g := ⟨_, rfl⟩
          rw [hg4] at h4 ⊢
          clear hg4
          have HTX : Hid (∀ L, (TillOne (fun _ => True) (fun W => W.cell? ⟨N + 1, 14, none⟩ = some (.slice (some ⟨g7, 0, none⟩) l7 c7)) 7) L X1) := Lib.hid fun L => HTL.out _ L hqa
          refine wpLate.take (i := 3) (q := 7) (oi := _) (v := ?_) rfl (by as_aux_lemma => kernel_rfl) (by as_aux_lemma => kernel_rfl) (by as_aux_lemma => kernel_rfl) (by as_aux_lemma => kernel_rfl) (by rfl) (fun _ _ _ h => h) (TillOne.set (by decide)) (HTX.out _) (Or.inl ⟨by rfl, ?_⟩) ?_
          case refine_2 => intro W hw; have e0 := HG1.out W hw; clear hw; go_simp; (try with_reducible rfl)
          simp only [Act.put, List.setIfInBounds_toArray, List.set_cons_succ, List.set_cons_zero]
          refine wpLate.ready (rs := [4]) (by as_aux_lemma => kernel_rfl) (by simp) (eachLate.cons rfl (fun K' hK' => ?_) eachLate.nil)
          go_simp
          have hal : Below X1.heap.size X1 (X1.alloc (.cells #[.int .u16 32808, .slice (some ⟨g4, 0, none⟩) 4 4] 57)) := (Below.refl _ X1).alloc (Nat.le_refl _) _
          have h6 := Whole.new X1 57 #[.int .u16 32808, .slice (some ⟨g4, 0, none⟩) 4 4]
          have hqb := hqa.under hal
          have h4b := h4.under hal
          refine hK'.out _ _ (HTL.out _ _ hqb) ?_
          clear hK' K' hal hqa h4
          try simp only [Act.put]
          generalize X1.alloc (.cells #[.int .u16 32808, .slice (some ⟨g4, 0, none⟩) 4 4] 57) = X2 at *
          obtain ⟨g6, hg6⟩ : ∃ g, X1.heap.size = g := ⟨_, rfl⟩
          rw [hg6] at h6 ⊢
          clear hg6
          rw [← HZ4.out] at h4b
          have hext : Ext X2 (32808, .slice (some ⟨g4, 0, none⟩) 4 4) ⟨32808, z4⟩ := ⟨g4, 5, rfl, h4b, by decide, by decide, by decide⟩
          have H22 := Lib.hid (And.intro hqb (And.intro h6 hext))
          clear hqb h6 hext h4b
          refine wpLate.ready (rs := [5]) (by as_aux_lemma => kernel_rfl) (by simp) (eachLate.cons rfl (fun K' hK' => ?_) eachLate.nil)
          refine step_of rfl (wp_append2 (e := 57) (.tmp 68) (.tmp 71) rfl Try.underlying38 Try.infoRAttr rfl rfl H22.out.1.row rfl H22.out.2.1 rfl (by have := HQL.out; have h := HV1.out.most; simp [with1] at h; have := HE.out; simp; omega) H22.out.1.size ?_)
          intro v8 X3 hr8 hg8 hh8
          obtain ⟨A8, c8, rfl, -⟩ := id hr8.form
          obtain ⟨l8, hl8⟩ : ∃ l, (q1 ++ [((8 : Int), Value.slice (some ⟨gt, 0, none⟩) 20 20)] ++ [((32808 : Int), Value.slice (some ⟨g4, 0, none⟩) 4 4)]).length = l := ⟨_, rfl⟩
          rw [hl8] at hr8 ⊢
          clear hl8
          have hq15 := H22.out.1.app hr8 hg8 H22.out.2.2 HM.out.id12
          have hb3 : Below (N + 2) X2 X3 := (Below.refl _ X2).grown hg8 H22.out.1.size (fun k hk => (H22.out.1.row.lt hk).1)
          have hf3 := H22.out.1.full.below hb3 (Nat.lt_succ_self (N + 1))
          have e15 : X3.cell? ⟨N + 1, 14, none⟩ = some (.slice (some ⟨g7, 0, none⟩) l7 c7) := (hf3.cell 14).trans (mv_14 _ _ _ _ HM.out.id12)
          have f15 : X3.frozen? ⟨N + 1, 14, none⟩ = false := hf3.frz 14
          have HQ15 := Lib.hid hq15
          have HTW : Hid (∀ L, (TillOne (fun _ => True) (fun W => W.cell? ⟨N + 1, 14, none⟩ = some (.slice (some ⟨g7, 0, none⟩) l7 c7)) 7) L X3) := Lib.hid fun L => TillOne.mk trivial e15
          refine hK'.out _ _ (HTW.out _) ?_
          clear hK' K' hr8 hg8 hh8 hq15 hb3 hf3
          try simp only [Act.put]
          refine wpLate.take (i := 6) (q := 7) (oi := _) (v := ?_) rfl (by as_aux_lemma => kernel_rfl) (by as_aux_lemma => kernel_rfl) (by as_aux_lemma => kernel_rfl) (by as_aux_lemma => kernel_rfl) (by rfl) (fun _ _ _ h => h) (TillOne.set (by decide)) (HTW.out _) (Or.inl ⟨by rfl, ?_⟩) ?_
          case refine_2 => intro W hw; have e0 := HG1.out W hw; clear hw; go_simp; (try with_reducible rfl)
          simp only [Act.put, List.setIfInBounds_toArray, List.set_cons_succ, List.set_cons_zero]
          refine wpLate.ready (rs := [7]) (by as_aux_lemma => kernel_rfl) (by simp) (eachLate.cons rfl (fun K' hK' => ?_) eachLate.nil)
          go_simp
          refine hK'.out _ _ (TillOne.past trivial rfl) ?_
          clear hK' K' e15 f15
          try simp only [Act.put]
          refine wpLate.done (by as_aux_lemma => kernel_rfl) ?_ _
          have hm2 := HQ15.out.msg HM.out.id12
          have hfull := HQ15.out.full
          obtain ⟨M2, hM2⟩ : ∃ x, mv m.cl m.me m.id (.slice A8 l8 c8) = x := ⟨_, rfl⟩
          rw [hM2] at hm2 hfull
          generalize X3.setCell ⟨N + 1, 14, none⟩ (.slice A8 l8 c8) = W15 at *
          have hbd := rbuild_v M2 (with2 m (tagOf m ks) z4) A8 c8 W15 hm2 (HF.out.re2 (tag_in _ _) (in256_zeros 4))
          have HBD2 := Lib.hid hbd
          have H15 := Lib.hid (And.intro hfull (And.intro hm2.size (HQ15.out.below)))
          clear hbd hm2 hfull hM2
          go_upto_region 16 with (first
            | (refine wpList_load_all rfl 40 (.tmp 7) rfl H15.out.1 rfl Try.sizeRMsg H15.out.2.1 Try.underlying40 rfl ?_)
            | (go_at_call 18; (with_reducible refine HBD2.out.mono ?_); rintro e w16 ⟨v16, x16, rfl, hb16, hbl16⟩))
          have hN16 : N ≤ W15.heap.size := Nat.le_of_lt (Nat.lt_of_succ_lt H15.out.1.lt)
          have HB16 := Lib.hid (And.intro (H15.out.2.2.trans (hbl16.mono hN16)) (And.intro hbl16.size hN16))
          clear hbl16 hN16
          rcases hb16 with ⟨hv2, rfl, ho16⟩ | ⟨hv2, rfl, rfl⟩
          · have HCS : Hid (CanSign m) := Lib.hid ⟨HFR.out, hv2.re2 (tag_len _ _) z4_len z20_len z4_len⟩
            have hln := msgBytes_length (with2 m (tagOf m ks) z4) HF.out.id12
            rw [with2_size (tag_len _ _) z4_len] at hln
            have h15 := hv2.size
            rw [with2_size (tag_len _ _) z4_len] at h15
            have hsum := sum_in_place (m := m) (ks := ks) HF.out.id12
            have hpx := in256_preC HF.out (tag_in m ks)
            have h20 : 20 ≤ szN m := by unfold szN; omega
            obtain ⟨xs2, hxs⟩ : ∃ x, msgBytes (with2 m (tagOf m ks) z4) = x := ⟨_, rfl⟩
            rw [hxs] at ho16 hln hsum
            obtain ⟨l2, hl2⟩ : ∃ l, szN m + 32 = l := ⟨_, rfl⟩
            rw [hl2] at hln h15 hsum
            have hl52 : 52 ≤ l2 := by omega
            have hne : v16 ≠ .slice none 0 0 := fun e => by
              obtain ⟨A', c', e2, _⟩ := ho16.form
              rw [e] at e2
              simp only [Value.slice.injEq] at e2
              omega
            obtain ⟨g, cap, cur, rfl, hgb, -, hlc, hcm, -, -⟩ := own_form ho16 hne
            rw [hln] at ho16 hlc ⊢
            obtain ⟨A', c', e', -, -, -, hbs⟩ := ho16.form
            rw [hln] at e' hbs
            cases e'
            have hbc := hbs.head (k := l2 - 8) (by omega)
            rw [hsum.1] at hbc
            have HC := Lib.hid (rcrc_any (some ⟨g, 0, none⟩) (l2 - 8) cap (preC m (tagOf m ks)) w16.heap.size w16 hbc hpx (by omega))
            have hs1 : ∀ W, (Instr.slice 22 (.slice (some ⟨g, 0, none⟩) l2 cap) none (some (.int .i64 ((l2 : Int) - 8))) none).run Try.prog W = .ok (.slice (some ⟨g, 0, none⟩) (l2 - 8) cap) W := fun W => cut_head (by omega) (by omega) W
            have hs2 : ∀ W, (Instr.slice 22 (.slice (some ⟨g, 0, none⟩) l2 cap) (some (.int .i64 ((l2 : Int) - 4))) none none).run Try.prog W = .ok (.slice (some ⟨g, l2 - 4, none⟩) 4 (cap - (l2 - 4))) W := fun W => by
              have := cut_tail (A := ⟨g, 0, none⟩) (n := l2) (c := cap) (lo := l2 - 4) (x := (l2 : Int) - 4) (by omega) (by omega) (by omega) W
              rw [if_neg (by omega), Addr.add_lit, Nat.zero_add, show l2 - (l2 - 4) = 4 by omega] at this
              exact this
            have hwr : IntKind.i64.wrap ((l2 : Int) - 4) = (l2 : Int) - 4 := by rw [IntKind.wrap_i64]; omega
            have HSL := Lib.hid (And.intro hs2 hwr)
            have HO := Lib.hid (And.intro ho16 (And.intro hgb hsum.2))
            obtain ⟨qc, hqc⟩ : ∃ q, crc (preC m (tagOf m ks)) = q := ⟨_, rfl⟩
            rw [hqc] at HC HO
            clear hln hsum hpx h20 hxs hl2 hne hgb hlc hcm hbs hbc ho16 hs2 hwr hqc hv2
            have HL52 := Lib.hid (And.intro hl52 h15)
            go_upto_region 19 with (go_at_call 33; (with_reducible refine HC.out.mono ?_); rintro e w18 ⟨rfl, rfl⟩)
            clear hs1 hl52 h15
            obtain ⟨hs2, hwr⟩ := HSL.out
            have HFO : Hid (∀ x W, Calls Try.prog 34 #[.int .u32 x] W fun e w' => ∃ g, e = .returned (.slice (some ⟨g, 0, none⟩) 4 4) ∧ New8 W w' g (be4 x)) := Lib.hid fun x W => four_any x W
            obtain ⟨yq, hyq⟩ : ∃ y, bits .xor .u32 qc 1398035790 = y := ⟨_, rfl⟩
            rw [hyq] at HO ⊢
            clear hyq
            refine wp_region_held_drew (S := fun _ => True) (by kernel_rfl) trivial (fun hHeld => ?_)
            refine wpAnyH_take (i := 0) (v := .slice (some ⟨g, 0, none⟩) l2 cap) rfl (by kernel_rfl) (by kernel_rfl) (by kernel_rfl) (fun _ _ _ h => h) (Or.inl ⟨by rfl, fun w h => by go_simp⟩) (by assumption) ?_
            simp only [Act.put, List.getElem_toArray, List.getElem_cons_succ, List.getElem_cons_zero, List.setIfInBounds_toArray, List.set_cons_succ, List.set_cons_zero]
            refine wpAnyH_take (i := 1) (v := .slice (some ⟨g, 0, none⟩) l2 cap) rfl (by kernel_rfl) (by kernel_rfl) (by kernel_rfl) (fun _ _ _ h => h) (Or.inl ⟨by rfl, fun w h => by go_simp⟩) (by assumption) ?_
            simp only [Act.put, List.getElem_toArray, List.getElem_cons_succ, List.getElem_cons_zero, List.setIfInBounds_toArray, List.set_cons_succ, List.set_cons_zero]
            refine wpAnyH_take (i := 2) (v := .int .i64 l2) rfl (by kernel_rfl) (by kernel_rfl) (by kernel_rfl) (fun _ _ _ h => h) (Or.inl ⟨by rfl, fun w h => by go_simp⟩) (by assumption) ?_
            simp only [Act.put, List.getElem_toArray, List.getElem_cons_succ, List.getElem_cons_zero, List.setIfInBounds_toArray, List.set_cons_succ, List.set_cons_zero]
            refine wpAnyH_take (i := 3) (v := .int .i64 ((l2 : Int) - 4)) rfl (by kernel_rfl) (by kernel_rfl) (by kernel_rfl) (fun _ _ _ h => h) (Or.inl ⟨by rfl, fun w h => by go_simp⟩) (by assumption) ?_
            simp only [Act.put, List.getElem_toArray, List.getElem_cons_succ, List.getElem_cons_zero, List.setIfInBounds_toArray, List.set_cons_succ, List.set_cons_zero]
            refine wpAnyH_take (i := 4) (v := .slice (some ⟨g, l2 - 4, none⟩) 4 (cap - (l2 - 4))) rfl (by kernel_rfl) (by kernel_rfl) (by kernel_rfl) (fun _ _ _ h => h) (Or.inl ⟨by rfl, fun w h => by go_simp⟩) (by assumption) ?_
            simp only [Act.put, List.getElem_toArray, List.getElem_cons_succ, List.getElem_cons_zero, List.setIfInBounds_toArray, List.set_cons_succ, List.set_cons_zero]
            refine wpAnyH_take (i := 5) (v := .int .u32 yq) rfl (by kernel_rfl) (by kernel_rfl) (by kernel_rfl) (fun _ _ _ h => h) (Or.inl ⟨by rfl, fun w h => by go_simp⟩) (by assumption) ?_
            simp only [Act.put, List.getElem_toArray, List.getElem_cons_succ, List.getElem_cons_zero, List.setIfInBounds_toArray, List.set_cons_succ, List.set_cons_zero]
            clear hs2 hwr
            refine wpAnyH_ready (rs := [6]) (by kernel_rfl) (by simp) ?_
            refine AllReadyH.cons (i := 6) rfl (fun K hK => ?_) AllReadyH.nil
            go_simp
            refine (HFO.out _ _).mono ?_
            rintro e w19 ⟨gf, rfl, hn⟩
            refine hK.out _ _ trivial (fun hHeld => ?_)
            clear hK K
            try simp only [Act.put]
            have hob := HO.out.1.drew.under hn.below
            have hbf := Bs.row hn.whole 0 (Nat.zero_le _)
            rw [Nat.sub_zero, List.drop_zero] at hbf
            refine wpAnyH_ready (rs := [7]) (by kernel_rfl) (by simp) ?_
            refine AllReadyH.cons (i := 7) rfl (fun K hK => ?_) AllReadyH.nil
            refine step_of rfl (wp_copy8 (.tmp 92) (.tmp 94) rfl rfl rfl hob hbf (by simp) (by simp) (by have := HL52.out; simp; omega) ?_)
            intro w20 hw20 ho20
            refine hK.out _ _ trivial (fun hHeld => ?_)
            clear hK K
            refine wpAnyH_done (by kernel_rfl) ?_ _
            rw [HO.out.2.2] at hw20
            have hbA : Below W15.heap.size w16 w20 := (((Below.refl _ w16).drew).trans (hn.below.mono (by have := HB16.out.2.1; exact this))).trans (ho20.below (fun k hk => by have := HO.out.2.1; omega) (Nat.le_trans HB16.out.2.1 hn.below.size))
            have HFIN := Lib.hid (And.intro (hw20.low HB16.out.2.2) (HB16.out.1.trans (hbA.mono HB16.out.2.2)))
            clear hw20 ho20 hbA hob hbf hn hHeld
            try simp only [Act.put, List.getElem_toArray, List.getElem_cons_succ, List.getElem_cons_zero, List.setIfInBounds_toArray, List.set_cons_succ, List.set_cons_zero]
            go_wp2
            go_ret2
            exact ⟨_, _, rfl, .inl ⟨HCS.out, rfl, by rw [HN.out]; exact HFIN.out.1⟩, HFIN.out.2⟩
          · have HNV : Hid (¬ CanSign m) := Lib.hid (fun hc => hv2 (hc.valid.re2 z20_len z4_len (tag_len _ _) z4_len))
            clear hv2
            go_wp2
            go_ret2
            exact ⟨_, _, rfl, .inr ⟨HNV.out, rfl, rfl⟩, HB16.out.1⟩
        · have HNV : Hid (¬ CanSign m) := Lib.hid (fun hc => hv1 (hc.valid.re1 z20_len z4_len z20_len))
          clear hv1 hbl9
          go_wp2
          go_ret2
          exact ⟨_, _, rfl, .inr ⟨HNV.out, rfl, rfl⟩, HQ9.out.1.below⟩
end Go.Proofs.Yteloaidnfcmadaa
