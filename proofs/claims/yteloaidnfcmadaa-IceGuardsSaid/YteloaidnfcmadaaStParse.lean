/- Parse: any bytes are the message that they are, or none. -/
import Derived.Test.YteloaidnfcmadaaStHead
namespace Go.Proofs.Yteloaidnfcmadaa
open Go.RowKit
set_option linter.unusedVariables false

/-- What a Parse answers of the bytes xs. -/
def ParsedV (w' : World) (xs : List Int) (M : Array Value) (e : Int) : Prop := (∃ m A c, Is xs m ∧ e = 0 ∧ MsgV w' w'.heap.size M m A c) ∨ (IsNone xs ∧ e = 2 ∧ M = zM)
theorem long_none {xs : List Int} (h : 1500 < xs.length) : IsNone xs := fun m ⟨hv, hf, e⟩ => by
  have h1 := msgBytes_length m hf.id12
  have h2 := hv.size
  rw [e] at h1
  omega

/-- Attributes with values of the call's own. -/
def ElsO (w : World) (base : Nat) (ps : List (Int × Value)) (L : List At) : Prop := ps.length = L.length ∧ ∀ i, i < ps.length → (ps.getD i (0, undef)).1 = (L.getD i default).ty ∧ Own8 w base (ps.getD i (0, undef)).2 (L.getD i default).val
theorem ElsO.on {w w' : World} {base : Nat} {ps : List (Int × Value)} {L : List At} (h : ElsO w base ps L) (hk : Kept8 w w') : ElsO w' base ps L := ⟨h.1, fun i hi => ⟨(h.2 i hi).1, (h.2 i hi).2.keep8 hk⟩⟩
theorem ElsO.els {w : World} {base : Nat} {ps : List (Int × Value)} {L : List At} (h : ElsO w base ps L) : Els w base ps L := ⟨h.1, fun i hi => ⟨(h.2 i hi).1, .inr (h.2 i hi).2⟩⟩
theorem ElsO.nil (w : World) (base : Nat) : ElsO w base [] [] := ⟨rfl, fun i hi => by simp at hi⟩
theorem ElsO.snoc {w : World} {base : Nat} {ps : List (Int × Value)} {L : List At} (h : ElsO w base ps L) {v : Value} {a : At} (hv : Own8 w base v a.val) : ElsO w base (ps ++ [(a.ty, v)]) (L ++ [a]) := by
  have hl := h.1
  refine ⟨by simp [hl], fun i hi => ?_⟩
  simp only [List.length_append, List.length_cons, List.length_nil] at hi
  by_cases hil : i < ps.length
  · have e1 : (ps ++ [(a.ty, v)]).getD i (0, undef) = ps.getD i (0, undef) := by simp [List.getD, List.getElem?_append_left hil]
    have e2 : (L ++ [a]).getD i default = L.getD i default := by simp [List.getD, List.getElem?_append_left (show i < L.length by omega)]
    rw [e1, e2]
    exact h.2 i hil
  · obtain rfl : i = ps.length := by omega
    have e1 : (ps ++ [(a.ty, v)]).getD ps.length (0, undef) = (a.ty, v) := by simp [List.getD]
    have e2 : (L ++ [a]).getD ps.length default = a := by simp [List.getD, hl]
    rw [e1, e2]
    exact ⟨rfl, hv⟩
theorem kept8_rd {w w' : World} {b : Nat} {v : Value} {xs : List Int} {bad : Bool} (h : RdV w b v xs bad) (ho : Only (fun k => k = b) w w') : Kept8 w w' := fun g cs hg => hg.only ho (fun e => by
  have := h.block.ne hg (by decide)
  omega)

/-- What is known while attributes are read: the result's variable in block N, the reader rb, the message in block n5. -/
structure Ps (w : World) (N rb n5 : Nat) (cl me : Int) (id : List Int) (wr : World) (v : Value) (ps : List (Int × Value)) (L : List At) (rest : List Int) (bad : Bool) : Prop where
  res : Whole wr N 69 zM
  box : Whole wr n5 69 (mv cl me id v)
  rd : ∃ vr, RdV wr rb vr rest bad
  row : Row2 92 wr (n5 + 1) v ps
  els : ElsO wr (n5 + 1) ps L
  below : Below N w wr
  o1 : N < rb
  o2 : rb < n5
section
variable {w wr w' : World} {N rb n5 : Nat} {cl me : Int} {id : List Int} {v v' : Value} {ps : List (Int × Value)} {L : List At} {rest rest' : List Int} {bad bad' : Bool}
theorem Ps.size (h : Ps w N rb n5 cl me id wr v ps L rest bad) : n5 + 1 ≤ wr.heap.size := h.box.lt
theorem Ps.under (h : Ps w N rb n5 cl me id wr v ps L rest bad) (hb : Below wr.heap.size wr w') : Ps w N rb n5 cl me id w' v ps L rest bad :=
  ⟨h.res.under hb, h.box.under hb, h.rd.elim fun vr hr => ⟨vr, hr.under hb⟩, h.row.under hb, h.els.on (Kept8.under hb), h.below.trans (hb.mono (by have := h.size; have := h.o1; have := h.o2; omega)), h.o1, h.o2⟩
/-- The reader has gone on. -/
theorem Ps.read (h : Ps w N rb n5 cl me id wr v ps L rest bad) (ho : Only (fun k => k = rb) wr w') (hr : ∃ vr, RdV w' rb vr rest' bad') : Ps w N rb n5 cl me id w' v ps L rest' bad' := by
  have o1 := h.o1
  have o2 := h.o2
  have hs := h.size
  obtain ⟨vr, hvr⟩ := h.rd
  exact ⟨h.res.only ho (by omega), h.box.only ho (by omega), hr, h.row.keep fun g cs hg => hg.only ho (fun e => by have := hvr.block.ne hg (by decide); omega), h.els.on (kept8_rd hvr ho), h.below.trans (ho.below (fun k hk => by omega) (by omega)), o1, o2⟩
/-- An attribute is appended and stored. -/
theorem Ps.grow (h : Ps w N rb n5 cl me id wr v ps L rest bad) (h12 : id.length = 12) {a : At} {u : Value} (hr : Row2 92 w' (n5 + 1) v' (ps ++ [(a.ty, u)])) (hg : wr.grownBy w' v.ownBlock) (hu : Own8 wr (n5 + 1) u a.val) :
    Ps w N rb n5 cl me id (w'.setCell ⟨n5, 14, none⟩ v') v' (ps ++ [(a.ty, u)]) (L ++ [a]) rest bad := by
  have o1 := h.o1
  have o2 := h.o2
  have hs := h.size
  obtain ⟨vr, hvr⟩ := h.rd
  have hb : Below (n5 + 1) wr w' := (Below.refl _ wr).grown hg hs (fun k hk => (h.row.lt hk).1)
  have hb2 : Below n5 w' (w'.setCell ⟨n5, 14, none⟩ v') := (Below.refl n5 w').setCell (p := ⟨n5, 14, none⟩) (Nat.le_refl _) _
  have hb3 : Below n5 wr (w'.setCell ⟨n5, 14, none⟩ v') := (hb.mono (Nat.le_succ _)).trans hb2
  have hbox := h.box.below hb (Nat.lt_succ_self _)
  have hk : Kept8 wr (w'.setCell ⟨n5, 14, none⟩ v') := (h.row.kept (by decide) hg).trans (Kept8.put hbox (by decide) 14 v')
  refine ⟨h.res.below hb3 (by omega), ?_, ⟨vr, hvr.next (hb3.mono (by omega))⟩, ?_, (h.els.on hk).snoc (hu.keep8 hk), h.below.trans (hb3.mono (by omega)), o1, o2⟩
  · have := hbox.set 14 v'
    rwa [mv_set _ _ _ _ _ h12] at this
  · exact hr.keep fun g cs hw => hw.far (p := ⟨n5, 14, none⟩) (fun e => hw.ne hbox (by decide) e) _
end

theorem built_zero : Try.prog.built 69 [] = some zM := by kernel_rfl
theorem build_zero (w : World) : (Instr.build 69 #[]).run Try.prog w = .ok (.agg zM) w := run_build w 69 _ _ built_zero
theorem wpList_build0 {ops : Array Oper} {rest : List Oper} {o : Oper} {a : Act} {w : World} {Q : Exit → Act → World → Prop} (hgd : o.guard = none) (t : TypeId) (ho : o.op = .build t #[]) {v : Value}
    (hr : (Instr.build t #[]).run Try.prog w = .ok v w) (h : wpList Try.prog ops Q rest (a.put o.dst v) w) : wpList Try.prog ops Q (o :: rest) a w := by
  refine wpList_plain hgd fun K hK => ?_
  unfold Oper.wp execOp
  simp only [ho, Sem.run_bind, List.map_toArray, List.map_nil, hr, Result.andThen_ok, Sem.run_pure]
  exact hK _ _ h
theorem Row2.keepAt {e : TypeId} {w w' : World} {base : Nat} {v : Value} {ps : List (Int × Value)} (h : Row2 e w base v ps) (hk : ∀ g cs, v.ownBlock = some g → Whole w g e cs → Whole w' g e cs) : Row2 e w' base v ps := by
  refine ⟨h.1, ?_⟩
  rcases h.2 with h0 | ⟨g, cap, cur, h1, h2, h3, h4⟩
  · exact .inl h0
  · exact .inr ⟨g, cap, cur, h1, h2, hk g cur (by rw [h1]; rfl) h3, h4⟩
/-- A variable of the round's own is written. -/
theorem Ps.far {w wr : World} {N rb n5 g : Nat} {cl me : Int} {id : List Int} {v : Value} {ps : List (Int × Value)} {L : List At} {rest : List Int} {bad : Bool} {old : Array Value} (h : Ps w N rb n5 cl me id wr v ps L rest bad) (hg : Whole wr g 92 old) (hn : n5 < g) (hv : ∀ k, v.ownBlock = some k → k < g) (cs : Array Value) : Ps w N rb n5 cl me id (wr.setRow g cs) v ps L rest bad := by
  have o1 := h.o1
  have o2 := h.o2
  have hb : Below (n5 + 1) wr (wr.setRow g cs) := below_row (Below.refl _ wr) hn cs
  obtain ⟨vr, hvr⟩ := h.rd
  exact ⟨h.res.below hb (by omega), h.box.below hb (Nat.lt_succ_self _), ⟨vr, hvr.next (hb.mono (by omega))⟩, h.row.keepAt fun k cs' hk hw => hw.farRow (by have := hv k hk; omega) _, h.els.on (Kept8.row hg (by decide) cs), h.below.trans (hb.mono (by omega)), o1, o2⟩
theorem wpList_append2 {ops : Array Oper} {rest : List Oper} {o : Oper} {a : Act} {Q : Exit → Act → World → Prop} {e T : TypeId} {z : Value} (hgd : o.guard = none) (s y : Operand) (ho : o.op = .call { callee := .builtin .append, args := #[s, y], argTypes := #[T, T] })
    (hT : Try.prog.underlying T = some (.slice e)) (hi : (Try.prog.info? e).map (fun i => (i.zero, i.size, i.bytes)) = some (some z, 2, 32)) (hz : z.cells.size = 2) {w : World} {base : Nat} {v : Value} {ps : List (Int × Value)} (hs : a.eval s = v) (hown : Row2 e w base v ps) {g c : Nat} {x : Int} {u : Value} (hy : a.eval y = .slice (some ⟨g, 0, none⟩) 1 c)
    (hg : Whole w g e #[.int .u16 x, u]) (hu : u.oneCell' = true) (h63 : ps.length + 1 ≤ 4398046511103) (hbase : base ≤ w.heap.size)
    (h : ∀ v' w', Row2 e w' base v' (ps ++ [(x, u)]) → w.grownBy w' v.ownBlock → (v'.ownBlock = v.ownBlock ∨ v'.ownBlock = some w.heap.size) → wpList Try.prog ops Q rest (a.put o.dst v') w') : wpList Try.prog ops Q (o :: rest) a w :=
  wpList_plain hgd fun K hK => wp_append2 s y ho hT hi hz hs hown hy hg hu h63 hbase fun v' w' h1 h2 h3 => hK _ _ (h v' w' h1 h2 h3)
theorem wpList_load_allG {ops : Array Oper} {rest : List Oper} {o : Oper} {a : Act} {w : World} {Q : Exit → Act → World → Prop} (hw : Region.wanted o (yielded ops a.tmps) = true) (ty : TypeId) (x : Operand) (ho : o.op = .load ty x) {g : Nat} {t : TypeId} {cs : Array Value} (hg : Whole w g t cs)
    (hx : a.eval x = .pointer (some ⟨g, 0, none⟩)) {n : Nat} (hi : (Try.prog.info? ty).map (·.size) = some n) (hn : cs.size = n) {d : TypeDesc} (hu : Try.prog.underlying ty = some d) (hd : d.isRow = true)
    (h : wpList Try.prog ops Q rest (a.put o.dst (.agg cs)) w) : wpList Try.prog ops Q (o :: rest) a w := by
  have e : cs.toList.toArray = cs := by simp
  refine wpList_step fun K hK => by
    rw [if_pos hw]
    refine wp_load_mid ty x ho g 0 hx cs.toList d hg.rangeA hu hd (by rw [hi, ← hn]; simp) (hK _ _ ?_)
    rw [e]
    exact h
/-- A message that its bytes' head says. -/
theorem is_head {xs : List Int} {m : Msg} (hx : In256 xs) (hok : hOk xs = true) (h : Is xs m) : m.cl = clOf (hK xs) ∧ m.me = meOf (hK xs) ∧ m.id = hI xs ∧ body m.at_ = h4 xs := by
  obtain ⟨hv, hf, e⟩ := h
  obtain ⟨_, i12, _, _, hk, e2⟩ := hOk_yes hx hok
  have k1 := kind_in m.cl m.me hv.c0 hv.c3 hv.m0 hv.m4
  rw [e2] at e
  unfold msgBytes at e
  obtain ⟨e3, e4⟩ := List.append_inj e (by simp)
  have ek := be2_inj (by omega) (by omega) e3
  obtain ⟨_, e5⟩ := List.append_inj e4 (by simp)
  obtain ⟨_, e6⟩ := List.append_inj e5 (by simp)
  obtain ⟨e7, e8⟩ := List.append_inj e6 (by rw [hf.id12, i12])
  exact ⟨by rw [← ek, clOf_kind _ _ hv.c0 hv.c3 hv.m0 hv.m4], by rw [← ek, meOf_kind _ _ hv.c0 hv.c3 hv.m0 hv.m4], e7, e8⟩
/-- What is read so far. -/
structure SoFar (xs : List Int) (L : List At) (rest : List Int) : Prop where
  ok : hOk xs = true
  bytes : body L ++ rest = h4 xs
  ats : ∀ a ∈ L, AtOk a
  vals : ∀ a ∈ L, In256 a.val
  rest : In256 rest
theorem SoFar.next {xs : List Int} {L : List At} {rest : List Int} (h : SoFar xs L rest) (ho : rOk rest = true) : SoFar xs (L ++ [⟨rT rest, rV rest⟩]) (x4 rest) := by
  obtain ⟨_, h1, h2, _, h3⟩ := rOk_yes h.rest ho
  refine ⟨h.ok, ?_, ?_, ?_, ?_⟩
  · rw [body_append, List.append_assoc]
    have e : body [⟨rT rest, rV rest⟩] ++ x4 rest = rest := by
      show (atBytes ⟨rT rest, rV rest⟩ ++ []) ++ x4 rest = rest
      rw [List.append_nil]
      exact h3.symm
    rw [e]
    exact h.bytes
  · intro a ha
    rcases List.mem_append.1 ha with ha | ha
    · exact h.ats a ha
    · simp at ha; subst ha; exact h1
  · intro a ha
    rcases List.mem_append.1 ha with ha | ha
    · exact h.vals a ha
    · simp at ha; subst ha; exact h2
  · unfold x4
    exact In256.leftP (by unfold x3; exact In256.leftP (by unfold x2; exact In256.leftP (by unfold x1; exact In256.leftP h.rest _ _) _ _) _ _) _ _
theorem SoFar.none {xs : List Int} {L : List At} {rest : List Int} (hx : In256 xs) (h : SoFar xs L rest) (hne : rest ≠ []) (ho : rOk rest = false) : IsNone xs := by
  intro m hm
  obtain ⟨_, _, _, e⟩ := is_head hx h.ok hm
  obtain ⟨L2, _, e2, e3⟩ := body_prefix h.ats (nice_of hm.1 hm.2.1).ats (e.trans h.bytes.symm)
  cases L2 with
  | nil => exact hne e2.symm
  | cons a r => exact rOk_no h.rest ho a (body r) (e3 a List.mem_cons_self) e2.symm
theorem SoFar.less {xs : List Int} {L : List At} {rest : List Int} (h : SoFar xs L rest) (ho : rOk rest = true) : (x4 rest).length < rest.length := by
  obtain ⟨_, _, _, _, h3⟩ := rOk_yes h.rest ho
  have h4' := at_len ⟨rT rest, rV rest⟩
  have : rest.length = (atBytes ⟨rT rest, rV rest⟩ ++ x4 rest).length := congrArg List.length h3
  rw [List.length_append] at this
  omega
theorem SoFar.few {xs : List Int} {L : List At} {rest : List Int} (h : SoFar xs L rest) (hl : xs.length ≤ 1500) (hx : In256 xs) : L.length ≤ 1500 := by
  have e := h.bytes
  obtain ⟨_, _, _, _, _, e2⟩ := hOk_yes hx h.ok
  have e3 : (h4 xs).length ≤ 1500 := by
    have : xs.length = (be2 (hK xs) ++ (be2 (h4 xs).length ++ (be4 554869826 ++ (hI xs ++ h4 xs)))).length := congrArg List.length e2
    simp at this
    omega
  have e4 : L.length ≤ (body L).length := by
    clear e e2 e3 h
    induction L with
    | nil => simp
    | cons a r ih =>
      have := at_len a
      show r.length + 1 ≤ (atBytes a ++ body r).length
      rw [List.length_append]
      omega
  have : (h4 xs).length = (body L ++ rest).length := by rw [e]
  rw [List.length_append] at this
  omega
/-- All is read: the message. -/
theorem SoFar.whole {xs : List Int} {L : List At} (hx : In256 xs) (h : SoFar xs L []) : Nice ⟨clOf (hK xs), meOf (hK xs), hI xs, L⟩ ∧ Fine ⟨clOf (hK xs), meOf (hK xs), hI xs, L⟩ ∧ msgBytes ⟨clOf (hK xs), meOf (hK xs), hI xs, L⟩ = xs := by
  obtain ⟨_, i12, ib, _, hk, e2⟩ := hOk_yes hx h.ok
  have c := clOf_in (hK xs)
  have m := meOf_in (hK xs)
  refine ⟨⟨c.1, c.2, m.1, m.2, i12, h.ats⟩, ⟨i12, ib, fun a ha => ⟨(h.ats a ha).t0, (h.ats a ha).t1⟩, h.vals⟩, ?_⟩
  have hb := h.bytes
  rw [List.append_nil] at hb
  unfold msgBytes
  simp only
  rw [kind_back _ (by omega) (by omega), hb]
  exact e2.symm
/-- How much there is left to read. -/
def leftOf (w : World) (rb : Nat) : Nat := match w.cell? ⟨rb, 0, none⟩ with
  | some (.slice _ l _) => l
  | _ => 0
theorem leftOf_rd {w : World} {b : Nat} {v : Value} {xs : List Int} {bad : Bool} (h : RdV w b v xs bad) : leftOf w b = xs.length := by
  obtain ⟨A, c, rfl, _⟩ := h.rest
  have := h.block.cell 0
  unfold leftOf
  rw [this]
  rfl
def msr (s : Value) (w : World) (rb : Nat) : Nat := match s with
  | .bool true => 1 + leftOf w rb
  | _ => 0

theorem Row2.low {e : TypeId} {w : World} {base base' : Nat} {v : Value} {ps : List (Int × Value)} (h : Row2 e w base v ps) (hb : base' ≤ base) : Row2 e w base' v ps := by
  refine ⟨h.1, ?_⟩
  rcases h.2 with h0 | ⟨g, cap, cur, h1, h2, h3⟩
  · exact .inl h0
  · exact .inr ⟨g, cap, cur, h1, Nat.le_trans hb h2, h3⟩
theorem ElsO.low {w : World} {base base' : Nat} {ps : List (Int × Value)} {L : List At} (h : ElsO w base ps L) (hb : base' ≤ base) : ElsO w base' ps L := ⟨h.1, fun i hi => ⟨(h.2 i hi).1, (h.2 i hi).2.low hb⟩⟩
/-- What a Parse answers, and that its attributes are rows of the call's own. -/
def ParsedF (e : TypeId) (base : Nat) (w' : World) (xs : List Int) (M : Array Value) (x : Int) : Prop :=
  (∃ m A c ps, Is xs m ∧ x = 0 ∧ MsgV w' w'.heap.size M m A c ∧ Row2 e w' base (.slice A m.at_.length c) ps ∧ ElsO w' base ps m.at_) ∨ (IsNone xs ∧ x = 2 ∧ M = zM)
theorem ParsedF.v {e : TypeId} {base : Nat} {w' : World} {xs : List Int} {M : Array Value} {x : Int} (h : ParsedF e base w' xs M x) : ParsedV w' xs M x := by
  rcases h with ⟨m, A, c, ps, h1, h2, h3, _⟩ | h
  · exact .inl ⟨m, A, c, h1, h2, h3⟩
  · exact .inr h
/-- Such a message is one in any later world in which no such row has turned. -/
theorem firm_keep {e : TypeId} {X X' : World} {base c : Nat} {A : Option Addr} {M : Array Value} {m : Msg} {ps : List (Int × Value)} (hm : MsgV X X.heap.size M m A c) (hr : Row2 e X base (.slice A m.at_.length c) ps) (he : ElsO X base ps m.at_) (hk : ∀ g cs, Whole X g e cs → Whole X' g e cs) (hk8 : Kept8 X X') (hs : X.heap.size ≤ X'.heap.size) (hbs : base ≤ X.heap.size) :
    MsgV X' X'.heap.size M m A c ∧ Row2 e X' base (.slice A m.at_.length c) ps ∧ ElsO X' base ps m.at_ := by
  have hr' := hr.keep hk
  have he' := he.on hk8
  exact ⟨⟨hm.form, hm.id12, hm.fits, hm.most, hm.nil, hr'.ats he'.els (Nat.le_trans hbs hs)⟩, hr', he'⟩

set_option maxHeartbeats 3200000 in
set_option maxRecDepth 100000 in
theorem parse_firm (v : Value) (xs : List Int) (w : World) (h : V8 w w.heap.size v xs) (hx : In256 xs) (hl : xs.length ≤ 140737488355328) :
    Calls Try.prog 22 #[v] w fun e w' => ∃ M x, e = .returned (.tuple #[.agg M, .int .i64 x]) ∧ ParsedF 92 w.heap.size w' xs M x ∧ Below w.heap.size w w' := by
  have hz := Try.zeroMsg
  obtain ⟨Av, cv, hve, hv1, hv2, hv3, hv4⟩ := h
  subst hve
  have hV : V8 w w.heap.size (.slice Av xs.length cv) xs := ⟨Av, cv, rfl, hv1, hv2, hv3, hv4⟩
  have HV := Lib.hid hV
  clear hV hv1 hv2 hv3 hv4
  obtain ⟨n, hn⟩ : ∃ x, xs.length = x := ⟨_, rfl⟩
  rw [hn] at HV hl ⊢
  have HNN := Lib.hid hn
  have HX := Lib.hid hx
  clear hx hn
  have HZS : Hid (zM.size = 15 ∧ zM.all (·.oneCell') = true) := Lib.hid ⟨zM_size, mv_one rfl⟩
  have hbz := fun W => build_zero W
  obtain ⟨Z, hZ⟩ : ∃ Z, zM = Z := ⟨_, rfl⟩
  have HZ := Lib.hid hZ
  simp only [hZ] at hz HZS hbz
  have HBZ := Lib.hid hbz
  have g0 := Whole.new w 69 Z
  have b0 : Below w.heap.size w (w.alloc (.cells Z 69)) := (Below.refl _ w).alloc (Nat.le_refl _) _
  have H0 := Lib.hid (And.intro g0 b0)
  clear hZ g0 b0 hbz
  obtain ⟨N, hN⟩ : ∃ N, w.heap.size = N := ⟨_, rfl⟩
  have HN := Lib.hid hN
  rw [hN] at H0 HV
  go_enter Try.func22, Try.ntmps22
  go_upto_region 1 with fail
  generalize w.alloc (.cells Z 69) = W0 at *
  clear hN
  by_cases hbig : 1500 < n
  · have hbig' : (n : Int) > 1500 := by omega
    have hno := Lib.hid (long_none (xs := xs) (by rw [HNN.out]; exact hbig))
    go_wp2_with (first
      | (refine wpList_build0 rfl 69 rfl (v := .agg Z) (HBZ.out _) ?_)
      | (refine wpList_store_whole rfl 69 (.tmp 2) (.tmp 11) rfl rfl rfl H0.out.1 Try.sizeMsg HZS.out.1 HZS.out.1 HZS.out.2 ?_))
    have f1 : Whole (W0.setRow N Z) N 69 Z := H0.out.1.row Z
    refine bodyPost_ret (v := .tuple #[.agg Z, .int .i64 2]) ?_ rfl ?_
    · exact ret_struct2 (p := 2) (s := 3) rfl rfl f1 Try.underlying69 rfl Try.sizeMsg HZS.out.1
    · exact ⟨Z, 2, rfl, .inr ⟨hno.out, rfl, HZ.out.symm⟩, by rw [HN.out]; exact below_row H0.out.2 (Nat.le_refl _) _⟩
  · have hbig' : ¬ (n : Int) > 1500 := by omega
    have HNR := Lib.hid (newReader_any (.slice Av n cv) xs W0.heap.size W0 ((HV.out.below H0.out.2).more (Nat.le_of_lt H0.out.1.lt)) (by rw [HNN.out]; exact hl))
    go_upto_region 4 with (go_at_call 37; (with_reducible refine HNR.out.mono ?_); rintro e w1 ⟨rb, v1, rfl, hr1, hrb, hb1⟩)
    have hNrb : N < rb := by have := H0.out.1.lt; omega
    have hg1 := H0.out.1.under hb1
    have hbl1 := H0.out.2.trans (hb1.mono (Nat.le_of_lt H0.out.1.lt))
    have HRH := Lib.hid (readHead_any rb v1 xs w1 hr1 HX.out)
    have hrbl := hr1.block.lt
    have H1 := Lib.hid (And.intro hg1 hbl1)
    clear hg1 hbl1 hb1 hr1 HNR hrb
    go_upto_region 5 with (first
      | (go_at_call 38; (with_reducible refine HRH.out.mono ?_); rintro e w2 ⟨cs, rfl, hcs, hck, hrd2, ho2⟩)
      | (refine wpList_store_whole rfl 69 (.tmp 5) (.tmp 17) rfl rfl rfl (Whole.new w2 69 Z) Try.sizeMsg hcs.1 HZS.out.1 (all_oneCell_toArray hcs.2) ?_))
    have n5l : rb < w2.heap.size := by have := ho2.size; omega
    have r3 : Whole ((w2.alloc (.cells Z 69)).setRow w2.heap.size cs.toArray) N 69 Z := ((H1.out.1.only ho2 (by omega)).alloc _).farRow (by omega) _
    have b3' : Whole ((w2.alloc (.cells Z 69)).setRow w2.heap.size cs.toArray) w2.heap.size 69 cs.toArray := (Whole.new w2 69 Z).row _
    have hbw : Below w2.heap.size w2 ((w2.alloc (.cells Z 69)).setRow w2.heap.size cs.toArray) := below_row ((Below.refl _ w2).alloc (Nat.le_refl _) _) (Nat.le_refl _) _
    have d3 : ∃ v2, RdV ((w2.alloc (.cells Z 69)).setRow w2.heap.size cs.toArray) rb v2 (h4 xs) (b4 xs) := hrd2.elim fun v2 h2 => ⟨v2, h2.under hbw⟩
    have bl3 : Below N w ((w2.alloc (.cells Z 69)).setRow w2.heap.size cs.toArray) := (H1.out.2.trans (ho2.below (B := N) (fun k hk => by omega) (by omega))).trans (hbw.mono (by omega))
    generalize (w2.alloc (.cells Z 69)).setRow w2.heap.size cs.toArray = w3 at *
    generalize w2.heap.size = n5 at *
    have hst : ∃ ok, hOk xs = ok ∧ ((ok = false ∧ IsNone xs ∧ Whole w3 N 69 Z ∧ Below N w w3) ∨ (ok = true ∧ ∃ v ps L rest, Ps w N rb n5 (clOf (hK xs)) (meOf (hK xs)) (hI xs) w3 v ps L rest false ∧ SoFar xs L rest)) := by
      cases hok : hOk xs with
      | false => exact ⟨false, rfl, .inl ⟨rfl, hOk_no HX.out hok, r3, bl3⟩⟩
      | true =>
        obtain ⟨q4, i12, ib, i4, hk, e2⟩ := hOk_yes HX.out hok
        rw [q4] at d3
        rw [hck hok, ml_mv] at b3'
        exact ⟨true, rfl, .inr ⟨rfl, _, [], [], h4 xs, ⟨by rw [HZ.out]; exact r3, b3', d3, Row2.nil _ _ _, ElsO.nil _ _, bl3, hNrb, n5l⟩, ⟨hok, rfl, (fun a ha => by cases ha), (fun a ha => by cases ha), i4⟩⟩⟩
    obtain ⟨ok0, hok0, hst0⟩ := hst
    have HST := Lib.hid hst0
    have HI12 : Hid (hOk xs = true → (hI xs).length = 12) := Lib.hid fun h => (hOk_yes HX.out h).2.1
    rw [hok0]
    clear hst0 r3 b3' hbw d3 bl3 hcs hck hrd2 ho2 HRH hok0 H1 hrbl
    have hza := Try.zeroAttr
    go_loopw [6] (fun s6 wr => ∃ ok, s6 = .bool ok ∧ ((ok = false ∧ IsNone xs ∧ Whole wr N 69 Z ∧ Below N w wr) ∨ (ok = true ∧ ∃ v ps L rest, Ps w N rb n5 (clOf (hK xs)) (meOf (hK xs)) (hI xs) wr v ps L rest false ∧ SoFar xs L rest))) (fun s6 wr => msr s6 wr rb)
    case atStart => exact ⟨ok0, rfl, HST.out⟩
    case round =>
      clear HST
      obtain ⟨ok, rfl, hcase⟩ := hrel
      rcases hcase with ⟨rfl, hno, hres, hbl⟩ | ⟨rfl, v, ps, L, rest, hps, hsf⟩
      · have HE := Lib.hid (And.intro hno (And.intro hres hbl))
        clear hno hres hbl
        go_wp2_with (first
          | (refine wpList_build0 rfl 69 rfl (v := .agg Z) (HBZ.out _) ?_)
          | (refine wpList_store_whole rfl 69 (.tmp 2) (.tmp 43) rfl rfl rfl HE.out.2.1 Try.sizeMsg HZS.out.1 HZS.out.1 HZS.out.2 ?_))
        have f1 : Whole (wr.setRow N Z) N 69 Z := HE.out.2.1.row Z
        refine bodyPost_ret (v := .tuple #[.agg Z, .int .i64 2]) ?_ rfl ?_
        · exact ret_struct2 (p := 2) (s := 3) rfl rfl f1 Try.underlying69 rfl Try.sizeMsg HZS.out.1
        · exact ⟨Z, 2, rfl, .inr ⟨HE.out.1, rfl, HZ.out.symm⟩, by rw [HN.out]; exact below_row HE.out.2.2 (Nat.le_refl _) _⟩
      · have hi12 := HI12.out hsf.ok
        obtain ⟨vr, hvr⟩ := hps.rd
        have HLF := Lib.hid (left_at rb vr rest false wr hvr)
        have hmsr : msr (.bool true) wr rb = 1 + rest.length := by unfold msr; rw [leftOf_rd hvr]
        obtain ⟨lr, hlr⟩ : ∃ x, rest.length = x := ⟨_, rfl⟩
        rw [hlr] at HLF hmsr
        have hfew := hsf.few (by rw [HNN.out]; omega) HX.out
        have hpl := hps.els.1
        obtain ⟨Av, cv, rfl, -⟩ := hps.row.form
        obtain ⟨k, hk⟩ : ∃ x, ps.length = x := ⟨_, rfl⟩
        rw [hk] at hps hpl
        have HP := Lib.hid (And.intro hps (And.intro hsf (And.intro hlr (And.intro hk hpl))))
        by_cases hz0 : lr = 0
        · subst hz0
          have hre : rest = [] := List.eq_nil_of_length_eq_zero hlr
          subst hre
          obtain ⟨hnice, hfine, hbytes⟩ := hsf.whole HX.out
          have hL : L.length = k := hpl.symm.trans rfl
          have hats := hps.row.ats hps.els.els hps.size
          have hform := hps.row.form
          have hmsg : MsgV wr wr.heap.size (mv (clOf (hK xs)) (meOf (hK xs)) (hI xs) (.slice Av k cv)) ⟨clOf (hK xs), meOf (hK xs), hI xs, L⟩ Av cv := by
            obtain ⟨A', c', e, f1, f2, f3⟩ := hps.row.form
            rw [hk] at e f1
            cases e
            exact ⟨by show _ = mv _ _ _ (.slice Av L.length cv); rw [hL], hi12, by show L.length ≤ cv; omega, f2, f3, hats⟩
          have hvi := valid_iff ⟨clOf (hK xs), meOf (hK xs), hI xs, L⟩
          have HVA := Lib.hid (valid_any _ _ _ _ wr hmsg)
          obtain ⟨M, hM⟩ : ∃ M, mv (clOf (hK xs)) (meOf (hK xs)) (hI xs) (.slice Av k cv) = M := ⟨_, rfl⟩
          have hMs : M.size = 15 ∧ M.all (·.oneCell') = true := by rw [← hM]; exact ⟨mv_size hi12, mv_one rfl⟩
          have hbx := hps.box
          rw [hM] at HVA hmsg hbx
          obtain ⟨m, hm⟩ : ∃ m : Msg, (⟨clOf (hK xs), meOf (hK xs), hI xs, L⟩ : Msg) = m := ⟨_, rfl⟩
          rw [hm] at HVA hmsg hvi hnice hfine hbytes
          obtain ⟨vb, hvb⟩ : ∃ x, valid? m = x := ⟨_, rfl⟩
          rw [hvb] at HVA hvi
          have hres := hps.res
          rw [HZ.out] at hres
          have o1 := hps.o1
          have o2 := hps.o2
          have HE := Lib.hid (And.intro hmsg (And.intro hbx (And.intro hres (And.intro hps.below (And.intro hMs (And.intro hvi (And.intro hnice (And.intro hfine hbytes))))))))
          have hform2 : k ≤ cv ∧ cv ≤ maxLen ∧ (Av = none → cv = 0) := by
            obtain ⟨A', c', e, f1, f2, f3⟩ := hps.row.form
            rw [hk] at e f1
            cases e
            exact ⟨f1, f2, f3⟩
          have HRO := Lib.hid (And.intro hps.row (And.intro hps.els (And.intro hm (And.intro hM (And.intro hL (And.intro hi12 hform2))))))
          clear hform2
          clear hmsg hbx hres hMs hvi hnice hfine hbytes hats hform hps hsf hvr hk hpl hfew hmsr hlr HP hM hm hvb hi12 hL
          have ho : N < n5 := by omega
          have s5 := HE.out.2.1.lt
          cases vb with
          | false =>
            have hno : IsNone xs := fun m' hm' => by
              have e := msg_inj (nice_of hm'.1 hm'.2.1) HE.out.2.2.2.2.2.2.1 (hm'.2.2.trans HE.out.2.2.2.2.2.2.2.2.symm)
              have := HE.out.2.2.2.2.2.1.2 (e ▸ hm'.1)
              cases this
            have HNO := Lib.hid hno
            clear hno
            go_wp2_with (first
              | (go_at_call 39; (with_reducible refine HLF.out.mono ?_); rintro e w' ⟨rfl, rfl⟩)
              | (refine wpList_load_allG (by rfl) 69 (.tmp 5) rfl HE.out.2.1 rfl Try.sizeMsg HE.out.2.2.2.2.1.1 Try.underlying69 rfl ?_)
              | (go_at_call 41; (with_reducible refine HVA.out.mono ?_); rintro e w9 ⟨rfl, hb9⟩)
              | (refine wpList_build0 rfl 69 rfl (v := .agg Z) (HBZ.out _) ?_)
              | (refine wpList_store_whole rfl 69 (.tmp 2) (.tmp 43) rfl rfl rfl (Whole.under HE.out.2.2.1 hb9) Try.sizeMsg HZS.out.1 HZS.out.1 HZS.out.2 ?_))
            have f1 : Whole (w9.setRow N Z) N 69 Z := (Whole.under HE.out.2.2.1 hb9).row Z
            refine bodyPost_ret (v := .tuple #[.agg Z, .int .i64 2]) ?_ rfl ?_
            · exact ret_struct2 (p := 2) (s := 3) rfl rfl f1 Try.underlying69 rfl Try.sizeMsg HZS.out.1
            · exact ⟨Z, 2, rfl, .inr ⟨HNO.out, rfl, HZ.out.symm⟩, by rw [HN.out]; exact below_row (HE.out.2.2.2.1.trans (hb9.mono (by omega))) (Nat.le_refl _) _⟩
          | true =>
            have HVL := Lib.hid (HE.out.2.2.2.2.2.1.1 rfl)
            go_wp2_with (first
              | (go_at_call 39; (with_reducible refine HLF.out.mono ?_); rintro e w' ⟨rfl, rfl⟩)
              | (refine wpList_load_allG (by rfl) 69 (.tmp 5) rfl HE.out.2.1 rfl Try.sizeMsg HE.out.2.2.2.2.1.1 Try.underlying69 rfl ?_)
              | (go_at_call 41; (with_reducible refine HVA.out.mono ?_); rintro e w9 ⟨rfl, hb9⟩)
              | (refine wpList_load_all rfl 69 (.tmp 5) rfl (Whole.under HE.out.2.1 hb9) rfl Try.sizeMsg HE.out.2.2.2.2.1.1 Try.underlying69 rfl ?_)
              | (refine wpList_store_whole rfl 69 (.tmp 2) (.tmp 44) rfl rfl rfl (Whole.under HE.out.2.2.1 hb9) Try.sizeMsg HE.out.2.2.2.2.1.1 HZS.out.1 HE.out.2.2.2.2.1.2 ?_))
            have f1 : Whole (w9.setRow N M) N 69 M := (Whole.under HE.out.2.2.1 hb9).row M
            refine bodyPost_ret (v := .tuple #[.agg M, .int .i64 0]) ?_ rfl ?_
            · exact ret_struct2 (p := 2) (s := 3) rfl rfl f1 Try.underlying69 rfl Try.sizeMsg HE.out.2.2.2.2.1.1
            · refine ⟨M, 0, rfl, .inl ⟨m, Av, cv, ps, ⟨HVL.out, HE.out.2.2.2.2.2.2.2.1, HE.out.2.2.2.2.2.2.2.2⟩, rfl, ?_⟩, by rw [HN.out]; exact below_row (HE.out.2.2.2.1.trans (hb9.mono (by omega))) (Nat.le_refl _) _⟩
              have hres9 := Whole.under HE.out.2.2.1 hb9
              have hrow := (HRO.out.1.under hb9).keep (w' := w9.setRow N M) fun g cs hw => hw.farRow (fun e => hw.ne hres9 (by decide) e) M
              have hels := (HRO.out.2.1.on (Kept8.under hb9)).on (Kept8.row hres9 (by decide) M)
              have hs9 := hb9.size
              have hsz : (w9.setRow N M).heap.size = w9.heap.size := by simp [World.setRow]
              have hats := hrow.ats hels.els (by rw [hsz]; omega)
              have hmm := HRO.out.2.2.1
              subst hmm
              have hL := HRO.out.2.2.2.2.1
              have hkL : k = L.length := hL.symm
              rw [hkL] at hrow
              have hNn : w.heap.size ≤ n5 + 1 := by rw [HN.out]; omega
              refine ⟨?_, hrow.low hNn, hels.low hNn⟩
              rw [← hkL] at hrow
              refine ⟨?_, HRO.out.2.2.2.2.2.1, by show L.length ≤ cv; rw [hL]; exact HRO.out.2.2.2.2.2.2.1, HRO.out.2.2.2.2.2.2.2.1, HRO.out.2.2.2.2.2.2.2.2, hats⟩
              rw [← HRO.out.2.2.2.1]
              show mv _ _ _ (.slice Av k cv) = mv _ _ _ (.slice Av L.length cv)
              rw [hL]
        · have hpos : (0 : Int) < (lr : Int) := by omega
          have hne : rest ≠ [] := fun e => hz0 (by rw [← hlr, e]; rfl)
          have HNE := Lib.hid hne
          have HMS := Lib.hid hmsr
          have HRA : Hid (∀ W, RdV W rb vr rest false → Calls Try.prog 40 #[.pointer (some ⟨rb, 0, none⟩)] W fun e w' => ∃ v1, e = .returned (.tuple #[.agg #[.int .u16 (rT rest : Nat), v1], .bool (rOk rest)]) ∧ Own8 w' W.heap.size v1 (rV rest) ∧ After w' rb rest ∧ Only (fun k => k = rb) W w') := Lib.hid fun W h => readAttr_any rb vr rest W h hsf.rest
          have HI := Lib.hid hi12
          have hp7 := hps.under ((Below.refl _ wr).alloc (Nat.le_refl _) (.cells #[.int .u16 0, .slice none 0 0] 92))
          have hg7 := Whole.new wr 92 #[.int .u16 0, .slice none 0 0]
          have hv7 := hvr.under ((Below.refl _ wr).alloc (Nat.le_refl _) (.cells #[.int .u16 0, .slice none 0 0] 92))
          have s7 := hps.size
          have hrow : ∀ j, (Value.slice Av k cv).ownBlock = some j → j < wr.heap.size := fun j hj => (hps.row.lt hj).2
          have H7 := Lib.hid (And.intro hp7 (And.intro hg7 hv7))
          clear hvr hps hsf hlr hk hpl hmsr hne hi12 hp7 hg7 hv7
          go_upto_region 7 with (go_at_call 39; (with_reducible refine HLF.out.mono ?_); rintro e w' ⟨rfl, rfl⟩)
          generalize wr.alloc (.cells #[.int .u16 0, .slice none 0 0] 92) = W7 at *
          generalize wr.heap.size = g7 at *
          have HROW := Lib.hid hrow
          clear hrow
          have h7l := H7.out.2.1.lt
          go_upto_region 8 with (first
            | (go_at_call 40; (with_reducible refine (HRA.out _ H7.out.2.2).mono ?_); rintro e w8 ⟨v8, rfl, hv8, haf, ho8⟩; obtain ⟨A8, c8, rfl, -⟩ := hv8.form)
            | (refine wpList_store_whole rfl 92 (.tmp 7) (.tmp 28) rfl rfl rfl (Whole.only H7.out.2.1 ho8 (by have := H7.out.1.o2; omega)) Try.sizeAttr rfl rfl (attr_one _ _ _ _) ?_))
          obtain ⟨v2, r, q, hr8, hir, hafter⟩ := haf
          have hg8 : Whole w8 g7 92 #[.int .u16 0, .slice none 0 0] := H7.out.2.1.only ho8 (by have := H7.out.1.o2; omega)
          have hp9 := (H7.out.1.read ho8 ⟨v2, hr8⟩).far hg8 (by omega) HROW.out #[.int .u16 (rT rest : Nat), .slice A8 (rV rest).length c8]
          have hg9 := hg8.row #[.int .u16 (rT rest : Nat), .slice A8 (rV rest).length c8]
          have hv9 : Own8 (w8.setRow g7 #[.int .u16 (rT rest : Nat), .slice A8 (rV rest).length c8]) (n5 + 1) (.slice A8 (rV rest).length c8) (rV rest) := (hv8.low (by have := H7.out.1.size; omega)).keep8 (Kept8.row hg8 (by decide) _)
          obtain ⟨T, hT⟩ : ∃ x : Int, ((rT rest : Nat) : Int) = x := ⟨_, rfl⟩
          obtain ⟨l8, hl8⟩ : ∃ x, (rV rest).length = x := ⟨_, rfl⟩
          rw [hT, hl8] at hp9 hg9 hv9 ⊢
          generalize w8.setRow g7 #[.int .u16 T, .slice A8 l8 c8] = W9 at *
          have c14 : W9.cell? ⟨n5, 14, none⟩ = some (.slice Av k cv) := by rw [hp9.box.cell]; exact mv_14 _ _ _ _ HI.out
          have c0 : W9.cell? ⟨g7, 0, none⟩ = some (.int .u16 T) := hg9.cell 0
          have c1 : W9.cell? ⟨g7, 1, none⟩ = some (.slice A8 l8 c8) := hg9.cell 1
          have hpA := hp9.under ((Below.refl _ W9).alloc (Nat.le_refl _) (.cells #[.int .u16 T, .slice A8 l8 c8] 92))
          have hvA := hv9.alloc (.cells #[.int .u16 T, .slice A8 l8 c8] 92)
          have hgA := Whole.new W9 92 #[.int .u16 T, .slice A8 l8 c8]
          have HA := Lib.hid (And.intro hpA (And.intro hvA (And.intro hgA (And.intro hir (And.intro hafter (And.intro hT hl8))))))
          clear hr8 hir hafter hg8 hp9 hg9 hv9 hpA hvA hgA hv8 ho8 hl8 hT h7l H7
          go_wp2_with (at_builtin; go_must (refine wpList_append2 (e := 92) rfl (.tmp 31) (.tmp 33) rfl Try.underlying67 Try.infoAttr rfl rfl HA.out.1.row rfl HA.out.2.2.1 rfl (by have := HP.out.2.2.2.1; have := HP.out.2.2.2.2; omega) HA.out.1.size ?_); intro v11 w11 h11 hg11 hh11; have hbox11 := HA.out.1.box.grown hg11 (fun e => HA.out.1.row.far HA.out.1.box (by decide) e.symm); have e14 : w11.cell? ⟨n5, 14, none⟩ = some (.slice Av k cv) := (by rw [hbox11.cell]; exact mv_14 _ _ _ _ HI.out); have f14 := hbox11.frz 14; obtain ⟨A11, c11, rfl, -⟩ := h11.form; rw [List.length_append, HP.out.2.2.2.1])
          have hkl : (ps ++ [(T, Value.slice A8 l8 c8)]).length = k + 1 := by rw [List.length_append, HP.out.2.2.2.1]; rfl
          rw [hkl] at h11
          have hfin := HA.out.1.grow (a := ⟨T, rV rest⟩) HI.out h11 hg11 HA.out.2.1
          have hT := HA.out.2.2.2.2.2.1
          have HF := Lib.hid hfin
          clear hfin h11 hg11 hh11 hbox11 e14 f14 c14 c0 c1 hkl
          have hsf := HP.out.2.1
          cases hro : rOk rest with
          | false =>
            refine ⟨⟨false, rfl, .inl ⟨rfl, hsf.none HX.out HNE.out hro, by rw [← HZ.out]; exact HF.out.res, HF.out.below⟩⟩, ?_⟩
            rw [HMS.out]
            show 0 < 1 + lr
            omega
          | true =>
            obtain ⟨e1, e2⟩ := HA.out.2.2.2.2.1 hro
            have hf2 := HF.out
            rw [e1, e2] at hf2
            have hsn := hsf.next hro
            rw [hT] at hsn
            refine ⟨⟨true, rfl, .inr ⟨rfl, _, _, _, _, hf2, hsn⟩⟩, ?_⟩
            rw [HMS.out]
            obtain ⟨vv, hvv⟩ := hf2.rd
            unfold msr
            rw [leftOf_rd hvv]
            have := hsf.less hro
            have := HP.out.2.2.1
            show 1 + (x4 rest).length < 1 + lr
            omega
theorem parse_any (v : Value) (xs : List Int) (w : World) (h : V8 w w.heap.size v xs) (hx : In256 xs) (hl : xs.length ≤ 140737488355328) :
    Calls Try.prog 22 #[v] w fun e w' => ∃ M x, e = .returned (.tuple #[.agg M, .int .i64 x]) ∧ ParsedV w' xs M x ∧ Below w.heap.size w w' :=
  (parse_firm v xs w h hx hl).mono fun e w' ⟨M, x, he, hp, hb⟩ => ⟨M, x, he, hp.v, hb⟩
end Go.Proofs.Yteloaidnfcmadaa
