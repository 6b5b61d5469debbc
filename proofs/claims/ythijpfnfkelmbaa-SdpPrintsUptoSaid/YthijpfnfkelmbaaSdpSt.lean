/- A description that is being read, in memory: what the two parsers hold. -/
import Derived.Test.YthijpfnfkelmbaaSdpHead
namespace Go.Proofs.Ythijpfnfkelmbaa
open Go.RowKit
set_option linter.unusedVariables false
set_option linter.unusedSimpArgs false

def acell (a : AttrS) : List Value := [.string a.name, .string a.value]
def pcell (p : PartS) (v : Value) : List Value := [.string p.line, .string p.conn, v]
def rowsP (st : PSt) (cur : Value) (us : List Value) : List (List Value) := match st.cur with
  | none => []
  | some p => List.zipWith pcell st.done us ++ [pcell p cur]
def others (st : PSt) (vA : Value) (us : List Value) : List (Value × List AttrS) := match st.cur with
  | none => []
  | some _ => (vA, st.attrs) :: us.zip (st.done.map (·.attrs))

/-- The types' numbers: a description, a part, an attribute. -/
structure Ty3 where
  s : TypeId
  p : TypeId
  a : TypeId
def Ty3.Ok (T : Ty3) : Prop := T.s ≠ T.p ∧ T.s ≠ T.a ∧ T.p ≠ T.a

structure PV (T : Ty3) (base g : Nat) (st : PSt) (q : Addr) (pp cur vA vP : Value) (us : List Value) (w : World) : Prop where
  own : base ≤ g
  box : Whole w g T.s #[.string st.o, .string st.n, .string st.t, vA, vP]
  par : Own w base T.p 3 vP (rowsP st cur us)
  hus : us.length = st.done.length
  now : Own w base T.a 2 cur (st.here.map acell)
  oth : ∀ x ∈ others st vA us, Own w base T.a 2 x.1 (x.2.map acell) ∧ (x.1.ownBlock = none ∨ x.1.ownBlock ≠ cur.ownBlock)
  first : st.cur = none → st.done = [] ∧ vA = cur ∧ q = ⟨g, 3, none⟩ ∧ pp = .pointer none
  last : ∀ p, st.cur = some p → ∃ gp, vP.ownBlock = some gp ∧ q = ⟨gp, st.done.length * 3 + 2, none⟩ ∧ pp = .pointer (some ⟨gp, st.done.length * 3, none⟩)

section
variable {T : Ty3} {base g : Nat} {st : PSt} {q : Addr} {pp cur vA vP : Value} {us : List Value} {w w' : World}
theorem PV.under (h : PV T base g st q pp cur vA vP us w) (hb : Below w.heap.size w w') : PV T base g st q pp cur vA vP us w' :=
  ⟨h.own, h.box.under hb, h.par.under hb, h.hus, h.now.under hb, fun x hx => ⟨(h.oth x hx).1.under hb, (h.oth x hx).2⟩, h.first, h.last⟩
theorem PV.alloc (h : PV T base g st q pp cur vA vP us w) (o : Obj) : PV T base g st q pp cur vA vP us (w.alloc o) := h.under ((Below.refl _ w).alloc (Nat.le_refl _) o)
theorem PV.drew (h : PV T base g st q pp cur vA vP us w) : PV T base g st q pp cur vA vP us w.drew := h.under (below_drewN' (Below.refl _ w) 1)
theorem PV.lt (h : PV T base g st q pp cur vA vP us w) : g < w.heap.size := h.box.lt
theorem rowsP_len (hu : us.length = st.done.length) : (rowsP st cur us).length = (match st.cur with | none => 0 | some _ => st.done.length + 1) := by
  unfold rowsP
  cases st.cur with
  | none => rfl
  | some p => simp [hu]
theorem PV.len (h : PV T base g st q pp cur vA vP us w) : (rowsP st cur us).length = st.parts.length := by
  rw [rowsP_len h.hus]
  unfold PSt.parts
  cases hc : st.cur with
  | none => simp [(h.first hc).1]
  | some p => simp
theorem PV.vP_form (h : PV T base g st q pp cur vA vP us w) : ∃ A c, vP = .slice A st.parts.length c ∧ st.parts.length ≤ c ∧ c ≤ maxLen := by
  obtain ⟨A, c, h1, h2, h3, _⟩ := h.par.form
  rw [h.len] at h1 h2
  exact ⟨A, c, h1, h2, h3⟩
theorem PV.cur_form (h : PV T base g st q pp cur vA vP us w) : ∃ A c, cur = .slice A st.here.length c ∧ st.here.length ≤ c ∧ c ≤ maxLen := by
  obtain ⟨A, c, h1, h2, h3, _⟩ := h.now.form
  rw [List.length_map] at h1 h2
  exact ⟨A, c, h1, h2, h3⟩
theorem PV.last_row (h : PV T base g st q pp cur vA vP us w) {p : PartS} (hc : st.cur = some p) : (rowsP st cur us)[st.done.length]? = some (pcell p cur) := by
  unfold rowsP
  rw [hc]
  simp only
  rw [List.getElem?_append_right (by simp [h.hus])]
  simp [h.hus]
/-- The place of the list to which attributes go. -/
theorem PV.cell_q (h : PV T base g st q pp cur vA vP us w) : w.cell? q = some cur ∧ w.frozen? q = false ∧ base ≤ q.block ∧ q.block < w.heap.size := by
  cases hc : st.cur with
  | none =>
    obtain ⟨_, rfl, rfl, _⟩ := h.first hc
    exact ⟨h.box.cell 3, h.box.frz 3, h.own, h.box.lt⟩
  | some p =>
    obtain ⟨gp, e1, rfl, _⟩ := h.last p hc
    obtain ⟨g', c, _, e2, e3, e4, _, _, e5, e6⟩ := h.par.at_ (h.last_row hc)
    rw [e1] at e2
    cases e2
    exact ⟨e5 2 (by omega), e6 _, e3, e4⟩
/-- The last part's cells. -/
theorem PV.partP (h : PV T base g st q pp cur vA vP us w) : PartP w pp st.cur := by
  cases hc : st.cur with
  | none => exact .inl ⟨(h.first hc).2.2.2, rfl⟩
  | some p =>
    obtain ⟨gp, e1, _, e0⟩ := h.last p hc
    obtain ⟨g', c, _, e2, e3, e4, _, _, e5, e6⟩ := h.par.at_ (h.last_row hc)
    rw [e1] at e2
    cases e2
    obtain ⟨A, c', h1, _, _⟩ := h.cur_form
    refine .inr ⟨_, cur, p, e0, rfl, e5 1 (by omega), e5 2 (by omega), A, c', ?_⟩
    rw [h1]
    unfold PSt.here
    rw [hc]
theorem bare_eq (st : PSt) : bareP st.cur = st.bare := by
  unfold bareP PSt.bare
  cases st.cur <;> rfl

/-- What the first lines say is laid in. -/
theorem PV.head (h : PV T base g st q pp cur vA vP us w) (hT : T.Ok) {o n t : ByteArray} (hw : Whole w' g T.s #[.string o, .string n, .string t, vA, vP]) (ho : Only (· = g) w w') : PV T base g { st with o := o, n := n, t := t } q pp cur vA vP us w' := by
  have hk : ∀ {e : TypeId} {sz : Nat} {v : Value} {rs : List (List Value)}, T.s ≠ e → Own w base e sz v rs → Own w' base e sz v rs := fun he hv => hv.keep fun g' cs hg' hw' => hw'.only ho fun e => by
    subst e
    exact (h.box.ne hw' he) rfl
  exact ⟨h.own, hw, hk hT.1 h.par, h.hus, hk hT.2.1 h.now, fun x hx => ⟨hk hT.2.1 (h.oth x hx).1, (h.oth x hx).2⟩, h.first, h.last⟩

theorem here_map (st : PSt) (a : AttrS) : (st.push a).here.map acell = st.here.map acell ++ [acell a] := by rw [here_push]; simp
/-- An attribute is laid behind the others. -/
theorem PV.push (h : PV T base g st q pp cur vA vP us w) (hT : T.Ok) {cur' : Value} {a : AttrS} {w1 : World} (h1 : Own w1 base T.a 2 cur' (st.here.map acell ++ [acell a])) (hg : w.grownBy w1 cur.ownBlock) (hn : cur'.ownBlock = cur.ownBlock ∨ cur'.ownBlock = some w.heap.size) :
    ∃ vA', PV T base g (st.push a) q pp cur' vA' vP us (w1.setCell q cur') := by
  have hbox1 : Whole w1 g T.s #[.string st.o, .string st.n, .string st.t, vA, vP] := h.box.grown hg (fun e => (h.now.apart h.box hT.2.1.symm) e.symm)
  have hpar1 : Own w1 base T.p 3 vP (rowsP st cur us) := h.par.grown hg (h.par.apart2 h.now hT.2.2)
  cases hc : st.cur with
  | none =>
    obtain ⟨hd, rfl, rfl, rfl⟩ := h.first hc
    have hp : st.push a = { st with attrs := st.attrs ++ [a] } := by simp [PSt.push, hc]
    have hq : cur'.ownBlock ≠ some g := h1.apart hbox1 hT.2.1.symm
    refine ⟨cur', ?_⟩
    rw [hp]
    refine ⟨h.own, ?_, ?_, h.hus, ?_, ?_, fun _ => ⟨hd, rfl, rfl, rfl⟩, fun p e => by rw [hc] at e; cases e⟩
    · have := hbox1.set 3 cur'
      simpa using this
    · have e : rowsP { st with attrs := st.attrs ++ [a] } cur' us = rowsP st vA us := by unfold rowsP; simp [hc]
      rw [e]
      exact hpar1.far (p := ⟨g, 3, none⟩) (hpar1.apart hbox1 hT.1.symm) _
    · have := here_map st a
      rw [hp] at this
      rw [this]
      exact h1.far (p := ⟨g, 3, none⟩) hq _
    · intro x hx
      unfold others at hx
      simp [hc] at hx
  | some p =>
    obtain ⟨gp, e1, rfl, e0⟩ := h.last p hc
    have hp : st.push a = { st with cur := some { p with attrs := p.attrs ++ [a] } } := by simp [PSt.push, hc]
    have hrow := h.last_row hc
    obtain ⟨csP, hwP⟩ := hpar1.whole e1
    have hgp : gp ≠ g := fun e => by subst e; exact (hwP.ne hbox1 hT.1.symm) rfl
    have hq : cur'.ownBlock ≠ some gp := h1.apart hwP hT.2.2.symm
    refine ⟨vA, ?_⟩
    rw [hp]
    have hput := hpar1.put e1 hrow (j := 2) (by omega) cur'
    refine ⟨h.own, ?_, ?_, h.hus, ?_, ?_, fun e => by simp at e, fun p' _ => ⟨gp, e1, rfl, e0⟩⟩
    · exact hbox1.far (p := ⟨gp, _, none⟩) (Ne.symm hgp) _
    · have e : rowsP { st with cur := some { p with attrs := p.attrs ++ [a] } } cur' us = (rowsP st cur us).set st.done.length ((pcell p cur).set 2 cur') := by
        unfold rowsP
        simp only [hc]
        rw [List.set_append_right _ _ (by simp [h.hus])]
        simp [h.hus, pcell]
      rw [e]
      exact hput
    · have := here_map st a
      rw [hp] at this
      rw [this]
      exact h1.far (p := ⟨gp, _, none⟩) hq _
    · intro x hx
      have hx' : x ∈ others st vA us := by
        unfold others at hx ⊢
        rw [hc]
        simpa using hx
      obtain ⟨o1, o2⟩ := h.oth x hx'
      have o3 : Own w1 base T.a 2 x.1 (x.2.map acell) := o1.grown hg o2
      refine ⟨o3.far (p := ⟨gp, _, none⟩) (o3.apart hwP hT.2.2.symm) _, ?_⟩
      cases hv : x.1.ownBlock with
      | none => exact .inl rfl
      | some k =>
        have hk := (o1.lt hv).2
        refine .inr ?_
        rw [hv] at o2
        rcases hn with hn | hn
        · rw [hn]
          rcases o2 with o2 | o2
          · cases o2
          · exact o2
        · rw [hn]
          intro e
          have := Option.some.inj e
          omega
/-- A part begins. -/
theorem PV.part (h : PV T base g st q pp cur vA vP us w) (hT : T.Ok) {vP' : Value} {v : ByteArray} {w1 : World} (h1 : Own w1 base T.p 3 vP' (rowsP st cur us ++ [[Value.string v, .string ⟨#[]⟩, .slice none 0 0]])) (hg : w.grownBy w1 vP.ownBlock) :
    ∃ gp c q' us', vP' = .slice (some ⟨gp, 0, none⟩) (st.parts.length + 1) c ∧ st.parts.length + 1 ≤ c ∧ c ≤ maxLen ∧ q' = ⟨gp, st.parts.length * 3 + 2, none⟩ ∧ PV T base g (st.part (tx v)) q' (.pointer (some ⟨gp, st.parts.length * 3, none⟩)) (.slice none 0 0) vA vP' us' (w1.setCell ⟨g, 4, none⟩ vP') := by
  have hbox1 : Whole w1 g T.s #[.string st.o, .string st.n, .string st.t, vA, vP] := h.box.grown hg (fun e => (h.par.apart h.box hT.1.symm) e.symm)
  have hnow1 : Own w1 base T.a 2 cur (st.here.map acell) := h.now.grown hg (h.now.apart2 h.par hT.2.2.symm)
  have hlen : (rowsP st cur us ++ [[Value.string v, .string ⟨#[]⟩, .slice none 0 0]]).length = st.parts.length + 1 := by rw [List.length_append, h.len]; rfl
  have hrow : (rowsP st cur us ++ [[Value.string v, .string ⟨#[]⟩, .slice none 0 0]])[st.parts.length]? = some [Value.string v, .string ⟨#[]⟩, .slice none 0 0] := by
    rw [List.getElem?_append_right (by rw [h.len]; omega), h.len]
    simp
  obtain ⟨gp, c, e1, e2, _, _, e3, e4, _, _⟩ := h1.at_ hrow
  rw [hlen] at e1 e3
  have hdl : (st.part (tx v)).done.length = st.parts.length := rfl
  have hbox2 : Whole (w1.setCell ⟨g, 4, none⟩ vP') g T.s #[.string st.o, .string st.n, .string st.t, vA, vP'] := by
    have := hbox1.set 4 vP'
    simpa using this
  have hcur : (st.part (tx v)).cur = some ⟨v, bs [], []⟩ := by simp [PSt.part]
  refine ⟨gp, c, _, (match st.cur with | none => [] | some _ => us ++ [cur]), e1, e3, e4, rfl, h.own, hbox2, ?_, ?_, ?_, ?_, (fun e => by rw [hcur] at e; cases e), fun p e => ⟨gp, e2, by rw [hdl], by rw [hdl]⟩⟩
  · have e : rowsP (st.part (tx v)) (.slice none 0 0) (match st.cur with | none => [] | some _ => us ++ [cur]) = rowsP st cur us ++ [[Value.string v, .string ⟨#[]⟩, .slice none 0 0]] := by
      unfold rowsP
      rw [hcur]
      cases hc : st.cur with
      | none => simp [PSt.part, hc, (h.first hc).1, pcell, bs]
      | some p =>
        have : List.zipWith pcell (st.done ++ [p]) (us ++ [cur]) = List.zipWith pcell st.done us ++ [pcell p cur] := by
          rw [List.zipWith_append h.hus.symm]
          rfl
        simp [PSt.part, hc, this, pcell, bs]
    rw [e]
    exact h1.far (p := ⟨g, 4, none⟩) (h1.apart hbox1 hT.1.symm) _
  · rw [hdl]
    unfold PSt.parts
    cases hc : st.cur with
    | none => simp [(h.first hc).1]
    | some p => simp [h.hus]
  · have : (st.part (tx v)).here = [] := by unfold PSt.here; rw [hcur]
    rw [this]
    exact Own.nil _ _ _ _
  · intro x hx
    refine ⟨?_, ?_⟩
    · have hfar : ∀ {v : Value} {L : List AttrS}, Own w1 base T.a 2 v (L.map acell) → Own (w1.setCell ⟨g, 4, none⟩ vP') base T.a 2 v (L.map acell) := fun ho => ho.far (p := ⟨g, 4, none⟩) (ho.apart hbox1 hT.2.1.symm) _
      unfold others at hx
      rw [hcur] at hx
      simp only [List.mem_cons] at hx
      cases hc : st.cur with
      | none =>
        obtain ⟨hd, hva, _⟩ := h.first hc
        have hh : st.here = st.attrs := by unfold PSt.here; rw [hc]
        rw [hh] at hnow1
        rcases hx with rfl | hx
        · show Own _ base T.a 2 vA (st.attrs.map acell)
          rw [hva]
          exact hfar hnow1
        · simp [hc] at hx
      | some p =>
        have hoth : ∀ y ∈ others st vA us, Own w1 base T.a 2 y.1 (y.2.map acell) := fun y hy => (h.oth y hy).1.grown hg ((h.oth y hy).1.apart2 h.par hT.2.2.symm)
        have hh : st.here = p.attrs := by unfold PSt.here; rw [hc]
        rw [hh] at hnow1
        rcases hx with rfl | hx
        · exact hfar (hoth (vA, st.attrs) (by unfold others; rw [hc]; simp))
        · simp only [hc] at hx
          have : (us ++ [cur]).zip ((st.part (tx v)).done.map (·.attrs)) = us.zip (st.done.map (·.attrs)) ++ [(cur, p.attrs)] := by
            simp only [PSt.part, hc]
            simp only [Option.toList, List.map_append, List.map_cons, List.map_nil]
            rw [List.zip_append (by simp [h.hus])]
            rfl
          rw [this, List.mem_append] at hx
          rcases hx with hx | hx
          · exact hfar (hoth x (by unfold others; rw [hc]; simp [hx]))
          · simp at hx
            subst hx
            exact hfar hnow1
    · cases hv : x.1.ownBlock with
      | none => exact .inl rfl
      | some k => exact .inr (by simp [Value.ownBlock])
/-- The last part's connection. -/
theorem PV.conn (h : PV T base g st q pp cur vA vP us w) (hT : T.Ok) {p : PartS} (hc : st.cur = some p) {gp : Nat} (hp : pp = .pointer (some ⟨gp, st.done.length * 3, none⟩)) (v : ByteArray) : PV T base g (st.conn (tx v)) q pp cur vA vP us (w.setCell ⟨gp, st.done.length * 3 + 1, none⟩ (.string v)) := by
  obtain ⟨gp', e1, rfl, e0⟩ := h.last p hc
  rw [e0] at hp
  cases hp
  have hq : st.conn (tx v) = { st with cur := some { p with conn := v } } := by simp [PSt.conn, hc]
  have hrow := h.last_row hc
  obtain ⟨csP, hwP⟩ := h.par.whole e1
  have hgp : gp ≠ g := fun e => by subst e; exact (hwP.ne h.box hT.1.symm) rfl
  have hput := h.par.put e1 hrow (j := 1) (by omega) (.string v)
  rw [hq]
  have hfar : ∀ {v' : Value} {L : List (List Value)}, Own w base T.a 2 v' L → Own (w.setCell ⟨gp, st.done.length * 3 + 1, none⟩ (.string v)) base T.a 2 v' L := fun ho => ho.far (p := ⟨gp, _, none⟩) (ho.apart hwP hT.2.2.symm) _
  refine ⟨h.own, h.box.far (p := ⟨gp, _, none⟩) (Ne.symm hgp) _, ?_, h.hus, ?_, ?_, fun e => by simp at e, fun p' _ => ⟨gp, e1, rfl, e0⟩⟩
  · have e : rowsP { st with cur := some { p with conn := v } } cur us = (rowsP st cur us).set st.done.length ((pcell p cur).set 1 (.string v)) := by
      unfold rowsP
      simp only [hc]
      rw [List.set_append_right _ _ (by simp [h.hus])]
      simp [h.hus, pcell]
    rw [e]
    exact hput
  · have : ({ st with cur := some { p with conn := v } } : PSt).here = st.here := by unfold PSt.here; rw [hc]
    rw [this]
    exact hfar h.now
  · intro x hx
    have hx' : x ∈ others st vA us := by
      unfold others at hx ⊢
      rw [hc]
      simpa using hx
    exact ⟨hfar (h.oth x hx').1, (h.oth x hx').2⟩
theorem rat_of {L : List AttrS} {e : TypeId} {v : Value} (h : Own w base e 2 v (L.map acell)) {B : Nat} (hB : w.heap.size ≤ B) : AttrsV w B v L :=
  h.rows hB (by simp) fun i r x f hr hx hf => by
    rw [List.getElem?_map, hx] at hr
    simp at hr
    subst hr
    exact ⟨hf 0 (by omega), hf 1 (by omega)⟩
/-- It reads as what was read. -/
theorem PV.sesV (h : PV T base g st q pp cur vA vP us w) {B : Nat} (hB : w.heap.size ≤ B) : SesV w B #[.string st.o, .string st.n, .string st.t, vA, vP] st.ses vA vP := by
  refine ⟨rfl, ?_, ?_⟩
  · cases hc : st.cur with
    | none =>
      have hh : st.here = st.attrs := by unfold PSt.here; rw [hc]
      have := h.now
      rw [hh, ← (h.first hc).2.1] at this
      exact rat_of this hB
    | some p => exact rat_of (h.oth (vA, st.attrs) (by unfold others; rw [hc]; simp)).1 hB
  · refine h.par.rows hB (by rw [h.len]; rfl) fun i r x f hr hx hf => ?_
    cases hc : st.cur with
    | none => unfold rowsP at hr; rw [hc] at hr; simp at hr
    | some p =>
      have hparts : st.parts = st.done ++ [p] := by unfold PSt.parts; rw [hc]; rfl
      have hx : st.parts[i]? = some x := hx
      rw [hparts] at hx
      unfold rowsP at hr
      rw [hc] at hr
      simp only at hr
      by_cases hi : i < st.done.length
      · rw [List.getElem?_append_left hi] at hx
        rw [List.getElem?_append_left (by simp [h.hus]; exact hi)] at hr
        have hiu : i < us.length := by rw [h.hus]; exact hi
        have e : (List.zipWith pcell st.done us)[i]? = some (pcell x us[i]) := by
          rw [List.getElem?_zipWith, hx, List.getElem?_eq_getElem hiu]
        rw [e] at hr
        have hr := (Option.some.inj hr).symm
        subst hr
        refine ⟨hf 0 (by omega), hf 1 (by omega), us[i], hf 2 (by omega), rat_of (h.oth (us[i], x.attrs) ?_).1 hB⟩
        unfold others
        rw [hc]
        refine List.mem_cons_of_mem _ ?_
        refine List.mem_of_getElem? (i := i) ?_
        rw [List.getElem?_zip_eq_some]
        exact ⟨List.getElem?_eq_getElem hiu, by rw [List.getElem?_map, hx]; rfl⟩
      · have hil : i < (st.done ++ [p]).length := (List.getElem?_eq_some_iff.1 hx).1
        have : i = st.done.length := by simp at hil; omega
        subst this
        rw [List.getElem?_append_right (by omega)] at hx
        rw [List.getElem?_append_right (by simp [h.hus])] at hr
        simp [h.hus] at hr hx
        subst hr hx
        refine ⟨hf 0 (by omega), hf 1 (by omega), cur, hf 2 (by omega), rat_of (e := T.a) (base := base) (L := p.attrs) ?_ hB⟩
        have := h.now
        have hh : st.here = p.attrs := by unfold PSt.here; rw [hc]
        rwa [hh] at this
/-- The result's variable is written. -/
theorem PV.res (h : PV T base g st q pp cur vA vP us w) (hT : T.Ok) {n : Nat} {zs : Array Value} (hn : Whole w n T.s zs) (hne : g ≠ n) (cs : Array Value) : PV T base g st q pp cur vA vP us (w.setRow n cs) :=
  ⟨h.own, h.box.farRow hne _, h.par.farRow (h.par.apart hn hT.1.symm) _, h.hus, h.now.farRow (h.now.apart hn hT.2.1.symm) _, fun x hx => ⟨(h.oth x hx).1.farRow ((h.oth x hx).1.apart hn hT.2.1.symm) _, (h.oth x hx).2⟩, h.first, h.last⟩
/-- At the beginning. -/
theorem PV.start (hb : base ≤ g) (hw : Whole w g T.s #[.string ⟨#[]⟩, .string ⟨#[]⟩, .string ⟨#[]⟩, .slice none 0 0, .slice none 0 0]) : PV T base g PSt.init ⟨g, 3, none⟩ (.pointer none) (.slice none 0 0) (.slice none 0 0) (.slice none 0 0) [] w :=
  ⟨hb, hw, Own.nil _ _ _ _, rfl, Own.nil _ _ _ _, fun x hx => by simp [others, PSt.init] at hx, fun _ => ⟨rfl, rfl, rfl, rfl⟩, fun p e => by simp [PSt.init] at e⟩
end
end Go.Proofs.Ythijpfnfkelmbaa
