/- Descriptions as lines: what a text is, and what a description's text is. Nothing of the program. -/
import Derived.Test.YtmlapbadgjhhdaaGreatDoorSdpTx
namespace Go.Proofs.YtmlapbadgjhhdaaGreatDoor
set_option linter.unusedVariables false
set_option linter.unusedSimpArgs false

structure AttrS where
  name : ByteArray
  value : ByteArray
structure PartS where
  line : ByteArray
  conn : ByteArray
  attrs : List AttrS
structure SesS where
  origin : ByteArray
  name : ByteArray
  time : ByteArray
  attrs : List AttrS
  parts : List PartS
instance : Inhabited ByteArray := ⟨ByteArray.empty⟩
instance : Inhabited AttrS := ⟨⟨bs [], bs []⟩⟩
instance : Inhabited PartS := ⟨⟨bs [], bs [], []⟩⟩

def inVal (c : UInt8) : Bool := decide (32 ≤ c.toNat) && decide (c.toNat ≤ 126)
def inWd (c : UInt8) : Bool := (decide (97 ≤ c.toNat) && decide (c.toNat ≤ 122)) || (decide (65 ≤ c.toNat) && decide (c.toNat ≤ 90)) || (decide (48 ≤ c.toNat) && decide (c.toNat ≤ 57)) || c == 45 || c == 95
/-- A value. -/
def valP (l : Tx) : Bool := l.all inVal && (decide (1 ≤ l.length) && decide (l.length ≤ 200))
/-- A word of lo to hi bytes. -/
def wordP (lo hi : Nat) (l : Tx) : Bool := l.all inWd && (decide (lo ≤ l.length) && decide (l.length ≤ hi))
def maybeP (l : Tx) : Bool := l.isEmpty || valP l

theorem valP_in {l : Tx} (h : valP l = true) : ∀ c ∈ l, inVal c = true := by
  unfold valP at h
  rw [Bool.and_eq_true, List.all_eq_true] at h
  exact h.1
theorem valP_len {l : Tx} (h : valP l = true) : 1 ≤ l.length ∧ l.length ≤ 200 := by
  unfold valP at h
  simp only [Bool.and_eq_true, decide_eq_true_eq] at h
  exact h.2
theorem valP_ne {l : Tx} (h : valP l = true) : l ≠ [] := by
  have := (valP_len h).1
  intro e
  rw [e] at this
  simp at this
theorem wordP_in {lo hi : Nat} {l : Tx} (h : wordP lo hi l = true) : ∀ c ∈ l, inWd c = true := by
  unfold wordP at h
  rw [Bool.and_eq_true, List.all_eq_true] at h
  exact h.1
theorem wordP_len {lo hi : Nat} {l : Tx} (h : wordP lo hi l = true) : lo ≤ l.length ∧ l.length ≤ hi := by
  unfold wordP at h
  simp only [Bool.and_eq_true, decide_eq_true_eq] at h
  exact h.2
theorem inVal_not {c : UInt8} (h : inVal c = true) : c ≠ 13 ∧ c ≠ 10 := by
  unfold inVal at h
  simp only [Bool.and_eq_true, decide_eq_true_eq] at h
  constructor <;> (intro e; subst e; simp at h)
theorem inWd_not {c : UInt8} (h : inWd c = true) : c ≠ 13 ∧ c ≠ 58 ∧ c ≠ 32 := by
  unfold inWd at h
  refine ⟨?_, ?_, ?_⟩ <;> (intro e; subst e; simp at h)

/-- What stands behind a=. -/
def attrP (l : Tx) : Option AttrS :=
  if wordP 1 32 (cutS [58] l).1 && (!(cutS [58] l).2.2 || valP (cutS [58] l).2.1) then some ⟨bs (cutS [58] l).1, bs (cutS [58] l).2.1⟩ else none

/-- A description of which some lines have been read: cur is the last part. -/
structure PSt where
  o : ByteArray
  n : ByteArray
  t : ByteArray
  attrs : List AttrS
  done : List PartS
  cur : Option PartS
def PSt.init : PSt := ⟨bs [], bs [], bs [], [], [], none⟩
def PSt.parts (st : PSt) : List PartS := st.done ++ st.cur.toList
def PSt.ses (st : PSt) : SesS := ⟨st.o, st.n, st.t, st.attrs, st.parts⟩
/-- The list to which an attribute goes. -/
def PSt.here (st : PSt) : List AttrS := match st.cur with
  | none => st.attrs
  | some p => p.attrs
def PSt.push (st : PSt) (a : AttrS) : PSt := match st.cur with
  | none => { st with attrs := st.attrs ++ [a] }
  | some p => { st with cur := some { p with attrs := p.attrs ++ [a] } }
def PSt.part (st : PSt) (v : Tx) : PSt := { st with done := st.done ++ st.cur.toList, cur := some ⟨bs v, bs [], []⟩ }
def PSt.conn (st : PSt) (v : Tx) : PSt := match st.cur with
  | none => st
  | some p => { st with cur := some { p with conn := bs v } }
/-- Is there a part of which only the first line was read. -/
def PSt.bare (st : PSt) : Bool := match st.cur with
  | none => false
  | some p => (tx p.conn).isEmpty && p.attrs.isEmpty

inductive Out where
  | go (st : PSt)
  | bad (e : Int)

def bodyP (st : PSt) (l : Tx) : Out :=
  if l.take 2 = [109, 61] then
    if valP (l.drop 2) then (if 8 ≤ st.parts.length then .bad 3 else .go (st.part (l.drop 2))) else .bad 2
  else if l.take 2 = [99, 61] then
    if valP (l.drop 2) && st.bare then .go (st.conn (l.drop 2)) else .bad 2
  else if l.take 2 = [97, 61] then
    match attrP (l.drop 2) with
    | none => .bad 2
    | some a => if 64 ≤ st.here.length then .bad 3 else .go (st.push a)
  else .bad 2
/-- Line number k is read. -/
def stepP (st : PSt) (k : Nat) (l : Tx) : Out :=
  if k = 1 then (if l.take 2 = [118, 61] ∧ l.drop 2 = [48] then .go st else .bad 2)
  else if k = 2 then (if l.take 2 = [111, 61] ∧ valP (l.drop 2) = true then .go { st with o := bs (l.drop 2) } else .bad 2)
  else if k = 3 then (if l.take 2 = [115, 61] ∧ valP (l.drop 2) = true then .go { st with n := bs (l.drop 2) } else .bad 2)
  else if k = 4 then (if l.take 2 = [116, 61] ∧ valP (l.drop 2) = true then .go { st with t := bs (l.drop 2) } else .bad 2)
  else bodyP st l

inductive Res where
  | ok (x : SesS)
  | err (k : Nat) (e : Int)

abbrev crlf : Tx := [13, 10]
/-- From line number k on, with l to be read, it comes to r. -/
inductive Runs : PSt → Nat → Tx → Res → Prop
  | done {st : PSt} {k : Nat} (h : 4 < k) : Runs st k [] (.ok st.ses)
  | torn {st : PSt} {k : Nat} {l : Tx} (h : ¬ (4 < k ∧ l = [])) (hc : (cutS crlf l).2.2 = false) : Runs st k l (.err k 2)
  | bad {st : PSt} {k : Nat} {l a b : Tx} {e : Int} (hc : cutS crlf l = (a, b, true)) (hs : stepP st k a = .bad e) : Runs st k l (.err k e)
  | step {st st' : PSt} {k : Nat} {l a b : Tx} {r : Res} (hc : cutS crlf l = (a, b, true)) (hs : stepP st k a = .go st') (hr : Runs st' (k + 1) b r) : Runs st k l r
/-- What a text is. -/
def Parsed (l : Tx) (r : Res) : Prop := (8192 < l.length ∧ r = .err 0 3) ∨ (l.length ≤ 8192 ∧ Runs PSt.init 1 l r)

theorem Runs.one {st : PSt} {k : Nat} {l : Tx} {r r' : Res} (h : Runs st k l r) (h' : Runs st k l r') : r = r' := by
  induction h with
  | done h =>
    cases h' with
    | done _ => rfl
    | torn h1 _ => exact (h1 ⟨h, rfl⟩).elim
    | bad hc _ => simp [cutS] at hc
    | step hc _ _ => simp [cutS] at hc
  | torn h hc =>
    cases h' with
    | done h1 => exact (h ⟨h1, rfl⟩).elim
    | torn _ _ => rfl
    | bad hc' _ => rw [hc'] at hc; cases hc
    | step hc' _ _ => rw [hc'] at hc; cases hc
  | bad hc hs =>
    cases h' with
    | done _ => simp [cutS] at hc
    | torn _ hc' => rw [hc] at hc'; cases hc'
    | bad hc' hs' =>
      rw [hc] at hc'
      cases hc'
      rw [hs] at hs'
      cases hs'
      rfl
    | step hc' hs' _ =>
      rw [hc] at hc'
      cases hc'
      rw [hs] at hs'
      cases hs'
  | step hc hs hr ih =>
    cases h' with
    | done _ => simp [cutS] at hc
    | torn _ hc' => rw [hc] at hc'; cases hc'
    | bad hc' hs' =>
      rw [hc] at hc'
      cases hc'
      rw [hs] at hs'
      cases hs'
    | step hc' hs' hr' =>
      rw [hc] at hc'
      cases hc'
      rw [hs] at hs'
      cases hs'
      exact ih hr'
theorem Parsed.one {l : Tx} {r r' : Res} (h : Parsed l r) (h' : Parsed l r') : r = r' := by
  rcases h with ⟨h, rfl⟩ | ⟨h, hr⟩
  · rcases h' with ⟨_, rfl⟩ | ⟨h1, _⟩
    · rfl
    · omega
  · rcases h' with ⟨h1, _⟩ | ⟨_, hr'⟩
    · omega
    · exact hr.one hr'

/-! What a description's text is. -/
def valTail (v : ByteArray) : Tx := if (tx v).isEmpty then [] else 58 :: tx v
def lineA (a : AttrS) : Tx := [97, 61] ++ tx a.name ++ valTail a.value
def linesA (L : List AttrS) : List Tx := L.map lineA
def connL (v : ByteArray) : List Tx := if (tx v).isEmpty then [] else [[99, 61] ++ tx v]
def linesP (p : PartS) : List Tx := ([109, 61] ++ tx p.line) :: (connL p.conn ++ linesA p.attrs)
def headL (o n t : ByteArray) : List Tx := [[118, 61, 48], [111, 61] ++ tx o, [115, 61] ++ tx n, [116, 61] ++ tx t]
def linesS (x : SesS) : List Tx := headL x.origin x.name x.time ++ (linesA x.attrs ++ x.parts.flatMap linesP)
def textL (ls : List Tx) : Tx := ls.flatMap (· ++ crlf)
def textS (x : SesS) : Tx := textL (linesS x)
theorem textL_append (a b : List Tx) : textL (a ++ b) = textL a ++ textL b := by simp [textL]
theorem textL_cons (a : Tx) (b : List Tx) : textL (a :: b) = a ++ crlf ++ textL b := by simp [textL]
theorem textL_nil : textL [] = [] := rfl
theorem linesA_append (a b : List AttrS) : linesA (a ++ b) = linesA a ++ linesA b := by simp [linesA]

/-- It has a text. -/
def okAt (a : AttrS) : Bool := wordP 1 32 (tx a.name) && maybeP (tx a.value)
def okA (L : List AttrS) : Bool := decide (L.length ≤ 64) && L.all okAt
def okP (p : PartS) : Bool := valP (tx p.line) && maybeP (tx p.conn) && okA p.attrs
def okS (x : SesS) : Bool := valP (tx x.origin) && valP (tx x.name) && valP (tx x.time) && okA x.attrs && decide (x.parts.length ≤ 8) && x.parts.all okP

theorem okAt_attrP {a : AttrS} (h : okAt a = true) : attrP (tx a.name ++ valTail a.value) = some a := by
  unfold okAt at h
  rw [Bool.and_eq_true] at h
  obtain ⟨h1, h2⟩ := h
  have hf : ∀ c ∈ tx a.name, c ≠ 58 := fun c hc => (inWd_not (wordP_in h1 c hc)).2.1
  unfold valTail
  by_cases hv : (tx a.value).isEmpty = true
  · rw [if_pos hv, List.append_nil]
    have hc := cutS_free (t := []) (tx a.name) hf
    unfold attrP
    rw [hc]
    simp only [h1, Bool.not_false, Bool.true_or, Bool.and_self, if_true]
    rw [bs_tx, ← List.isEmpty_iff.1 hv, bs_tx]
  · rw [if_neg hv]
    have hc := cutS_clean (t := []) (tx a.name) (tx a.value) hf
    rw [List.append_assoc] at hc
    have hvp : valP (tx a.value) = true := by
      unfold maybeP at h2
      rw [Bool.or_eq_true] at h2
      rcases h2 with h2 | h2
      · exact (hv h2).elim
      · exact h2
    unfold attrP
    rw [show (58 : UInt8) :: tx a.value = [58] ++ tx a.value from rfl, hc]
    simp [h1, hvp]
theorem attrP_okAt {l : Tx} {a : AttrS} (h : attrP l = some a) : okAt a = true ∧ tx a.name ++ valTail a.value = l := by
  unfold attrP at h
  split at h
  · next hh =>
    cases h
    rw [Bool.and_eq_true, Bool.or_eq_true] at hh
    obtain ⟨h1, h2⟩ := hh
    unfold okAt valTail
    simp only [tx_bs, h1, Bool.true_and]
    cases hc : (cutS [58] l).2.2 with
    | false =>
      have := cutS_none [58] l hc
      rw [this.1, this.2]
      simp [maybeP]
    | true =>
      have hs := cutS_some [58] l hc
      have hv : valP (cutS [58] l).2.1 = true := by
        rw [hc] at h2
        simpa using h2
      have hne : (cutS [58] l).2.1.isEmpty = false := by
        cases hq : (cutS [58] l).2.1 with
        | nil => rw [hq] at hv; exact (valP_ne hv rfl).elim
        | cons c r => rfl
      rw [hne]
      refine ⟨by simp [maybeP, hv], ?_⟩
      conv => rhs; rw [hs]
      simp
  · cases h

/-- The limits, and that all that was read is right. -/
structure PSt.Ok (st : PSt) (k : Nat) : Prop where
  o : 2 < k → valP (tx st.o) = true
  n : 3 < k → valP (tx st.n) = true
  t : 4 < k → valP (tx st.t) = true
  attrs : okA st.attrs = true
  parts : st.parts.length ≤ 8
  each : ∀ p ∈ st.parts, okP p = true
  early : k ≤ 4 → st.attrs = [] ∧ st.parts = []
  first : st.cur = none → st.done = []
theorem PSt.Ok.here {st : PSt} {k : Nat} (h : st.Ok k) : okA st.here = true := by
  unfold PSt.here
  cases hc : st.cur with
  | none => exact h.attrs
  | some p =>
    have := h.each p (by simp [PSt.parts, hc])
    unfold okP at this
    rw [Bool.and_eq_true] at this
    exact this.2
theorem okA_len {L : List AttrS} (h : okA L = true) : L.length ≤ 64 := by
  unfold okA at h
  simp only [Bool.and_eq_true, decide_eq_true_eq] at h
  exact h.1
theorem okA_snoc {L : List AttrS} {a : AttrS} (h : okA L = true) (hl : ¬ 64 ≤ L.length) (ha : okAt a = true) : okA (L ++ [a]) = true := by
  unfold okA at h ⊢
  simp only [Bool.and_eq_true, decide_eq_true_eq, List.all_append, List.length_append, List.all_cons, List.all_nil, Bool.and_true] at h ⊢
  exact ⟨by simp; omega, h.2, ha⟩
theorem PSt.Ok.start : PSt.init.Ok 1 := ⟨by omega, by omega, by omega, rfl, by simp [PSt.init, PSt.parts], by simp [PSt.init, PSt.parts], fun _ => ⟨rfl, rfl⟩, fun _ => rfl⟩

/-- The text of what was read ahead of line number k. -/
def preL (k : Nat) (st : PSt) : List Tx := if k ≤ 4 then (headL st.o st.n st.t).take (k - 1) else linesS st.ses
theorem take2 {l : Tx} {k v : Tx} (h1 : l.take 2 = k) (h2 : l.drop 2 = v) : k ++ v = l := by rw [← h1, ← h2]; exact List.take_append_drop 2 l
theorem preL_next {st : PSt} {k : Nat} (h : 4 < k) : preL k st = linesS st.ses := by unfold preL; rw [if_neg (by omega)]

theorem stepP_ok {st st' : PSt} {k : Nat} {a : Tx} (hk : 1 ≤ k) (h : st.Ok k) (hs : stepP st k a = .go st') : st'.Ok (k + 1) ∧ preL (k + 1) st' = preL k st ++ [a] := by
  unfold stepP at hs
  by_cases h1 : k = 1
  · subst h1
    rw [if_pos rfl] at hs
    split at hs
    · next hh =>
      cases hs
      refine ⟨⟨by omega, by omega, by omega, h.attrs, h.parts, h.each, fun _ => h.early (by omega), h.first⟩, ?_⟩
      rw [← take2 hh.1 hh.2]
      rfl
    · cases hs
  rw [if_neg h1] at hs
  by_cases h2 : k = 2
  · subst h2
    rw [if_pos rfl] at hs
    split at hs
    · next hh =>
      cases hs
      refine ⟨⟨fun _ => by simpa using hh.2, by omega, by omega, h.attrs, h.parts, h.each, fun _ => h.early (by omega), h.first⟩, ?_⟩
      rw [← take2 hh.1 rfl]
      simp [preL, headL]
    · cases hs
  rw [if_neg h2] at hs
  by_cases h3 : k = 3
  · subst h3
    rw [if_pos rfl] at hs
    split at hs
    · next hh =>
      cases hs
      refine ⟨⟨fun _ => h.o (by omega), fun _ => by simpa using hh.2, by omega, h.attrs, h.parts, h.each, fun _ => h.early (by omega), h.first⟩, ?_⟩
      rw [← take2 hh.1 rfl]
      simp [preL, headL]
    · cases hs
  rw [if_neg h3] at hs
  by_cases h4 : k = 4
  · subst h4
    rw [if_pos rfl] at hs
    split at hs
    · next hh =>
      cases hs
      refine ⟨⟨fun _ => h.o (by omega), fun _ => h.n (by omega), fun _ => by simpa using hh.2, h.attrs, h.parts, h.each, by omega, h.first⟩, ?_⟩
      obtain ⟨e1, e2⟩ := h.early (by omega)
      rw [← take2 hh.1 rfl]
      have e2' : st.done ++ st.cur.toList = [] := e2
      simp [preL, headL, linesS, PSt.ses, PSt.parts, e1, e2', linesA]
    · cases hs
  rw [if_neg h4] at hs
  have hk4 : 4 < k := by omega
  rw [preL_next hk4, preL_next (by omega)]
  unfold bodyP at hs
  split at hs
  · next hm =>
    split at hs
    · next hv =>
      split at hs
      · cases hs
      · next h8 =>
        cases hs
        refine ⟨⟨fun _ => h.o (by omega), fun _ => h.n (by omega), fun _ => h.t hk4, h.attrs, ?_, ?_, by omega, fun e => by cases e⟩, ?_⟩
        · show (st.done ++ st.cur.toList ++ [_]).length ≤ 8
          have : (st.done ++ st.cur.toList).length = st.parts.length := rfl
          rw [List.length_append, this]
          simp
          omega
        · intro p hp
          have hp' : p ∈ st.parts ++ [⟨bs (a.drop 2), bs [], []⟩] := hp
          rw [List.mem_append] at hp'
          rcases hp' with hp' | hp'
          · exact h.each p hp'
          · simp at hp'
            subst hp'
            simp [okP, hv, maybeP, okA]
        · show linesS ⟨st.o, st.n, st.t, st.attrs, st.parts ++ [⟨bs (a.drop 2), bs [], []⟩]⟩ = _
          rw [← take2 hm rfl]
          simp [linesS, PSt.ses, linesP, connL, linesA]
    · cases hs
  · split at hs
    · next hm =>
      split at hs
      · next hv =>
        cases hs
        rw [Bool.and_eq_true] at hv
        obtain ⟨hv, hb⟩ := hv
        unfold PSt.bare at hb
        cases hc : st.cur with
        | none => rw [hc] at hb; cases hb
        | some p =>
          rw [hc] at hb
          simp only [Bool.and_eq_true, List.isEmpty_iff] at hb
          have hpa : st.parts = st.done ++ [p] := by simp [PSt.parts, hc]
          have hpb : (st.conn (a.drop 2)).parts = st.done ++ [{ p with conn := bs (a.drop 2) }] := by simp [PSt.conn, PSt.parts, hc]
          have hop := h.each p (by rw [hpa]; simp)
          have hst : (st.conn (a.drop 2)).o = st.o ∧ (st.conn (a.drop 2)).n = st.n ∧ (st.conn (a.drop 2)).t = st.t ∧ (st.conn (a.drop 2)).attrs = st.attrs := by simp [PSt.conn, hc]
          refine ⟨⟨fun _ => by rw [hst.1]; exact h.o (by omega), fun _ => by rw [hst.2.1]; exact h.n (by omega), fun _ => by rw [hst.2.2.1]; exact h.t hk4, by rw [hst.2.2.2]; exact h.attrs, ?_, ?_, by omega, fun e => by simp [PSt.conn, PSt.push, hc] at e⟩, ?_⟩
          · have := h.parts
            rw [hpa] at this
            rw [hpb]
            simpa using this
          · intro q hq
            rw [hpb, List.mem_append] at hq
            rcases hq with hq | hq
            · exact h.each q (by rw [hpa]; simp [hq])
            · simp at hq
              subst hq
              unfold okP at hop ⊢
              simp only [Bool.and_eq_true] at hop ⊢
              exact ⟨⟨hop.1.1, by simp [maybeP, hv]⟩, hop.2⟩
          · show linesS ⟨_, _, _, _, _⟩ = linesS ⟨_, _, _, _, _⟩ ++ _
            rw [hst.1, hst.2.1, hst.2.2.1, hst.2.2.2, hpa, hpb, ← take2 hm rfl]
            have hne : (a.drop 2).isEmpty = false := by
              cases hq : a.drop 2 with
              | nil => rw [hq] at hv; exact (valP_ne hv rfl).elim
              | cons c r => rfl
            simp [linesS, linesP, connL, hb.1, hb.2, hne, linesA]
      · cases hs
    · split at hs
      · next hm =>
        cases ha : attrP (a.drop 2) with
        | none => rw [ha] at hs; cases hs
        | some x =>
          rw [ha] at hs
          obtain ⟨hx1, hx2⟩ := attrP_okAt ha
          have hl : [97, 61] ++ tx x.name ++ valTail x.value = a := by rw [List.append_assoc, hx2]; exact take2 hm rfl
          simp only at hs
          split at hs
          · cases hs
          · next h64 =>
            cases hs
            have hh := okA_snoc h.here h64 hx1
            cases hc : st.cur with
            | none =>
              have hp : st.push x = { st with attrs := st.attrs ++ [x] } := by simp [PSt.push, hc]
              have hpa : st.parts = st.done := by simp [PSt.parts, hc]
              rw [hp]
              have hd := h.first hc
              unfold PSt.here at hh
              rw [hc] at hh
              refine ⟨⟨fun _ => h.o (by omega), fun _ => h.n (by omega), fun _ => h.t hk4, hh, h.parts, h.each, by omega, h.first⟩, ?_⟩
              show linesS ⟨_, _, _, _, _⟩ = linesS ⟨_, _, _, _, _⟩ ++ _
              rw [← hl]
              simp [linesS, linesA, lineA, PSt.parts, hc, hd]
            | some p =>
              have hp : st.push x = { st with cur := some { p with attrs := p.attrs ++ [x] } } := by simp [PSt.push, hc]
              have hpa : st.parts = st.done ++ [p] := by simp [PSt.parts, hc]
              have hpb : (st.push x).parts = st.done ++ [{ p with attrs := p.attrs ++ [x] }] := by simp [hp, PSt.parts]
              unfold PSt.here at hh
              rw [hc] at hh
              have hop := h.each p (by rw [hpa]; simp)
              have hst : (st.push x).o = st.o ∧ (st.push x).n = st.n ∧ (st.push x).t = st.t ∧ (st.push x).attrs = st.attrs := by simp [hp]
              refine ⟨⟨fun _ => by rw [hst.1]; exact h.o (by omega), fun _ => by rw [hst.2.1]; exact h.n (by omega), fun _ => by rw [hst.2.2.1]; exact h.t hk4, by rw [hst.2.2.2]; exact h.attrs, ?_, ?_, by omega, fun e => by simp [PSt.conn, PSt.push, hc] at e⟩, ?_⟩
              · have := h.parts
                rw [hpa] at this
                rw [hpb]
                simpa using this
              · intro q hq
                rw [hpb, List.mem_append] at hq
                rcases hq with hq | hq
                · exact h.each q (by rw [hpa]; simp [hq])
                · simp at hq
                  subst hq
                  unfold okP at hop ⊢
                  simp only [Bool.and_eq_true] at hop ⊢
                  exact ⟨hop.1, hh⟩
              · show linesS ⟨_, _, _, _, _⟩ = linesS ⟨_, _, _, _, _⟩ ++ _
                rw [hst.1, hst.2.1, hst.2.2.1, hst.2.2.2, hpa, hpb, ← hl]
                simp [linesS, linesP, linesA, lineA]
      · cases hs

theorem stepP_done {st : PSt} {k : Nat} (h : 4 < k) (hok : st.Ok k) : okS st.ses = true := by
  unfold okS
  simp only [Bool.and_eq_true, decide_eq_true_eq, List.all_eq_true]
  exact ⟨⟨⟨⟨⟨hok.o (by omega), hok.n (by omega)⟩, hok.t h⟩, hok.attrs⟩, hok.parts⟩, hok.each⟩
/-- What is read has the text that was read. -/
theorem Runs.text {st : PSt} {k : Nat} {l : Tx} {r : Res} (h : Runs st k l r) : ∀ x, r = .ok x → 1 ≤ k → st.Ok k → okS x = true ∧ textS x = textL (preL k st) ++ l := by
  induction h with
  | done h =>
    intro x hx hk hok
    cases hx
    refine ⟨stepP_done h hok, ?_⟩
    rw [preL_next h, List.append_nil]
    rfl
  | torn => intro x hx; cases hx
  | bad => intro x hx; cases hx
  | @step st st' k l a b r hc hs hr ih =>
    intro x hx hk hok
    obtain ⟨h1, h2⟩ := stepP_ok hk hok hs
    obtain ⟨h3, h4⟩ := ih x hx (by omega) h1
    refine ⟨h3, ?_⟩
    have := cutS_some crlf l (by rw [hc])
    rw [hc] at this
    rw [h4, h2, textL_append, this]
    simp [textL]
theorem Parsed.text {l : Tx} {x : SesS} (h : Parsed l (.ok x)) : okS x = true ∧ textS x = l ∧ l.length ≤ 8192 := by
  rcases h with ⟨_, h⟩ | ⟨hl, h⟩
  · cases h
  · have := h.text x rfl (by omega) PSt.Ok.start
    exact ⟨this.1, by rw [this.2]; rfl, hl⟩

/-- Lines that are read one by one. -/
inductive Steps : PSt → Nat → List Tx → PSt → Prop
  | nil {st : PSt} {k : Nat} : Steps st k [] st
  | cons {st st' st2 : PSt} {k : Nat} {a : Tx} {ls : List Tx} (hs : stepP st k a = .go st') (h : Steps st' (k + 1) ls st2) : Steps st k (a :: ls) st2
theorem Steps.append {st st' st2 : PSt} {k : Nat} {a b : List Tx} (h : Steps st k a st') (h' : Steps st' (k + a.length) b st2) : Steps st k (a ++ b) st2 := by
  induction h with
  | nil => simpa using h'
  | cons hs h ih =>
    refine .cons hs (ih ?_)
    rw [List.length_cons] at h'
    rwa [Nat.add_assoc, Nat.add_comm 1]
def Clean (a : Tx) : Prop := ∀ c ∈ a, c ≠ 13
theorem Steps.runs {st st' : PSt} {k : Nat} {ls : List Tx} (h : Steps st k ls st') (hc : ∀ a ∈ ls, Clean a) {l : Tx} {r : Res} (hr : Runs st' (k + ls.length) l r) : Runs st k (textL ls ++ l) r := by
  induction h with
  | nil => simpa [textL] using hr
  | @cons st st' st2 k a ls hs h ih =>
    refine Runs.step (a := a) (b := textL ls ++ l) ?_ hs (ih (fun b hb => hc b (by simp [hb])) ?_)
    · rw [textL_cons]
      have := cutS_clean (t := [10]) a (textL ls ++ l) (hc a (by simp))
      simpa using this
    · rw [List.length_cons] at hr
      rwa [Nat.add_assoc, Nat.add_comm 1]

theorem clean_val {l : Tx} (h : valP l = true) : Clean l := fun c hc => (inVal_not (valP_in h c hc)).1
theorem clean_word {lo hi : Nat} {l : Tx} (h : wordP lo hi l = true) : Clean l := fun c hc => (inWd_not (wordP_in h c hc)).1
theorem clean_append {a b : Tx} (ha : Clean a) (hb : Clean b) : Clean (a ++ b) := fun c hc => by
  rcases List.mem_append.1 hc with h | h
  · exact ha c h
  · exact hb c h
theorem clean_maybe {l : Tx} (h : maybeP l = true) : Clean l := by
  unfold maybeP at h
  rw [Bool.or_eq_true, List.isEmpty_iff] at h
  rcases h with rfl | h
  · intro c hc; cases hc
  · exact clean_val h
theorem clean_lineA {a : AttrS} (h : okAt a = true) : Clean (lineA a) := by
  unfold okAt at h
  rw [Bool.and_eq_true] at h
  refine clean_append (clean_append (by intro c hc; revert c; decide) (clean_word h.1)) ?_
  unfold valTail
  split
  · intro c hc; cases hc
  · exact clean_append (a := [58]) (by intro c hc; revert c; decide) (clean_maybe h.2)
theorem clean_linesA {L : List AttrS} (h : okA L = true) : ∀ a ∈ linesA L, Clean a := by
  unfold okA at h
  simp only [Bool.and_eq_true, decide_eq_true_eq, List.all_eq_true] at h
  intro a ha
  obtain ⟨x, hx, rfl⟩ := List.mem_map.1 ha
  exact clean_lineA (h.2 x hx)
theorem okP_parts {p : PartS} (h : okP p = true) : valP (tx p.line) = true ∧ maybeP (tx p.conn) = true ∧ okA p.attrs = true := by
  unfold okP at h
  simp only [Bool.and_eq_true] at h
  exact ⟨h.1.1, h.1.2, h.2⟩
theorem clean_linesP {p : PartS} (h : okP p = true) : ∀ a ∈ linesP p, Clean a := by
  obtain ⟨h1, h2, h3⟩ := okP_parts h
  intro a ha
  unfold linesP connL at ha
  rw [List.mem_cons, List.mem_append] at ha
  rcases ha with rfl | ha | ha
  · exact clean_append (by intro c hc; revert c; decide) (clean_val h1)
  · split at ha
    · cases ha
    · rw [List.mem_singleton] at ha
      subst ha
      exact clean_append (by intro c hc; revert c; decide) (clean_maybe h2)
  · exact clean_linesA h3 a ha

theorem step_attr {st : PSt} {k : Nat} (hk : 4 < k) {a : AttrS} (ha : okAt a = true) (hl : st.here.length < 64) : stepP st k (lineA a) = .go (st.push a) := by
  unfold stepP
  rw [if_neg (by omega), if_neg (by omega), if_neg (by omega), if_neg (by omega)]
  have h1 : (lineA a).take 2 = [97, 61] := by simp [lineA]
  have h2 : (lineA a).drop 2 = tx a.name ++ valTail a.value := by simp [lineA]
  unfold bodyP
  rw [h1, h2, okAt_attrP ha, if_neg (by decide), if_neg (by decide), if_pos rfl]
  simp only
  rw [if_neg (by omega)]
theorem here_push (st : PSt) (a : AttrS) : (st.push a).here = st.here ++ [a] := by
  unfold PSt.push PSt.here
  cases st.cur <;> rfl
theorem steps_attrs {k : Nat} (hk : 4 < k) : ∀ (L : List AttrS) (st : PSt) (k : Nat), 4 < k → (∀ a ∈ L, okAt a = true) → st.here.length + L.length ≤ 64 → Steps st k (linesA L) (L.foldl PSt.push st)
  | [], st, k, _, _, _ => .nil
  | a :: L, st, k, hk, ha, hl => by
    rw [List.length_cons] at hl
    refine .cons (step_attr hk (ha a (by simp)) (by omega)) (steps_attrs (k := k + 1) (by omega) L _ _ (by omega) (fun b hb => ha b (by simp [hb])) ?_)
    rw [here_push]
    simp
    omega
theorem push_cur : ∀ (L : List AttrS) (st : PSt) (p : PartS), st.cur = some p → L.foldl PSt.push st = { st with cur := some { p with attrs := p.attrs ++ L } }
  | [], st, p, h => by
    cases st
    simp at h
    subst h
    simp
  | a :: L, st, p, h => by
    have h1 : st.push a = { st with cur := some { p with attrs := p.attrs ++ [a] } } := by simp [PSt.push, h]
    rw [List.foldl_cons, push_cur L (st.push a) { p with attrs := p.attrs ++ [a] } (by rw [h1]), h1]
    simp
theorem push_none : ∀ (L : List AttrS) (st : PSt), st.cur = none → L.foldl PSt.push st = { st with attrs := st.attrs ++ L }
  | [], st, h => by simp
  | a :: L, st, h => by
    have h1 : st.push a = { st with attrs := st.attrs ++ [a] } := by simp [PSt.push, h]
    rw [List.foldl_cons, push_none L (st.push a) (by rw [h1]; exact h), h1]
    simp
theorem step_line {st : PSt} {k : Nat} (hk : 4 < k) {v : Tx} (hv : valP v = true) (hl : st.parts.length < 8) : stepP st k ([109, 61] ++ v) = .go (st.part v) := by
  unfold stepP
  rw [if_neg (by omega), if_neg (by omega), if_neg (by omega), if_neg (by omega)]
  unfold bodyP
  simp [hv]
  omega
theorem step_conn {st : PSt} {k : Nat} (hk : 4 < k) {v : Tx} (hv : valP v = true) (hb : st.bare = true) : stepP st k ([99, 61] ++ v) = .go (st.conn v) := by
  unfold stepP
  rw [if_neg (by omega), if_neg (by omega), if_neg (by omega), if_neg (by omega)]
  unfold bodyP
  simp [hv, hb]
theorem steps_part {st : PSt} {k : Nat} (hk : 4 < k) {p : PartS} (hp : okP p = true) (hl : st.parts.length < 8) : Steps st k (linesP p) { st with done := st.parts, cur := some p } := by
  obtain ⟨h1, h2, h3⟩ := okP_parts hp
  have h64 := okA_len h3
  unfold okA at h3
  simp only [Bool.and_eq_true, decide_eq_true_eq, List.all_eq_true] at h3
  have hpart : st.part (tx p.line) = { st with done := st.parts, cur := some ⟨p.line, bs [], []⟩ } := by simp [PSt.part, PSt.parts]
  refine .cons (step_line hk h1 hl) ?_
  rw [hpart]
  have hA : ∀ (c : ByteArray) (j : Nat), 4 < j → Steps { st with done := st.parts, cur := some ⟨p.line, c, []⟩ } j (linesA p.attrs) { st with done := st.parts, cur := some ⟨p.line, c, p.attrs⟩ } := by
    intro c j hj
    have := steps_attrs hj p.attrs { st with done := st.parts, cur := some ⟨p.line, c, []⟩ } j hj h3.2 (by simp [PSt.here]; omega)
    rw [push_cur p.attrs _ ⟨p.line, c, []⟩ rfl] at this
    simpa using this
  unfold connL
  by_cases hc : (tx p.conn).isEmpty = true
  · rw [if_pos hc, List.nil_append]
    have e : p.conn = bs [] := by rw [← bs_tx p.conn, List.isEmpty_iff.1 hc]
    have := hA (bs []) (k + 1) (by omega)
    rw [← e] at this ⊢
    exact this
  · rw [if_neg hc]
    have hv : valP (tx p.conn) = true := by
      unfold maybeP at h2
      rw [Bool.or_eq_true] at h2
      rcases h2 with h2 | h2
      · exact (hc h2).elim
      · exact h2
    refine .cons (step_conn (by omega) hv (by simp [PSt.bare])) ?_
    have := hA p.conn (k + 1 + 1) (by omega)
    simpa [PSt.conn] using this
theorem steps_parts : ∀ (ps : List PartS) (st : PSt) (k : Nat), 4 < k → (∀ p ∈ ps, okP p = true) → st.parts.length + ps.length ≤ 8 → ∃ st', Steps st k (ps.flatMap linesP) st' ∧ st'.ses = ⟨st.o, st.n, st.t, st.attrs, st.parts ++ ps⟩
  | [], st, k, _, _, _ => ⟨st, .nil, by simp [PSt.ses]⟩
  | p :: ps, st, k, hk, ho, hl => by
    rw [List.length_cons] at hl
    have h1 := steps_part hk (ho p (by simp)) (st := st) (by omega)
    have hpp : ({ st with done := st.parts, cur := some p } : PSt).parts = st.parts ++ [p] := by simp [PSt.parts]
    obtain ⟨st', h2, h3⟩ := steps_parts ps { st with done := st.parts, cur := some p } (k + (linesP p).length) (by omega) (fun q hq => ho q (by simp [hq])) (by rw [hpp]; simp; omega)
    refine ⟨st', ?_, ?_⟩
    · rw [List.flatMap_cons]
      exact h1.append h2
    · rw [h3, hpp]
      simp
theorem okS_parts {x : SesS} (h : okS x = true) : valP (tx x.origin) = true ∧ valP (tx x.name) = true ∧ valP (tx x.time) = true ∧ okA x.attrs = true ∧ x.parts.length ≤ 8 ∧ ∀ p ∈ x.parts, okP p = true := by
  unfold okS at h
  simp only [Bool.and_eq_true, decide_eq_true_eq, List.all_eq_true] at h
  obtain ⟨⟨⟨⟨⟨h1, h2⟩, h3⟩, h4⟩, h5⟩, h6⟩ := h
  exact ⟨h1, h2, h3, h4, h5, h6⟩
theorem steps_ses {x : SesS} (h : okS x = true) : ∃ st, Steps PSt.init 1 (linesS x) st ∧ st.ses = x := by
  obtain ⟨h1, h2, h3, h4, h5, h6⟩ := okS_parts h
  have h64 := okA_len h4
  have ha := h4
  unfold okA at ha
  simp only [Bool.and_eq_true, decide_eq_true_eq, List.all_eq_true] at ha
  have hA := steps_attrs (k := 5) (by omega) x.attrs ⟨x.origin, x.name, x.time, [], [], none⟩ 5 (by omega) ha.2 (by simp [PSt.here]; omega)
  rw [push_none x.attrs _ rfl] at hA
  simp only [List.nil_append] at hA
  obtain ⟨st, h7, h8⟩ := steps_parts x.parts ⟨x.origin, x.name, x.time, x.attrs, [], none⟩ (5 + (linesA x.attrs).length) (by omega) h6 (by simp [PSt.parts]; exact h5)
  refine ⟨st, ?_, by rw [h8]; simp [PSt.parts]⟩
  show Steps PSt.init 1 ([118, 61, 48] :: ([111, 61] ++ tx x.origin) :: ([115, 61] ++ tx x.name) :: ([116, 61] ++ tx x.time) :: (linesA x.attrs ++ x.parts.flatMap linesP)) st
  refine Steps.cons (st' := PSt.init) rfl (.cons (st' := ⟨x.origin, bs [], bs [], [], [], none⟩) ?_ (.cons (st' := ⟨x.origin, x.name, bs [], [], [], none⟩) ?_ (.cons (st' := ⟨x.origin, x.name, x.time, [], [], none⟩) ?_ (Steps.append (k := 5) hA h7))))
  · simp [stepP, h1, PSt.init]
  · simp [stepP, h2]
  · simp [stepP, h3]
theorem clean_linesS {x : SesS} (h : okS x = true) : ∀ a ∈ linesS x, Clean a := by
  obtain ⟨h1, h2, h3, h4, h5, h6⟩ := okS_parts h
  intro a ha
  unfold linesS headL at ha
  simp only [List.mem_append, List.mem_cons, List.not_mem_nil, or_false, List.mem_flatMap] at ha
  rcases ha with (rfl | rfl | rfl | rfl) | ha | ⟨p, hp, ha⟩
  · intro c hc; revert c; decide
  · exact clean_append (by intro c hc; revert c; decide) (clean_val h1)
  · exact clean_append (by intro c hc; revert c; decide) (clean_val h2)
  · exact clean_append (by intro c hc; revert c; decide) (clean_val h3)
  · exact clean_linesA h4 a ha
  · exact clean_linesP (h6 p hp) a ha
theorem linesS_len (x : SesS) : 4 ≤ (linesS x).length := by simp [linesS, headL]
/-- What was printed is parsed as it was. -/
theorem parse_print {x : SesS} (h : okS x = true) : Runs PSt.init 1 (textS x) (.ok x) := by
  obtain ⟨st, h1, h2⟩ := steps_ses h
  have := h1.runs (clean_linesS h) (l := []) (r := .ok st.ses) (.done (by have := linesS_len x; omega))
  rw [List.append_nil, h2] at this
  exact this
theorem parsed_print {x : SesS} (h : okS x = true) (hl : (textS x).length ≤ 8192) : Parsed (textS x) (.ok x) := .inr ⟨hl, parse_print h⟩
/-- What is parsed, of any text. -/
theorem Parsed.total (l : Tx) : ∃ r, Parsed l r := by
  have hr : ∀ (n : Nat) (st : PSt) (k : Nat) (l : Tx), l.length ≤ n → ∃ r, Runs st k l r := by
    intro n
    induction n with
    | zero =>
      intro st k l hl
      obtain rfl : l = [] := List.eq_nil_of_length_eq_zero (by omega)
      by_cases hk : 4 < k
      · exact ⟨_, .done hk⟩
      · exact ⟨_, .torn (fun h => hk h.1) rfl⟩
    | succ n ih =>
      intro st k l hl
      by_cases hd : 4 < k ∧ l = []
      · obtain ⟨h1, rfl⟩ := hd
        exact ⟨_, .done h1⟩
      · cases hc : (cutS crlf l).2.2 with
        | false => exact ⟨_, .torn hd hc⟩
        | true =>
          have hcc : cutS crlf l = ((cutS crlf l).1, (cutS crlf l).2.1, true) := by rw [← hc]
          cases hs : stepP st k (cutS crlf l).1 with
          | bad e => exact ⟨_, .bad hcc hs⟩
          | go st' =>
            have := congrArg List.length (cutS_some crlf l hc)
            simp at this
            obtain ⟨r, hr⟩ := ih st' (k + 1) (cutS crlf l).2.1 (by omega)
            exact ⟨r, .step hcc hs hr⟩
  by_cases hl : 8192 < l.length
  · exact ⟨_, .inl ⟨hl, rfl⟩⟩
  · obtain ⟨r, h⟩ := hr l.length PSt.init 1 l (Nat.le_refl _)
    exact ⟨r, .inr ⟨by omega, h⟩⟩
end Go.Proofs.YtmlapbadgjhhdaaGreatDoor
