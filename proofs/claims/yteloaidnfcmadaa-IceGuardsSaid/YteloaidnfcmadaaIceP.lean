/- An agent: its pairs, and how it lies in memory. -/
import Derived.Test.YteloaidnfcmadaaStFind
import Derived.Laws.OwnMore
namespace Go.Proofs.Yteloaidnfcmadaa
open Go.RowKit
set_option linter.unusedVariables false

structure Pr where
  ip : Int
  port : Int
  last : Int
  nom : Bool
instance : Inhabited Pr := ⟨⟨0, 0, 0, false⟩⟩
def prc (p : Pr) : Array Value := #[.int .u32 p.ip, .int .u16 p.port, .int .i64 p.last, .bool p.nom]
def pcells : List Pr → List Value
  | [] => []
  | p :: r => .int .u32 p.ip :: .int .u16 p.port :: .int .i64 p.last :: .bool p.nom :: pcells r
theorem pcells_append (a b : List Pr) : pcells (a ++ b) = pcells a ++ pcells b := by
  induction a with
  | nil => rfl
  | cons p r ih => simp [pcells, ih]
@[simp] theorem pcells_length (a : List Pr) : (pcells a).length = a.length * 4 := by
  induction a with
  | nil => rfl
  | cons p r ih => simp [pcells, ih]; omega
theorem pcells_at (a : List Pr) (i : Nat) (hi : i < a.length) : (pcells a)[i * 4]? = some (.int .u32 (a.getD i default).ip) ∧ (pcells a)[i * 4 + 1]? = some (.int .u16 (a.getD i default).port) ∧
    (pcells a)[i * 4 + 2]? = some (.int .i64 (a.getD i default).last) ∧ (pcells a)[i * 4 + 3]? = some (.bool (a.getD i default).nom) := by
  induction a generalizing i with
  | nil => simp at hi
  | cons p r ih =>
    cases i with
    | zero => exact ⟨rfl, rfl, rfl, rfl⟩
    | succ i =>
      obtain ⟨h1, h2, h3, h4⟩ := ih i (by simpa using hi)
      have e1 : ∀ j, (i + 1) * 4 + j = i * 4 + j + 1 + 1 + 1 + 1 := by intro j; omega
      refine ⟨?_, ?_, ?_, ?_⟩
      · rw [show (i + 1) * 4 = i * 4 + 1 + 1 + 1 + 1 by omega]; simpa [pcells] using h1
      · rw [e1]; simpa [pcells] using h2
      · rw [e1]; simpa [pcells] using h3
      · rw [e1]; simpa [pcells] using h4
theorem pcells_set2 (a : List Pr) (i : Nat) (hi : i < a.length) (x : Int) : (pcells a).set (i * 4 + 2) (.int .i64 x) = pcells (a.set i { a.getD i default with last := x }) := by
  induction a generalizing i with
  | nil => simp at hi
  | cons p r ih =>
    cases i with
    | zero => rfl
    | succ i =>
      have h := ih i (by simpa using hi)
      rw [show (i + 1) * 4 + 2 = i * 4 + 2 + 1 + 1 + 1 + 1 by omega]
      simpa [pcells] using h
theorem pcells_set3 (a : List Pr) (i : Nat) (hi : i < a.length) (x : Bool) : (pcells a).set (i * 4 + 3) (.bool x) = pcells (a.set i { a.getD i default with nom := x }) := by
  induction a generalizing i with
  | nil => simp at hi
  | cons p r ih =>
    cases i with
    | zero => rfl
    | succ i =>
      have h := ih i (by simpa using hi)
      rw [show (i + 1) * 4 + 3 = i * 4 + 3 + 1 + 1 + 1 + 1 by omega]
      simpa [pcells] using h

/-- The slice v is a row of pairs, in a block of its own. -/
def Row4 (w : World) (base : Nat) (v : Value) (ps : List Pr) : Prop := w.ownsRow base 63 4 v ps.length (pcells ps)
section
variable {w w' : World} {base : Nat} {v : Value} {ps : List Pr}
theorem Row4.nil (w : World) (base : Nat) : Row4 w base (.slice none 0 0) [] := World.ownsRow_nil w base 63 4
theorem Row4.lt (h : Row4 w base v ps) {k : Nat} (hk : v.ownBlock = some k) : base ≤ k ∧ k < w.heap.size := World.ownsRow.lt h k hk
theorem Row4.keep (h : Row4 w base v ps) (hk : ∀ g cs, v.ownBlock = some g → Whole w g 63 cs → Whole w' g 63 cs) : Row4 w' base v ps := by
  refine ⟨h.1, ?_⟩
  rcases h.2 with h0 | ⟨g, cap, cur, h1, h2, h3, h4⟩
  · exact .inl h0
  · exact .inr ⟨g, cap, cur, h1, h2, hk g cur (by rw [h1]; rfl) h3, h4⟩
theorem Row4.under (h : Row4 w base v ps) (hb : Below w.heap.size w w') : Row4 w' base v ps := h.keep fun g cs _ hg => hg.under hb
theorem Row4.whole (h : Row4 w base v ps) {g : Nat} (hg : v.ownBlock = some g) : ∃ cs, Whole w g 63 cs := by
  rcases h.2 with ⟨rfl, _⟩ | ⟨g', cap, cur, rfl, _, h3, _⟩
  · cases hg
  · have : g' = g := by simpa [Value.ownBlock] using hg
    subst this
    exact ⟨cur, h3⟩
theorem Row4.far (h : Row4 w base v ps) {g : Nat} {t : TypeId} {cs : Array Value} (hg : Whole w g t cs) (he : 63 ≠ t) : v.ownBlock ≠ some g := fun e2 => by
  obtain ⟨cs2, h2⟩ := h.whole e2
  exact (h2.ne hg he) rfl
theorem Row4.form (h : Row4 w base v ps) : ∃ A c, v = .slice A ps.length c ∧ ps.length ≤ c ∧ c ≤ maxLen ∧ (A = none → c = 0) := by
  rcases h.2 with ⟨rfl, h0⟩ | ⟨g, cap, cur, rfl, h2, h3, h4, h5, _⟩
  · exact ⟨none, 0, by rw [h0], by omega, Nat.zero_le _, fun _ => rfl⟩
  · exact ⟨_, cap, rfl, h4, h5, fun e => by cases e⟩
/-- A pair of it. -/
theorem Row4.at_ (h : Row4 w base v ps) {i : Nat} (hi : i < ps.length) : ∃ g c, v = .slice (some ⟨g, 0, none⟩) ps.length c ∧ base ≤ g ∧ g < w.heap.size ∧
    w.cell? ⟨g, i * 4, none⟩ = some (.int .u32 (ps.getD i default).ip) ∧ w.cell? ⟨g, i * 4 + 1, none⟩ = some (.int .u16 (ps.getD i default).port) ∧
    w.cell? ⟨g, i * 4 + 2, none⟩ = some (.int .i64 (ps.getD i default).last) ∧ w.cell? ⟨g, i * 4 + 3, none⟩ = some (.bool (ps.getD i default).nom) ∧
    w.frozen? ⟨g, i * 4 + 2, none⟩ = false ∧ w.frozen? ⟨g, i * 4 + 3, none⟩ = false := by
  rcases h.2 with ⟨rfl, h0⟩ | ⟨g, cap, cur, rfl, h2, h3, h4⟩
  · omega
  · obtain ⟨c0, c1, c2, c3⟩ := pcells_at ps i hi
    have hc : ∀ j, j < 4 → w.cell? ⟨g, i * 4 + j, none⟩ = (pcells ps)[i * 4 + j]? := fun j hj => World.ownsRow.cellAt h (i * 4 + j) (by omega)
    exact ⟨g, cap, rfl, h2, (Array.getElem?_eq_some_iff.1 h3).1, (hc 0 (by omega)).trans c0, (hc 1 (by omega)).trans c1, (hc 2 (by omega)).trans c2, (hc 3 (by omega)).trans c3, World.ownsRow.frozenAt h _, World.ownsRow.frozenAt h _⟩
theorem Row4.put2 {g c : Nat} (h : Row4 w base (.slice (some ⟨g, 0, none⟩) ps.length c) ps) {i : Nat} (hi : i < ps.length) (x : Int) :
    Row4 (w.setCell ⟨g, i * 4 + 2, none⟩ (.int .i64 x)) base (.slice (some ⟨g, 0, none⟩) ps.length c) (ps.set i { ps.getD i default with last := x }) := by
  have := World.ownsRow.stored h (i * 4 + 2) (.int .i64 x)
  rw [pcells_set2 ps i hi] at this
  unfold Row4
  rw [List.length_set]
  exact this.1
theorem Row4.put3 {g c : Nat} (h : Row4 w base (.slice (some ⟨g, 0, none⟩) ps.length c) ps) {i : Nat} (hi : i < ps.length) (x : Bool) :
    Row4 (w.setCell ⟨g, i * 4 + 3, none⟩ (.bool x)) base (.slice (some ⟨g, 0, none⟩) ps.length c) (ps.set i { ps.getD i default with nom := x }) := by
  have := World.ownsRow.stored h (i * 4 + 3) (.bool x)
  rw [pcells_set3 ps i hi] at this
  unfold Row4
  rw [List.length_set]
  exact this.1
end

/-- An agent. -/
structure Ag where
  nm : ByteArray
  pw : ByteArray
  ps : List Pr
  clk : Int
def agc (s : Ag) (v : Value) : Array Value := #[.string s.nm, .string s.pw, v, .int .i64 s.clk]
/-- The agent s lies in block ga; v is the slice of its pairs. -/
structure AgV (w : World) (base ga : Nat) (v : Value) (s : Ag) : Prop where
  box : Whole w ga 55 (agc s v)
  row : Row4 w base v s.ps
  low : base ≤ ga
  few : s.ps.length ≤ 4
  c0 : 0 ≤ s.clk
  c1 : s.clk < 9223372036854775808
  last : ∀ p ∈ s.ps, 0 ≤ p.last ∧ p.last ≤ s.clk
  ns : s.nm.size ≤ 140737488351232
  ws : s.pw.size ≤ 140737488351232
section
variable {w w' : World} {base ga : Nat} {v : Value} {s : Ag}
theorem AgV.keep (h : AgV w base ga v s) (h1 : ∀ g t cs, (g = ga ∨ v.ownBlock = some g) → Whole w g t cs → Whole w' g t cs) : AgV w' base ga v s :=
  ⟨h1 _ _ _ (.inl rfl) h.box, h.row.keep fun g cs hg hw => h1 _ _ _ (.inr hg) hw, h.low, h.few, h.c0, h.c1, h.last, h.ns, h.ws⟩
theorem AgV.under (h : AgV w base ga v s) (hb : Below w.heap.size w w') : AgV w' base ga v s := h.keep fun _ _ _ _ hw => hw.under hb
/-- The blocks of an agent. -/
def Mine (ga : Nat) (v : Value) (k : Nat) : Prop := k = ga ∨ v.ownBlock = some k
end

/-- A block of another type is none of an agent's. -/
theorem AgV.not_mine {w : World} {base ga : Nat} {v : Value} {s : Ag} (h : AgV w base ga v s) {g : Nat} {t : TypeId} {cs : Array Value} (hg : Whole w g t cs) (h1 : 55 ≠ t) (h2 : 63 ≠ t) : ¬ Mine ga v g := by
  rintro (rfl | e)
  · exact h.box.ne hg h1 rfl
  · exact h.row.far hg h2 e
theorem AgV.mine_low {w : World} {base ga : Nat} {v : Value} {s : Ag} (h : AgV w base ga v s) {k : Nat} (hk : Mine ga v k) : base ≤ k := by
  rcases hk with rfl | e
  · exact h.low
  · exact (h.row.lt e).1
/-- Where the pairs lie behind a step. -/
def Moved (w : World) (v v' : Value) : Prop := v'.ownBlock = v.ownBlock ∨ ∃ k, v'.ownBlock = some k ∧ w.heap.size ≤ k
/-- A step of an agent: of what was there only its own blocks may have turned. -/
structure Stepped (ga : Nat) (v v' : Value) (w w' : World) : Prop where
  only : Only (Mine ga v) w w'
  moved : Moved w v v'
theorem Moved.mine {w : World} {v v' : Value} {ga k : Nat} (h : Moved w v v') (hk : Mine ga v' k) : Mine ga v k ∨ w.heap.size ≤ k := by
  rcases hk with rfl | e
  · exact .inl (.inl rfl)
  · rcases h with h | ⟨j, h1, h2⟩
    · exact .inl (.inr (by rw [← h]; exact e))
    · rw [h1] at e
      cases e
      exact .inr h2
theorem Stepped.trans {ga : Nat} {v v' v2 : Value} {w w' w2 : World} (h : Stepped ga v v' w w') (k : Stepped ga v' v2 w' w2) : Stepped ga v v2 w w2 :=
  ⟨h.only.next k.only fun j hj => h.moved.mine hj, by
    rcases k.moved with e | ⟨j, h1, h2⟩
    · unfold Moved
      rw [e]
      exact h.moved
    · exact .inr ⟨j, h1, Nat.le_trans h.only.size h2⟩⟩
theorem Stepped.under {ga : Nat} {v v' : Value} {w w' w2 : World} (h : Stepped ga v v' w w') (hb : Below w'.heap.size w' w2) : Stepped ga v v' w w2 := ⟨h.only.under hb, h.moved⟩
theorem Stepped.quiet {w w' : World} (hb : Below w.heap.size w w') (ga : Nat) (v : Value) : Stepped ga v v w w' := ⟨(Only.refl _ w).under hb, .inl rfl⟩
theorem Try.sizePair : (Try.prog.info? 63).map (·.size) = some 4 := by kernel_rfl
theorem Try.sizeAgent : (Try.prog.info? 55).map (·.size) = some 4 := by kernel_rfl
theorem Try.infoPair : (Try.prog.info? 63).map (fun i => (i.zero, i.size, i.bytes)) = some (some (.agg #[.int .u32 0, .int .u16 0, .int .i64 0, .bool false]), 4, 24) := by kernel_rfl
/-- The nominated pair. -/
def nomP (ps : List Pr) : Option Pr := ps.find? (·.nom)
theorem nom_at : ∀ (L : List Pr) (i : Nat), (∀ j, j < i → (L.getD j default).nom = false) → i < L.length → (L.getD i default).nom = true → nomP L = some (L.getD i default) := by
  intro L
  induction L with
  | nil => intro i _ hi; simp at hi
  | cons a r ih =>
    intro i hb hi he
    cases i with
    | zero =>
      have he' : a.nom = true := by simpa using he
      simp [nomP, he']
    | succ i =>
      have h0 : a.nom = false := by simpa using hb 0 (by omega)
      have := ih i (fun j hj => by simpa using hb (j + 1) (by omega)) (by simpa using hi) (by simpa using he)
      simpa [nomP, h0] using this
theorem nom_none : ∀ (L : List Pr), (∀ j, j < L.length → (L.getD j default).nom = false) → nomP L = none := by
  intro L
  induction L with
  | nil => intro _; rfl
  | cons a r ih =>
    intro hb
    have h0 : a.nom = false := by simpa using hb 0 (by simp)
    have := ih (fun j hj => by simpa using hb (j + 1) (by simpa using hj))
    simpa [nomP, h0] using this
end Go.Proofs.Yteloaidnfcmadaa
