import Derived.Test.YtbbedhecfipdjaaGreatDoorPkDescPrintsA02
import Derived.WalkMore
namespace Go.Proofs.YtbbedhecfipdjaaGreatDoor
open Go.RowKit
set_option linter.unusedVariables false
set_option linter.unusedSimpArgs false
abbrev TS : Ty3 := ⟨113, 38, 53⟩
theorem TS.ok : TS.Ok := by unfold Ty3.Ok; decide
theorem Tryz.infoSPart : (Tryz.prog.info? 38).map (fun i => (i.zero, i.size, i.bytes)) = some (some (.agg #[.string ⟨#[]⟩, .string ⟨#[]⟩, .slice none 0 0]), 3, 56) := by kernel_rfl
def zSes : Array Value := #[.string ⟨#[]⟩, .string ⟨#[]⟩, .string ⟨#[]⟩, .slice none 0 0, .slice none 0 0]
def SesS.none : SesS := ⟨bs [], bs [], bs [], [], []⟩
theorem zSes_v (w : World) (B : Nat) : SesV w B zSes SesS.none (.slice .none 0 0) (.slice .none 0 0) := ⟨rfl, AttrsV.nil _ _, PartsV.nil _ _⟩
def ResO (l : Tx) (x : SesS) (k : Nat) (er : Int) : Prop := (er = 0 ∧ k = 0 ∧ Parsed l (.ok x)) ∨ ((er = 2 ∨ er = 3) ∧ x = SesS.none ∧ Parsed l (.err k er))
def ParseO (w : World) (l : Tx) (e : Ending) (w' : World) : Prop := ∃ (M : Array Value) (x : SesS) (vA vP : Value) (k : Nat) (er : Int), e = .returned (.tuple #[.agg M, .int .i64 k, .int .i64 er]) ∧ SesV w' w'.heap.size M x vA vP ∧ ResO l x k er ∧ Below w.heap.size w w'
structure PK (T : Ty3) (w : World) (N : Nat) (l : Tx) (st : PSt) (k : Nat) (rest : ByteArray) (q : Addr) (pp cur vA vP : Value) (us : List Value) (wr : World) : Prop where
 pv : PV T N (N + 1) st q pp cur vA vP us wr
 k1 : 1 ≤ k
 fits : k + rest.size ≤ 8193
 runs : ∀ r, Runs st k (tx rest) r → Runs PSt.init 1 l r
 ok : st.Ok k
 res : Whole wr N T.s zSes
 below : Below N w wr
def PL (T : Ty3) (w : World) (N : Nat) (l : Tx) (s6 s7 s8 s9 s10 : Value) (wr : World) : Prop :=
 ∃ (st : PSt) (k : Nat) (rest : ByteArray) (q : Addr) (cur vA vP : Value) (us : List Value), s7 = .pointer (some q) ∧ s8 = .int .i64 k ∧ s9 = .int .i64 0 ∧ s10 = .string rest ∧ PK T w N l st k rest q s6 cur vA vP us wr
theorem PL.start {T : Ty3} {w w1 w2 : World} {N : Nat} {s : ByteArray} (hs : s.size ≤ 8192) (h0 : Whole w1 N T.s zSes) (h1 : Whole w1 (N + 1) T.s zSes) (hb : Below N w w1) (h2 : Below w1.heap.size w1 w2) :
 PL T w N (tx s) (.pointer none) (.pointer (some ⟨N + 1, 3, none⟩)) (.int .i64 1) (.int .i64 0) (.string s) w2 :=
 ⟨PSt.init, 1, s, _, _, _, _, _, rfl, rfl, rfl, rfl, (PV.start (Nat.le_succ N) h1).under h2, Nat.le_refl _, by omega, fun r h => h, PSt.Ok.start, h0.under h2, hb.trans (h2.mono (by have := h0.lt; omega))⟩
theorem PK.all {T : Ty3} (hT : T.Ok) {w : World} {N : Nat} {l : Tx} {st : PSt} {k : Nat} {rest : ByteArray} {q : Addr} {pp cur vA vP : Value} {us : List Value} {wr : World} (h : PK T w N l st k rest q pp cur vA vP us wr) (hN : w.heap.size = N) (hl : l.length ≤ 8192) (hk : 4 < k) (hr : rest.size = 0) :
 ParseO w l (.returned (.tuple #[.agg #[.string st.o, .string st.n, .string st.t, vA, vP], .int .i64 0, .int .i64 0])) (wr.setRow N #[.string st.o, .string st.n, .string st.t, vA, vP]) := by
 subst hN
 have hp := h.pv.res hT h.res (by omega) #[.string st.o, .string st.n, .string st.t, vA, vP]
 have he : tx rest = [] := List.eq_nil_of_length_eq_zero (by rw [tx_length]; exact hr)
 refine ⟨_, st.ses, vA, vP, 0, 0, rfl, hp.sesV (Nat.le_refl _), .inl ⟨rfl, rfl, .inr ⟨hl, h.runs _ ?_⟩⟩, below_row h.below (Nat.le_refl _) _⟩
 rw [he]
 exact .done hk
theorem cut_sizes {rest a b : ByteArray} (h : cutS crlf (tx rest) = (tx a, tx b, true)) : b.size + 2 ≤ rest.size ∧ a.size ≤ rest.size := by
 have h1 := cutS_some crlf (tx rest) (by rw [h])
 rw [h] at h1
 have := congrArg List.length h1
 simp [tx_length] at this
 omega
theorem PK.head {T : Ty3} (hT : T.Ok) {w : World} {N : Nat} {l : Tx} {st : PSt} {k : Nat} {rest a b : ByteArray} {q : Addr} {pp cur vA vP : Value} {us : List Value} {wr w4 w5 : World} (h : PK T w N l st k rest q pp cur vA vP us wr) (h4 : Below wr.heap.size wr w4)
 (hc : cutS crlf (tx rest) = (tx a, tx b, true)) {o n t : ByteArray} (hs : stepP st k (tx a) = .go { st with o := o, n := n, t := t }) (hw : Whole w5 (N + 1) T.s #[.string o, .string n, .string t, vA, vP]) (ho : Only (· = N + 1) w4 w5) :
 PK T w N l { st with o := o, n := n, t := t } (k + 1) b q pp cur vA vP us w5 := by
 have hr4 := h.res.under h4
 refine ⟨(h.pv.under h4).head hT hw ho, by omega, ?_, fun r hr => h.runs r (.step hc hs hr), (stepP_ok h.k1 h.ok hs).1, hr4.only ho (by omega), ?_⟩
 · have := (cut_sizes hc).1
   have := h.fits
   omega
 · exact (h.below.trans (h4.mono (Nat.le_of_lt h.res.lt))).trans (ho.below (fun j e => by omega) (Nat.le_of_lt hr4.lt))
theorem step_body {st : PSt} {k : Nat} (hk : 4 < k) (l : Tx) : stepP st k l = bodyP st l := by
 unfold stepP
 rw [if_neg (by omega), if_neg (by omega), if_neg (by omega), if_neg (by omega)]
theorem step_m {st : PSt} {k : Nat} (hk : 4 < k) {l : Tx} (h : l.take 2 = [109, 61]) : (valP (l.drop 2) = false → stepP st k l = .bad 2) ∧ (valP (l.drop 2) = true → 8 ≤ st.parts.length → stepP st k l = .bad 3) ∧ (valP (l.drop 2) = true → ¬ 8 ≤ st.parts.length → stepP st k l = .go (st.part (l.drop 2))) := by
 rw [step_body hk]
 unfold bodyP
 rw [if_pos h]
 refine ⟨fun h1 => by simp [h1], fun h1 h2 => by simp [h1, h2], fun h1 h2 => ?_⟩
 rw [if_pos h1, if_neg h2]
theorem step_c {st : PSt} {k : Nat} (hk : 4 < k) {l : Tx} (h : l.take 2 = [99, 61]) : ((valP (l.drop 2) = false ∨ st.bare = false) → stepP st k l = .bad 2) ∧ (valP (l.drop 2) = true → st.bare = true → stepP st k l = .go (st.conn (l.drop 2))) := by
 rw [step_body hk]
 unfold bodyP
 rw [if_neg (by rw [h]; decide), if_pos h]
 refine ⟨fun h1 => ?_, fun h1 h2 => by simp [h1, h2]⟩
 rcases h1 with h1 | h1 <;> simp [h1]
theorem step_a {st : PSt} {k : Nat} (hk : 4 < k) {l : Tx} (h : l.take 2 = [97, 61]) : (attrP (l.drop 2) = none → stepP st k l = .bad 2) ∧ (∀ x, attrP (l.drop 2) = some x → 64 ≤ st.here.length → stepP st k l = .bad 3) ∧ (∀ x, attrP (l.drop 2) = some x → ¬ 64 ≤ st.here.length → stepP st k l = .go (st.push x)) := by
 rw [step_body hk]
 unfold bodyP
 rw [if_neg (by rw [h]; decide), if_neg (by rw [h]; decide), if_pos h]
 refine ⟨fun h1 => by simp [h1], fun x h1 h2 => by simp [h1, h2], fun x h1 h2 => ?_⟩
 rw [h1]
 simp only
 rw [if_neg h2]
theorem step_no {st : PSt} {k : Nat} (hk : 4 < k) {l : Tx} (h1 : l.take 2 ≠ [109, 61]) (h2 : l.take 2 ≠ [99, 61]) (h3 : l.take 2 ≠ [97, 61]) : stepP st k l = .bad 2 := by
 rw [step_body hk]
 unfold bodyP
 rw [if_neg h1, if_neg h2, if_neg h3]
theorem PK.next {T : Ty3} {w : World} {N : Nat} {l : Tx} {st st' : PSt} {k : Nat} {rest a b : ByteArray} {q q' : Addr} {pp pp' cur cur' vA vA' vP vP' : Value} {us us' : List Value} {wr w5 : World} (h : PK T w N l st k rest q pp cur vA vP us wr)
 (hc : cutS crlf (tx rest) = (tx a, tx b, true)) (hs : stepP st k (tx a) = .go st') (hp : PV T N (N + 1) st' q' pp' cur' vA' vP' us' w5) (hres : Whole w5 N T.s zSes) (hb : Below N w w5) : PK T w N l st' (k + 1) b q' pp' cur' vA' vP' us' w5 := by
 refine ⟨hp, by omega, ?_, fun r hr => h.runs r (.step hc hs hr), (stepP_ok h.k1 h.ok hs).1, hres, hb⟩
 have := (cut_sizes hc).1
 have := h.fits
 omega
theorem oneA {T : Ty3} {base g : Nat} {st : PSt} {q : Addr} {pp cur vA vP : Value} {us : List Value} {w : World} (h : PV T base g st q pp cur vA vP us w) : (#[Value.string st.o, .string st.n, .string st.t, vA, vP] : Array Value).toList.all (·.oneCell') = true := by
 have h1 : vP.oneCell' = true := h.par.one
 have h2 : vA.oneCell' = true := by
  cases hc : st.cur with
  | none => rw [(h.first hc).2.1]; exact h.now.one
  | some p => exact (h.oth (vA, st.attrs) (by unfold others; rw [hc]; simp)).1.one
 show ([Value.string st.o, .string st.n, .string st.t, vA, vP] : List Value).all (·.oneCell') = true
 simp only [List.all_cons, List.all_nil, h1, h2, Bool.and_true]
 rfl
end Go.Proofs.YtbbedhecfipdjaaGreatDoor
