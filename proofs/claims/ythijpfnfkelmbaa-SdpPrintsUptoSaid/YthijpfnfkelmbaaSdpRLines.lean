/- The document's lines and attr. -/
import Derived.Test.YthijpfnfkelmbaaSdpM
namespace Go.Proofs.Ythijpfnfkelmbaa
open Go.RowKit
set_option linter.unusedVariables false
set_option linter.unusedSimpArgs false

/-- A text's lines one by one, and what stands behind the last one's end. -/
inductive Cuts : Tx → List Tx → Tx → Prop
  | nil {l : Tx} (h : (cutS crlf l).2.2 = false) : Cuts l [] l
  | cons {l a b : Tx} {ls : List Tx} {rem : Tx} (h : cutS crlf l = (a, b, true)) (hr : Cuts b ls rem) : Cuts l (a :: ls) rem
theorem Cuts.len {l : Tx} {ls : List Tx} {rem : Tx} (h : Cuts l ls rem) : 2 * ls.length + rem.length ≤ l.length := by
  induction h with
  | nil => simp
  | @cons l a b ls rem h hr ih =>
    have h1 := cutS_some crlf l (by rw [h])
    rw [h] at h1
    have := congrArg List.length h1
    simp at this
    simp
    omega

/-- No line ends ahead of place i. -/
def NoEnd (l : Tx) (i : Nat) : Prop := ∀ j, j < i → (l.drop j).take 2 ≠ crlf
theorem cutS_at {l : Tx} {i : Nat} (h : NoEnd l i) (hi : (l.drop i).take 2 = crlf) : cutS crlf l = (l.take i, l.drop (i + 2), true) := by
  induction l generalizing i with
  | nil => simp at hi
  | cons c r ih =>
    cases i with
    | zero =>
      have hp : crlf.isPrefixOf (c :: r) = true := by
        rw [List.isPrefixOf_iff_prefix, List.prefix_iff_eq_take]
        exact hi.symm
      unfold cutS
      rw [if_pos hp]
      rfl
    | succ i =>
      have h0 := h 0 (by omega)
      have hp : ¬ crlf.isPrefixOf (c :: r) = true := fun e => h0 (by
        rw [List.isPrefixOf_iff_prefix, List.prefix_iff_eq_take] at e
        exact e.symm)
      have := ih (i := i) (fun j hj => h (j + 1) (by omega)) (by simpa using hi)
      unfold cutS
      rw [if_neg hp, this]
      simp [Nat.add_right_comm]
theorem cutS_not {l : Tx} {i : Nat} (h : NoEnd l i) (hi : l.length ≤ i + 1) : (cutS crlf l).2.2 = false := by
  induction l generalizing i with
  | nil => rfl
  | cons c r ih =>
    cases i with
    | zero =>
      have : r = [] := by simpa using hi
      subst this
      unfold cutS
      rw [if_neg (by intro e; simp [List.isPrefixOf] at e)]
      rfl
    | succ i =>
      have h0 := h 0 (by omega)
      have hp : ¬ crlf.isPrefixOf (c :: r) = true := fun e => h0 (by
        rw [List.isPrefixOf_iff_prefix, List.prefix_iff_eq_take] at e
        exact e.symm)
      have := ih (i := i) (fun j hj => h (j + 1) (by omega)) (by simp at hi; omega)
      unfold cutS
      rw [if_neg hp]
      exact this
theorem Try.infoStr : (Try.prog.info? 9).map (fun i => (i.zero, i.size, i.bytes)) = some (some (.string ⟨#[]⟩), 1, 16) := by kernel_rfl
def scell (s : ByteArray) : List Value := [.string s]

/-- While the lines are gone through. -/
def strLenR : Value → Nat
  | .string s => s.size
  | _ => 0
structure LK (w : World) (N : Nat) (l : Tx) (rest : ByteArray) (v : Value) (ss : List ByteArray) (wr : World) : Prop where
  row : Own wr N 9 1 v (ss.map scell)
  most : 2 * ss.length + rest.size ≤ l.length
  cuts : ∀ ls rem, Cuts (tx rest) ls rem → Cuts l (ss.map tx ++ ls) rem
  below : Below N w wr
theorem LK.next {w : World} {N : Nat} {l : Tx} {rest : ByteArray} {v v6 : Value} {ss : List ByteArray} {wo w6 : World} (h : LK w N l rest v ss wo) {k : Nat} (hk : k + 1 < rest.size) (hno : NoEnd (tx rest) k) (hq : ((tx rest).drop k).take 2 = crlf)
    (ho : Own w6 N 9 1 v6 (ss.map scell ++ [[.string (rest.extract 0 k)]])) (hg : (wo.alloc (.cells #[.string (rest.extract 0 k)] 9)).grownBy w6 v.ownBlock) (hN : N ≤ wo.heap.size) :
    LK w N l (rest.extract (k + 2) rest.size) v6 (ss ++ [rest.extract 0 k]) w6 := by
  have hx : tx (rest.extract 0 k) = (tx rest).take k := by rw [tx_extract]; simp
  have hr : tx (rest.extract (k + 2) rest.size) = (tx rest).drop (k + 2) := by
    rw [tx_extract, List.take_of_length_le]
    rw [List.length_drop, tx_length]
    omega
  refine ⟨by simpa [scell] using ho, ?_, fun ls rem hc => ?_, (h.below.alloc hN _).grown hg (by rw [World.size_alloc]; omega) (fun j hj => (h.row.lt hj).1)⟩
  · have := h.most
    have hl := congrArg List.length hr
    rw [tx_length, List.length_drop, tx_length] at hl
    rw [List.length_append, hl]
    simp
    omega
  · have := h.cuts (tx (rest.extract 0 k) :: ls) rem (.cons (by rw [hx]; exact cutS_at hno hq) (by rw [← hr]; exact hc))
    simpa using this
def LinesO (w : World) (l : Tx) (e : Ending) (w' : World) : Prop := ∃ (v : Value) (ss : List ByteArray) (rem : Tx) (b : Bool), e = .returned (.tuple #[v, .bool b]) ∧ Own w' w.heap.size 9 1 v (ss.map scell) ∧ Cuts l (ss.map tx) rem ∧ (b = true ↔ rem ≠ []) ∧ Below w.heap.size w w'
set_option maxHeartbeats 3200000 in
set_option maxRecDepth 100000 in
theorem lines_any (s : ByteArray) (w : World) (hs : s.size ≤ 8192) : Calls Try.prog 16 #[.string s] w (LinesO w (tx s)) := by
  obtain ⟨N, hN⟩ : ∃ N, w.heap.size = N := ⟨_, rfl⟩
  have HN := Lib.hid hN
  have H0 : Hid (LK w N (tx s) s (.slice none 0 0) [] w) := Lib.hid ⟨Own.nil _ _ _ _, by rw [tx_length]; simp, fun ls rem h => by simpa using h, Below.refl _ w⟩
  have HS := Lib.hid hs
  clear hN
  go_enter Try.func16, Try.ntmps16
  go_wp2
  go_loopw [0, 4] (fun s0 s4 wr => ∃ (rest : ByteArray) (ss : List ByteArray), s0 = .string rest ∧ LK w N (tx s) rest s4 ss wr) (fun s0 _ _ => strLenR s0)
  case atStart => exact ⟨s, [], rfl, H0.out⟩
  case round =>
    clear H0
    obtain ⟨rest, ss, rfl, hlk⟩ := hrel
    obtain ⟨Av, lv, cv, hvv⟩ : ∃ A l c, u4 = .slice A l c := by
      obtain ⟨A, c, h, -⟩ := hlk.row.form
      exact ⟨_, _, _, h⟩
    subst hvv
    have HL := Lib.hid hlk
    have hsz : rest.size ≤ 8192 := by have := hlk.most; rw [tx_length] at this; omega
    clear hlk
    obtain ⟨wo, rfl⟩ : ∃ wo : World, wo = wr := ⟨_, rfl⟩
    go_wp2
    go_loop [5] (fun i => ∃ k : Nat, k ≤ rest.size ∧ i = .int .i64 k ∧ NoEnd (tx rest) k) (fun i => rest.size - (intOf i).toNat)
    case atStart => exact ⟨0, Nat.zero_le _, rfl, fun j hj => by omega⟩
    case round =>
      obtain ⟨k, hk, rfl, hno⟩ := hrel
      have HNO := Lib.hid hno
      clear hno
      by_cases hlt : k + 1 < rest.size
      · have hlt' : (k : Int) + 1 < (rest.size : Int) := by omega
        have e1 : IntKind.i64.wrap ((k : Int) + 1) = (k : Int) + 1 := IntWalk.i64_in _ (by omega)
        have HX : Hid (tx (rest.extract k (k + 2)) = ((tx rest).drop k).take 2) := Lib.hid (by rw [tx_extract]; congr 1; omega)
        obtain ⟨bq, hbq⟩ : ∃ b, ((rest.extract k (k + 2)).toList == [13, 10]) = b := ⟨_, rfl⟩
        have HQ : Hid (((tx rest).drop k).take 2 = crlf ↔ bq = true) := Lib.hid (by rw [← hbq, toList_tx, HX.out, beq_iff_eq])
        cases bq with
        | false =>
          go_wp2
          go_round
          case rel =>
            refine ⟨k + 1, by omega, by go_num, fun j hj => ?_⟩
            by_cases e : j = k
            · subst e
              intro he
              have := HQ.out.1 he
              cases this
            · exact HNO.out j (by omega)
          case measure => simp [intOf]; omega
        | true =>
          have hNo : N ≤ wo.heap.size := by have := HL.out.below.size; rw [HN.out] at this; exact this
          have HNO2 : Hid (N ≤ wo.heap.size) := Lib.hid hNo
          have HA : Hid (Own (wo.alloc (.cells #[.string (rest.extract 0 k)] 9)) N 9 1 (.slice Av lv cv) (ss.map scell) ∧ Whole (wo.alloc (.cells #[.string (rest.extract 0 k)] 9)) wo.heap.size 9 #[.string (rest.extract 0 k)]) := Lib.hid ⟨HL.out.row.alloc _, Whole.new _ _ _⟩
          have HLN : Hid ((ss.map scell).length ≤ 8192) := Lib.hid (by have := HL.out.most; rw [tx_length] at this; rw [List.length_map]; have := HS.out; omega)
          have HLT := Lib.hid hlt
          have HSL : Hid (rest.size - (k + 2) < rest.size) := Lib.hid (by omega)
          have HRZ : Hid ((rest.extract (k + 2) rest.size).size = rest.size - (k + 2)) := Lib.hid (by simp)
          clear hNo hlt
          go_wp2_with (at_builtin; refine wpList_appendE (r := [.string (rest.extract 0 k)]) rfl (.tmp 29) (.tmp 33) rfl Try.underlying46 Try.infoStr rfl (Nat.zero_lt_succ _) rfl HA.out.1 rfl HA.out.2 rfl (fun u hu => by simp at hu; subst hu; rfl) (by have := HLN.out; omega) (by have := HLN.out; omega) (by rw [World.size_alloc]; have := HNO2.out; omega) ?_; intro v6 w6 ho6 hg6 hn6; have HNX := Lib.hid (HL.out.next HLT.out HNO.out (HQ.out.2 rfl) ho6 hg6 HNO2.out); clear ho6 hg6 hn6)
          go_roundw
          case rel => exact ⟨_, _, rfl, HNX.out⟩
          case measure => have := HSL.out; have := HRZ.out; simp only [strLenR]; omega
      · have hle : (rest.size : Int) ≤ (k : Int) + 1 := by omega
        have e1 : IntKind.i64.wrap ((k : Int) + 1) = (k : Int) + 1 := IntWalk.i64_in _ (by omega)
        have HF := Lib.hid (cutS_not HNO.out (by rw [tx_length]; omega))
        have HB : Hid ((!rest.toList.isEmpty) = true ↔ tx rest ≠ []) := Lib.hid (by rw [toList_tx]; cases tx rest <;> simp)
        have HC : Hid (Cuts (tx s) (ss.map tx) (tx rest)) := Lib.hid (by have := HL.out.cuts [] _ (.nil HF.out); simpa using this)
        go_wp2
        (try rw [Exit.noGoto_ret])
        go_ret2
        exact ⟨_, ss, tx rest, _, rfl, by rw [HN.out]; exact HL.out.row, HC.out, HB.out, by rw [HN.out]; exact HL.out.below⟩
end Go.Proofs.Ythijpfnfkelmbaa
