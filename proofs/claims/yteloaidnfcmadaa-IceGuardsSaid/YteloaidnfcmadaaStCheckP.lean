/- What a Check answers; bytes.Equal; a message's first attributes. -/
import Derived.Test.YteloaidnfcmadaaStSign
namespace Go.Proofs.Yteloaidnfcmadaa
open Go.RowKit
set_option linter.unusedVariables false

/-- What a Check answers of the bytes xs under a key. -/
def CheckV (w' : World) (xs ks : List Int) (M : Array Value) (x : Int) : Prop :=
  (∃ m A c, Is xs m ∧ SignedBy m ks ∧ x = 0 ∧ MsgV w' w'.heap.size M m A c) ∨ (IsNone xs ∧ x = 2 ∧ M = zM) ∨ ((∃ m, Is xs m ∧ ¬ SignedBy m ks) ∧ x = 4 ∧ M = zM)
theorem strs_same {a b : ByteArray} (h : a = b) : (a.toList == b.toList) = true := by rw [h]; exact beq_self_eq_true _
theorem strOfNums_eq {a b : List Int} (ha : In256 a) (hb : In256 b) (h : strOfNums a = strOfNums b) : a = b := by
  have h1 : (a.map fun n => UInt8.ofNat n.toNat) = b.map fun n => UInt8.ofNat n.toNat := by rw [← strOfNums_data, ← strOfNums_data, h]
  have hl : a.length = b.length := by have := congrArg List.length h1; simpa using this
  apply List.ext_getElem hl
  intro i hi hj
  have h2 : (a.map fun n => UInt8.ofNat n.toNat)[i]'(by simpa using hi) = (b.map fun n => UInt8.ofNat n.toNat)[i]'(by simpa using hj) := by simp only [h1]
  rw [List.getElem_map, List.getElem_map] at h2
  have a1 := ha i
  have b1 := hb i
  simp only [List.getD, List.getElem?_eq_getElem hi, List.getElem?_eq_getElem hj, Option.getD_some] at a1 b1
  have h3 := congrArg UInt8.toNat h2
  simp only [UInt8.toNat_ofNat'] at h3
  omega
set_option maxHeartbeats 800000 in
theorem bEqual_any (va vb : Value) (xs ys : List Int) (B : Nat) (w : World) (ha : V8 w B va xs) (hb : V8 w B vb ys) (hx : In256 xs) (hy : In256 ys) :
    Calls Try.prog 64 #[va, vb] w fun e w' => e = .returned (.bool (decide (xs = ys))) ∧ w = w' := by
  obtain ⟨A, c, rfl, -, -, hn, hbs⟩ := ha
  obtain ⟨A', c', rfl, -, -, hn', hbs'⟩ := hb
  have c1 := conv_text hbs hn
  have c2 := conv_text hbs' hn'
  obtain ⟨n, hnl⟩ : ∃ x, xs.length = x := ⟨_, rfl⟩
  obtain ⟨n', hnl'⟩ : ∃ x, ys.length = x := ⟨_, rfl⟩
  rw [hnl] at c1 ⊢
  rw [hnl'] at c2 ⊢
  by_cases he : xs = ys
  · subst he
    have HD : Hid (decide (xs = xs) = true) := Lib.hid (decide_eq_true rfl)
    obtain ⟨s, hs⟩ : ∃ s, strOfNums xs = s := ⟨_, rfl⟩
    rw [hs] at c1 c2
    rw [HD.out]
    clear hs hbs hbs' hnl hnl' hn hn'
    go_enter Try.func64, Try.ntmps64
    go_wp2
    go_ret
    exact ⟨rfl, rfl⟩
  · have HD : Hid (decide (xs = ys) = false) := Lib.hid (decide_eq_false he)
    have hne : ¬ strOfNums xs = strOfNums ys := fun e => he (strOfNums_eq hx hy e)
    obtain ⟨s, hs⟩ : ∃ s, strOfNums xs = s := ⟨_, rfl⟩
    obtain ⟨s', hs'⟩ : ∃ s, strOfNums ys = s := ⟨_, rfl⟩
    rw [hs] at c1 hne
    rw [hs'] at c2 hne
    rw [HD.out]
    have hne3 : (s.toList == s'.toList) = false := by
      rw [beq_eq_false_iff_ne, ByteArray.toList_eq, ByteArray.toList_eq]
      intro e
      exact hne (ByteArray.ext (Array.toList_inj.1 e))
    clear hs hs' hbs hbs' hnl hnl' hn hn' he
    go_enter Try.func64, Try.ntmps64
    go_wp2
    go_ret
    exact ⟨rfl, rfl⟩
theorem Ats.take {w : World} {B : Nat} {A : Option Addr} {L : List At} (h : Ats w B A L) (k : Nat) : Ats w B A (L.take k) := fun hn => by
  have hp : 0 < L.length := by rw [List.length_take] at hn; omega
  obtain ⟨ad, h1, h2, h3⟩ := h hp
  refine ⟨ad, h1, h2, fun i hi => ?_⟩
  rw [List.length_take] at hi
  have e : (L.take k).getD i default = L.getD i default := by simp [List.getD, show i < k by omega]
  rw [e]
  exact h3 i (by omega)
/-- The message without its last two attributes, in a box of its own. -/
theorem bare_box {X X' : World} {g g' c : Nat} {t : TypeId} {A : Option Addr} {M : Array Value} {m : Msg} (ht : t ≠ 5) (hm : MsgV X g M m A c) (hb : Below g X X') (hg : g ≤ g') (hw : Whole X' g' t M) (k : Nat) (hk : k = m.at_.length - 2) :
    Whole (X'.setCell ⟨g', 14, none⟩ (.slice A k c)) g' t (mv m.cl m.me m.id (.slice A k c)) ∧ MsgV (X'.setCell ⟨g', 14, none⟩ (.slice A k c)) (X'.setCell ⟨g', 14, none⟩ (.slice A k c)).heap.size (mv m.cl m.me m.id (.slice A k c)) (bare m) A c ∧ Below g' X' (X'.setCell ⟨g', 14, none⟩ (.slice A k c)) := by
  have h14 := hw.set 14 (.slice A k c)
  rw [hm.form, mv_set _ _ _ _ _ hm.id12] at h14
  have hb' : Below g' X' (X'.setCell ⟨g', 14, none⟩ (.slice A k c)) := (Below.refl g' X').setCell (p := ⟨g', 14, none⟩) (Nat.le_refl _) _
  have hlt := hw.lt
  have hse : (X'.setCell ⟨g', 14, none⟩ (.slice A k c)).heap.size = X'.heap.size := by simp [World.setCell]
  have hkl : (m.at_.take (m.at_.length - 2)).length = k := by rw [List.length_take]; omega
  refine ⟨h14, ⟨?_, hm.id12, by show (m.at_.take (m.at_.length - 2)).length ≤ c; rw [hkl]; have := hm.fits; omega, hm.most, hm.nil, ?_⟩, hb'⟩
  · show _ = mv m.cl m.me m.id (.slice A (m.at_.take (m.at_.length - 2)).length c)
    rw [hkl]
  · exact (((hm.ats.below hb).below (hb'.mono hg)).more (by rw [hse]; omega)).take _
theorem cutA {T e : TypeId} (hT : Try.prog.underlying T = some (.slice e)) (hz : ∀ w, (sizeOf e).run Try.prog w = .ok 2 w) {A : Option Addr} {n c k : Nat} {x : Int} (hx : x = k) (h : k ≤ c) (hA : A = none → c = 0) (w : World) :
    (Instr.slice T (.slice A n c) none (some (.int .i64 x)) none).run Try.prog w = .ok (.slice A k c) w := by
  subst hx
  have ht' : Try.prog.underlying T = some (.slice (Try.prog.elem T)) := by simp [Program.elem, hT]
  have he : Try.prog.elem T = e := by simp [Program.elem, hT]
  rw [run_slice_h w T _ _ _ ht' .i64 _ (by omega) (by omega), he, hz]
  by_cases h0 : c = 0
  · subst h0
    obtain rfl : k = 0 := by omega
    simp [Result.andThen, sliced]
  · cases A with
    | none => exact absurd (hA rfl) h0
    | some ad => simp [Result.andThen, sliced, Addr.add]
end Go.Proofs.Yteloaidnfcmadaa
