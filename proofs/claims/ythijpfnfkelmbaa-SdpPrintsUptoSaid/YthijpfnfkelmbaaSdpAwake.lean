/- awake says true; what the parsers answer, once the text is known. -/
import Derived.Test.YthijpfnfkelmbaaSdpCopyB
namespace Go.Proofs.Ythijpfnfkelmbaa
open Go.RowKit
set_option linter.unusedVariables false
set_option linter.unusedSimpArgs false

/-- A text that is the description x. -/
def OkO (w : World) (x : SesS) (e : Ending) (w' : World) : Prop := ∃ (A P : Option Addr) (ca cp : Nat), e = .returned (.tuple #[.agg #[.string x.origin, .string x.name, .string x.time, .slice A x.attrs.length ca, .slice P x.parts.length cp], .int .i64 0, .int .i64 0]) ∧
  AttrsV w' w'.heap.size (.slice A x.attrs.length ca) x.attrs ∧ PartsV w' w'.heap.size (.slice P x.parts.length cp) x.parts ∧ Below w.heap.size w w'
def ErrO (w : World) (k : Nat) (er : Int) (e : Ending) (w' : World) : Prop := ∃ (A P : Option Addr) (ca cp : Nat), e = .returned (.tuple #[.agg #[.string (bs []), .string (bs []), .string (bs []), .slice A 0 ca, .slice P 0 cp], .int .i64 k, .int .i64 er]) ∧
  AttrsV w' w'.heap.size (.slice A 0 ca) [] ∧ PartsV w' w'.heap.size (.slice P 0 cp) [] ∧ (er = 2 ∨ er = 3) ∧ Below w.heap.size w w'
theorem ParseO.ok {w w' : World} {l : Tx} {e : Ending} {x : SesS} (h : ParseO w l e w') (hx : Parsed l (.ok x)) : OkO w x e w' := by
  obtain ⟨M, y, vA, vP, k, er, rfl, ⟨rfl, hA, hP⟩, hr, hb⟩ := h
  rcases hr with ⟨rfl, rfl, hy⟩ | ⟨_, _, hy⟩
  · have e := hx.one hy
    injection e with e
    subst e
    obtain ⟨A, ca, rfl, -⟩ := hA.form
    obtain ⟨P, cp, rfl, -⟩ := hP.form
    exact ⟨A, P, ca, cp, rfl, hA, hP, hb⟩
  · have e := hx.one hy
    cases e
theorem ParseO.err {w w' : World} {l : Tx} {e : Ending} {k : Nat} {er : Int} (h : ParseO w l e w') (hx : Parsed l (.err k er)) : ErrO w k er e w' := by
  obtain ⟨M, y, vA, vP, k', er', rfl, ⟨rfl, hA, hP⟩, hr, hb⟩ := h
  rcases hr with ⟨rfl, rfl, hy⟩ | ⟨he, rfl, hy⟩
  · have e := hx.one hy
    cases e
  · have e := hx.one hy
    injection e with e1 e2
    subst e1 e2
    obtain ⟨A, ca, rfl, -⟩ := hA.form
    obtain ⟨P, cp, rfl, -⟩ := hP.form
    exact ⟨A, P, ca, cp, rfl, hA, hP, he, hb⟩

def awakeX : SesS := ⟨bs [120], bs [45], bs [48, 32, 48], [⟨bs [98], bs [99]⟩], [⟨bs [100], bs [], []⟩]⟩
abbrev awakeT : ByteArray := ⟨#[118, 61, 48, 13, 10, 111, 61, 120, 13, 10, 115, 61, 45, 13, 10, 116, 61, 48, 32, 48, 13, 10, 97, 61, 98, 58, 99, 13, 10, 109, 61, 100, 13, 10]⟩
theorem awake_parsed : Parsed (tx awakeT) (.ok awakeX) := by
  have h1 : okS awakeX = true := by decide
  have h2 : textS awakeX = tx awakeT := by decide
  rw [← h2]
  exact parsed_print h1 (by rw [h2]; decide)
def AwO (w : World) (e : Ending) (w' : World) : Prop := ∃ (aA : Addr) (P : Option Addr) (ca cp : Nat), e = .returned (.tuple #[.agg #[.string ⟨#[120]⟩, .string ⟨#[45]⟩, .string ⟨#[48, 32, 48]⟩, .slice (some aA) 1 ca, .slice P 1 cp], .int .i64 0, .int .i64 0]) ∧ aA.block < w'.heap.size ∧
  w'.cell? ⟨aA.block, aA.off + 1, none⟩ = some (.string ⟨#[99]⟩) ∧ 1 ≤ ca ∧ Below w.heap.size w w'
theorem OkO.aw {w w' : World} {e : Ending} (h : OkO w awakeX e w') : AwO w e w' := by
  obtain ⟨A, P, ca, cp, rfl, hA, hP, hb⟩ := h
  obtain ⟨aA, c1, e1, b1, x0, x1⟩ := hA.at_ (i := 0) (by decide)
  have e0 : aA.add (0 * 2) = aA := by rw [Nat.zero_mul]; rfl
  rw [e0] at x1
  obtain ⟨_, _, e2, hc, _⟩ := hA.form
  injection e1 with e1
  injection e2 with _ _ e2
  subst e1 e2
  exact ⟨aA, P, ca, cp, rfl, b1, x1, hc, hb⟩
set_option maxHeartbeats 1600000 in
theorem awake_any (w : World) (h : MaxL w) : Calls Try.prog 8 #[] w fun e w' => e = .returned (.bool true) ∧ Below w.heap.size w w' := by
  have HP : Hid (Calls Try.prog 10 #[.string awakeT] w (AwO w)) := Lib.hid ((parse_any awakeT w h (by decide)).mono fun e w' he => (he.ok awake_parsed).aw)
  clear h
  obtain ⟨B, hB⟩ : ∃ B, w.heap.size = B := ⟨_, rfl⟩
  have HB := Lib.hid hB
  clear hB
  go_enter Try.func8, Try.ntmps8
  go_upto_region 2 with (first
    | (go_at_call 10; (with_reducible refine HP.out.mono ?_); rintro e w5 ⟨aA, P, ca, cp, rfl, b1, x1, hca, hb5⟩; have HW5 : Hid (Whole (w5.alloc (.cells #[.string ⟨#[]⟩, .string ⟨#[]⟩, .string ⟨#[]⟩, .slice none 0 0, .slice none 0 0] 33)) w5.heap.size 33 #[.string ⟨#[]⟩, .string ⟨#[]⟩, .string ⟨#[]⟩, .slice none 0 0, .slice none 0 0]) := Lib.hid (Whole.new _ _ _); have HX : Hid (aA.block < w5.heap.size ∧ w5.cell? ⟨aA.block, aA.off + 1, none⟩ = some (.string ⟨#[99]⟩) ∧ 1 ≤ ca ∧ Below B w w5) := Lib.hid ⟨b1, x1, hca, by rw [← HB.out]; exact hb5⟩; clear x1 hb5 b1 hca)
    | ((with_reducible refine wpList_storeS #[.string ⟨#[120]⟩, .string ⟨#[45]⟩, .string ⟨#[48, 32, 48]⟩, .slice (some aA) 1 ca, .slice P 1 cp] ?_ 33 (.tmp 1) (.tmp 6) ?_ ?_ ?_ HW5.out Try.sizeSSes ?_ ?_ ?_ ?_); (with_reducible rfl); (with_reducible rfl); rfl; rfl; rfl; rfl; rfl))
  have hr := HW5.out.row #[.string ⟨#[120]⟩, .string ⟨#[45]⟩, .string ⟨#[48, 32, 48]⟩, .slice (some aA) 1 ca, .slice P 1 cp]
  have hB5 : B ≤ w5.heap.size := by have := HX.out.2.2.2.size; rw [HB.out] at this; exact this
  have hbl : Below B w ((w5.alloc (.cells #[.string ⟨#[]⟩, .string ⟨#[]⟩, .string ⟨#[]⟩, .slice none 0 0, .slice none 0 0] 33)).setRow w5.heap.size #[.string ⟨#[120]⟩, .string ⟨#[45]⟩, .string ⟨#[48, 32, 48]⟩, .slice (some aA) 1 ca, .slice P 1 cp]) := below_row (HX.out.2.2.2.alloc hB5 _) hB5 _
  have x1 : ((w5.alloc (.cells #[.string ⟨#[]⟩, .string ⟨#[]⟩, .string ⟨#[]⟩, .slice none 0 0, .slice none 0 0] 33)).setRow w5.heap.size #[.string ⟨#[120]⟩, .string ⟨#[45]⟩, .string ⟨#[48, 32, 48]⟩, .slice (some aA) 1 ca, .slice P 1 cp]).cell? ⟨aA.block, aA.off + 1, none⟩ = some (.string ⟨#[99]⟩) :=
    ((below_row ((Below.refl w5.heap.size w5).alloc (Nat.le_refl _) _) (Nat.le_refl _) _).cell (p := ⟨aA.block, aA.off + 1, none⟩) HX.out.1).trans HX.out.2.1
  have h1ca := HX.out.2.2.1
  generalize ((w5.alloc (.cells #[.string ⟨#[]⟩, .string ⟨#[]⟩, .string ⟨#[]⟩, .slice none 0 0, .slice none 0 0] 33)).setRow w5.heap.size #[.string ⟨#[120]⟩, .string ⟨#[45]⟩, .string ⟨#[48, 32, 48]⟩, .slice (some aA) 1 ca, .slice P 1 cp]) = W at *
  generalize w5.heap.size = g at *
  have c0 := hr.cell 0
  have c3 := hr.cell 3
  have c4 := hr.cell 4
  simp only [List.getElem?_toArray, List.getElem?_cons_zero, List.getElem?_cons_succ] at c0 c3 c4
  have HF := Lib.hid hbl
  clear hr hbl hB5
  go_wp2
  go_ret
  exact ⟨rfl, by rw [HB.out]; exact HF.out⟩
end Go.Proofs.Ythijpfnfkelmbaa
