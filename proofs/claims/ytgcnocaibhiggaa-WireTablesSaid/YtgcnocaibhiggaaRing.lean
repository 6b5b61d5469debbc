/- What the calls of a ring of int32 do. -/
import Derived.Test.YtgcnocaibhiggaaOwn
import Derived.Test.YtgcnocaibhiggaaReader
import Derived.RegionTactic
import Derived.ChangeAlike
import Derived.BigRegion
import Derived.Deep.QuietTactic
import Derived.BigQuiet
import Derived.Deep.DeepMust
namespace Go.Proofs.Ytgcnocaibhiggaa
open Go.RowKit
set_option linter.unusedVariables false

theorem Try.infoInt32 : (Try.prog.info? 21).map (fun i => (i.zero, i.size, i.bytes)) = some (some (.int .i32 0), 1, 4) := by kernel_rfl

def i32s (xs : List Int) : List Value := xs.map (Value.int .i32)
@[simp] theorem i32s_length (xs : List Int) : (i32s xs).length = xs.length := by simp [i32s]

/-- Block b is a ring of most things, which holds xs in v from its block's beginning on, the oldest at k. -/
def Ring (w : World) (b : Nat) (most : Int) (v : Value) (k : Nat) (xs : List Int) (ob : Option Nat) : Prop :=
  Whole w b 78 #[.int .i64 most, v, .int .i64 k] ∧ Sl w 21 v (i32s xs) ob

/-- What a call on that ring may turn. -/
def RingS (b : Nat) (ob : Option Nat) : Nat → Prop := fun j => j = b ∨ ob = some j

set_option maxHeartbeats 800000 in
theorem newRing_any (most : Int) (w : World) : Calls Try.prog 15 #[.int .i64 most] w fun e w' => e = .returned (.pointer (some ⟨w.heap.size, 0, none⟩)) ∧ Ring w' w.heap.size most (.slice none 0 0) 0 [] none ∧ Below w.heap.size w w' ∧ w'.heap.size = w.heap.size + 1 := by
  go_enter Try.func15, Try.ntmps15
  go_wp2
  go_ret
  exact ⟨rfl, ⟨Whole.new _ _ _, Sl.nil _ _⟩, (Below.refl _ _).alloc (Nat.le_refl _) _, by simp⟩

set_option maxHeartbeats 800000 in
theorem len_any (b : Nat) (most : Int) (v : Value) (k : Nat) (xs : List Int) (ob : Option Nat) (w : World) (h : Ring w b most v k xs ob) :
    Calls Try.prog 17 #[.pointer (some ⟨b, 0, none⟩)] w fun e w' => e = .returned (.int .i64 xs.length) ∧ w = w' := by
  obtain ⟨A, cap, rfl, _, _⟩ := h.2.form
  have h1 : w.cell? ⟨b, 1, none⟩ = some (.slice A xs.length cap) := by have := h.1.cell 1; simpa using this
  clear h
  go_enter Try.func17, Try.ntmps17
  go_wp2
  go_ret
  exact ⟨rfl, rfl⟩

theorem len_q (n : Nat) (b : Nat) (most : Int) (v : Value) (k : Nat) (xs : List Int) (ob : Option Nat) (w : World) (h : Ring w b most v k xs ob) (hn : xs.length = n) :
    Calls Try.prog 17 #[.pointer (some ⟨b, 0, none⟩)] w fun e w' => e = .returned (.int .i64 n) ∧ w' = w :=
  (len_any b most v k xs ob w h).mono fun e w' ⟨h1, h2⟩ => ⟨by rw [h1, hn], h2.symm⟩

set_option maxHeartbeats 1600000 in
set_option maxRecDepth 100000 in
theorem put_room (b : Nat) (most : Int) (v : Value) (k : Nat) (xs : List Int) (ob : Option Nat) (x : Int) (w : World) (h : Ring w b most v k xs ob) (hlt : (xs.length : Int) < max most 1) (hbig : xs.length ≤ 1000000) :
    Calls Try.prog 16 #[.pointer (some ⟨b, 0, none⟩), .int .i32 x] w fun e w' => e = .returned (.tuple #[.int .i32 0, .bool false]) ∧
      ∃ v' ob', Ring w' b most v' k (xs ++ [x]) ob' ∧ Only (RingS b ob) w w' ∧ (ob' = ob ∨ ∃ g, ob' = some g ∧ w.heap.size ≤ g) := by
  obtain ⟨i0, hi, hz0, hz1, hz2⟩ := info_parts Try.infoInt32
  obtain ⟨A, cap, rfl, hc1, hc2⟩ := h.2.form
  have h0 : w.cell? ⟨b, 0, none⟩ = some (.int .i64 most) := by have := h.1.cell 0; simpa using this
  have h1 : w.cell? ⟨b, 1, none⟩ = some (.slice A xs.length cap) := by have := h.1.cell 1; simpa using this
  rw [i32s_length] at hc1
  have hne := h.2.ne_whole h.1 (by decide)
  have hS0 : Sl w 21 (.slice A xs.length cap) (i32s xs) ob := by have := h.2; rwa [i32s_length] at this
  have HR := Lib.hid (And.intro h.1 hS0)
  have HN := Lib.hid hne
  clear h hne hS0
  rcases (by omega : (1 ≤ most ∧ (xs.length : Int) < most) ∨ (most < 1 ∧ xs.length < 1)) with ⟨hm, hl⟩ | ⟨hm, hl⟩
  all_goals
    clear hlt
    go_enter Try.func16, Try.ntmps16
    go_wp2
    go_region
    go_wp2_with (at_builtin; go_must (refine wpList_append_sl (v := .slice A xs.length cap) (xs := i32s xs) (ob := ob) rfl _ _ _ rfl i0 (.int .i32 0) 4 Try.underlying29 hi hz0 hz1 hz2 rfl rfl xs.length ?qn ?qs ⟨w.heap.size, 0, none⟩ 1 rfl (.int .i32 x) ?qx rfl ?qb1 ?qb2 ?_))
    case qn => exact i32s_length xs
    case qs => exact HR.out.2.alloc _
    case qx => exact (Whole.new w _ _).cell 0
    case qb1 => unfold maxLen; omega
    case qb2 => omega
    intro g off cap2 w1 hS hgr hat
    have hgr' := hgr
    have hO1 : Only (RingS b ob) w w1 := (((Only.refl (RingS b ob) w).alloc _).drew).grown hgr (fun k hk => .inl (.inr hk))
    have hW1 : Whole w1 b 78 _ := Whole.grown (w := (w.alloc _).drew) (HR.out.1.alloc _) hgr (fun e => HN.out e.symm)
    have e1 := hW1.cell 1
    have f1 := hW1.frz 1
    simp at e1
    have HX := Lib.hid (And.intro hS (And.intro hW1 hO1))
    clear hS hW1 hO1 hgr hgr'
    go_wp2
    go_ret2
    obtain ⟨hS, hW1, hO1⟩ := HX.out
    have hgb : b ≠ g := by
      rintro rfl
      rcases hat with h | h
      · exact HN.out h
      · have := HR.out.1.lt
        omega
    refine ⟨rfl, _, some g, ⟨hW1.set 1 _, ?_⟩, hO1.setCell (.inl (.inl rfl)) _, ?_⟩
    · have := hS.far (p := ⟨b, 1, none⟩) (by simpa using Ne.symm hgb) (.slice (some ⟨g, off, none⟩) (xs.length + 1) cap2)
      simpa [i32s] using this
    · rcases hat with h | h
      · exact .inl h.symm
      · exact .inr ⟨g, rfl, by omega⟩

set_option maxHeartbeats 1600000 in
set_option maxRecDepth 100000 in
theorem put_full (b : Nat) (most : Int) (v : Value) (k : Nat) (xs : List Int) (ob : Option Nat) (x : Int) (w : World) (h : Ring w b most v k xs ob) (hge : max most 1 ≤ (xs.length : Int)) (y : Int) (hy : xs[k]? = some y) (hbig : xs.length ≤ 1000000) :
    Calls Try.prog 16 #[.pointer (some ⟨b, 0, none⟩), .int .i32 x] w fun e w' => e = .returned (.tuple #[.int .i32 y, .bool true]) ∧
      Ring w' b most v ((k + 1) % xs.length) (xs.set k x) ob ∧ Only (RingS b ob) w w' := by
  have hk : k < xs.length := (List.getElem?_eq_some_iff.1 hy).1
  have hne := h.2.ne_whole h.1 (by decide)
  have hki : k < (i32s xs).length := by simpa using hk
  obtain ⟨g, off, cap, rfl, rfl, hlt, hcell, hfr⟩ := h.2.at_ hki
  obtain ⟨_, cap2, hv2, hc1, hc2⟩ := h.2.form
  have hcc : cap = cap2 := by injection hv2
  subst hcc
  clear hv2
  have hgb : ¬ g = b := fun e => hne (by rw [e])
  have hbg : ¬ b = g := fun e => hgb e.symm
  have h0 : w.cell? ⟨b, 0, none⟩ = some (.int .i64 most) := by have := h.1.cell 0; simpa using this
  have h1 : w.cell? ⟨b, 1, none⟩ = some (.slice (some ⟨g, off, none⟩) xs.length cap) := by have := h.1.cell 1; simpa using this
  have h2 : w.cell? ⟨b, 2, none⟩ = some (.int .i64 k) := by have := h.1.cell 2; simpa using this
  have f2 := h.1.frz 2
  have hx : w.cell? ⟨g, off + k, none⟩ = some (.int .i32 y) := by
    rw [hcell]
    simp [i32s, hy]
  rw [i32s_length] at hc1
  have HR := Lib.hid h
  have HK := Lib.hid hki
  have hi : (k : Int) < (xs.length : Int) := by omega
  have hi0 : (0 : Int) ≤ (k : Int) := by omega
  clear h hne hcell hki hy
  rcases (by omega : (1 ≤ most ∧ most ≤ (xs.length : Int)) ∨ (most < 1 ∧ 1 ≤ xs.length)) with ⟨hm, hl⟩ | ⟨hm, hl⟩
  all_goals
    clear hge
    go_enter Try.func16, Try.ntmps16
    go_wp2
    go_region
    go_wp2
    go_region
    go_wp2
    go_region
    go_wp2
    go_region
    go_wp2
    go_ret2
    have hm1 : ((k : Int) + 1) % (xs.length : Int) = (((k + 1) % xs.length : Nat) : Int) := by simp
    have hW := ((HR.out.1.far (p := ⟨g, off + k, none⟩) hbg (.int .i32 x)).set 2 (.int .i64 (((k + 1) % xs.length : Nat) : Int)))
    have hS := ((HR.out.2.set rfl HK.out (.int .i32 x)).far (p := ⟨b, 2, none⟩) (by simpa using hgb) (.int .i64 (((k + 1) % xs.length : Nat) : Int)))
    rw [hm1]
    refine ⟨rfl, ⟨hW, ?_⟩, ?_⟩
    · have es : (i32s xs).set k (.int .i32 x) = i32s (xs.set k x) := by simp [i32s, List.map_set]
      rw [es] at hS
      exact hS
    · have hO := ((Only.refl (RingS b (some g)) w).setCell (p := ⟨g, off + k, none⟩) (.inl (.inr rfl)) (.int .i32 x)).setCell (p := ⟨b, 2, none⟩) (.inl (.inl rfl)) (.int .i64 (((k + 1) % xs.length : Nat) : Int))
      repeat (first | exact hO | apply Only.drew | apply Only.drewN)

end Go.Proofs.Ytgcnocaibhiggaa
