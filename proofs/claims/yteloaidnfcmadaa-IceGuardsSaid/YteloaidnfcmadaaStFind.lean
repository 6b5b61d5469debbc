/- Find, of the program. -/
import Derived.Test.YteloaidnfcmadaaStSameP
import Derived.Test.YteloaidnfcmadaaStRdr
namespace Go.Proofs.Yteloaidnfcmadaa
open Go.RowKit
set_option linter.unusedVariables false
/-- The Value of the first attribute of a Type. -/
def findP (L : List At) (k : Int) : Option (List Int) := (L.find? fun a => decide (a.ty = k)).map At.val
theorem find_at : ∀ (L : List At) (k : Int) (i : Nat), (∀ j, j < i → (L.getD j default).ty ≠ k) → i < L.length → (L.getD i default).ty = k → findP L k = some (L.getD i default).val := by
  intro L
  induction L with
  | nil => intro k i _ hi; simp at hi
  | cons a r ih =>
    intro k i hb hi he
    cases i with
    | zero =>
      have he' : a.ty = k := by simpa using he
      simp [findP, he']
    | succ i =>
      have h0 : a.ty ≠ k := by simpa using hb 0 (by omega)
      have := ih k i (fun j hj => by simpa using hb (j + 1) (by omega)) (by simpa using hi) (by simpa using he)
      simp only [findP, List.find?_cons, h0, decide_false] at this ⊢
      simpa using this
theorem find_none : ∀ (L : List At) (k : Int), (∀ j, j < L.length → (L.getD j default).ty ≠ k) → findP L k = none := by
  intro L
  induction L with
  | nil => intro k _; rfl
  | cons a r ih =>
    intro k hb
    have h0 : a.ty ≠ k := by simpa using hb 0 (by simp)
    have := ih k (fun j hj => by simpa using hb (j + 1) (by simpa using hj))
    simp only [findP, List.find?_cons, h0, decide_false] at this ⊢
    simpa using this
/-- What a Find answers. -/
def FindV (w' : World) (v : Value) (b : Bool) (L : List At) (k : Int) : Prop := (∃ xs, findP L k = some xs ∧ b = true ∧ V8 w' w'.heap.size v xs) ∨ (findP L k = none ∧ b = false ∧ v = .slice none 0 0)

set_option maxHeartbeats 1600000 in
set_option maxRecDepth 100000 in
theorem find_any (M : Array Value) (m : Msg) (A : Option Addr) (c : Nat) (kd : Int) (w : World) (h : MsgV w w.heap.size M m A c) (hv : ∀ a ∈ m.at_, a.val.length ≤ 140737488351232) :
    Calls Try.prog 42 #[.agg M, .int .u16 kd] w fun e w' => ∃ v b, e = .returned (.tuple #[v, .bool b]) ∧ FindV w' v b m.at_ kd ∧ Below w.heap.size w w' := by
  have hg := Whole.new w 69 M
  have h14 := h.sl hg
  have hb0 : Below w.heap.size w (w.alloc (.cells M 69)) := (Below.refl _ w).alloc (Nat.le_refl _) _
  have hml : m.at_.length ≤ maxLen := Nat.le_trans h.fits h.most
  unfold maxLen at hml
  have HA := Lib.hid (And.intro h.ats (And.intro hv hb0))
  have HCL : Hid (∀ v xs B W, V8 W B v xs → xs.length ≤ 140737488355328 → Calls Try.prog 53 #[v] W fun e w' => ∃ v', e = .returned v' ∧ Own8 w' W.heap.size v' xs ∧ Below W.heap.size W w') := Lib.hid fun v xs B W h1 h2 => clone_any v xs B W h1 h2
  clear h hg hb0 hv
  obtain ⟨N, hN⟩ : ∃ N, w.heap.size = N := ⟨_, rfl⟩
  have HN := Lib.hid hN
  rw [hN] at HA h14 ⊢
  obtain ⟨n, hn⟩ : ∃ x, m.at_.length = x := ⟨_, rfl⟩
  have HE := Lib.hid hn
  rw [hn] at h14 hml
  clear hn
  go_enter Try.func42, Try.ntmps42
  go_upto_region 1 with fail
  generalize w.alloc (.cells M 69) = W0 at *
  clear hN
  go_wp2
  go_loopw [11] (fun s11 wr => ∃ k : Nat, k ≤ n ∧ s11 = .int .i64 k ∧ (∀ j, j < k → (m.at_.getD j default).ty ≠ kd) ∧ Below N w wr) (fun s11 _ => n - (intOf s11).toNat)
  case atStart => exact ⟨0, by omega, rfl, (fun j hj => by omega), HA.out.2.2⟩
  case round =>
    obtain ⟨k, hk, rfl, hno, hb⟩ := hrel
    have HNO := Lib.hid hno
    clear hno
    by_cases hlt : k < n
    · have hlt' : k < m.at_.length := by rw [HE.out]; exact hlt
      obtain ⟨ad, A', c', rfl, had, c0, c1, l1, l2, l3, hbs⟩ := (HA.out.1.below hb).at_ hlt'
      have hvl := HA.out.2.1 _ (getD_mem hlt')
      obtain ⟨a, ha⟩ : ∃ a, m.at_.getD k default = a := ⟨_, rfl⟩
      rw [ha] at c0 c1 hvl hbs l1
      have h8 : V8 wr N (.slice A' a.val.length c') a.val := ⟨A', c', rfl, l1, l2, l3, hbs⟩
      have HVL := Lib.hid hvl
      have H8 := Lib.hid (And.intro h8 (And.intro hb (And.intro hvl ha)))
      obtain ⟨l, hl⟩ : ∃ x, a.val.length = x := ⟨_, rfl⟩
      rw [hl] at c1 H8
      obtain ⟨ty, hty⟩ : ∃ x, a.ty = x := ⟨_, rfl⟩
      rw [hty] at c0
      have HTY := Lib.hid hty
      clear hbs h8 hvl ha hl l1 l2 l3 hb hty
      have hk0 : (0 : Int) ≤ (k : Int) := by omega
      have hk1 : (k : Int) < (n : Int) := by omega
      go_upto_region 4 with fail
      have hW := Whole.new wr 92 #[.int .u16 ty, .slice A' l c']
      have d0 : (wr.alloc (.cells #[.int .u16 ty, .slice A' l c'] 92)).cell? ⟨wr.heap.size, 0, none⟩ = some (.int .u16 ty) := hW.cell 0
      have d1 : (wr.alloc (.cells #[.int .u16 ty, .slice A' l c'] 92)).cell? ⟨wr.heap.size, 1, none⟩ = some (.slice A' l c') := hW.cell 1
      have hB0 : Below wr.heap.size wr (wr.alloc (.cells #[.int .u16 ty, .slice A' l c'] 92)) := (Below.refl _ wr).alloc (Nat.le_refl _) _
      have hNw : N ≤ wr.heap.size := by have := H8.out.2.1.size; have := HA.out.2.2.size; have := HN.out; omega
      have HB := Lib.hid (And.intro (H8.out.2.1.trans (hB0.mono hNw)) (And.intro (H8.out.1.below (hB0.mono hNw)) hNw))
      have hsz : (wr.alloc (.cells #[.int .u16 ty, .slice A' l c'] 92)).heap.size = wr.heap.size + 1 := by simp
      have HSZ := Lib.hid hsz
      clear hB0 hNw hW hsz c0 c1
      generalize wr.alloc (.cells #[.int .u16 ty, .slice A' l c'] 92) = W1 at *
      generalize wr.heap.size = g5 at *
      by_cases he : ty = kd
      · subst he
        have hfd : findP m.at_ ty = some a.val := by
          have := find_at m.at_ ty k HNO.out hlt' (by rw [H8.out.2.2.2]; exact HTY.out)
          rw [H8.out.2.2.2] at this
          exact this
        have HFD := Lib.hid hfd
        have HC1 := Lib.hid (HCL.out _ _ N W1 HB.out.2.1 (by have := HVL.out; omega))
        clear hfd
        go_wp2_with (go_at_call 53; (with_reducible refine HC1.out.mono ?_); rintro e w2 ⟨v2, rfl, h2, hb2⟩)
        go_ret2
        exact ⟨v2, true, rfl, .inl ⟨_, HFD.out, rfl, h2.v8⟩, HB.out.1.trans (hb2.mono (by have := HSZ.out; have := HB.out.2.2; omega))⟩
      · go_wp2
        go_roundw
        case rel =>
          refine ⟨k + 1, by omega, by go_num, fun j hj => ?_, HB.out.1⟩
          by_cases e : j = k
          · subst e
            rw [H8.out.2.2.2, HTY.out]
            exact he
          · exact HNO.out j (by omega)
        case measure => simp [intOf]; omega
    · have e : k = n := by omega
      have HFD := Lib.hid (find_none m.at_ kd (fun j hj => HNO.out j (by rw [HE.out] at hj; omega)))
      subst e
      have HBB := Lib.hid hb
      clear hb
      go_wp2
      go_ret2
      exact ⟨_, false, rfl, .inr ⟨HFD.out, rfl, rfl⟩, HBB.out⟩
end Go.Proofs.Yteloaidnfcmadaa
