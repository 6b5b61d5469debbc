/- has; strange; fault; HasPrefix; doubt. -/
import Derived.Test.YteloaidnfcmadaaIceSel
import Derived.Test.YteloaidnfcmadaaStConcat
namespace Go.Proofs.Yteloaidnfcmadaa
open Go.RowKit
set_option linter.unusedVariables false

theorem box_msg {w : World} {M : Array Value} {m : Msg} {A : Option Addr} {c : Nat} (h : MsgV w w.heap.size M m A c) :
    Whole (w.alloc (.cells M 69)) w.heap.size 69 M ∧ Below w.heap.size w (w.alloc (.cells M 69)) ∧ MsgV (w.alloc (.cells M 69)) (w.alloc (.cells M 69)).heap.size M m A c ∧ M.size = 15 :=
  have hb := (Below.refl w.heap.size w).alloc (Nat.le_refl _) (.cells M 69)
  ⟨Whole.new w 69 M, hb, (h.below hb).more hb.size, h.size⟩
/-- A message in a box of its own. -/
structure Boxed (w W : World) (N : Nat) (M : Array Value) (m : Msg) (A : Option Addr) (c : Nat) : Prop where
  box : Whole W N 69 M
  below : Below N w W
  msg : MsgV W W.heap.size M m A c
  size : M.size = 15
theorem Boxed.under {w W W' : World} {N : Nat} {M : Array Value} {m : Msg} {A : Option Addr} {c : Nat} (h : Boxed w W N M m A c) (hb : Below W.heap.size W W') : Boxed w W' N M m A c :=
  ⟨h.box.under hb, h.below.trans (hb.mono (Nat.le_of_lt h.box.lt)), (h.msg.below hb).more hb.size, h.size⟩
theorem Boxed.on {w W W' : World} {N : Nat} {M : Array Value} {m : Msg} {A : Option Addr} {c : Nat} (h : Boxed w W N M m A c) (hb : Below W.heap.size W W') : Below N w W' := (h.under hb).below

set_option maxHeartbeats 800000 in
theorem has_any (M : Array Value) (m : Msg) (A : Option Addr) (c : Nat) (kd : Int) (w : World) (h : MsgV w w.heap.size M m A c) (hv : ∀ a ∈ m.at_, a.val.length ≤ 140737488351232) :
    Calls Try.prog 29 #[.agg M, .int .u16 kd] w fun e w' => e = .returned (.bool (findP m.at_ kd).isSome) ∧ Below w.heap.size w w' := by
  obtain ⟨b1, b2, b3, b4⟩ := box_msg h
  have HX := Lib.hid (Boxed.mk b1 b2 b3 b4)
  have HF := Lib.hid (find_any M m A c kd _ b3 hv)
  clear b1 b2 b3 b4 h hv
  obtain ⟨N, hN⟩ : ∃ N, w.heap.size = N := ⟨_, rfl⟩
  rw [hN] at HX ⊢
  go_enter Try.func29, Try.ntmps29
  go_upto_region 1 with fail
  generalize w.alloc (.cells M 69) = W0 at *
  clear hN
  go_wp2_with (first
    | (refine wpList_load_all rfl 69 (.tmp 2) rfl HX.out.box rfl Try.sizeMsg HX.out.size Try.underlying69 rfl ?_)
    | (go_at_call 42; (with_reducible refine HF.out.mono ?_); rintro e w1 ⟨v, b, rfl, hf, hb1⟩))
  go_ret
  refine ⟨?_, HX.out.on hb1⟩
  rcases hf with ⟨xs, h1, rfl, -⟩ | ⟨h1, rfl, -⟩ <;> rw [h1] <;> rfl

/-- May an attribute of this Type not be passed over. -/
def strangeTy (t : Int) : Bool := !(t == 6 || t == 8 || t == 36 || t == 37) && decide (t < 32768)
def PlainA (L : List At) : Prop := ∀ a ∈ L, strangeTy a.ty = false
theorem plainA_of {L : List At} (h : ∀ j, j < L.length → strangeTy (L.getD j default).ty = false) : PlainA L := fun a ha => by
  obtain ⟨j, hj, rfl⟩ := List.getElem_of_mem ha
  have := h j hj
  simpa [List.getD, hj] using this
theorem not_plainA {L : List At} {j : Nat} (hj : j < L.length) (h : strangeTy (L.getD j default).ty = true) : ¬ PlainA L := fun hf => by
  have h1 := hf _ (getD_mem hj)
  rw [h] at h1
  cases h1

set_option maxHeartbeats 1600000 in
theorem strange_any (ty : Int) (u : Value) (w : World) (hu : u.oneCell' = true) : Calls Try.prog 47 #[.agg #[.int .u16 ty, u]] w fun e w' => e = .returned (.bool (strangeTy ty)) ∧ Below w.heap.size w w' := by
  have hb0 : Below w.heap.size w (w.alloc (.cells #[.int .u16 ty, u] 92)) := (Below.refl _ w).alloc (Nat.le_refl _) _
  have hW := Whole.new w 92 #[.int .u16 ty, u]
  have c0 := hW.cell 0
  have HB := Lib.hid hb0
  clear hb0 hW
  by_cases h6 : ty = 6
  · subst h6
    go_enter Try.func47, Try.ntmps47
    go_wp2
    go_ret
    exact ⟨rfl, HB.out⟩
  by_cases h8 : ty = 8
  · subst h8
    go_enter Try.func47, Try.ntmps47
    go_wp2
    go_ret
    exact ⟨rfl, HB.out⟩
  by_cases h36 : ty = 36
  · subst h36
    go_enter Try.func47, Try.ntmps47
    go_wp2
    go_ret
    exact ⟨rfl, HB.out⟩
  by_cases h37 : ty = 37
  · subst h37
    go_enter Try.func47, Try.ntmps47
    go_wp2
    go_ret
    exact ⟨rfl, HB.out⟩
  have HT := Lib.hid (show decide (ty < 32768) = strangeTy ty by simp [strangeTy, h6, h8, h36, h37])
  go_enter Try.func47, Try.ntmps47
  go_wp2
  go_ret
  exact ⟨congrArg (fun x => Ending.returned (Value.bool x)) HT.out, HB.out⟩

set_option maxHeartbeats 1600000 in
set_option maxRecDepth 100000 in
theorem indexS_any (A : Option Addr) (n c : Nat) (L : List At) (w : World) (h : Ats w w.heap.size A L) (hn : L.length = n) (hl : n ≤ 4398046511103) :
    Calls Try.prog 67 #[.slice A n c, .func (.func 47) #[] #[]] w fun e w' => ∃ r : Int, e = .returned (.int .i64 r) ∧ ((0 ≤ r ∧ ¬ PlainA L) ∨ (r = -1 ∧ PlainA L)) ∧ Below w.heap.size w w' := by
  have HA := Lib.hid h
  have HSG : Hid (∀ ty u W, u.oneCell' = true → Calls Try.prog 47 #[.agg #[.int .u16 ty, u]] W fun e w' => e = .returned (.bool (strangeTy ty)) ∧ Below W.heap.size W w') := Lib.hid fun ty u W hu => strange_any ty u W hu
  have HE := Lib.hid hn
  clear h hn
  go_enter Try.func67, Try.ntmps67
  go_wp2
  go_loopw [8] (fun s8 wr => ∃ k : Nat, k ≤ n ∧ s8 = .int .i64 k ∧ (∀ j, j < k → strangeTy (L.getD j default).ty = false) ∧ Below w.heap.size w wr) (fun s8 _ => n - (intOf s8).toNat)
  case atStart => exact ⟨0, by omega, rfl, (fun j hj => by omega), Below.refl _ w⟩
  case round =>
    obtain ⟨k, hk, rfl, hno, hb⟩ := hrel
    have HNO := Lib.hid hno
    clear hno
    by_cases hlt : k < n
    · have hlt' : k < L.length := by rw [HE.out]; exact hlt
      obtain ⟨ad, A', c', rfl, had, c0, c1, l1, l2, l3, hbs⟩ := (HA.out.below hb).at_ hlt'
      obtain ⟨ty, hty⟩ : ∃ x, (L.getD k default).ty = x := ⟨_, rfl⟩
      obtain ⟨l, hll⟩ : ∃ x, (L.getD k default).val.length = x := ⟨_, rfl⟩
      rw [hty] at c0
      rw [hll] at c1
      have HTY := Lib.hid hty
      have HB := Lib.hid (And.intro hb hlt')
      clear l1 l2 l3 hbs hty hll hb hlt' had
      have hk0 : (0 : Int) ≤ (k : Int) := by omega
      have hk1 : (k : Int) < (n : Int) := by omega
      obtain ⟨b, hbb⟩ : ∃ b, strangeTy ty = b := ⟨_, rfl⟩
      have HS := Lib.hid (HSG.out ty (.slice A' l c') wr rfl)
      rw [hbb] at HS
      have HBT := Lib.hid hbb
      clear hbb
      cases b with
      | true =>
        go_wp2_with (go_at_call 47; (with_reducible refine HS.out.mono ?_); rintro e w2 ⟨rfl, hb2⟩)
        go_ret
        refine ⟨_, rfl, .inl ⟨hk0, not_plainA HB.out.2 (by rw [HTY.out]; exact HBT.out)⟩, HB.out.1.trans (hb2.mono HB.out.1.size)⟩
      | false =>
        go_wp2_with (go_at_call 47; (with_reducible refine HS.out.mono ?_); rintro e w2 ⟨rfl, hb2⟩)
        go_roundw
        case rel =>
          refine ⟨k + 1, by omega, by go_num, fun j hj => ?_, HB.out.1.trans (hb2.mono HB.out.1.size)⟩
          by_cases e : j = k
          · subst e
            rw [HTY.out]
            exact HBT.out
          · exact HNO.out j (by omega)
        case measure => simp [intOf]; omega
    · have e : k = n := by omega
      have HF := Lib.hid (plainA_of (L := L) (fun j hj => HNO.out j (by rw [HE.out] at hj; omega)))
      subst e
      have HBB := Lib.hid hb
      clear hb
      go_wp2
      go_ret
      exact ⟨_, rfl, .inr ⟨rfl, HF.out⟩, HBB.out⟩
set_option maxHeartbeats 800000 in
theorem containsS_any (A : Option Addr) (n c : Nat) (L : List At) (w : World) (h : Ats w w.heap.size A L) (hn : L.length = n) (hl : n ≤ 4398046511103) :
    Calls Try.prog 46 #[.slice A n c, .func (.func 47) #[] #[]] w fun e w' => ∃ b, e = .returned (.bool b) ∧ (b = true ↔ ¬ PlainA L) ∧ Below w.heap.size w w' := by
  have HI := Lib.hid (indexS_any A n c L w h hn hl)
  clear h hn
  go_enter Try.func46, Try.ntmps46
  go_wp2_with (go_at_call 67; (with_reducible refine HI.out.mono ?_); rintro e w1 ⟨r, rfl, (⟨h0, hf⟩ | ⟨rfl, hf⟩), hb⟩)
  · have HF := Lib.hid (And.intro hf hb)
    clear hf hb
    go_wp2
    go_ret
    exact ⟨true, rfl, ⟨fun _ => HF.out.1, fun _ => rfl⟩, HF.out.2⟩
  · have HF := Lib.hid (And.intro hf hb)
    clear hf hb
    go_wp2
    go_ret
    exact ⟨false, rfl, ⟨fun e => (by cases e), fun e => (e HF.out.1).elim⟩, HF.out.2⟩
end Go.Proofs.Yteloaidnfcmadaa
