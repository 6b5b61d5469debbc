/- Packets of no sources and no extensions: how many bytes they have, that they are good, their bytes. -/
import Derived.Test.YtapbodiakkdfmaaStRdr
namespace Go.Proofs.Ytapbodiakkdfmaa
open Go.RowKit
set_option linter.unusedVariables false

/-- A packet's cells. -/
def pk (mk : Bool) (ty sq ti so : Int) (C E P : Value) (pad : Int) : Array Value := #[.bool mk, .int .i64 ty, .int .u16 sq, .int .u32 ti, .int .u32 so, C, E, P, .int .i64 pad]
theorem Try.sizePk : (Try.prog.info? 37).map (·.size) = some 9 := by kernel_rfl

set_option maxHeartbeats 400000 in
theorem extsSize_nil (w : World) : Calls Try.prog 27 #[.slice none 0 0] w fun e w' => e = .returned (.int .i64 0) ∧ w = w' := by
  go_enter Try.func27, Try.ntmps27
  go_wp2
  go_ret
  exact ⟨rfl, rfl⟩

/-- The cells of a packet's box. -/
theorem pk_cells {w : World} {g : Nat} {t : TypeId} {mk : Bool} {ty sq ti so : Int} {C E P : Value} {pad : Int} (h : Whole w g t (pk mk ty sq ti so C E P pad)) :
    w.cell? ⟨g, 0, none⟩ = some (.bool mk) ∧ w.cell? ⟨g, 1, none⟩ = some (.int .i64 ty) ∧ w.cell? ⟨g, 2, none⟩ = some (.int .u16 sq) ∧ w.cell? ⟨g, 3, none⟩ = some (.int .u32 ti) ∧ w.cell? ⟨g, 4, none⟩ = some (.int .u32 so) ∧
    w.cell? ⟨g, 5, none⟩ = some C ∧ w.cell? ⟨g, 6, none⟩ = some E ∧ w.cell? ⟨g, 7, none⟩ = some P ∧ w.cell? ⟨g, 8, none⟩ = some (.int .i64 pad) :=
  ⟨h.cell 0, h.cell 1, h.cell 2, h.cell 3, h.cell 4, h.cell 5, h.cell 6, h.cell 7, h.cell 8⟩

set_option maxHeartbeats 800000 in
set_option maxRecDepth 100000 in
theorem size_flat (mk : Bool) (ty : Int) (A : Option Addr) (n c pad : Nat) (hn : n ≤ 100000) (hp : pad ≤ 255) (w : World) :
    Calls Try.prog 15 #[.agg (pk mk ty 0 0 0 (.slice none 0 0) (.slice none 0 0) (.slice A n c) pad)] w fun e w' => e = .returned (.int .i64 ((12 + n + pad : Nat) : Int)) ∧ Below w.heap.size w w' := by
  have HE : Hid (∀ W, Calls Try.prog 27 #[.slice none 0 0] W fun e w' => e = .returned (.int .i64 0) ∧ w' = W) := Lib.hid fun W => (extsSize_nil W).mono fun e w' h => ⟨h.1, h.2.symm⟩
  obtain ⟨c0, c1, c2, c3, c4, c5, c6, c7, c8⟩ := pk_cells (Whole.new w 37 (pk mk ty 0 0 0 (.slice none 0 0) (.slice none 0 0) (.slice A n c) pad))
  have HB := Lib.hid ((Below.refl w.heap.size w).alloc (Nat.le_refl _) (.cells (pk mk ty 0 0 0 (.slice none 0 0) (.slice none 0 0) (.slice A n c) pad) 37))
  generalize pk mk ty 0 0 0 (.slice none 0 0) (.slice none 0 0) (.slice A n c) pad = M at *
  go_enter Try.func15, Try.ntmps15
  go_upto_region 1 with fail
  generalize w.alloc (.cells M 37) = W0 at *
  go_quiet ((go_at_call 27; exact Calls.quiet_of_same (HE.out _)))
  go_wp2
  go_ret
  refine ⟨ret_int ?_, below_drewN' HB.out _⟩
  omega

set_option maxHeartbeats 800000 in
set_option maxRecDepth 100000 in
theorem good_flat (mk : Bool) (ty : Int) (A : Option Addr) (n c pad : Nat) (hn : n ≤ 1200) (hp : pad ≤ 255) (ht0 : ¬ ty < 0) (ht1 : ¬ ty > 127) (w : World) :
    Calls Try.prog 14 #[.agg (pk mk ty 0 0 0 (.slice none 0 0) (.slice none 0 0) (.slice A n c) pad)] w fun e w' => e = .returned (.bool true) ∧ Below w.heap.size w w' := by
  have HS := Lib.hid (fun W => size_flat mk ty A n c pad (by omega) hp W)
  have hp0 : ¬ ((pad : Int) < 0) := by omega
  have hp1 : ¬ ((pad : Int) > 255) := by omega
  have hs : ((12 + n + pad : Nat) : Int) ≤ 1500 := by omega
  have hg := Whole.new w 37 (pk mk ty 0 0 0 (.slice none 0 0) (.slice none 0 0) (.slice A n c) pad)
  have HG := Lib.hid hg
  obtain ⟨c0, c1, c2, c3, c4, c5, c6, c7, c8⟩ := pk_cells hg
  have HB := Lib.hid ((Below.refl w.heap.size w).alloc (Nat.le_refl _) (.cells (pk mk ty 0 0 0 (.slice none 0 0) (.slice none 0 0) (.slice A n c) pad) 37))
  have hsz : (pk mk ty 0 0 0 (.slice none 0 0) (.slice none 0 0) (.slice A n c) pad).size = 9 := rfl
  generalize ((12 + n + pad : Nat) : Int) = sz at HS hs
  generalize pk mk ty 0 0 0 (.slice none 0 0) (.slice none 0 0) (.slice A n c) pad = M at *
  clear hg
  go_enter Try.func14, Try.ntmps14
  go_upto_region 1 with fail
  generalize w.alloc (.cells M 37) = W0 at *
  go_wp2
  go_loop [36] (fun s36 => s36 = .int .i64 0) (fun _ => 0)
  case atStart => rfl
  case round =>
    obtain rfl := hrel
    go_wp2_with (first
      | (refine wpList_load_all rfl 37 (.tmp 1) rfl HG.out rfl Try.sizePk hsz Try.underlying37 rfl ?_)
      | (go_at_call 15; (with_reducible refine (HS.out _).mono ?_); rintro e w1 ⟨rfl, hb1⟩))
    go_ret
    exact ⟨rfl, HB.out.trans (hb1.mono (Nat.le_of_lt HG.out.lt))⟩

set_option maxHeartbeats 800000 in
set_option maxRecDepth 100000 in
theorem first_flat (mk : Bool) (ty : Int) (P : Value) (pad : Nat) (b : Int) (hb : b = if pad = 0 then 128 else 160) (w : World) :
    Calls Try.prog 16 #[.agg (pk mk ty 0 0 0 (.slice none 0 0) (.slice none 0 0) P pad)] w fun e w' => e = .returned (.int .u8 b) ∧ Below w.heap.size w w' := by
  obtain ⟨c0, c1, c2, c3, c4, c5, c6, c7, c8⟩ := pk_cells (Whole.new w 37 (pk mk ty 0 0 0 (.slice none 0 0) (.slice none 0 0) P pad))
  have HB := Lib.hid ((Below.refl w.heap.size w).alloc (Nat.le_refl _) (.cells (pk mk ty 0 0 0 (.slice none 0 0) (.slice none 0 0) P pad) 37))
  generalize pk mk ty 0 0 0 (.slice none 0 0) (.slice none 0 0) P pad = M at *
  have o1 : bits .or .u8 128 0 = 128 := by decide
  have o2 : bits .or .u8 128 32 = 160 := by decide
  go_enter Try.func16, Try.ntmps16
  go_upto_region 1 with fail
  generalize w.alloc (.cells M 37) = W0 at *
  by_cases hp : pad = 0
  · subst hp
    rw [if_pos rfl] at hb
    subst hb
    go_wp2
    go_ret
    exact ⟨rfl, HB.out⟩
  · rw [if_neg hp] at hb
    subst hb
    have hp' : ¬ (pad : Int) = 0 := by omega
    go_wp2
    go_ret
    exact ⟨rfl, HB.out⟩

set_option maxHeartbeats 800000 in
set_option maxRecDepth 100000 in
theorem second_flat (mk : Bool) (ty : Int) (P : Value) (pad : Int) (b : Int) (hb : b = if mk then ty + 128 else ty) (h0 : 0 ≤ ty) (h1 : ty ≤ 127) (hor : bits .or .u8 ty 128 = ty + 128) (w : World) :
    Calls Try.prog 17 #[.agg (pk mk ty 0 0 0 (.slice none 0 0) (.slice none 0 0) P pad)] w fun e w' => e = .returned (.int .u8 b) ∧ Below w.heap.size w w' := by
  obtain ⟨c0, c1, c2, c3, c4, c5, c6, c7, c8⟩ := pk_cells (Whole.new w 37 (pk mk ty 0 0 0 (.slice none 0 0) (.slice none 0 0) P pad))
  have HB := Lib.hid ((Below.refl w.heap.size w).alloc (Nat.le_refl _) (.cells (pk mk ty 0 0 0 (.slice none 0 0) (.slice none 0 0) P pad) 37))
  generalize pk mk ty 0 0 0 (.slice none 0 0) (.slice none 0 0) P pad = M at *
  have o1 : IntKind.u8.wrap ty = ty := by rw [IntKind.wrap_u8]; omega
  have o2 : ty % 256 = ty := by omega
  go_enter Try.func17, Try.ntmps17
  go_upto_region 1 with fail
  generalize w.alloc (.cells M 37) = W0 at *
  cases mk with
  | false =>
    simp only [Bool.false_eq_true, if_false] at hb
    subst hb
    go_wp2
    go_ret
    exact ⟨rfl, HB.out⟩
  | true =>
    simp only [if_true] at hb
    subst hb
    go_wp2
    go_ret
    exact ⟨rfl, HB.out⟩

/-- The bytes behind a payload. -/
def padB (pad : Nat) : List Int := if pad = 0 then [] else List.replicate (pad - 1) 0 ++ [(pad : Int)]
theorem padB_length (pad : Nat) : (padB pad).length = pad := by
  unfold padB
  split
  · simp; omega
  · simp; omega

set_option maxHeartbeats 800000 in
theorem putExts_nil (v : Value) (w : World) : Calls Try.prog 20 #[v, .slice none 0 0] w fun e w' => e = .returned v ∧ w = w' := by
  go_enter Try.func20, Try.ntmps20
  go_wp2
  go_ret
  exact ⟨rfl, rfl⟩

set_option maxHeartbeats 800000 in
theorem putPad_any (pad : Nat) (v : Value) (base : Nat) (xs : List Int) (w : World) (h : Own8 w base v xs) (hv : v ≠ .slice none 0 0) (hb : base ≤ w.heap.size) (hl : xs.length ≤ 140737487000000) (hp : pad ≤ 255) :
    Calls Try.prog 21 #[v, .int .i64 pad] w fun e w' => ∃ v', e = .returned v' ∧ Grew base w w' v v' (xs ++ padB pad) := by
  by_cases h0 : pad = 0
  · subst h0
    have e0 : xs ++ padB 0 = xs := by simp [padB]
    rw [e0]
    have HG := Lib.hid (Grew.of0 (w := w) (base := base) (v := v) h ⟨rfl, rfl, rfl, Nat.le_refl _, fun _ _ _ => rfl⟩ (.inl rfl))
    go_enter Try.func21, Try.ntmps21
    go_wp2
    go_ret
    exact ⟨v, rfl, HG.out⟩
  · have hn : ¬ (pad : Int) = 0 := by omega
    have hk : ((pad : Int) - 1) = ((pad - 1 : Nat) : Int) := by omega
    have hw : IntKind.u8.wrap (pad : Int) = pad := by rw [IntKind.wrap_u8]; omega
    have hm : (pad : Int) % 256 = pad := by omega
    have HO := Lib.hid h
    have HV := Lib.hid hv
    have e1 : padB pad = List.replicate (pad - 1) 0 ++ [(pad : Int)] := if_neg h0
    have HE := Lib.hid e1
    clear h hv e1
    go_enter Try.func21, Try.ntmps21
    go_upto_region 4 with (at_builtin; go_must (refine wpList_append_zeros8 rfl (.tmp 8) (.tmp 10) rfl rfl HO.out HV.out (k := pad - 1) rfl (by omega) hb ?_); intro v1 w1 k1 k2 k3)
    have hb1 : base ≤ (w1.alloc (Obj.cells #[.int .u8 pad] 5)).heap.size := by have := k2.size; simp; omega
    have HA := Lib.hid (And.intro (k1.alloc (Obj.cells #[.int .u8 pad] 5)) (And.intro (Bs.one w1 (pad : Int)) (Grew.of0 k1 k2 k3)))
    clear k1 k2 k3
    go_wp2_with (at_builtin; refine wpList_append8 rfl (.tmp 12) (.tmp 15) rfl rfl HA.out.1 rfl HA.out.2.1 (fun e => by cases e) (by simp; omega) hb1 ?_)
    intro v2 w2 k1 k2 k3
    go_wp2
    go_ret
    refine ⟨v2, rfl, ?_⟩
    rw [HE.out]
    exact HA.out.2.2.trans (Grew.of k1 k2 (by rw [World.size_alloc]; exact k3))
end Go.Proofs.Ytapbodiakkdfmaa
