/- A packet of no sources and no extensions is read: its numbers, what lies behind them. -/
import Derived.Test.YtapbodiakkdfmaaRpB
import Derived.Test.YtapbodiakkdfmaaRpC
import Derived.Test.YtapbodiakkdfmaaStOursP
namespace Go.Proofs.Ytapbodiakkdfmaa
open Go.RowKit
set_option linter.unusedVariables false
set_option linter.unusedSimpArgs false

set_option maxHeartbeats 800000 in
theorem u8_any (b : Nat) (v : Value) (xs : List Int) (bad : Bool) (w : World) (h : RdV w b v xs bad) (hx : In256 xs) :
    Calls Try.prog 23 #[.pointer (some ⟨b, 0, none⟩)] w fun e w' => e = .returned (.int .u8 (numOf (takeP 1 xs bad) % 256)) ∧ (∃ v2, RdV w' b v2 (leftP 1 xs bad) (badP 1 xs bad)) ∧ Only (fun k => k = b) w w' := by
  have HN : Hid (Calls Try.prog 28 #[.pointer (some ⟨b, 0, none⟩), .int .i64 1] w fun e w' => e = .returned (.int .u32 (numOf (takeP 1 xs bad))) ∧ (∃ v2, RdV w' b v2 (leftP 1 xs bad) (badP 1 xs bad)) ∧ Only (fun k => k = b) w w') := Lib.hid (number_any b v xs bad 1 w h (by decide) hx)
  clear h
  go_enter Try.func23, Try.ntmps23
  go_wp2_with (go_at_call 28; (with_reducible refine HN.out.mono ?_); rintro e w1 ⟨rfl, h2⟩)
  go_ret
  exact ⟨rfl, h2⟩
theorem numOf_one (a : Int) (ha : 0 ≤ a ∧ a < 256) : numOf [a] = a := by
  show bits .or .u32 (0 * 256 % 4294967296) a = _
  rw [or_next 0 a (by omega) ha]
  omega
/-- What is turned from B on, where B was not there at first. -/
theorem Only.over {S : Nat → Prop} {a w w' : World} (h : Only S a w) {B : Nat} (hb : Below B w w') (hB : a.heap.size ≤ B) : Only S a w' :=
  h.next (T := fun k => B ≤ k) ⟨hb.os, hb.tape, hb.output, hb.size, fun k _ hn => hb.block k (by omega)⟩ (fun j hj => .inr (by omega))
theorem takeP_ok {n : Nat} {xs : List Int} (h : n ≤ xs.length) : takeP n xs false = xs.take n ∧ leftP n xs false = xs.drop n ∧ badP n xs false = false := by
  have : ¬ xs.length < n := by omega
  simp [takeP, leftP, badP, this]
/-- A byte is read of a reader that has some. -/
theorem u8_ok {b : Nat} {v : Value} {x : Int} {xs : List Int} {w : World} (h : RdV w b v (x :: xs) false) (hx : In256 (x :: xs)) :
    Calls Try.prog 23 #[.pointer (some ⟨b, 0, none⟩)] w fun e w' => e = .returned (.int .u8 x) ∧ (∃ v2, RdV w' b v2 xs false) ∧ Only (fun k => k = b) w w' := by
  have h0 := hx 0
  refine (u8_any b v _ _ w h hx).mono fun e w' ⟨he, hr, ho⟩ => ⟨?_, ?_, ho⟩
  · obtain ⟨e1, _, _⟩ := takeP_ok (n := 1) (xs := x :: xs) (by simp)
    rw [he, e1]
    simp only [List.take_succ_cons, List.take_zero]
    rw [numOf_one x (by simpa using h0)]
    have : x % 256 = x := by have := h0; simp at this; omega
    rw [this]
  · obtain ⟨_, e2, e3⟩ := takeP_ok (n := 1) (xs := x :: xs) (by simp)
    rw [e2, e3] at hr
    simpa using hr

set_option maxHeartbeats 800000 in
/-- All noughts are noughts. -/
theorem noughts_yes (A : Option Addr) (n c : Nat) (xs : List Int) (B : Nat) (w : World) (h : Bs w B A n xs) (h0 : ∀ i, i < n → xs.getD i 0 = 0) (hn : n ≤ 140737488355328) :
    Calls Try.prog 33 #[.slice A n c] w fun e w' => e = .returned (.bool true) ∧ w = w' := by
  have H := Lib.hid (And.intro h h0)
  clear h h0
  go_enter Try.func33, Try.ntmps33
  go_wp2
  go_loop [7] (fun s7 => ∃ k : Nat, k ≤ n ∧ s7 = .int .i64 k) (fun s7 => n - (intOf s7).toNat)
  case atStart => exact ⟨0, by omega, rfl⟩
  case round =>
    obtain ⟨k, hk, rfl⟩ := hrel
    by_cases hlt : k < n
    · obtain ⟨ad, rfl, -, hc⟩ := H.out.1.2 (by omega)
      have hcell := hc k hlt
      rw [H.out.2 k hlt] at hcell
      clear hc
      go_wp2
      go_round
      case rel => exact ⟨k + 1, by omega, by go_num⟩
      case measure => simp [intOf]; omega
    · obtain rfl : k = n := by omega
      go_wp2
      go_ret
      exact ⟨rfl, rfl⟩

theorem In256.dropL {xs : List Int} (h : In256 xs) (n : Nat) : In256 (xs.drop n) := h.drop n
theorem u16_ok {b : Nat} {v : Value} {xs : List Int} {w : World} (h : RdV w b v xs false) (hx : In256 xs) (hl : 2 ≤ xs.length) :
    Calls Try.prog 29 #[.pointer (some ⟨b, 0, none⟩)] w fun e w' => ∃ y, e = .returned (.int .u16 y) ∧ (∃ v2, RdV w' b v2 (xs.drop 2) false) ∧ Only (fun k => k = b) w w' := by
  refine (u16_any b v xs false w h hx).mono fun e w' ⟨he, hr, ho⟩ => ⟨_, he, ?_, ho⟩
  obtain ⟨_, e2, e3⟩ := takeP_ok (n := 2) (xs := xs) hl
  rwa [e2, e3] at hr
theorem u32_ok {b : Nat} {v : Value} {xs : List Int} {w : World} (h : RdV w b v xs false) (hx : In256 xs) (hl : 4 ≤ xs.length) :
    Calls Try.prog 30 #[.pointer (some ⟨b, 0, none⟩)] w fun e w' => ∃ y, e = .returned (.int .u32 y) ∧ (∃ v2, RdV w' b v2 (xs.drop 4) false) ∧ Only (fun k => k = b) w w' := by
  refine (u32_any b v xs false w h hx).mono fun e w' ⟨he, hr, ho⟩ => ⟨_, he, ?_, ho⟩
  obtain ⟨_, e2, e3⟩ := takeP_ok (n := 4) (xs := xs) hl
  rwa [e2, e3] at hr

theorem wpList_build5 {ops : Array Oper} {rest : List Oper} {o : Oper} {a : Act} {w : World} {Q : Exit → Act → World → Prop} (hgd : o.guard = none) (t : TypeId) (i0 i1 i2 i3 i4 : Nat) (x0 x1 x2 x3 x4 : Operand) (ho : o.op = .build t #[(i0, x0), (i1, x1), (i2, x2), (i3, x3), (i4, x4)]) {u0 u1 u2 u3 u4 v : Value} (h0 : a.eval x0 = u0) (h1 : a.eval x1 = u1) (h2 : a.eval x2 = u2) (h3 : a.eval x3 = u3) (h4 : a.eval x4 = u4)
    (hr : (Instr.build t #[(i0, u0), (i1, u1), (i2, u2), (i3, u3), (i4, u4)]).run Try.prog w = .ok v w) (h : wpList Try.prog ops Q rest (a.put o.dst v) w) : wpList Try.prog ops Q (o :: rest) a w := by
  refine wpList_plain hgd fun K hK => ?_
  unfold Oper.wp execOp
  simp only [ho, Sem.run_bind, List.map_toArray, List.map_cons, List.map_nil, h0, h1, h2, h3, h4, hr, Result.andThen_ok, Sem.run_pure]
  exact hK _ _ h
theorem build_pk5 (mk : Bool) (ty sq ti so : Int) (w : World) : (Instr.build 37 #[(0, .bool mk), (1, .int .i64 ty), (2, .int .u16 sq), (3, .int .u32 ti), (4, .int .u32 so)]).run Try.prog w = .ok (.agg (pk mk ty sq ti so (.slice none 0 0) (.slice none 0 0) (.slice none 0 0) 0)) w :=
  run_build w 37 _ _ (by kernel_rfl)
theorem pk_one {mk : Bool} {ty sq ti so : Int} {C E P : Value} {pad : Int} (hC : C.oneCell' = true) (hE : E.oneCell' = true) (hP : P.oneCell' = true) : (pk mk ty sq ti so C E P pad).all (·.oneCell') = true := by
  rw [← Array.all_toList]
  show List.all [_, _, _, _, _, C, E, P, _] _ = true
  simp only [List.all_cons, List.all_nil, hC, hE, hP]
  rfl

/-- What reading the numbers comes to. -/
def NumO (b : Nat) (x : Int) (xs : List Int) (w : World) (e : Ending) (w' : World) : Prop := ∃ (mk : Bool) (ty sq ti so : Int), e = .returned (.agg (pk mk ty sq ti so (.slice none 0 0) (.slice none 0 0) (.slice none 0 0) 0)) ∧ (mk = true ↔ 128 ≤ x) ∧ (∃ v2, RdV w' b v2 (xs.drop 10) false) ∧ Only (fun k => k = b) w w'

set_option maxHeartbeats 1600000 in
set_option maxRecDepth 100000 in
/-- What stands from the second byte on, of a packet of no sources: its numbers. -/
theorem numbers_flat (b : Nat) (v : Value) (x : Int) (xs : List Int) (w : World) (h : RdV w b v (x :: xs) false) (hx : In256 (x :: xs)) (hl : 10 ≤ xs.length) :
    Calls Try.prog 24 #[.pointer (some ⟨b, 0, none⟩), .int .i64 0] w fun e w' => NumO b x xs w e w' := by
  have hx0 := hx 0
  have hx1 : In256 xs := by have := hx.drop 1; simpa using this
  simp only [List.getD_cons_zero] at hx0
  have hz : ∀ W, (zeroValue 37).run Try.prog W = .ok (.agg (pk false 0 0 0 0 (.slice none 0 0) (.slice none 0 0) (.slice none 0 0) 0)) W := fun W => by kernel_rfl
  have hst : ∀ (mk : Bool) (ty sq ti so : Int), (((((pk false 0 0 0 0 (.slice none 0 0) (.slice none 0 0) (.slice none 0 0) 0).setIfInBounds 0 (.bool mk)).setIfInBounds 1 (.int .i64 ty)).setIfInBounds 2 (.int .u16 sq)).setIfInBounds 3 (.int .u32 ti)).setIfInBounds 4 (.int .u32 so) = pk mk ty sq ti so (.slice none 0 0) (.slice none 0 0) (.slice none 0 0) 0 := fun _ _ _ _ _ => rfl
  have hZ : (pk false 0 0 0 0 (.slice none 0 0) (.slice none 0 0) (.slice none 0 0) 0).size = 9 := rfl
  generalize pk false 0 0 0 0 (.slice none 0 0) (.slice none 0 0) (.slice none 0 0) 0 = Z at hz hZ hst
  have hb : b < w.heap.size := h.block.lt
  have hr0 := h.under ((Below.refl _ w).alloc (Nat.le_refl _) (.cells Z 37))
  have HU := Lib.hid (And.intro hr0 (And.intro hx (And.intro hx1 (And.intro hb (Whole.new w 37 Z)))))
  have ho0 : Only (fun k => k = b) w (w.alloc (.cells Z 37)) := (Only.refl _ w).alloc _
  have HO := Lib.hid ho0
  have HX0 := Lib.hid hx0
  have HL := Lib.hid hl
  clear h hr0 hx hx1 ho0 hb hl
  have main : ∀ (mk : Bool) (y : Int), bits .and .u8 x 128 = y → (mk = true ↔ 128 ≤ x) → (if mk then y = 128 else y = 0) → Calls Try.prog 24 #[.pointer (some ⟨b, 0, none⟩), .int .i64 0] w fun e w' => NumO b x xs w e w' := by
    intro mk y e128 hmk hy
    have HMK := Lib.hid hmk
    have e127 : bits .and .u8 x 127 = x % 128 := and8_127 x HX0.out.1 HX0.out.2
    clear hmk hx0
    go_enter Try.func24, Try.ntmps24
    go_upto_region 1 with fail
    generalize w.alloc (.cells Z 37) = W0 at *
    obtain ⟨N, hN⟩ : ∃ N, w.heap.size = N := ⟨_, rfl⟩
    rw [hN] at HU ⊢
    have HNN := Lib.hid hN
    clear hN
    go_upto_region 2 with (go_at_call 23; (with_reducible refine (u8_ok HU.out.1 HU.out.2.1).mono ?_); rintro e w1 ⟨rfl, ⟨v1, hr1⟩, ho1⟩)
    have HR1 := Lib.hid (And.intro hr1 ho1)
    have HU16 : Hid (∀ v xs W, RdV W b v xs false → In256 xs → 2 ≤ xs.length → Calls Try.prog 29 #[.pointer (some ⟨b, 0, none⟩)] W fun e w' => ∃ y, e = .returned (.int .u16 y) ∧ (∃ v2, RdV w' b v2 (xs.drop 2) false) ∧ Only (fun k => k = b) W w') := Lib.hid fun v xs W h1 h2 h3 => u16_ok h1 h2 h3
    have HU32 : Hid (∀ v xs W, RdV W b v xs false → In256 xs → 4 ≤ xs.length → Calls Try.prog 30 #[.pointer (some ⟨b, 0, none⟩)] W fun e w' => ∃ y, e = .returned (.int .u32 y) ∧ (∃ v2, RdV w' b v2 (xs.drop 4) false) ∧ Only (fun k => k = b) W w') := Lib.hid fun v xs W h1 h2 h3 => u32_ok h1 h2 h3
    have HXS := Lib.hid HU.out.2.2.1
    have hne : (y != 0) = mk := by cases mk <;> simp_all
    clear hy
    go_upto_region 3 with (first
      | (go_at_call 29; (with_reducible refine (HU16.out _ _ _ HR1.out.1 HXS.out (by have := HL.out; omega)).mono ?_); rintro e w2 ⟨sq, rfl, ⟨v2, hr2⟩, ho2⟩)
      | (go_at_call 30; (with_reducible refine (HU32.out _ _ _ hr2 (HXS.out.drop 2) (by have := HL.out; simp; omega)).mono ?_); rintro e w3 ⟨ti, rfl, ⟨v3, hr3⟩, ho3⟩)
      | (go_at_call 30; (with_reducible refine (HU32.out _ _ _ hr3 ((HXS.out.drop 2).drop 4) (by have := HL.out; simp; omega)).mono ?_); rintro e w4 ⟨so, rfl, ⟨v4, hr4⟩, ho4⟩)
      | ((with_reducible refine wpList_build5 rfl 37 0 1 2 3 4 (.tmp 11) (.tmp 14) (.tmp 16) (.tmp 18) (.tmp 20) rfl (u0 := .bool mk) (u1 := .int .i64 (x % 128)) (u2 := .int .u16 sq) (u3 := .int .u32 ti) (u4 := .int .u32 so) (v := .agg (pk mk (x % 128) sq ti so (.slice none 0 0) (.slice none 0 0) (.slice none 0 0) 0)) ?_ ?_ ?_ ?_ ?_ (build_pk5 mk (x % 128) sq ti so _) ?_); rfl; rfl; rfl; rfl; rfl)
      | (refine wpList_store_whole (cs := pk mk (x % 128) sq ti so (.slice none 0 0) (.slice none 0 0) (.slice none 0 0) 0) rfl 37 (.tmp 6) (.tmp 21) rfl rfl rfl (Whole.new w4 37 Z) Try.sizePk rfl hZ (pk_one rfl rfl rfl) ?_))
    try simp only [Act.put]
    have hg4 := (Whole.new w4 37 Z).row (pk mk (x % 128) sq ti so (.slice none 0 0) (.slice none 0 0) (.slice none 0 0) 0)
    have hb5 := below_row ((Below.refl w4.heap.size w4).alloc (Nat.le_refl _) (.cells Z 37)) (Nat.le_refl _) (pk mk (x % 128) sq ti so (.slice none 0 0) (.slice none 0 0) (.slice none 0 0) 0)
    have hon : Only (fun k => k = b) W0 w4 := ((HR1.out.2.next ho2 (fun j h => .inl h)).next ho3 (fun j h => .inl h)).next ho4 (fun j h => .inl h)
    have hN4 : Whole w4 N 37 Z := HU.out.2.2.2.2.only hon (by have := HU.out.2.2.2.1; omega)
    have hr5 := hr4.under hb5
    have hN5 := hN4.under hb5
    have hon5 := (HO.out.next hon (fun j h => .inl h)).under hb5
    have hone : (pk mk (x % 128) sq ti so (.slice none 0 0) (.slice none 0 0) (.slice none 0 0) 0).all (·.oneCell') = true := pk_one rfl rfl rfl
    have h9 : (pk mk (x % 128) sq ti so (.slice none 0 0) (.slice none 0 0) (.slice none 0 0) 0).size = 9 := rfl
    obtain ⟨M, hM⟩ : ∃ M, pk mk (x % 128) sq ti so (.slice none 0 0) (.slice none 0 0) (.slice none 0 0) 0 = M := ⟨_, rfl⟩
    simp only [hM] at hg4 hr5 hN5 hon5 hone h9 ⊢
    generalize (w4.alloc (.cells Z 37)).setRow w4.heap.size M = w5 at *
    generalize w4.heap.size = N4 at *
    have H5 := Lib.hid (And.intro hg4 (And.intro hr5 (And.intro hN5 (And.intro hon5 (And.intro hM (And.intro hone h9))))))
    clear hg4 hb5 hon hN4 hr5 hN5 hon5 hM hone h9 hr2 hr3 hr4 ho2 ho3 ho4
    go_wp2
    go_loop [23] (fun s23 => s23 = .int .i64 0) (fun _ => 0)
    case atStart => rfl
    case round =>
      obtain rfl := hrel
      go_wp2_with (first
        | (refine wpList_load_all rfl 37 (.tmp 6) rfl H5.out.1 rfl Try.sizePk H5.out.2.2.2.2.2.2 Try.underlying37 rfl ?_)
        | (refine wpList_store_whole rfl 37 (.tmp 4) (.tmp 33) rfl rfl rfl H5.out.2.2.1 Try.sizePk H5.out.2.2.2.2.2.2 hZ H5.out.2.2.2.2.2.1 ?_))
      have hN6 := H5.out.2.2.1.row M
      have hr6 : RdV (w5.setRow N M) b v4 ((xs.drop 2).drop 4 |>.drop 4) false := by
        refine ⟨H5.out.2.1.block.farRow (by have := HU.out.2.2.2.1; omega) _, H5.out.2.1.rest.below (below_row (Below.refl b w5) (by have := HU.out.2.2.2.1; omega) _)⟩
      have hd : ((xs.drop 2).drop 4 |>.drop 4) = xs.drop 10 := by simp
      rw [hd] at hr6
      refine bodyPost_ret (ret_struct rfl rfl hN6 Try.underlying37 rfl Try.sizePk H5.out.2.2.2.2.2.2) rfl ⟨mk, x % 128, sq, ti, so, ?_, HMK.out, ⟨v4, hr6⟩, ?_⟩
      · rw [H5.out.2.2.2.2.1]
      · exact H5.out.2.2.2.1.over (below_row (Below.refl N w5) (Nat.le_refl _) M) (by have := HNN.out; omega)
  by_cases h128 : 128 ≤ x
  · exact main true 128 (by rw [and8_128 x hx0.1 hx0.2]; omega) (by simp [h128]) (by simp)
  · exact main false 0 (by rw [and8_128 x hx0.1 hx0.2]; omega) (by simp [h128]) (by simp)
end Go.Proofs.Ytapbodiakkdfmaa
