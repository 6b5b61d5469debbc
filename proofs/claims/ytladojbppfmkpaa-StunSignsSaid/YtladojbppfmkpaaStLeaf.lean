/- The least functions of messages: numbers out of and into bytes. -/
import Derived.Test.YtladojbppfmkpaaStBits
namespace Go.Proofs.Ytladojbppfmkpaa
open Go.RowKit
set_option linter.unusedVariables false

theorem ret_int {k : IntKind} {a b : Int} (h : a = b) : Ending.returned (.int k a) = .returned (.int k b) := by rw [h]

set_option maxHeartbeats 400000 in
theorem padding_any (n : Nat) (hn : n ≤ 140737488355328) (w : World) : Calls Try.prog 55 #[.int .i64 n] w fun e w' => e = .returned (.int .i64 (padN n)) ∧ w = w' := by
  go_enter Try.func55, Try.ntmps55
  go_wp2
  go_ret
  exact ⟨ret_int (pad_bits n), rfl⟩
set_option maxHeartbeats 400000 in
theorem headKind_any (c m : Int) (c0 : 0 ≤ c) (c3 : c ≤ 3) (m0 : 0 ≤ m) (m4 : m ≤ 4095) (w : World) : Calls Try.prog 54 #[.int .i64 c, .int .i64 m] w fun e w' => e = .returned (.int .u16 (kindOf c m)) ∧ w = w' := by
  have H := Lib.hid (kind_bits c m c0 (by omega) m0 (by omega))
  clear c0 c3 m0 m4
  go_enter Try.func54, Try.ntmps54
  go_wp2
  go_ret
  exact ⟨ret_int H.out, rfl⟩
set_option maxHeartbeats 400000 in
theorem classOf_any (k : Int) (h0 : 0 ≤ k) (h1 : k < 65536) (w : World) : Calls Try.prog 58 #[.int .u16 k] w fun e w' => e = .returned (.int .i64 (clOf k)) ∧ w = w' := by
  have H := Lib.hid (class_bits k h0 h1)
  clear h0 h1
  go_enter Try.func58, Try.ntmps58
  go_wp2
  go_ret
  exact ⟨ret_int H.out, rfl⟩
set_option maxHeartbeats 400000 in
theorem methodOf_any (k : Int) (h0 : 0 ≤ k) (h1 : k < 65536) (w : World) : Calls Try.prog 59 #[.int .u16 k] w fun e w' => e = .returned (.int .i64 (meOf k)) ∧ w = w' := by
  have H := Lib.hid (method_bits k h0 h1)
  clear h0 h1
  go_enter Try.func59, Try.ntmps59
  go_wp2
  go_ret
  exact ⟨ret_int H.out, rfl⟩

/-- Bytes in a new block. -/
structure New8 (w w' : World) (g : Nat) (xs : List Int) : Prop where
  whole : Whole w' g 5 (arr .u8 xs)
  new : w.heap.size ≤ g
  below : Below w.heap.size w w'
theorem New8.v8 {w w' : World} {g : Nat} {xs : List Int} (h : New8 w w' g xs) (hm : xs.length ≤ maxLen) : V8 w' w'.heap.size (.slice (some ⟨g, 0, none⟩) xs.length xs.length) xs := by
  have h1 := Bs.row h.whole 0 (Nat.zero_le _)
  rw [Nat.sub_zero, List.drop_zero] at h1
  exact ⟨_, _, rfl, Nat.le_refl _, hm, (fun e => by cases e), h1.more h.whole.lt⟩
set_option maxHeartbeats 400000 in
theorem two_any (x : Int) (w : World) : Calls Try.prog 30 #[.int .i64 x] w fun e w' => ∃ g, e = .returned (.slice (some ⟨g, 0, none⟩) 2 2) ∧ New8 w w' g (be2 x) := by
  go_enter Try.func30, Try.ntmps30
  go_wp2
  go_ret
  exact ⟨_, rfl, Whole.new w 5 _, Nat.le_refl _, (Below.refl _ w).alloc (Nat.le_refl _) _⟩
set_option maxHeartbeats 400000 in
theorem four_any (x : Int) (w : World) : Calls Try.prog 31 #[.int .u32 x] w fun e w' => ∃ g, e = .returned (.slice (some ⟨g, 0, none⟩) 4 4) ∧ New8 w w' g (be4 x) := by
  go_enter Try.func31, Try.ntmps31
  go_wp2
  go_ret
  exact ⟨_, rfl, Whole.new w 5 _, Nat.le_refl _, (Below.refl _ w).alloc (Nat.le_refl _) _⟩

/-- A row of the call's own has grown: of what was there nothing else has turned. -/
structure Grew (base : Nat) (w w' : World) (v v' : Value) (xs : List Int) : Prop where
  own : Own8 w' base v' xs
  only : Only (fun k => v.ownBlock = some k) w w'
  at_ : ∀ k, v'.ownBlock = some k → v.ownBlock = some k ∨ w.heap.size ≤ k
theorem own8_ne {w : World} {base g : Nat} {v : Value} {xs : List Int} {t : TypeId} {cs : Array Value} (h : Own8 w base v xs) (hg : Whole w g t cs) (ht : 5 ≠ t) : v.ownBlock ≠ some g := by
  intro e
  rcases h.2 with ⟨rfl, _⟩ | ⟨g', cap, cur, rfl, _, h3, _⟩
  · cases e
  · have : g' = g := by simpa [Value.ownBlock] using e
    subst this
    exact Whole.ne (show Whole w g' 5 cur from h3) hg ht rfl
section
variable {base : Nat} {w w' w2 : World} {v v' v2 : Value} {xs xs' xs2 : List Int}
theorem Grew.below (h : Grew base w w' v v' xs') (ho : Own8 w base v xs) (hb : base ≤ w.heap.size) : Below base w w' := h.only.below (fun k hk => (ho.lt hk).1) hb
theorem Grew.keep (h : Grew base w w' v v' xs') (ho : Own8 w base v xs) {g : Nat} {t : TypeId} {cs : Array Value} (hg : Whole w g t cs) (ht : 5 ≠ t) : Whole w' g t cs := hg.only h.only (own8_ne ho hg ht)
theorem Grew.trans (h : Grew base w w' v v' xs') (k : Grew base w' w2 v' v2 xs2) : Grew base w w2 v v2 xs2 :=
  ⟨k.own, h.only.next k.only h.at_, fun j hj => (k.at_ j hj).elim (h.at_ j) (fun e => .inr (Nat.le_trans h.only.size e))⟩
theorem Grew.of {o : Obj} (h1 : Own8 w' base v' xs') (h2 : (w.alloc o).grownBy w' v.ownBlock) (h3 : v'.ownBlock = v.ownBlock ∨ v'.ownBlock = some (w.alloc o).heap.size) : Grew base w w' v v' xs' :=
  ⟨h1, ((Only.refl _ w).alloc o).grown h2 (fun k hk => .inl hk), fun k hk => by
    rcases h3 with e | e
    · rw [e] at hk; exact .inl hk
    · rw [e] at hk; cases hk; exact .inr (by simp)⟩
theorem Grew.of0 (h1 : Own8 w' base v' xs') (h2 : w.grownBy w' v.ownBlock) (h3 : v'.ownBlock = v.ownBlock ∨ v'.ownBlock = some w.heap.size) : Grew base w w' v v' xs' :=
  ⟨h1, (Only.refl _ w).grown h2 (fun k hk => .inl hk), fun k hk => by
    rcases h3 with e | e
    · rw [e] at hk; exact .inl hk
    · rw [e] at hk; cases hk; exact .inr (Nat.le_refl _)⟩
end

set_option maxHeartbeats 800000 in
theorem put16_any (x : Int) (v : Value) (base : Nat) (xs : List Int) (w : World) (h : Own8 w base v xs) (hb : base ≤ w.heap.size) (hl : xs.length ≤ 140737488000000) :
    Calls Try.prog 51 #[v, .int .u16 x] w fun e w' => ∃ v', e = .returned v' ∧ Grew base w w' v v' (xs ++ be2 x) := by
  have HO := Lib.hid (h.alloc (Obj.cells #[.int .u8 (x / 256 % 256), .int .u8 (x % 256)] 5))
  have HB : Hid (Bs (w.alloc (.cells #[.int .u8 (x / 256 % 256), .int .u8 (x % 256)] 5)) (w.heap.size + 1) (some ⟨w.heap.size, 0, none⟩) 2 (be2 x)) := by
    have := Bs.row (t := 5) (ys := be2 x) (Whole.new w 5 (arr .u8 (be2 x))) 0 (Nat.zero_le _)
    exact Lib.hid this
  have hz : base ≤ (w.alloc (.cells #[.int .u8 (x / 256 % 256), .int .u8 (x % 256)] 5)).heap.size := by simp; omega
  clear h
  go_enter Try.func51, Try.ntmps51
  go_wp2_with (at_builtin; go_must (refine wpList_append8 rfl (.tmp 5) (.tmp 11) rfl rfl HO.out rfl HB.out (fun e => by cases e) (by omega) hz ?_))
  intro v1 w1 h1 h2 h3
  go_wp2
  go_ret
  exact ⟨v1, rfl, Grew.of h1 h2 (by rw [World.size_alloc]; exact h3)⟩
set_option maxHeartbeats 800000 in
theorem put32_any (x : Int) (v : Value) (base : Nat) (xs : List Int) (w : World) (h : Own8 w base v xs) (hb : base ≤ w.heap.size) (hl : xs.length ≤ 140737487000000) :
    Calls Try.prog 52 #[v, .int .u32 x] w fun e w' => ∃ v', e = .returned v' ∧ Grew base w w' v v' (xs ++ be4 x) := by
  have HP : Hid (∀ y V ys W, Own8 W base V ys → base ≤ W.heap.size → ys.length ≤ 140737488000000 → Calls Try.prog 51 #[V, .int .u16 y] W fun e w' => ∃ v', e = .returned v' ∧ Grew base W w' V v' (ys ++ be2 y)) := Lib.hid fun y V ys W h1 h2 h3 => put16_any y V base ys W h1 h2 h3
  have HO := Lib.hid h
  clear h
  go_enter Try.func52, Try.ntmps52
  go_wp2_with (go_at_call 51; (with_reducible refine (HP.out _ _ _ _ HO.out hb (by omega)).mono ?_); rintro e w1 ⟨v1, rfl, h1⟩)
  have hb1 : base ≤ w1.heap.size := Nat.le_trans hb h1.only.size
  go_wp2_with (go_at_call 51; (with_reducible refine (HP.out _ _ _ _ h1.own hb1 (by simp; omega)).mono ?_); rintro e w2 ⟨v2, rfl, h2⟩)
  go_ret
  have h := h1.trans h2
  refine ⟨v2, rfl, ?_⟩
  rw [List.append_assoc] at h
  have e4 : be2 (x / 65536 % 65536) ++ be2 (x % 65536) = be4 x := by
    unfold be2 be4
    rw [show x / 65536 % 65536 / 256 % 256 = x / 16777216 % 256 by omega, show x / 65536 % 65536 % 256 = x / 65536 % 256 by omega, show x % 65536 / 256 % 256 = x / 256 % 256 by omega, show x % 65536 % 256 = x % 256 by omega]
    rfl
  rw [← e4]
  exact h
end Go.Proofs.Ytladojbppfmkpaa
