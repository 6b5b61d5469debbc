import Derived.Test.YtbbedhecfipdjaaGreatDoorPkAttrOrderA00
namespace Go.Proofs.YtbbedhecfipdjaaGreatDoor
open Go.RowKit
set_option linter.unusedVariables false
set_option linter.unusedSimpArgs false
theorem any_no {α : Type} [Inhabited α] {L : List α} {q : α → Bool} {n : Nat} (hn : L.length = n) (h : ∀ j, j < n → q (L.getD j default) = false) : L.any q = false := by
 rw [List.any_eq_false]
 intro a ha
 obtain ⟨j, hj, rfl⟩ := List.getElem_of_mem ha
 have := h j (by omega)
 simpa [List.getD, hj] using this
theorem any_yes {α : Type} [Inhabited α] {L : List α} {q : α → Bool} {j : Nat} (hj : j < L.length) (h : q (L.getD j default) = true) : L.any q = true := by
 rw [List.any_eq_true]
 exact ⟨_, getD_mem hj, h⟩
set_option maxHeartbeats 1600000 in
set_option maxRecDepth 100000 in
theorem indexB_any (A : Option Addr) (n c : Nat) (L : List ByteArray) (q : ByteArray → Bool) (w : World) (h : TextsV w w.heap.size (.slice A n c) L) (hn : L.length = n) (hl : n ≤ 4611686018427387904)
 (hp : ∀ (W : World) (x : ByteArray), Below w.heap.size w W → x ∈ L → Calls Tryz.prog 139 #[.string x] W fun e w' => e = .returned (.bool (q x)) ∧ Below W.heap.size W w') :
 Calls Tryz.prog 183 #[.slice A n c, .func (.func 139) #[] #[]] w fun e w' => ∃ r : Int, e = .returned (.int .i64 r) ∧ decide (0 ≤ r) = L.any q ∧ Below w.heap.size w w' := by
 have HA := Lib.hid h
 have HP := Lib.hid hp
 have HE := Lib.hid hn
 clear h hn hp
 go_enter Tryz.func183, Tryz.ntmps183
 go_wp2
 go_loopw [8] (fun s8 wr => ∃ k : Nat, k ≤ n ∧ s8 = .int .i64 k ∧ (∀ j, j < k → q (L.getD j default) = false) ∧ Below w.heap.size w wr) (fun s8 _ => n - (intOf s8).toNat)
 case atStart => exact ⟨0, by omega, rfl, (fun j hj => by omega), Below.refl _ w⟩
 case round =>
  obtain ⟨k, hk, rfl, hno, hb⟩ := hrel
  have HNO := Lib.hid hno
  clear hno
  by_cases hlt : k < n
  · have hlt' : k < L.length := by rw [HE.out]; exact hlt
    obtain ⟨ad, c', e1, had, c0⟩ := (HA.out.below hb).at_ hlt'
    injection e1 with e1 e1n e1c
    clear e1n e1c
    subst e1
    obtain ⟨x, hx⟩ : ∃ x, L.getD k default = x := ⟨_, rfl⟩
    have HM : Hid (x ∈ L) := Lib.hid (by rw [← hx]; exact getD_mem hlt')
    rw [hx] at c0
    have HX := Lib.hid hx
    have HB := Lib.hid (And.intro hb hlt')
    obtain ⟨b, hbb⟩ : ∃ b, q x = b := ⟨_, rfl⟩
    have HS := Lib.hid (HP.out wr x hb HM.out)
    rw [hbb] at HS
    have HBT := Lib.hid hbb
    clear hbb hx hb hlt' had
    have hk0 : (0 : Int) ≤ (k : Int) := by omega
    have hk1 : (k : Int) < (n : Int) := by omega
    cases b with
    | true =>
      go_wp2_with (go_at_call 139; (with_reducible refine HS.out.mono ?_); rintro e w2 ⟨rfl, hb2⟩)
      go_ret
      exact ⟨_, rfl, by rw [any_yes HB.out.2 (by rw [HX.out]; exact HBT.out)]; exact decide_eq_true hk0, HB.out.1.trans (hb2.mono HB.out.1.size)⟩
    | false =>
      go_wp2_with (go_at_call 139; (with_reducible refine HS.out.mono ?_); rintro e w2 ⟨rfl, hb2⟩)
      go_roundw
      case rel =>
       refine ⟨k + 1, by omega, by go_num, fun j hj => ?_, HB.out.1.trans (hb2.mono HB.out.1.size)⟩
       by_cases e : j = k
       · subst e
         rw [HX.out]
         exact HBT.out
       · exact HNO.out j (by omega)
      case measure => simp [intOf]; omega
  · have e : k = n := by omega
    subst e
    have HN : Hid (L.any q = false) := Lib.hid (any_no HE.out HNO.out)
    have HB := Lib.hid hb
    clear hb
    go_wp2
    go_ret
    exact ⟨_, rfl, by rw [HN.out]; rfl, HB.out⟩
set_option maxHeartbeats 800000 in
theorem containsB_any (A : Option Addr) (n c : Nat) (L : List ByteArray) (q : ByteArray → Bool) (w : World) (h : TextsV w w.heap.size (.slice A n c) L) (hn : L.length = n) (hl : n ≤ 4611686018427387904)
 (hp : ∀ (W : World) (x : ByteArray), Below w.heap.size w W → x ∈ L → Calls Tryz.prog 139 #[.string x] W fun e w' => e = .returned (.bool (q x)) ∧ Below W.heap.size W w') :
 Calls Tryz.prog 138 #[.slice A n c, .func (.func 139) #[] #[]] w fun e w' => e = .returned (.bool (L.any q)) ∧ Below w.heap.size w w' := by
 have HC := Lib.hid (indexB_any A n c L q  w h hn hl hp)
 clear h hp
 generalize L.any q = r at *
 go_enter Tryz.func138, Tryz.ntmps138
 go_wp2_with (go_at_call 183; (with_reducible refine HC.out.mono ?_); rintro e w2 ⟨i, rfl, hi, hb2⟩)
 go_ret
 first | exact ⟨rfl, hb2⟩ | exact ⟨ret_bool hi, hb2⟩
set_option maxHeartbeats 1600000 in
set_option maxRecDepth 100000 in
theorem indexS_any (A : Option Addr) (n c : Nat) (L : List ByteArray) (q : ByteArray → Bool) (p1 : Value) (p2 : Value) (w : World) (h : TextsV w w.heap.size (.slice A n c) L) (hn : L.length = n) (hl : n ≤ 4611686018427387904)
 (hp : ∀ (W : World) (x : ByteArray), Below w.heap.size w W → x ∈ L → Calls Tryz.prog 143 #[.string x, p1, p2] W fun e w' => e = .returned (.bool (q x)) ∧ Below W.heap.size W w') :
 Calls Tryz.prog 183 #[.slice A n c, .func (.func 143) #[] #[p1, p2]] w fun e w' => ∃ r : Int, e = .returned (.int .i64 r) ∧ decide (0 ≤ r) = L.any q ∧ Below w.heap.size w w' := by
 have HA := Lib.hid h
 have HP := Lib.hid hp
 have HE := Lib.hid hn
 clear h hn hp
 go_enter Tryz.func183, Tryz.ntmps183
 go_wp2
 go_loopw [8] (fun s8 wr => ∃ k : Nat, k ≤ n ∧ s8 = .int .i64 k ∧ (∀ j, j < k → q (L.getD j default) = false) ∧ Below w.heap.size w wr) (fun s8 _ => n - (intOf s8).toNat)
 case atStart => exact ⟨0, by omega, rfl, (fun j hj => by omega), Below.refl _ w⟩
 case round =>
  obtain ⟨k, hk, rfl, hno, hb⟩ := hrel
  have HNO := Lib.hid hno
  clear hno
  by_cases hlt : k < n
  · have hlt' : k < L.length := by rw [HE.out]; exact hlt
    obtain ⟨ad, c', e1, had, c0⟩ := (HA.out.below hb).at_ hlt'
    injection e1 with e1 e1n e1c
    clear e1n e1c
    subst e1
    obtain ⟨x, hx⟩ : ∃ x, L.getD k default = x := ⟨_, rfl⟩
    have HM : Hid (x ∈ L) := Lib.hid (by rw [← hx]; exact getD_mem hlt')
    rw [hx] at c0
    have HX := Lib.hid hx
    have HB := Lib.hid (And.intro hb hlt')
    obtain ⟨b, hbb⟩ : ∃ b, q x = b := ⟨_, rfl⟩
    have HS := Lib.hid (HP.out wr x hb HM.out)
    rw [hbb] at HS
    have HBT := Lib.hid hbb
    clear hbb hx hb hlt' had
    have hk0 : (0 : Int) ≤ (k : Int) := by omega
    have hk1 : (k : Int) < (n : Int) := by omega
    cases b with
    | true =>
      go_wp2_with (go_at_call 143; (with_reducible refine HS.out.mono ?_); rintro e w2 ⟨rfl, hb2⟩)
      go_ret
      exact ⟨_, rfl, by rw [any_yes HB.out.2 (by rw [HX.out]; exact HBT.out)]; exact decide_eq_true hk0, HB.out.1.trans (hb2.mono HB.out.1.size)⟩
    | false =>
      go_wp2_with (go_at_call 143; (with_reducible refine HS.out.mono ?_); rintro e w2 ⟨rfl, hb2⟩)
      go_roundw
      case rel =>
       refine ⟨k + 1, by omega, by go_num, fun j hj => ?_, HB.out.1.trans (hb2.mono HB.out.1.size)⟩
       by_cases e : j = k
       · subst e
         rw [HX.out]
         exact HBT.out
       · exact HNO.out j (by omega)
      case measure => simp [intOf]; omega
  · have e : k = n := by omega
    subst e
    have HN : Hid (L.any q = false) := Lib.hid (any_no HE.out HNO.out)
    have HB := Lib.hid hb
    clear hb
    go_wp2
    go_ret
    exact ⟨_, rfl, by rw [HN.out]; rfl, HB.out⟩
set_option maxHeartbeats 800000 in
theorem containsS_any (A : Option Addr) (n c : Nat) (L : List ByteArray) (q : ByteArray → Bool) (p1 : Value) (p2 : Value) (w : World) (h : TextsV w w.heap.size (.slice A n c) L) (hn : L.length = n) (hl : n ≤ 4611686018427387904)
 (hp : ∀ (W : World) (x : ByteArray), Below w.heap.size w W → x ∈ L → Calls Tryz.prog 143 #[.string x, p1, p2] W fun e w' => e = .returned (.bool (q x)) ∧ Below W.heap.size W w') :
 Calls Tryz.prog 138 #[.slice A n c, .func (.func 143) #[] #[p1, p2]] w fun e w' => e = .returned (.bool (L.any q)) ∧ Below w.heap.size w w' := by
 have HC := Lib.hid (indexS_any A n c L q p1 p2 w h hn hl hp)
 clear h hp
 generalize L.any q = r at *
 go_enter Tryz.func138, Tryz.ntmps138
 go_wp2_with (go_at_call 183; (with_reducible refine HC.out.mono ?_); rintro e w2 ⟨i, rfl, hi, hb2⟩)
 go_ret
 first | exact ⟨rfl, hb2⟩ | exact ⟨ret_bool hi, hb2⟩
set_option maxHeartbeats 1600000 in
set_option maxRecDepth 100000 in
theorem indexU_any (A : Option Addr) (n c : Nat) (L : List Nat) (q : Nat → Bool) (p1 : Value) (p2 : Value) (w : World) (h : NumsV w w.heap.size (.slice A n c) L) (hn : L.length = n) (hl : n ≤ 4611686018427387904)
 (hp : ∀ (W : World) (x : Nat), Below w.heap.size w W → x ∈ L → Calls Tryz.prog 144 #[.int .u32 (x : Nat), p1, p2] W fun e w' => e = .returned (.bool (q x)) ∧ Below W.heap.size W w') :
 Calls Tryz.prog 186 #[.slice A n c, .func (.func 144) #[] #[p1, p2]] w fun e w' => ∃ r : Int, e = .returned (.int .i64 r) ∧ decide (0 ≤ r) = L.any q ∧ Below w.heap.size w w' := by
 have HA := Lib.hid h
 have HP := Lib.hid hp
 have HE := Lib.hid hn
 clear h hn hp
 go_enter Tryz.func186, Tryz.ntmps186
 go_wp2
 go_loopw [8] (fun s8 wr => ∃ k : Nat, k ≤ n ∧ s8 = .int .i64 k ∧ (∀ j, j < k → q (L.getD j default) = false) ∧ Below w.heap.size w wr) (fun s8 _ => n - (intOf s8).toNat)
 case atStart => exact ⟨0, by omega, rfl, (fun j hj => by omega), Below.refl _ w⟩
 case round =>
  obtain ⟨k, hk, rfl, hno, hb⟩ := hrel
  have HNO := Lib.hid hno
  clear hno
  by_cases hlt : k < n
  · have hlt' : k < L.length := by rw [HE.out]; exact hlt
    obtain ⟨ad, c', e1, had, c0⟩ := (HA.out.below hb).at_ hlt'
    injection e1 with e1 e1n e1c
    clear e1n e1c
    subst e1
    obtain ⟨x, hx⟩ : ∃ x, L.getD k default = x := ⟨_, rfl⟩
    have HM : Hid (x ∈ L) := Lib.hid (by rw [← hx]; exact getD_mem hlt')
    rw [hx] at c0
    have HX := Lib.hid hx
    have HB := Lib.hid (And.intro hb hlt')
    obtain ⟨b, hbb⟩ : ∃ b, q x = b := ⟨_, rfl⟩
    have HS := Lib.hid (HP.out wr x hb HM.out)
    rw [hbb] at HS
    have HBT := Lib.hid hbb
    clear hbb hx hb hlt' had
    have hk0 : (0 : Int) ≤ (k : Int) := by omega
    have hk1 : (k : Int) < (n : Int) := by omega
    cases b with
    | true =>
      go_wp2_with (go_at_call 144; (with_reducible refine HS.out.mono ?_); rintro e w2 ⟨rfl, hb2⟩)
      go_ret
      exact ⟨_, rfl, by rw [any_yes HB.out.2 (by rw [HX.out]; exact HBT.out)]; exact decide_eq_true hk0, HB.out.1.trans (hb2.mono HB.out.1.size)⟩
    | false =>
      go_wp2_with (go_at_call 144; (with_reducible refine HS.out.mono ?_); rintro e w2 ⟨rfl, hb2⟩)
      go_roundw
      case rel =>
       refine ⟨k + 1, by omega, by go_num, fun j hj => ?_, HB.out.1.trans (hb2.mono HB.out.1.size)⟩
       by_cases e : j = k
       · subst e
         rw [HX.out]
         exact HBT.out
       · exact HNO.out j (by omega)
      case measure => simp [intOf]; omega
  · have e : k = n := by omega
    subst e
    have HN : Hid (L.any q = false) := Lib.hid (any_no HE.out HNO.out)
    have HB := Lib.hid hb
    clear hb
    go_wp2
    go_ret
    exact ⟨_, rfl, by rw [HN.out]; rfl, HB.out⟩
set_option maxHeartbeats 800000 in
theorem containsU_any (A : Option Addr) (n c : Nat) (L : List Nat) (q : Nat → Bool) (p1 : Value) (p2 : Value) (w : World) (h : NumsV w w.heap.size (.slice A n c) L) (hn : L.length = n) (hl : n ≤ 4611686018427387904)
 (hp : ∀ (W : World) (x : Nat), Below w.heap.size w W → x ∈ L → Calls Tryz.prog 144 #[.int .u32 (x : Nat), p1, p2] W fun e w' => e = .returned (.bool (q x)) ∧ Below W.heap.size W w') :
 Calls Tryz.prog 145 #[.slice A n c, .func (.func 144) #[] #[p1, p2]] w fun e w' => e = .returned (.bool (L.any q)) ∧ Below w.heap.size w w' := by
 have HC := Lib.hid (indexU_any A n c L q p1 p2 w h hn hl hp)
 clear h hp
 generalize L.any q = r at *
 go_enter Tryz.func145, Tryz.ntmps145
 go_wp2_with (go_at_call 186; (with_reducible refine HC.out.mono ?_); rintro e w2 ⟨i, rfl, hi, hb2⟩)
 go_ret
 first | exact ⟨rfl, hb2⟩ | exact ⟨ret_bool hi, hb2⟩
set_option maxHeartbeats 1600000 in
set_option maxRecDepth 100000 in
theorem indexE_any (A : Option Addr) (n c : Nat) (L : List ExtS) (q : ExtS → Bool) (p1 : Value) (p2 : Value) (w : World) (h : ExtsV w w.heap.size (.slice A n c) L) (hn : L.length = n) (hl : n ≤ 4611686018427387904)
 (hp : ∀ (W : World) (x : ExtS), Below w.heap.size w W → x ∈ L → Calls Tryz.prog 140 #[.agg #[.int .i64 x.id, .string x.uri], p1, p2] W fun e w' => e = .returned (.bool (q x)) ∧ Below W.heap.size W w') :
 Calls Tryz.prog 184 #[.slice A n c, .func (.func 140) #[] #[p1, p2]] w fun e w' => ∃ r : Int, e = .returned (.int .i64 r) ∧ decide (0 ≤ r) = L.any q ∧ Below w.heap.size w w' := by
 have HA := Lib.hid h
 have HP := Lib.hid hp
 have HE := Lib.hid hn
 clear h hn hp
 go_enter Tryz.func184, Tryz.ntmps184
 go_wp2
 go_loopw [8] (fun s8 wr => ∃ k : Nat, k ≤ n ∧ s8 = .int .i64 k ∧ (∀ j, j < k → q (L.getD j default) = false) ∧ Below w.heap.size w wr) (fun s8 _ => n - (intOf s8).toNat)
 case atStart => exact ⟨0, by omega, rfl, (fun j hj => by omega), Below.refl _ w⟩
 case round =>
  obtain ⟨k, hk, rfl, hno, hb⟩ := hrel
  have HNO := Lib.hid hno
  clear hno
  by_cases hlt : k < n
  · have hlt' : k < L.length := by rw [HE.out]; exact hlt
    obtain ⟨ad, c', e1, had, c0, c1⟩ := (HA.out.below hb).at_ hlt'
    injection e1 with e1 e1n e1c
    clear e1n e1c
    subst e1
    obtain ⟨x, hx⟩ : ∃ x, L.getD k default = x := ⟨_, rfl⟩
    have HM : Hid (x ∈ L) := Lib.hid (by rw [← hx]; exact getD_mem hlt')
    rw [hx] at c0 c1
    have HX := Lib.hid hx
    have HB := Lib.hid (And.intro hb hlt')
    obtain ⟨b, hbb⟩ : ∃ b, q x = b := ⟨_, rfl⟩
    have HS := Lib.hid (HP.out wr x hb HM.out)
    rw [hbb] at HS
    have HBT := Lib.hid hbb
    clear hbb hx hb hlt' had
    have hk0 : (0 : Int) ≤ (k : Int) := by omega
    have hk1 : (k : Int) < (n : Int) := by omega
    cases b with
    | true =>
      go_wp2_with (go_at_call 140; (with_reducible refine HS.out.mono ?_); rintro e w2 ⟨rfl, hb2⟩)
      go_ret
      exact ⟨_, rfl, by rw [any_yes HB.out.2 (by rw [HX.out]; exact HBT.out)]; exact decide_eq_true hk0, HB.out.1.trans (hb2.mono HB.out.1.size)⟩
    | false =>
      go_wp2_with (go_at_call 140; (with_reducible refine HS.out.mono ?_); rintro e w2 ⟨rfl, hb2⟩)
      go_roundw
      case rel =>
       refine ⟨k + 1, by omega, by go_num, fun j hj => ?_, HB.out.1.trans (hb2.mono HB.out.1.size)⟩
       by_cases e : j = k
       · subst e
         rw [HX.out]
         exact HBT.out
       · exact HNO.out j (by omega)
      case measure => simp [intOf]; omega
  · have e : k = n := by omega
    subst e
    have HN : Hid (L.any q = false) := Lib.hid (any_no HE.out HNO.out)
    have HB := Lib.hid hb
    clear hb
    go_wp2
    go_ret
    exact ⟨_, rfl, by rw [HN.out]; rfl, HB.out⟩
set_option maxHeartbeats 800000 in
theorem containsE_any (A : Option Addr) (n c : Nat) (L : List ExtS) (q : ExtS → Bool) (p1 : Value) (p2 : Value) (w : World) (h : ExtsV w w.heap.size (.slice A n c) L) (hn : L.length = n) (hl : n ≤ 4611686018427387904)
 (hp : ∀ (W : World) (x : ExtS), Below w.heap.size w W → x ∈ L → Calls Tryz.prog 140 #[.agg #[.int .i64 x.id, .string x.uri], p1, p2] W fun e w' => e = .returned (.bool (q x)) ∧ Below W.heap.size W w') :
 Calls Tryz.prog 141 #[.slice A n c, .func (.func 140) #[] #[p1, p2]] w fun e w' => e = .returned (.bool (L.any q)) ∧ Below w.heap.size w w' := by
 have HC := Lib.hid (indexE_any A n c L q p1 p2 w h hn hl hp)
 clear h hp
 generalize L.any q = r at *
 go_enter Tryz.func141, Tryz.ntmps141
 go_wp2_with (go_at_call 184; (with_reducible refine HC.out.mono ?_); rintro e w2 ⟨i, rfl, hi, hb2⟩)
 go_ret
 first | exact ⟨rfl, hb2⟩ | exact ⟨ret_bool hi, hb2⟩
set_option maxHeartbeats 1600000 in
set_option maxRecDepth 100000 in
theorem indexC_any (A : Option Addr) (n c : Nat) (L : List CodecS) (q : CodecS → Bool) (p1 : Value) (p2 : Value) (w : World) (h : CodecsV w w.heap.size (.slice A n c) L) (hn : L.length = n) (hl : n ≤ 4611686018427387904)
 (hp : ∀ (W : World) (x : CodecS) (vf : Value), Below w.heap.size w W → x ∈ L → Calls Tryz.prog 135 #[.agg #[.int .i64 x.type, .string x.name, .int .i64 x.clock, .int .i64 x.chans, .string x.format, vf], p1, p2] W fun e w' => e = .returned (.bool (q x)) ∧ Below W.heap.size W w') :
 Calls Tryz.prog 180 #[.slice A n c, .func (.func 135) #[] #[p1, p2]] w fun e w' => ∃ r : Int, e = .returned (.int .i64 r) ∧ decide (0 ≤ r) = L.any q ∧ Below w.heap.size w w' := by
 have HA := Lib.hid h
 have HP := Lib.hid hp
 have HE := Lib.hid hn
 clear h hn hp
 go_enter Tryz.func180, Tryz.ntmps180
 go_wp2
 go_loopw [8] (fun s8 wr => ∃ k : Nat, k ≤ n ∧ s8 = .int .i64 k ∧ (∀ j, j < k → q (L.getD j default) = false) ∧ Below w.heap.size w wr) (fun s8 _ => n - (intOf s8).toNat)
 case atStart => exact ⟨0, by omega, rfl, (fun j hj => by omega), Below.refl _ w⟩
 case round =>
  obtain ⟨k, hk, rfl, hno, hb⟩ := hrel
  have HNO := Lib.hid hno
  clear hno
  by_cases hlt : k < n
  · have hlt' : k < L.length := by rw [HE.out]; exact hlt
    obtain ⟨ad, c', vf, e1, had, c0, c1, c2, c3, c4, c5, -⟩ := (HA.out.below hb).at_ hlt'
    injection e1 with e1 e1n e1c
    clear e1n e1c
    subst e1
    obtain ⟨x, hx⟩ : ∃ x, L.getD k default = x := ⟨_, rfl⟩
    have HM : Hid (x ∈ L) := Lib.hid (by rw [← hx]; exact getD_mem hlt')
    rw [hx] at c0 c1 c2 c3 c4
    have HX := Lib.hid hx
    have HB := Lib.hid (And.intro hb hlt')
    obtain ⟨b, hbb⟩ : ∃ b, q x = b := ⟨_, rfl⟩
    have HS := Lib.hid (HP.out wr x vf hb HM.out)
    rw [hbb] at HS
    have HBT := Lib.hid hbb
    clear hbb hx hb hlt' had
    have hk0 : (0 : Int) ≤ (k : Int) := by omega
    have hk1 : (k : Int) < (n : Int) := by omega
    cases b with
    | true =>
      go_wp2_with (go_at_call 135; (with_reducible refine HS.out.mono ?_); rintro e w2 ⟨rfl, hb2⟩)
      go_ret
      exact ⟨_, rfl, by rw [any_yes HB.out.2 (by rw [HX.out]; exact HBT.out)]; exact decide_eq_true hk0, HB.out.1.trans (hb2.mono HB.out.1.size)⟩
    | false =>
      go_wp2_with (go_at_call 135; (with_reducible refine HS.out.mono ?_); rintro e w2 ⟨rfl, hb2⟩)
      go_roundw
      case rel =>
       refine ⟨k + 1, by omega, by go_num, fun j hj => ?_, HB.out.1.trans (hb2.mono HB.out.1.size)⟩
       by_cases e : j = k
       · subst e
         rw [HX.out]
         exact HBT.out
       · exact HNO.out j (by omega)
      case measure => simp [intOf]; omega
  · have e : k = n := by omega
    subst e
    have HN : Hid (L.any q = false) := Lib.hid (any_no HE.out HNO.out)
    have HB := Lib.hid hb
    clear hb
    go_wp2
    go_ret
    exact ⟨_, rfl, by rw [HN.out]; rfl, HB.out⟩
set_option maxHeartbeats 800000 in
theorem containsC_any (A : Option Addr) (n c : Nat) (L : List CodecS) (q : CodecS → Bool) (p1 : Value) (p2 : Value) (w : World) (h : CodecsV w w.heap.size (.slice A n c) L) (hn : L.length = n) (hl : n ≤ 4611686018427387904)
 (hp : ∀ (W : World) (x : CodecS) (vf : Value), Below w.heap.size w W → x ∈ L → Calls Tryz.prog 135 #[.agg #[.int .i64 x.type, .string x.name, .int .i64 x.clock, .int .i64 x.chans, .string x.format, vf], p1, p2] W fun e w' => e = .returned (.bool (q x)) ∧ Below W.heap.size W w') :
 Calls Tryz.prog 136 #[.slice A n c, .func (.func 135) #[] #[p1, p2]] w fun e w' => e = .returned (.bool (L.any q)) ∧ Below w.heap.size w w' := by
 have HC := Lib.hid (indexC_any A n c L q p1 p2 w h hn hl hp)
 clear h hp
 generalize L.any q = r at *
 go_enter Tryz.func136, Tryz.ntmps136
 go_wp2_with (go_at_call 180; (with_reducible refine HC.out.mono ?_); rintro e w2 ⟨i, rfl, hi, hb2⟩)
 go_ret
 first | exact ⟨rfl, hb2⟩ | exact ⟨ret_bool hi, hb2⟩
set_option maxHeartbeats 800000 in
theorem indexY_none (A : Option Addr) (c : Nat) (f : Value) (w : World) : Calls Tryz.prog 187 #[.slice A 0 c, f] w fun e w' => e = .returned (.int .i64 (-1)) ∧ w = w' := by
 go_enter Tryz.func187, Tryz.ntmps187
 go_wp2
 go_loopw [8] (fun s8 wr => s8 = .int .i64 0 ∧ w = wr) (fun s8 _ => 0)
 case atStart => exact ⟨rfl, rfl⟩
 case round =>
  obtain ⟨rfl, rfl⟩ := hrel
  go_wp2
  go_ret
  exact ⟨rfl, rfl⟩
set_option maxHeartbeats 800000 in
theorem containsY_none (A : Option Addr) (c : Nat) (f : Value) (w : World) : Calls Tryz.prog 147 #[.slice A 0 c, f] w fun e w' => e = .returned (.bool false) ∧ w = w' := by
 have HC := Lib.hid (indexY_none A c f w)
 go_enter Tryz.func147, Tryz.ntmps147
 go_wp2_with (go_at_call 187; (with_reducible refine HC.out.mono ?_); rintro e w2 ⟨rfl, rfl⟩)
 go_ret
 exact ⟨rfl, rfl⟩
end Go.Proofs.YtbbedhecfipdjaaGreatDoor
