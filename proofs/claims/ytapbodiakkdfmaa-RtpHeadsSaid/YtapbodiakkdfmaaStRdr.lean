/- A reader of bytes: cloned, read. -/
import Derived.Test.YtapbodiakkdfmaaStWrite
namespace Go.Proofs.Ytapbodiakkdfmaa
open Go.RowKit
set_option linter.unusedVariables false

set_option maxHeartbeats 800000 in
set_option maxRecDepth 100000 in
/-- Clone of a slice that is not nil: a row of the call's own, with the same bytes; not nil. -/
theorem clone_at (a : Addr) (n c : Nat) (xs : List Int) (w : World) (hx : xs.length = n) (hbig : n ≤ 140737488355328) (hc : ∀ i, i < n → w.cell? (a.add i) = some (.int .u8 (xs.getD i 0))) :
    Calls Try.prog 13 #[.slice (some a) n c] w fun e w' => ∃ v', e = .returned v' ∧ w'.ownsRow w.heap.size 5 1 v' n (xs.map (Value.int .u8)) ∧ v' ≠ .slice none 0 0 ∧ Below w.heap.size w w' := by
  obtain ⟨i0, hi, hz0, hz1, hz2⟩ := info_parts Try.infoU8
  have q : ∀ (w : World) (a : Option Addr) (n c n' c' : Nat), (binOp .eql 22 (.slice a n c) (.slice none n' c')).run Try.prog w = .ok (.bool a.isNone) w := fun w a n c n' c' => Lib.run_eql_slice_nil w _ _ a n c n' c' Try.underlying22
  have HC := Lib.hid hc
  clear hc
  go_enter Try.func13, Try.ntmps13
  go_wp2_with (at_builtin; refine wpList_append_own _ rfl _ _ 22 rfl w.heap.size 5 i0 (.int .u8 0) 1 1 Try.underlying22 hi hz0 hz1 hz2 rfl (by decide) _ _ _ rfl (World.ownsRow_made w #[] 0 (Nat.le_refl _) (Nat.zero_le _) rfl) a n c (xs.map (Value.int .u8)) rfl ?qc1 ?qc2 ?qc3 ?qc4 ?qc5 ?qc6 ?_)
  case qc1 => simp; omega
  case qc2 =>
    intro j u hj
    have hjn : j < n := by
      have := (List.getElem?_eq_some_iff.1 hj).1
      simp at this
      omega
    refine Lib.cell?_alloc_some _ ?_
    rw [HC.out j hjn]
    have e : (xs.map (Value.int .u8))[j]? = some (Value.int .u8 (xs.getD j 0)) := by simp [List.getD, List.getElem?_eq_getElem (show j < xs.length by omega)]
    rw [e] at hj
    exact hj
  case qc3 => intro u hu; obtain ⟨x, _, rfl⟩ := List.mem_map.1 hu; rfl
  case qc4 => unfold maxLen; omega
  case qc5 => omega
  case qc6 => simp
  intro v' w1 hown hgrow hnil
  go_wp2
  go_ret
  refine ⟨v', rfl, by simpa using hown, ?_, ?_⟩
  · exact hnil
  · exact ((Below.refl _ w).alloc (Nat.le_refl _) _).grown hgrow (by simp) (by intro k hk; simp [Value.ownBlock] at hk; omega)
set_option maxHeartbeats 800000 in
theorem clone_nil (w : World) : Calls Try.prog 13 #[.slice none 0 0] w fun e w' => e = .returned (.slice none 0 0) ∧ w = w' := by
  have q : ∀ (w : World) (a : Option Addr) (n c n' c' : Nat), (binOp .eql 22 (.slice a n c) (.slice none n' c')).run Try.prog w = .ok (.bool a.isNone) w := fun w a n c n' c' => Lib.run_eql_slice_nil w _ _ a n c n' c' Try.underlying22
  go_enter Try.func13, Try.ntmps13
  go_wp2
  go_ret
  exact ⟨rfl, rfl⟩
/-- Clone, of whatever reads as bytes. -/
theorem clone_any (v : Value) (xs : List Int) (B : Nat) (w : World) (h : V8 w B v xs) (hl : xs.length ≤ 140737488355328) :
    Calls Try.prog 13 #[v] w fun e w' => ∃ v', e = .returned v' ∧ Own8 w' w.heap.size v' xs ∧ Below w.heap.size w w' := by
  obtain ⟨A, c, rfl, h2, h3, h4, h5⟩ := h
  cases A with
  | none =>
    have hx : xs.length = 0 := by have := h4 rfl; omega
    obtain rfl := h4 rfl
    rw [hx]
    obtain rfl := List.eq_nil_of_length_eq_zero hx
    refine (clone_nil w).mono fun e w' ⟨he, hw⟩ => ⟨_, he, ?_, ?_⟩
    · rw [← hw]; exact Own8.nil w _
    · rw [← hw]; exact Below.refl _ w
  | some a =>
    refine (clone_at a xs.length c xs w rfl hl (fun i hi => ?_)).mono fun e w' ⟨v', he, ho, _, hb⟩ => ⟨v', he, ho, hb⟩
    obtain ⟨ad, e, _, hc⟩ := h5.2 (by omega)
    cases e
    exact hc i hi

/-- Block b is a reader: the bytes xs are left, which lie below it; whether it is bad. -/
structure RdV (w : World) (b : Nat) (v : Value) (xs : List Int) (bad : Bool) : Prop where
  block : Whole w b 68 #[v, .bool bad]
  rest : V8 w b v xs
theorem RdV.only {w w' : World} {b : Nat} {v : Value} {xs : List Int} {bad : Bool} (h : RdV w b v xs bad) {S : Nat → Prop} (k : Only S w w') (hS : ∀ j, S j → b < j) : RdV w' b v xs bad :=
  ⟨h.block.only k (fun e => by have := hS _ e; omega), h.rest.below (k.below (fun j hj => Nat.le_of_lt (hS j hj)) (Nat.le_of_lt h.block.lt))⟩
theorem RdV.under {w w' : World} {b : Nat} {v : Value} {xs : List Int} {bad : Bool} (h : RdV w b v xs bad) (k : Below w.heap.size w w') : RdV w' b v xs bad :=
  ⟨h.block.under k, h.rest.below (k.mono (Nat.le_of_lt h.block.lt))⟩
theorem RdV.next {w w' : World} {b : Nat} {v : Value} {xs : List Int} {bad : Bool} (h : RdV w b v xs bad) (k : Below (b + 1) w w') : RdV w' b v xs bad :=
  ⟨h.block.below k (Nat.lt_succ_self _), h.rest.below (k.mono (Nat.le_succ _))⟩

set_option maxHeartbeats 800000 in
theorem bad_at (b : Nat) (v : Value) (xs : List Int) (bad : Bool) (w : World) (h : RdV w b v xs bad) :
    Calls Try.prog 36 #[.pointer (some ⟨b, 0, none⟩)] w fun e w' => e = .returned (.bool bad) ∧ w = w' := by
  have h1 : w.cell? ⟨b, 1, none⟩ = some (.bool bad) := by have := Whole.cell h.block 1; simpa using this
  clear h
  go_enter Try.func36, Try.ntmps36
  go_wp2
  go_ret
  exact ⟨rfl, rfl⟩
set_option maxHeartbeats 800000 in
theorem left_at (b : Nat) (v : Value) (xs : List Int) (bad : Bool) (w : World) (h : RdV w b v xs bad) :
    Calls Try.prog 32 #[.pointer (some ⟨b, 0, none⟩)] w fun e w' => e = .returned (.int .i64 xs.length) ∧ w = w' := by
  obtain ⟨A, c, rfl, _⟩ := h.rest
  have h1 : w.cell? ⟨b, 0, none⟩ = some (.slice A xs.length c) := by have := Whole.cell h.block 0; simpa using this
  clear h
  go_enter Try.func32, Try.ntmps32
  go_wp2
  go_ret
  exact ⟨rfl, rfl⟩

/-- What is taken of n bytes, and what is left. -/
def takeP (n : Nat) (xs : List Int) (bad : Bool) : List Int := if bad || decide (xs.length < n) then [] else xs.take n
def leftP (n : Nat) (xs : List Int) (bad : Bool) : List Int := if bad || decide (xs.length < n) then xs else xs.drop n
def badP (n : Nat) (xs : List Int) (bad : Bool) : Bool := bad || decide (xs.length < n)

set_option maxHeartbeats 1600000 in
set_option maxRecDepth 100000 in
theorem next_any (b : Nat) (v : Value) (xs : List Int) (bad : Bool) (n : Nat) (w : World) (h : RdV w b v xs bad) (hn : n ≤ 1000000) :
    Calls Try.prog 35 #[.pointer (some ⟨b, 0, none⟩), .int .i64 n] w fun e w' => ∃ v1 v2, e = .returned v1 ∧ V8 w' b v1 (takeP n xs bad) ∧ RdV w' b v2 (leftP n xs bad) (badP n xs bad) ∧ Only (fun k => k = b) w w' := by
  have HB := Lib.hid (fun W (e : w = W) => bad_at b v xs bad W (e ▸ h))
  obtain ⟨A, cap, hv, hle, hmx, hnil, hbs⟩ := h.rest
  subst hv
  obtain ⟨len, hlen⟩ : ∃ l, xs.length = l := ⟨_, rfl⟩
  have HL := Lib.hid hlen
  rw [hlen] at h hle hbs
  have h0 : w.cell? ⟨b, 0, none⟩ = some (.slice A len cap) := by have := Whole.cell h.block 0; simpa using this
  have h1 : w.cell? ⟨b, 1, none⟩ = some (.bool bad) := by have := Whole.cell h.block 1; simpa using this
  have f0 := Whole.frz h.block 0
  have f1 := Whole.frz h.block 1
  have HR := Lib.hid (And.intro h (And.intro hle (And.intro hmx (And.intro hnil hbs))))
  unfold maxLen at hmx
  clear h hnil hbs hlen
  have nilV : ∀ W, V8 W b (.slice none 0 0) [] := fun W => ⟨none, 0, rfl, Nat.le_refl _, Nat.zero_le _, fun _ => rfl, rfl, fun hn => by simp at hn⟩
  cases bad with
  | true =>
    go_enter Try.func35, Try.ntmps35
    go_wp2_with (go_at_call 36; refine (HB.out _ rfl).mono ?_; rintro e w' ⟨rfl, rfl⟩)
    go_ret
    exact ⟨_, _, rfl, nilV _, HR.out.1, Only.refl _ _⟩
  | false =>
    by_cases hlt : len < n
    · have e1 : takeP n xs false = [] := by unfold takeP; simp [HL.out, hlt]
      have e2 : leftP n xs false = xs := by unfold leftP; simp [HL.out, hlt]
      have e3 : badP n xs false = true := by unfold badP; simp [HL.out, hlt]
      rw [e1, e2, e3]
      have hgt : (len : Int) < (n : Int) := by omega
      have hb' : RdV (w.setCell ⟨b, 1, none⟩ (.bool true)) b (.slice A len cap) xs true := by
        refine ⟨HR.out.1.block.set 1 _, HR.out.1.rest.below ((Below.refl b w).setCell (p := ⟨b, 1, none⟩) (Nat.le_refl _) _)⟩
      have ho : Only (fun k => k = b) w (w.setCell ⟨b, 1, none⟩ (.bool true)) := (Only.refl (fun k => k = b) w).setCell (p := ⟨b, 1, none⟩) (.inl rfl) _
      have HH := Lib.hid (And.intro hb' ho)
      clear hb' ho e1 e2 e3
      go_enter Try.func35, Try.ntmps35
      go_wp2_with (go_at_call 36; refine (HB.out _ rfl).mono ?_; rintro e w' ⟨rfl, rfl⟩)
      go_ret
      exact ⟨_, _, rfl, nilV _, HH.out.1, HH.out.2⟩
    · have e1 : takeP n xs false = xs.take n := by unfold takeP; simp [HL.out, hlt]
      have e2 : leftP n xs false = xs.drop n := by unfold leftP; simp [HL.out, hlt]
      have e3 : badP n xs false = false := by unfold badP; simp [HL.out, hlt]
      rw [e1, e2, e3]
      have ge : (n : Int) ≤ (len : Int) := by omega
      cases A with
      | none =>
        obtain rfl := HR.out.2.2.2.1 rfl
        obtain rfl : len = 0 := by omega
        obtain rfl : n = 0 := by omega
        have hx : xs = [] := List.eq_nil_of_length_eq_zero HL.out
        subst hx
        have hb' : RdV (w.setCell ⟨b, 0, none⟩ (.slice none 0 0)) b (.slice none 0 0) [] false := ⟨HR.out.1.block.set 0 _, nilV _⟩
        have ho : Only (fun k => k = b) w (w.setCell ⟨b, 0, none⟩ (.slice none 0 0)) := (Only.refl (fun k => k = b) w).setCell (p := ⟨b, 0, none⟩) (.inl rfl) _
        have HH := Lib.hid (And.intro hb' ho)
        clear hb' ho e1 e2 e3
        go_enter Try.func35, Try.ntmps35
        go_wp2_with (go_at_call 36; refine (HB.out _ rfl).mono ?_; rintro e w' ⟨rfl, rfl⟩)
        go_ret
        exact ⟨_, _, rfl, nilV _, HH.out.1, HH.out.2⟩
      | some a =>
        have hcut := HR.out.2.2.2.2.cut (k := n) (by omega) HR.out.2.1
        have hhead := HR.out.2.2.2.2.head (k := n) (by omega)
        have hd : (xs.drop n).length = len - n := by rw [List.length_drop, HL.out]
        have ht : (xs.take n).length = n := by rw [List.length_take, HL.out]; omega
        have hbel : ∀ u, Below b w (w.setCell ⟨b, 0, none⟩ u) := fun u => (Below.refl b w).setCell (p := ⟨b, 0, none⟩) (Nat.le_refl _) _
        have hv1 : ∀ u, V8 (w.setCell ⟨b, 0, none⟩ u) b (.slice (some a) n cap) (xs.take n) := fun u => ⟨some a, cap, by rw [ht], by rw [ht]; omega, HR.out.2.2.1, (fun e => by cases e), by rw [ht]; exact hhead.below (hbel u)⟩
        have hv2 : RdV (w.setCell ⟨b, 0, none⟩ (.slice (if cap = n then some a else some (a.add n)) (len - n) (cap - n))) b (.slice (if cap = n then some a else some (a.add n)) (len - n) (cap - n)) (xs.drop n) false := by
          refine ⟨HR.out.1.block.set 0 _, ⟨if cap = n then some a else some (a.add n), cap - n, by rw [hd], by rw [hd]; omega, by have := HR.out.2.2.1; omega, (fun e => by split at e <;> cases e), ?_⟩⟩
          rw [hd]
          have := hcut.below (hbel (.slice (if cap = n then some a else some (a.add n)) (len - n) (cap - n)))
          exact this
        have ho : Only (fun k => k = b) w (w.setCell ⟨b, 0, none⟩ (.slice (if cap = n then some a else some (a.add n)) (len - n) (cap - n))) := (Only.refl (fun k => k = b) w).setCell (p := ⟨b, 0, none⟩) (.inl rfl) _
        have HV1 := Lib.hid hv1
        have h1' : cap = n → RdV (w.setCell ⟨b, 0, none⟩ (.slice (some a) 0 0)) b (.slice (some a) 0 0) (xs.drop n) false ∧ Only (fun k => k = b) w (w.setCell ⟨b, 0, none⟩ (.slice (some a) 0 0)) := fun e => by
          rw [if_pos e, show cap - n = 0 by omega, show len - n = 0 by have := HR.out.2.1; omega] at hv2 ho
          exact ⟨hv2, ho⟩
        have h2' : ¬ cap = n → RdV (w.setCell ⟨b, 0, none⟩ (.slice (some (a.add n)) (len - n) (cap - n))) b (.slice (some (a.add n)) (len - n) (cap - n)) (xs.drop n) false ∧ Only (fun k => k = b) w (w.setCell ⟨b, 0, none⟩ (.slice (some (a.add n)) (len - n) (cap - n))) := fun e => by
          rw [if_neg e] at hv2 ho
          exact ⟨hv2, ho⟩
        have HH := Lib.hid (And.intro h1' h2')
        have hle2 := HR.out.2.1
        clear hv1 hv2 ho e1 e2 e3 hcut hhead hd ht hbel h1' h2'
        by_cases hcn : cap = n
        · have HH1 := Lib.hid (HH.out.1 hcn)
          subst hcn
          go_enter Try.func35, Try.ntmps35
          go_wp2_with (go_at_call 36; refine (HB.out _ rfl).mono ?_; rintro e w' ⟨rfl, rfl⟩)
          all_goals
            go_ret
            first
              | exact ⟨_, _, rfl, HV1.out _, HH1.out.1, HH1.out.2⟩
              | (exfalso; omega)
        · have HH1 := Lib.hid (HH.out.2 hcn)
          go_enter Try.func35, Try.ntmps35
          go_wp2_with (go_at_call 36; refine (HB.out _ rfl).mono ?_; rintro e w' ⟨rfl, rfl⟩)
          all_goals
            go_ret
            first
              | exact ⟨_, _, rfl, HV1.out _, HH1.out.1, HH1.out.2⟩
              | (exfalso; omega)

/-- A number out of bytes, the first one the highest. -/
def numOf (xs : List Int) : Int := xs.foldl (fun v b => bits .or .u32 (v * 256 % 4294967296) b) 0
theorem or_add (k : Nat) (x y : Int) (hk : k < 32) (hx0 : 0 ≤ x) (hx : x * 2 ^ k < 4294967296) (hy0 : 0 ≤ y) (hy : y < 2 ^ k) : bits .or .u32 (x * 2 ^ k) y = x * 2 ^ k + y := by
  obtain ⟨a, rfl⟩ := Int.eq_ofNat_of_zero_le hx0
  obtain ⟨b, rfl⟩ := Int.eq_ofNat_of_zero_le hy0
  have c1 : ((a * 2 ^ k : Nat) : Int) = (a : Int) * 2 ^ k := by rw [Int.natCast_mul, Int.natCast_pow]; rfl
  have c2 : ((2 ^ k : Nat) : Int) = 2 ^ k := by rw [Int.natCast_pow]; rfl
  have hx' : a * 2 ^ k < 4294967296 := by rw [← c1] at hx; omega
  have hy' : b < 2 ^ k := by rw [← c2] at hy; omega
  have hb : b < 4294967296 := Nat.lt_of_lt_of_le hy' (Nat.pow_le_pow_right (by omega) (show k ≤ 32 by omega))
  have e : a * 2 ^ k ||| b = a * 2 ^ k + b := by rw [← Nat.shiftLeft_eq, Nat.shiftLeft_add_eq_or_of_lt hy']
  have := u32_or_nat _ _ hx' hb
  rw [e, Int.natCast_add, c1] at this
  exact this
theorem or_next (v b : Int) (hv : 0 ≤ v ∧ v < 16777216) (hb : 0 ≤ b ∧ b < 256) : bits .or .u32 (v * 256 % 4294967296) b = v * 256 + b := by
  have e : v * 256 % 4294967296 = v * 2 ^ 8 := by omega
  rw [e, or_add 8 v b (by decide) hv.1 (by omega) hb.1 (by omega)]
  omega
theorem numOf_two (a b : Int) (ha : 0 ≤ a ∧ a < 256) (hb : 0 ≤ b ∧ b < 256) : numOf [a, b] = a * 256 + b := by
  show bits .or .u32 (bits .or .u32 (0 * 256 % 4294967296) a * 256 % 4294967296) b = _
  rw [or_next 0 a (by omega) ha, or_next _ b (by omega) hb]
  omega
theorem numOf_four (a b c d : Int) (ha : 0 ≤ a ∧ a < 256) (hb : 0 ≤ b ∧ b < 256) (hc : 0 ≤ c ∧ c < 256) (hd : 0 ≤ d ∧ d < 256) : numOf [a, b, c, d] = ((a * 256 + b) * 256 + c) * 256 + d := by
  show bits .or .u32 (bits .or .u32 (bits .or .u32 (bits .or .u32 (0 * 256 % 4294967296) a * 256 % 4294967296) b * 256 % 4294967296) c * 256 % 4294967296) d = _
  rw [or_next 0 a (by omega) ha, or_next _ b (by omega) hb, or_next _ c (by omega) hc, or_next _ d (by omega) hd]
  omega
def In256 (xs : List Int) : Prop := ∀ i, 0 ≤ xs.getD i 0 ∧ xs.getD i 0 < 256
theorem In256.take {xs : List Int} (h : In256 xs) (n : Nat) : In256 (xs.take n) := fun i => by
  by_cases hi : i < n
  · have e : (xs.take n).getD i 0 = xs.getD i 0 := by simp [List.getD, hi]
    rw [e]; exact h i
  · have e : (xs.take n).getD i 0 = 0 := by simp [List.getD, List.getElem?_take, hi]
    rw [e]; omega
theorem In256.drop {xs : List Int} (h : In256 xs) (n : Nat) : In256 (xs.drop n) := fun i => by
  have e : (xs.drop n).getD i 0 = xs.getD (n + i) 0 := by simp [List.getD]
  rw [e]; exact h _
theorem In256.nil : In256 [] := fun i => by simp
theorem In256.takeP {xs : List Int} (h : In256 xs) (n : Nat) (bad : Bool) : In256 (takeP n xs bad) := by
  unfold Go.Proofs.Ytapbodiakkdfmaa.takeP
  split
  · exact In256.nil
  · exact h.take n
theorem In256.leftP {xs : List Int} (h : In256 xs) (n : Nat) (bad : Bool) : In256 (leftP n xs bad) := by
  unfold Go.Proofs.Ytapbodiakkdfmaa.leftP
  split
  · exact h
  · exact h.drop n

set_option maxHeartbeats 800000 in
set_option maxRecDepth 100000 in
theorem number_any (b : Nat) (v : Value) (xs : List Int) (bad : Bool) (n : Nat) (w : World) (h : RdV w b v xs bad) (hn : n ≤ 1000000) (hx : In256 xs) :
    Calls Try.prog 28 #[.pointer (some ⟨b, 0, none⟩), .int .i64 n] w fun e w' => e = .returned (.int .u32 (numOf (takeP n xs bad))) ∧ (∃ v2, RdV w' b v2 (leftP n xs bad) (badP n xs bad)) ∧ Only (fun k => k = b) w w' := by
  have HN := Lib.hid (next_any b v xs bad n w h hn)
  clear h
  have hin := hx.takeP n bad
  obtain ⟨ts, hts⟩ : ∃ t, takeP n xs bad = t := ⟨_, rfl⟩
  rw [hts] at HN hin ⊢
  have HI := Lib.hid hin
  have htl : ts.length ≤ n := by rw [← hts]; unfold takeP; split <;> simp; omega
  clear hts hin hx
  go_enter Try.func28, Try.ntmps28
  go_wp2_with (go_at_call 35; (with_reducible refine HN.out.mono ?_); rintro e w1 ⟨v1, v2, rfl, h1, h2, h3⟩; obtain ⟨A, c, rfl, -, -, -, hbs⟩ := h1)
  have HR := Lib.hid (And.intro h2 (And.intro h3 hbs))
  obtain ⟨l, hl⟩ : ∃ x, ts.length = x := ⟨_, rfl⟩
  rw [hl] at htl ⊢
  have HL := Lib.hid hl
  clear h2 h3 hbs hl
  go_loop [5, 12] (fun s5 s12 => ∃ k : Nat, k ≤ l ∧ s12 = .int .i64 k ∧ s5 = .int .u32 (numOf (ts.take k))) (fun _ s12 => l - (intOf s12).toNat)
  case atStart => exact ⟨0, by omega, rfl, rfl⟩
  case round =>
    obtain ⟨k, hk, rfl, rfl⟩ := hrel
    by_cases hlt : k < l
    · obtain ⟨ad, rfl, -, hc⟩ := HR.out.2.2.2 (by rw [HL.out]; omega)
      have hcell := hc k (by rw [HL.out]; exact hlt)
      have hs : numOf (ts.take (k + 1)) = bits .or .u32 (numOf (ts.take k) * 256 % 4294967296) (ts.getD k 0) := by
        rw [List.take_succ_eq_append_getElem (by rw [HL.out]; exact hlt)]
        unfold numOf
        rw [List.foldl_append]
        simp [List.getD, show k < ts.length by rw [HL.out]; exact hlt]
      obtain ⟨x, hxe⟩ : ∃ x, ts.getD k 0 = x := ⟨_, rfl⟩
      obtain ⟨y, hy⟩ : ∃ y, numOf (ts.take k) = y := ⟨_, rfl⟩
      rw [hxe] at hcell hs
      rw [hy] at hs ⊢
      obtain ⟨q0, q1⟩ := HI.out k
      rw [hxe] at q0 q1
      have HS := Lib.hid hs
      clear hc hs hxe hy
      go_wp2
      go_round
      case rel => exact ⟨k + 1, by omega, by go_num, by rw [HS.out]⟩
      case measure => simp [intOf]; omega
    · have e : ts.take k = ts := List.take_of_length_le (by rw [HL.out]; omega)
      rw [e]
      obtain rfl : k = l := by omega
      clear e
      go_wp2
      go_ret
      exact ⟨rfl, ⟨v2, HR.out.1⟩, HR.out.2.1⟩

set_option maxHeartbeats 800000 in
theorem u16_any (b : Nat) (v : Value) (xs : List Int) (bad : Bool) (w : World) (h : RdV w b v xs bad) (hx : In256 xs) :
    Calls Try.prog 29 #[.pointer (some ⟨b, 0, none⟩)] w fun e w' => e = .returned (.int .u16 (numOf (takeP 2 xs bad) % 65536)) ∧ (∃ v2, RdV w' b v2 (leftP 2 xs bad) (badP 2 xs bad)) ∧ Only (fun k => k = b) w w' := by
  have HN : Hid (Calls Try.prog 28 #[.pointer (some ⟨b, 0, none⟩), .int .i64 2] w fun e w' => e = .returned (.int .u32 (numOf (takeP 2 xs bad))) ∧ (∃ v2, RdV w' b v2 (leftP 2 xs bad) (badP 2 xs bad)) ∧ Only (fun k => k = b) w w') := Lib.hid (number_any b v xs bad 2 w h (by decide) hx)
  clear h
  go_enter Try.func29, Try.ntmps29
  go_wp2_with (go_at_call 28; (with_reducible refine HN.out.mono ?_); rintro e w1 ⟨rfl, h2⟩)
  go_ret
  exact ⟨rfl, h2⟩
set_option maxHeartbeats 800000 in
theorem u32_any (b : Nat) (v : Value) (xs : List Int) (bad : Bool) (w : World) (h : RdV w b v xs bad) (hx : In256 xs) :
    Calls Try.prog 30 #[.pointer (some ⟨b, 0, none⟩)] w fun e w' => e = .returned (.int .u32 (numOf (takeP 4 xs bad))) ∧ (∃ v2, RdV w' b v2 (leftP 4 xs bad) (badP 4 xs bad)) ∧ Only (fun k => k = b) w w' := by
  have HN : Hid (Calls Try.prog 28 #[.pointer (some ⟨b, 0, none⟩), .int .i64 4] w fun e w' => e = .returned (.int .u32 (numOf (takeP 4 xs bad))) ∧ (∃ v2, RdV w' b v2 (leftP 4 xs bad) (badP 4 xs bad)) ∧ Only (fun k => k = b) w w') := Lib.hid (number_any b v xs bad 4 w h (by decide) hx)
  clear h
  go_enter Try.func30, Try.ntmps30
  go_wp2_with (go_at_call 28; (with_reducible refine HN.out.mono ?_); rintro e w1 ⟨rfl, h2⟩)
  go_ret
  exact ⟨rfl, h2⟩
set_option maxHeartbeats 800000 in
theorem take_any (b : Nat) (v : Value) (xs : List Int) (bad : Bool) (n : Nat) (w : World) (h : RdV w b v xs bad) (hn : n ≤ 1000000) :
    Calls Try.prog 31 #[.pointer (some ⟨b, 0, none⟩), .int .i64 n] w fun e w' => ∃ v1, e = .returned v1 ∧ Own8 w' w.heap.size v1 (takeP n xs bad) ∧ (∃ v2, RdV w' b v2 (leftP n xs bad) (badP n xs bad)) ∧ Only (fun k => k = b) w w' := by
  have HN := Lib.hid (next_any b v xs bad n w h hn)
  have htl : (takeP n xs bad).length ≤ n := by unfold takeP; split <;> simp; omega
  have HTL := Lib.hid htl
  clear h htl
  go_enter Try.func31, Try.ntmps31
  go_wp2_with (first
    | (go_at_call 35; (with_reducible refine HN.out.mono ?_); rintro e w1 ⟨v1, v2, rfl, h1, h2, h3⟩; have HC := clone_any v1 _ b w1 h1 (by have := HTL.out; omega))
    | (go_at_call 13; (with_reducible refine HC.mono ?_); rintro e w2 ⟨v3, rfl, h4, h5⟩))
  go_ret
  refine ⟨v3, rfl, h4.low h3.size, ⟨v2, h2.under h5⟩, ?_⟩
  exact h3.under h5
theorem Own8.any {w : World} {base : Nat} {v : Value} {xs : List Int} (h : Own8 w base v xs) : Own8 w 0 v xs := by
  refine ⟨h.1, ?_⟩
  rcases h.2 with h0 | ⟨g, cap, cur, h1, h2, h3⟩
  · exact .inl h0
  · exact .inr ⟨g, cap, cur, h1, Nat.zero_le _, h3⟩

set_option maxHeartbeats 800000 in
theorem newReader_any (v : Value) (xs : List Int) (B : Nat) (w : World) (h : V8 w B v xs) (hl : xs.length ≤ 140737488355328) :
    Calls Try.prog 22 #[v] w fun e w' => ∃ b v', e = .returned (.pointer (some ⟨b, 0, none⟩)) ∧ RdV w' b v' xs false ∧ w.heap.size ≤ b ∧ Below w.heap.size w w' := by
  have HC := Lib.hid (clone_any v xs B w h hl)
  clear h
  go_enter Try.func22, Try.ntmps22
  go_wp2_with (go_at_call 13; (with_reducible refine HC.out.mono ?_); rintro e w1 ⟨v1, rfl, h1, h2⟩; obtain ⟨A1, c1, rfl, -⟩ := h1.form)
  go_ret
  refine ⟨w1.heap.size, _, rfl, ⟨Whole.new _ _ _, ?_⟩, h2.size, h2.alloc h2.size _⟩
  exact h1.v8.below ((Below.refl _ w1).alloc (Nat.le_refl _) _)
end Go.Proofs.Ytapbodiakkdfmaa
