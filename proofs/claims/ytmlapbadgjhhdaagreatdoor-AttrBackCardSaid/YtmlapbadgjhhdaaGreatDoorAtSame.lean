/- SameAttrs, SamePart: two parts, place by place. -/
import Derived.Test.YtmlapbadgjhhdaaGreatDoorAtM
namespace Go.Proofs.YtmlapbadgjhhdaaGreatDoor
open Go.RowKit
set_option linter.unusedVariables false
set_option linter.unusedSimpArgs false

theorem AttrS.ext' {a b : AttrS} (h1 : a.name = b.name) (h2 : a.value = b.value) : a = b := by cases a; cases b; simp_all
theorem toList_beq {a b : ByteArray} : (a.toList == b.toList) = true ↔ a = b := by
  rw [beq_iff_eq, toList_tx, toList_tx]
  exact ⟨tx_inj, fun h => by rw [h]⟩
theorem toList_bne {a b : ByteArray} : (a.toList == b.toList) = false ↔ a ≠ b := by
  rw [← Bool.not_eq_true, Ne, toList_beq]
/-- It says whether they are the same; what it makes is new. -/
def SameB {α : Type} (w : World) (x y : α) (e : Ending) (w' : World) : Prop := ∃ b, e = .returned (.bool b) ∧ (b = true ↔ x = y) ∧ Below w.heap.size w w'
theorem Tryz.eqAttr (W : World) (a b c d : ByteArray) : (Op.equalIn 10000 55 (.agg #[.string a, .string b]) (.agg #[.string c, .string d])).run Tryz.prog W = .ok ((a.toList == c.toList) && (b.toList == d.toList)) W := by
  go_simp
  by_cases h1 : a.toList = c.toList <;> by_cases h2 : b.toList = d.toList <;> simp [h1, h2]
theorem Tryz.guardAttr : Tryz.prog.eqGuardType Tryz.prog.depth 55 = false := by kernel_rfl
theorem AttrsV.form {w : World} {B : Nat} {v : Value} {L : List AttrS} (h : AttrsV w B v L) : ∃ A c, v = .slice A L.length c ∧ L.length ≤ c ∧ c ≤ maxLen ∧ (A = none → c = 0) := Rows.form h
theorem list_same {α : Type} {L M : List α} (hl : L.length = M.length) (h : ∀ j, j < L.length → L[j]? = M[j]?) : L = M := by
  apply List.ext_getElem?
  intro j
  by_cases hj : j < L.length
  · exact h j hj
  · rw [List.getElem?_eq_none (by omega), List.getElem?_eq_none (by omega)]
set_option maxHeartbeats 1600000 in
theorem sameAttrs_any (v1 v2 : Value) (L M : List AttrS) (w : World) (h1 : AttrsV w w.heap.size v1 L) (h2 : AttrsV w w.heap.size v2 M) : Calls Tryz.prog 25 #[v1, v2] w (SameB w L M) := by
  obtain ⟨A1, c1, rfl, hc1, hm1, _⟩ := h1.form
  obtain ⟨A2, c2, rfl, hc2, hm2, _⟩ := h2.form
  have H1 := Lib.hid h1
  have H2 := Lib.hid h2
  clear h1 h2
  obtain ⟨n, hn⟩ : ∃ n, L.length = n := ⟨_, rfl⟩
  obtain ⟨m, hm⟩ : ∃ m, M.length = m := ⟨_, rfl⟩
  have HN := Lib.hid hn
  have HM := Lib.hid hm
  rw [hn] at hc1
  rw [hm] at hc2
  rw [hn, hm]
  unfold maxLen at hm1 hm2
  clear hn hm
  by_cases hnm : n = m
  · subst hnm
    have hz : ((n : Int) == (n : Int)) = true := by simp
    go_enter Tryz.func25, Tryz.ntmps25
    go_wp2
    go_loopw [13] (fun s13 wr => ∃ k : Nat, k ≤ n ∧ s13 = .int .i64 k ∧ (∀ j, j < k → L[j]? = M[j]?) ∧ Below w.heap.size w wr) (fun s13 _ => n - (intOf s13).toNat)
    case atStart => exact ⟨0, Nat.zero_le _, rfl, (fun j hj => by omega), Below.refl _ w⟩
    case round =>
      obtain ⟨k, hk, rfl, hsame, hb⟩ := hrel
      have HS := Lib.hid (And.intro hsame hb)
      clear hsame
      by_cases hlt : k < n
      · obtain ⟨ad1, c1', e1, b1, x0, x1⟩ := H1.out.at_ (i := k) (by rw [HN.out]; exact hlt)
        obtain ⟨ad2, c2', e2, b2, y0, y1⟩ := H2.out.at_ (i := k) (by rw [HM.out]; exact hlt)
        injection e1 with e1 e1n e1c; clear e1n e1c
        injection e2 with e2 e2n e2c; clear e2n e2c
        subst e1 e2
        have x0' := (hb.cell (p := ad1.add (k * 2)) (by rw [add_block]; exact b1)).trans x0
        have x1' := (hb.cell (p := ⟨(ad1.add (k * 2)).block, (ad1.add (k * 2)).off + 1, none⟩) (by show (ad1.add (k * 2)).block < _; rw [add_block]; exact b1)).trans x1
        have y0' := (hb.cell (p := ad2.add (k * 2)) (by rw [add_block]; exact b2)).trans y0
        have y1' := (hb.cell (p := ⟨(ad2.add (k * 2)).block, (ad2.add (k * 2)).off + 1, none⟩) (by show (ad2.add (k * 2)).block < _; rw [add_block]; exact b2)).trans y1
        have gL := getD_of (L := L) (i := k) (by rw [HN.out]; exact hlt)
        have gM := getD_of (L := M) (i := k) (by rw [HM.out]; exact hlt)
        obtain ⟨a, ha⟩ : ∃ a, L.getD k default = a := ⟨_, rfl⟩
        obtain ⟨b, hbb⟩ : ∃ b, M.getD k default = b := ⟨_, rfl⟩
        rw [ha] at x0' x1' gL
        rw [hbb] at y0' y1' gM
        have HG := Lib.hid (And.intro gL gM)
        have hk0 : (0 : Int) ≤ (k : Int) := by omega
        have hk1 : (k : Int) < (n : Int) := by omega
        clear x0 x1 y0 y1 gL gM ha hbb b1 b2 hb
        by_cases heq : a = b
        · have hq : ∀ W, (Op.equalIn 10000 55 (.agg #[.string a.name, .string a.value]) (.agg #[.string b.name, .string b.value])).run Tryz.prog W = .ok true W := fun W => by rw [Tryz.eqAttr, heq]; simp
          have HEQ := Lib.hid heq
          have hgd := Tryz.guardAttr
          clear heq
          go_upto_region 6 with fail
          go_quiet (fail)
          go_wp2
          go_roundw
          case rel =>
            refine ⟨k + 1, by omega, by go_num, fun j hj => ?_, below_drewN' HS.out.2 _⟩
            by_cases e : j = k
            · subst e
              rw [HG.out.1, HG.out.2, HEQ.out]
            · exact HS.out.1 j (by omega)
          case measure => simp [intOf]; omega
        · have hq : ∀ W, (Op.equalIn 10000 55 (.agg #[.string a.name, .string a.value]) (.agg #[.string b.name, .string b.value])).run Tryz.prog W = .ok false W := fun W => by
            rw [Tryz.eqAttr]
            congr 1
            rw [← Bool.not_eq_true, Bool.and_eq_true, toList_beq, toList_beq]
            exact fun h => heq (AttrS.ext' h.1 h.2)
          have HNE : Hid (L ≠ M) := Lib.hid (fun e => by rw [e] at HG; have := HG.out.1.symm.trans HG.out.2; exact heq (Option.some.inj this))
          have hgd := Tryz.guardAttr
          clear heq
          go_upto_region 6 with fail
          go_quiet (fail)
          go_wp2
          go_ret
          exact ⟨false, rfl, ⟨fun e => (by cases e), fun e => (HNE.out e).elim⟩, below_drewN' HS.out.2 _⟩
      · obtain rfl : k = n := by omega
        have HEQ : Hid (L = M) := Lib.hid (list_same (by rw [HN.out, HM.out]) (fun j hj => HS.out.1 j (by rw [HN.out] at hj; exact hj)))
        clear hb
        go_wp2
        go_ret
        exact ⟨true, rfl, ⟨fun _ => HEQ.out, fun _ => rfl⟩, HS.out.2⟩
  · have hz : ((n : Int) == (m : Int)) = false := by rw [beq_eq_false_iff_ne]; omega
    have HNE : Hid (L ≠ M) := Lib.hid (fun e => hnm (by rw [← HN.out, ← HM.out, e]))
    clear hnm
    go_enter Tryz.func25, Tryz.ntmps25
    go_wp2
    go_ret
    exact ⟨false, rfl, ⟨fun e => (by cases e), fun e => (HNE.out e).elim⟩, Below.refl _ w⟩
theorem PartS.ext' {a b : PartS} (h1 : a.line = b.line) (h2 : a.conn = b.conn) (h3 : a.attrs = b.attrs) : a = b := by cases a; cases b; simp_all
set_option maxHeartbeats 1600000 in
theorem samePart_any (p r : PartS) (vp vr : Value) (w : World) (h1 : AttrsV w w.heap.size vp p.attrs) (h2 : AttrsV w w.heap.size vr r.attrs) : Calls Tryz.prog 11 #[.agg #[.string p.line, .string p.conn, vp], .agg #[.string r.line, .string r.conn, vr]] w (SameB w p r) := by
  obtain ⟨A1, k1, rfl, -⟩ := h1.form
  obtain ⟨A2, k2, rfl, -⟩ := h2.form
  have hb := two_new (w := w) 32 32 #[.string p.line, .string p.conn, .slice A1 p.attrs.length k1] #[.string r.line, .string r.conn, .slice A2 r.attrs.length k2]
  have HC := Lib.hid (sameAttrs_any _ _ p.attrs r.attrs _ ((h1.below hb).more hb.size) ((h2.below hb).more hb.size))
  have HB := Lib.hid hb
  clear hb h1 h2
  obtain ⟨x1, hx1⟩ : ∃ b, (p.line.toList == r.line.toList) = b := ⟨_, rfl⟩
  obtain ⟨x2, hx2⟩ : ∃ b, (p.conn.toList == r.conn.toList) = b := ⟨_, rfl⟩
  have H1 : Hid (x1 = true ↔ p.line = r.line) := Lib.hid (by rw [← hx1]; exact toList_beq)
  have H2 : Hid (x2 = true ↔ p.conn = r.conn) := Lib.hid (by rw [← hx2]; exact toList_beq)
  generalize p.attrs.length = n1 at *
  generalize r.attrs.length = n2 at *
  cases x1 with
  | false =>
    have HNE : Hid (p ≠ r) := Lib.hid (fun e => by have := H1.out.2 (by rw [e]); cases this)
    go_enter Tryz.func11, Tryz.ntmps11
    go_wp2
    go_ret
    exact ⟨false, rfl, ⟨fun e => (by cases e), fun e => (HNE.out e).elim⟩, HB.out⟩
  | true =>
    cases x2 with
    | false =>
      have HNE : Hid (p ≠ r) := Lib.hid (fun e => by have := H2.out.2 (by rw [e]); cases this)
      go_enter Tryz.func11, Tryz.ntmps11
      go_wp2
      go_ret
      exact ⟨false, rfl, ⟨fun e => (by cases e), fun e => (HNE.out e).elim⟩, HB.out⟩
    | true =>
      have HEQ : Hid (∀ b, (b = true ↔ p.attrs = r.attrs) → (b = true ↔ p = r)) := Lib.hid fun b hb => by
        rw [hb]
        exact ⟨fun e => PartS.ext' (H1.out.1 rfl) (H2.out.1 rfl) e, fun e => by rw [e]⟩
      go_enter Tryz.func11, Tryz.ntmps11
      go_wp2_with (go_at_call 25; (with_reducible refine HC.out.mono ?_); rintro e w1 ⟨b, rfl, hbb, hb1⟩)
      go_ret
      exact ⟨b, rfl, HEQ.out b hbb, HB.out.trans (hb1.mono HB.out.size)⟩
end Go.Proofs.YtmlapbadgjhhdaaGreatDoor
