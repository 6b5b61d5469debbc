/- setHead: the first four lines. -/
import Derived.Test.YthijpfnfkelmbaaSdpM
namespace Go.Proofs.Ythijpfnfkelmbaa
open Go.RowKit
set_option linter.unusedVariables false
set_option linter.unusedSimpArgs false

/-- What setHead answers at the line of number k. -/
def HeadO (st : PSt) (k : Nat) (l : Tx) (b : Bool) (o n t : ByteArray) : Prop := (b = true ∧ stepP st k l = .go { st with o := o, n := n, t := t }) ∨ (b = false ∧ stepP st k l = .bad 2)
theorem eqB {s : ByteArray} {k : Tx} {b : Bool} (h : (s.toList == k) = b) : (tx s = k ↔ b = true) := by
  rw [← h, toList_tx, beq_iff_eq]
theorem headO1 {st : PSt} {l : Tx} {kind value : ByteArray} (hk : tx kind = l.take 2) (hv : tx value = l.drop 2) {a b : Bool} (ha : (kind.toList == [118, 61]) = a) (hb : (value.toList == [48]) = b) : HeadO st 1 l (a && b) st.o st.n st.t := by
  have h1 := eqB ha
  have h2 := eqB hb
  rw [hk] at h1
  rw [hv] at h2
  unfold HeadO stepP
  cases a <;> cases b <;> simp_all
theorem headO2 {st : PSt} {l : Tx} {kind value : ByteArray} (hk : tx kind = l.take 2) (hv : tx value = l.drop 2) {a b : Bool} (ha : (kind.toList == [111, 61]) = a) (hb : valP (tx value) = b) : HeadO st 2 l (a && b) value st.n st.t := by
  have h1 := eqB ha
  rw [hk] at h1
  have e : bs (l.drop 2) = value := by rw [← hv, bs_tx]
  rw [hv] at hb
  unfold HeadO stepP
  cases a <;> cases b <;> simp_all
theorem headO3 {st : PSt} {l : Tx} {kind value : ByteArray} (hk : tx kind = l.take 2) (hv : tx value = l.drop 2) {a b : Bool} (ha : (kind.toList == [115, 61]) = a) (hb : valP (tx value) = b) : HeadO st 3 l (a && b) st.o value st.t := by
  have h1 := eqB ha
  rw [hk] at h1
  have e : bs (l.drop 2) = value := by rw [← hv, bs_tx]
  rw [hv] at hb
  unfold HeadO stepP
  cases a <;> cases b <;> simp_all
theorem headO4 {st : PSt} {l : Tx} {kind value : ByteArray} (hk : tx kind = l.take 2) (hv : tx value = l.drop 2) {a b : Bool} (ha : (kind.toList == [116, 61]) = a) (hb : valP (tx value) = b) : HeadO st 4 l (a && b) st.o st.n value := by
  have h1 := eqB ha
  rw [hk] at h1
  have e : bs (l.drop 2) = value := by rw [← hv, bs_tx]
  rw [hv] at hb
  unfold HeadO stepP
  cases a <;> cases b <;> simp_all
def HeadV (g : Nat) (st : PSt) (k : Nat) (l : Tx) (vA vP : Value) (w : World) (e : Ending) (w' : World) : Prop := ∃ b o n t, e = .returned (.bool b) ∧ HeadO st k l b o n t ∧ Whole w' g 33 #[.string o, .string n, .string t, vA, vP] ∧ Only (· = g) w w'

set_option maxHeartbeats 1600000 in
theorem setHead_1 (g : Nat) (st : PSt) (kind value : ByteArray) (l : Tx) (vA vP : Value) (w : World) (hk : tx kind = l.take 2) (hv : tx value = l.drop 2) (hs : value.size ≤ 8192) (hg : Whole w g 33 #[.string st.o, .string st.n, .string st.t, vA, vP]) :
    Calls Try.prog 22 #[.pointer (some ⟨g, 0, none⟩), .int .i64 1, .string kind, .string value] w (HeadV g st 1 l vA vP w) := by
  obtain ⟨bk, hbk⟩ : ∃ b, (kind.toList == [118, 61]) = b := ⟨_, rfl⟩
  obtain ⟨bv, hbv⟩ : ∃ b, (value.toList == [48]) = b := ⟨_, rfl⟩
  have HO := Lib.hid (headO1 (st := st) hk hv hbk hbv)
  have HG := Lib.hid hg
  clear hg hk hv
  cases bk with
  | false =>
    go_enter Try.func22, Try.ntmps22
    go_upto_region 1 with fail
    go_quiet (fail)
    go_wp2
    go_ret
    exact ⟨false, _, _, _, rfl, HO.out, HG.out, (Only.refl _ w).drewN _⟩
  | true =>
    go_enter Try.func22, Try.ntmps22
    go_upto_region 1 with fail
    go_quiet (fail)
    go_wp2
    go_ret
    exact ⟨bv, _, _, _, rfl, HO.out, HG.out, (Only.refl _ w).drewN _⟩

set_option maxHeartbeats 1600000 in
theorem setHead_2 (g : Nat) (st : PSt) (kind value : ByteArray) (l : Tx) (vA vP : Value) (w : World) (hk : tx kind = l.take 2) (hv : tx value = l.drop 2) (hs : value.size ≤ 8192) (hg : Whole w g 33 #[.string st.o, .string st.n, .string st.t, vA, vP]) :
    Calls Try.prog 22 #[.pointer (some ⟨g, 0, none⟩), .int .i64 2, .string kind, .string value] w (HeadV g st 2 l vA vP w) := by
  obtain ⟨bk, hbk⟩ : ∃ b, (kind.toList == [111, 61]) = b := ⟨_, rfl⟩
  obtain ⟨bv, hbv⟩ : ∃ b, valP (tx value) = b := ⟨_, rfl⟩
  have HO := Lib.hid (headO2 (st := st) hk hv hbk hbv)
  have c0 := hg.cell 0
  have f0 := hg.frz 0
  have HS := Lib.hid (hg.set 0 (.string value))
  have HV := Lib.hid (fun W => value_any value W (by unfold maxLen; omega))
  rw [hbv] at HV
  clear hg hk hv hbv
  have HN : Hid (∀ n, Whole ((w.drewN n).setCell ⟨g, 0, none⟩ (.string value)) g 33 _ ∧ Only (· = g) w ((w.drewN n).setCell ⟨g, 0, none⟩ (.string value))) := Lib.hid fun n => ⟨HS.out, ((Only.refl (· = g) w).drewN n).setCell (p := ⟨g, 0, none⟩) (.inl rfl) _⟩
  clear HS
  cases bk with
  | false =>
    go_enter Try.func22, Try.ntmps22
    go_upto_region 1 with fail
    go_quiet (fail)
    go_upto_region 6 with fail
    go_quiet (fail)
    go_wp2
    go_ret
    refine ⟨false, _, _, _, rfl, HO.out, ?_, ?_⟩
    · exact (HN.out _).1
    · exact (HN.out _).2
  | true =>
    go_enter Try.func22, Try.ntmps22
    go_upto_region 1 with fail
    go_quiet (fail)
    go_upto_region 6 with fail
    go_quiet (fail)
    go_wp2_with (go_at_call 23; (with_reducible refine (HV.out _).mono ?_); rintro e w' ⟨rfl, rfl⟩)
    go_ret
    refine ⟨bv, _, _, _, rfl, HO.out, ?_, ?_⟩
    · exact (HN.out _).1
    · exact (HN.out _).2

set_option maxHeartbeats 1600000 in
theorem setHead_3 (g : Nat) (st : PSt) (kind value : ByteArray) (l : Tx) (vA vP : Value) (w : World) (hk : tx kind = l.take 2) (hv : tx value = l.drop 2) (hs : value.size ≤ 8192) (hg : Whole w g 33 #[.string st.o, .string st.n, .string st.t, vA, vP]) :
    Calls Try.prog 22 #[.pointer (some ⟨g, 0, none⟩), .int .i64 3, .string kind, .string value] w (HeadV g st 3 l vA vP w) := by
  obtain ⟨bk, hbk⟩ : ∃ b, (kind.toList == [115, 61]) = b := ⟨_, rfl⟩
  obtain ⟨bv, hbv⟩ : ∃ b, valP (tx value) = b := ⟨_, rfl⟩
  have HO := Lib.hid (headO3 (st := st) hk hv hbk hbv)
  have c0 := hg.cell 1
  have f0 := hg.frz 1
  have HS := Lib.hid (hg.set 1 (.string value))
  have HV := Lib.hid (fun W => value_any value W (by unfold maxLen; omega))
  rw [hbv] at HV
  clear hg hk hv hbv
  have HN : Hid (∀ n, Whole ((w.drewN n).setCell ⟨g, 1, none⟩ (.string value)) g 33 _ ∧ Only (· = g) w ((w.drewN n).setCell ⟨g, 1, none⟩ (.string value))) := Lib.hid fun n => ⟨HS.out, ((Only.refl (· = g) w).drewN n).setCell (p := ⟨g, 1, none⟩) (.inl rfl) _⟩
  clear HS
  cases bk with
  | false =>
    go_enter Try.func22, Try.ntmps22
    go_upto_region 1 with fail
    go_quiet (fail)
    go_upto_region 8 with fail
    go_quiet (fail)
    go_wp2
    go_ret
    refine ⟨false, _, _, _, rfl, HO.out, ?_, ?_⟩
    · exact (HN.out _).1
    · exact (HN.out _).2
  | true =>
    go_enter Try.func22, Try.ntmps22
    go_upto_region 1 with fail
    go_quiet (fail)
    go_upto_region 8 with fail
    go_quiet (fail)
    go_wp2_with (go_at_call 23; (with_reducible refine (HV.out _).mono ?_); rintro e w' ⟨rfl, rfl⟩)
    go_ret
    refine ⟨bv, _, _, _, rfl, HO.out, ?_, ?_⟩
    · exact (HN.out _).1
    · exact (HN.out _).2

set_option maxHeartbeats 1600000 in
theorem setHead_4 (g : Nat) (st : PSt) (kind value : ByteArray) (l : Tx) (vA vP : Value) (w : World) (hk : tx kind = l.take 2) (hv : tx value = l.drop 2) (hs : value.size ≤ 8192) (hg : Whole w g 33 #[.string st.o, .string st.n, .string st.t, vA, vP]) :
    Calls Try.prog 22 #[.pointer (some ⟨g, 0, none⟩), .int .i64 4, .string kind, .string value] w (HeadV g st 4 l vA vP w) := by
  obtain ⟨bk, hbk⟩ : ∃ b, (kind.toList == [116, 61]) = b := ⟨_, rfl⟩
  obtain ⟨bv, hbv⟩ : ∃ b, valP (tx value) = b := ⟨_, rfl⟩
  have HO := Lib.hid (headO4 (st := st) hk hv hbk hbv)
  have c0 := hg.cell 2
  have f0 := hg.frz 2
  have HS := Lib.hid (hg.set 2 (.string value))
  have HV := Lib.hid (fun W => value_any value W (by unfold maxLen; omega))
  rw [hbv] at HV
  clear hg hk hv hbv
  have HN : Hid (∀ n, Whole ((w.drewN n).setCell ⟨g, 2, none⟩ (.string value)) g 33 _ ∧ Only (· = g) w ((w.drewN n).setCell ⟨g, 2, none⟩ (.string value))) := Lib.hid fun n => ⟨HS.out, ((Only.refl (· = g) w).drewN n).setCell (p := ⟨g, 2, none⟩) (.inl rfl) _⟩
  clear HS
  cases bk with
  | false =>
    go_enter Try.func22, Try.ntmps22
    go_upto_region 1 with fail
    go_quiet (fail)
    go_wp2
    go_ret
    refine ⟨false, _, _, _, rfl, HO.out, ?_, ?_⟩
    · exact (HN.out _).1
    · exact (HN.out _).2
  | true =>
    go_enter Try.func22, Try.ntmps22
    go_upto_region 1 with fail
    go_quiet (fail)
    go_wp2_with (go_at_call 23; (with_reducible refine (HV.out _).mono ?_); rintro e w' ⟨rfl, rfl⟩)
    go_ret
    refine ⟨bv, _, _, _, rfl, HO.out, ?_, ?_⟩
    · exact (HN.out _).1
    · exact (HN.out _).2
theorem setHead_any (g : Nat) (st : PSt) (k : Nat) (h1 : 1 ≤ k) (h4 : k ≤ 4) (kind value : ByteArray) (l : Tx) (vA vP : Value) (w : World) (hk : tx kind = l.take 2) (hv : tx value = l.drop 2) (hs : value.size ≤ 8192) (hg : Whole w g 33 #[.string st.o, .string st.n, .string st.t, vA, vP]) :
    Calls Try.prog 22 #[.pointer (some ⟨g, 0, none⟩), .int .i64 k, .string kind, .string value] w (HeadV g st k l vA vP w) := by
  have : k = 1 ∨ k = 2 ∨ k = 3 ∨ k = 4 := by omega
  rcases this with rfl | rfl | rfl | rfl
  · exact setHead_1 g st kind value l vA vP w hk hv hs hg
  · exact setHead_2 g st kind value l vA vP w hk hv hs hg
  · exact setHead_3 g st kind value l vA vP w hk hv hs hg
  · exact setHead_4 g st kind value l vA vP w hk hv hs hg
end Go.Proofs.Ythijpfnfkelmbaa
