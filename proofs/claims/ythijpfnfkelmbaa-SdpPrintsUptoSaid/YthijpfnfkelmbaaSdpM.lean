/- Descriptions in memory; what the library's functions on texts answer. -/
import Derived.Test.YthijpfnfkelmbaaSdpLeafR
import Derived.Test.YthijpfnfkelmbaaShelf
namespace Go.Proofs.Ythijpfnfkelmbaa
open Go.RowKit
set_option linter.unusedVariables false
set_option linter.unusedSimpArgs false

/-- The library's variable that strings.Index reads holds some number. -/
def MaxL (w : World) : Prop := ∃ m, w.cell? ⟨0, 0, none⟩ = some (.int .i64 m)
theorem MaxL.under {w w' : World} (h : MaxL w) (hb : Below w.heap.size w w') : MaxL w' := by
  obtain ⟨m, hm⟩ := h
  exact ⟨m, (hb.cell (p := ⟨0, 0, none⟩) (block_lt_of_cell hm)).trans hm⟩
theorem MaxL.below {w w' : World} {B : Nat} (h : MaxL w) (hb : Below B w w') (hB : 0 < B) : MaxL w' := by
  obtain ⟨m, hm⟩ := h
  exact ⟨m, (hb.cell (p := ⟨0, 0, none⟩) hB).trans hm⟩
theorem MaxL.lt {w : World} (h : MaxL w) : 0 < w.heap.size := by
  obtain ⟨m, hm⟩ := h
  exact block_lt_of_cell hm
theorem cut_any (s sep : ByteArray) (w : World) (h : MaxL w) (hs : s.size < 4294967281) :
    Calls Try.prog 20 #[.string s, .string sep] w fun e w' => ∃ (a b : ByteArray) (f : Bool), e = .returned (.tuple #[.string a, .string b, .bool f]) ∧ cutS (tx sep) (tx s) = (tx a, tx b, f) ∧ Below w.heap.size w w' := by
  obtain ⟨m, hm⟩ := h
  refine (Try.strings_Cut s sep m w hs hm).mono fun e w' ⟨he, n, hn⟩ => ?_
  subst hn
  refine ⟨_, _, _, he, ?_, below_drewN' (Below.refl _ w) n⟩
  show cutS (tx sep) (tx s) = (tx (bs _), tx (bs _), _)
  rw [tx_bs, tx_bs, ← cut_eq]
  rfl
set_option maxHeartbeats 400000 in
theorem cloneS_any (s : ByteArray) (w : World) (hs : s.size ≤ 281474976710656) : Calls Try.prog 19 #[.string s] w fun e w' => e = .returned (.string s) ∧ Below w.heap.size w w' := by
  have HC := Lib.hid (Try.stringslite_Clone s w hs)
  go_enter Try.func19, Try.ntmps19
  go_wp2_with (go_at_call 35; (with_reducible refine HC.out.mono ?_); rintro e w1 ⟨rfl, hb⟩)
  go_ret
  exact ⟨rfl, hb⟩

theorem Try.sizeSAttr : (Try.prog.info? 49).map (·.size) = some 2 := by kernel_rfl
theorem Try.sizeSPart : (Try.prog.info? 69).map (·.size) = some 3 := by kernel_rfl
theorem Try.sizeSSes : (Try.prog.info? 33).map (·.size) = some 5 := by kernel_rfl

/-! Descriptions. -/
def RAt (f : Nat → Option Value) (a : AttrS) : Prop := f 0 = some (.string a.name) ∧ f 1 = some (.string a.value)
def AttrsV (w : World) (B : Nat) (v : Value) (L : List AttrS) : Prop := Rows w B 2 RAt v L
def RPt (w : World) (B : Nat) (f : Nat → Option Value) (p : PartS) : Prop := f 0 = some (.string p.line) ∧ f 1 = some (.string p.conn) ∧ ∃ v, f 2 = some v ∧ AttrsV w B v p.attrs
def PartsV (w : World) (B : Nat) (v : Value) (L : List PartS) : Prop := Rows w B 3 (RPt w B) v L
theorem AttrsV.below {w w' : World} {B : Nat} {v : Value} {L : List AttrS} (h : AttrsV w B v L) (hb : Below B w w') : AttrsV w' B v L := Rows.below h hb fun _ _ _ h => h
theorem AttrsV.more {w : World} {B B' : Nat} {v : Value} {L : List AttrS} (h : AttrsV w B v L) (hB : B ≤ B') : AttrsV w B' v L := Rows.more h hB
theorem RPt.below {w w' : World} {B : Nat} {f : Nat → Option Value} {p : PartS} (h : RPt w B f p) (hb : Below B w w') : RPt w' B f p := by
  obtain ⟨h1, h2, v, h3, h4⟩ := h
  exact ⟨h1, h2, v, h3, h4.below hb⟩
theorem RPt.more {w : World} {B B' : Nat} {f : Nat → Option Value} {p : PartS} (h : RPt w B f p) (hB : B ≤ B') : RPt w B' f p := by
  obtain ⟨h1, h2, v, h3, h4⟩ := h
  exact ⟨h1, h2, v, h3, h4.more hB⟩
theorem PartsV.below {w w' : World} {B : Nat} {v : Value} {L : List PartS} (h : PartsV w B v L) (hb : Below B w w') : PartsV w' B v L := Rows.below h hb fun _ _ _ h => h.below hb
theorem PartsV.more {w : World} {B B' : Nat} {v : Value} {L : List PartS} (h : PartsV w B v L) (hB : B ≤ B') : PartsV w B' v L := Rows.more (Rows.mono h fun _ _ _ h => h.more hB) hB
theorem AttrsV.nil (w : World) (B : Nat) : AttrsV w B (.slice none 0 0) [] := Rows.nil _ _ _ _
theorem PartsV.nil (w : World) (B : Nat) : PartsV w B (.slice none 0 0) [] := Rows.nil _ _ _ _
/-- An attribute's cells. -/
theorem AttrsV.at_ {w : World} {B : Nat} {v : Value} {L : List AttrS} (h : AttrsV w B v L) {i : Nat} (hi : i < L.length) : ∃ ad c, v = .slice (some ad) L.length c ∧ ad.block < B ∧
    w.cell? (ad.add (i * 2)) = some (.string (L.getD i default).name) ∧ w.cell? ⟨(ad.add (i * 2)).block, (ad.add (i * 2)).off + 1, none⟩ = some (.string (L.getD i default).value) := by
  obtain ⟨ad, c, h1, h2, _, _, h3, h4⟩ := Rows.at_ h (List.getElem?_eq_getElem hi)
  have e : L.getD i default = L[i] := by simp [List.getD, hi]
  rw [e]
  refine ⟨ad, c, h1, h2, h3, ?_⟩
  rw [← add_next _ _ 1 (by decide)]
  exact h4
theorem PartsV.at_ {w : World} {B : Nat} {v : Value} {L : List PartS} (h : PartsV w B v L) {i : Nat} (hi : i < L.length) : ∃ ad c va, v = .slice (some ad) L.length c ∧ ad.block < B ∧
    w.cell? (ad.add (i * 3)) = some (.string (L.getD i default).line) ∧ w.cell? ⟨(ad.add (i * 3)).block, (ad.add (i * 3)).off + 1, none⟩ = some (.string (L.getD i default).conn) ∧
    w.cell? ⟨(ad.add (i * 3)).block, (ad.add (i * 3)).off + 2, none⟩ = some va ∧ AttrsV w B va (L.getD i default).attrs := by
  obtain ⟨ad, c, h1, h2, _, _, h3, h4, va, h5, h6⟩ := Rows.at_ h (List.getElem?_eq_getElem hi)
  have e : L.getD i default = L[i] := by simp [List.getD, hi]
  rw [e]
  refine ⟨ad, c, va, h1, h2, h3, ?_, ?_, h6⟩
  · rw [← add_next _ _ 1 (by decide)]
    exact h4
  · rw [← add_next _ _ 2 (by decide)]
    exact h5

/-- The cells M are a description. -/
structure SesV (w : World) (B : Nat) (M : Array Value) (x : SesS) (vA vP : Value) : Prop where
  form : M = #[.string x.origin, .string x.name, .string x.time, vA, vP]
  attrs : AttrsV w B vA x.attrs
  parts : PartsV w B vP x.parts
theorem SesV.below {w w' : World} {B : Nat} {M : Array Value} {x : SesS} {vA vP : Value} (h : SesV w B M x vA vP) (hb : Below B w w') : SesV w' B M x vA vP := ⟨h.form, h.attrs.below hb, h.parts.below hb⟩
theorem SesV.more {w : World} {B B' : Nat} {M : Array Value} {x : SesS} {vA vP : Value} (h : SesV w B M x vA vP) (hB : B ≤ B') : SesV w B' M x vA vP := ⟨h.form, h.attrs.more hB, h.parts.more hB⟩
theorem SesV.under {w w' : World} {M : Array Value} {x : SesS} {vA vP : Value} (h : SesV w w.heap.size M x vA vP) (hb : Below w.heap.size w w') : SesV w' w'.heap.size M x vA vP := (h.below hb).more hb.size
/-- What an attribute's reader answers. -/
def AttrO (l : Tx) (a : AttrS) (b : Bool) : Prop := (b = true ∧ attrP l = some a) ∨ (b = false ∧ attrP l = none)

theorem attrO_of {s : ByteArray} {a b : ByteArray} {f : Bool} (hc : cutS [58] (tx s) = (tx a, tx b, f)) : (wordP 1 32 (tx a) = true → (f = false ∨ valP (tx b) = true) → AttrO (tx s) ⟨a, b⟩ true) ∧ ∀ x, (wordP 1 32 (tx a) = false ∨ (f = true ∧ valP (tx b) = false)) → AttrO (tx s) x false := by
  refine ⟨fun h1 h2 => .inl ⟨rfl, ?_⟩, fun x h => .inr ⟨rfl, ?_⟩⟩
  · unfold attrP
    rw [hc]
    rcases h2 with h2 | h2
    · subst h2
      simp [h1]
    · simp [h1, h2]
  · unfold attrP
    rw [hc]
    rcases h with h | ⟨h1, h2⟩
    · simp [h]
    · subst h1
      simp [h2]
set_option maxHeartbeats 1600000 in
theorem readAttr_any (s : ByteArray) (w : World) (h : MaxL w) (hs : s.size ≤ 8192) : Calls Try.prog 25 #[.string s] w fun e w' => ∃ (a : AttrS) (b : Bool), e = .returned (.tuple #[.agg #[.string a.name, .string a.value], .bool b]) ∧ AttrO (tx s) a b ∧ Below w.heap.size w w' := by
  have hb0 : Below w.heap.size w (w.alloc (.cells #[.string ⟨#[]⟩, .string ⟨#[]⟩] 49)) := (Below.refl _ w).alloc (Nat.le_refl _) _
  have hz := Whole.new w 49 #[.string ⟨#[]⟩, .string ⟨#[]⟩]
  have HC := Lib.hid (cut_any s ⟨#[58]⟩ _ (h.under hb0) (by omega))
  have HB0 := Lib.hid (And.intro hb0 hz)
  clear hb0 h hz
  obtain ⟨N, hN⟩ : ∃ N, w.heap.size = N := ⟨_, rfl⟩
  rw [hN] at HB0 ⊢
  go_enter Try.func25, Try.ntmps25
  go_upto_region 1 with fail
  generalize w.alloc (.cells #[.string ⟨#[]⟩, .string ⟨#[]⟩] 49) = W0 at *
  clear hN
  go_upto_region 2 with (go_at_call 20; (with_reducible refine HC.out.mono ?_); rintro e w1 ⟨a, b, f, rfl, hcut, hb1⟩)
  have hO := attrO_of hcut
  have hsz : (tx a).length ≤ (tx s).length ∧ (tx b).length ≤ (tx s).length := by
    have := cutS_len [58] (tx s)
    have hcut : cutS [58] (tx s) = (tx a, tx b, f) := hcut
    rw [hcut] at this
    exact this
  rw [tx_length, tx_length, tx_length] at hsz
  have H1 : Hid (Below N w w1 ∧ Whole w1 N 49 #[.string ⟨#[]⟩, .string ⟨#[]⟩]) := Lib.hid ⟨HB0.out.1.trans (hb1.mono (Nat.le_of_lt HB0.out.2.lt)), HB0.out.2.under hb1⟩
  have HW := Lib.hid (word_any a w1 (by unfold maxLen; omega))
  have HV := Lib.hid (value_any b w1 (by unfold maxLen; omega))
  clear hcut hb1 HC HB0 hsz
  obtain ⟨x, hx⟩ : ∃ x, wordP 1 32 (tx a) = x := ⟨_, rfl⟩
  obtain ⟨y, hy⟩ : ∃ y, valP (tx b) = y := ⟨_, rfl⟩
  rw [hx] at HW hO
  rw [hy] at HV hO
  have HO := Lib.hid hO
  clear hO hx hy
  cases x with
  | false =>
    have HR := Lib.hid (HO.out.2 ⟨⟨#[]⟩, ⟨#[]⟩⟩ (.inl rfl))
    go_wp2_with (first
      | (go_at_call 40; (with_reducible refine HW.out.mono ?_); rintro e w' ⟨rfl, rfl⟩)
      | (refine wpList_storeS #[.string ⟨#[]⟩, .string ⟨#[]⟩] rfl 49 (.tmp 2) (.tmp 24) rfl rfl rfl H1.out.2 Try.sizeSAttr rfl rfl rfl ?_))
    (try simp only [Exit.inBlock, Exit.then])
    exact bodyPost_ret (ret_struct2 rfl rfl (H1.out.2.row _) Try.underlying49 rfl Try.sizeSAttr rfl) rfl ⟨⟨⟨#[]⟩, ⟨#[]⟩⟩, false, rfl, HR.out, below_row H1.out.1 (Nat.le_refl _) _⟩
  | true =>
    cases f with
    | false =>
      have HR := Lib.hid (HO.out.1 rfl (.inl rfl))
      go_wp2_with (first
        | (go_at_call 40; (with_reducible refine HW.out.mono ?_); rintro e w' ⟨rfl, rfl⟩)
        | (refine wpList_storeS #[.string a, .string b] rfl 49 (.tmp 2) (.tmp 27) rfl rfl rfl H1.out.2 Try.sizeSAttr rfl rfl rfl ?_))
      (try simp only [Exit.inBlock, Exit.then])
      exact bodyPost_ret (ret_struct2 rfl rfl (H1.out.2.row _) Try.underlying49 rfl Try.sizeSAttr rfl) rfl ⟨⟨a, b⟩, true, rfl, HR.out, below_row H1.out.1 (Nat.le_refl _) _⟩
    | true =>
      cases y with
      | true =>
        have HR := Lib.hid (HO.out.1 rfl (.inr rfl))
        go_wp2_with (first
          | (go_at_call 40; (with_reducible refine HW.out.mono ?_); rintro e w' ⟨rfl, rfl⟩)
          | (go_at_call 23; (with_reducible refine HV.out.mono ?_); rintro e w' ⟨rfl, rfl⟩)
          | (refine wpList_storeS #[.string a, .string b] rfl 49 (.tmp 2) (.tmp 27) rfl rfl rfl H1.out.2 Try.sizeSAttr rfl rfl rfl ?_))
        (try simp only [Exit.inBlock, Exit.then])
        exact bodyPost_ret (ret_struct2 rfl rfl (H1.out.2.row _) Try.underlying49 rfl Try.sizeSAttr rfl) rfl ⟨⟨a, b⟩, true, rfl, HR.out, below_row H1.out.1 (Nat.le_refl _) _⟩
      | false =>
        have HR := Lib.hid (HO.out.2 ⟨⟨#[]⟩, ⟨#[]⟩⟩ (.inr ⟨rfl, rfl⟩))
        go_wp2_with (first
          | (go_at_call 40; (with_reducible refine HW.out.mono ?_); rintro e w' ⟨rfl, rfl⟩)
          | (go_at_call 23; (with_reducible refine HV.out.mono ?_); rintro e w' ⟨rfl, rfl⟩)
          | (refine wpList_storeS #[.string ⟨#[]⟩, .string ⟨#[]⟩] rfl 49 (.tmp 2) (.tmp 24) rfl rfl rfl H1.out.2 Try.sizeSAttr rfl rfl rfl ?_))
        (try simp only [Exit.inBlock, Exit.then])
        exact bodyPost_ret (ret_struct2 rfl rfl (H1.out.2.row _) Try.underlying49 rfl Try.sizeSAttr rfl) rfl ⟨⟨⟨#[]⟩, ⟨#[]⟩⟩, false, rfl, HR.out, below_row H1.out.1 (Nat.le_refl _) _⟩

/-- A line's first two bytes, and the rest. -/
theorem split_parts (l : Tx) : l.length < 2 → l.take 2 = l ∧ l.drop 2 = [] := fun h => ⟨List.take_of_length_le (by omega), List.drop_of_length_le (by omega)⟩
set_option maxHeartbeats 1600000 in
theorem split_any (s : ByteArray) (w : World) (hs : s.size ≤ maxLen) : Calls Try.prog 21 #[.string s] w fun e w' => ∃ a b : ByteArray, e = .returned (.tuple #[.string a, .string b]) ∧ tx a = (tx s).take 2 ∧ tx b = (tx s).drop 2 ∧ Below w.heap.size w w' := by
  unfold maxLen at hs
  by_cases h2 : 2 ≤ s.size
  · have HA : Hid (tx (s.extract 0 2) = (tx s).take 2) := Lib.hid (by rw [tx_extract]; simp)
    have HB : Hid (tx (s.extract 2 s.size) = (tx s).drop 2) := Lib.hid (by rw [tx_extract]; rw [List.take_of_length_le (by rw [List.length_drop, tx_length]; omega)])
    have h2' : (2 : Int) ≤ (s.size : Int) := by omega
    have hm : min (s.size : Int) 2 = 2 := by omega
    go_enter Try.func21, Try.ntmps21
    go_upto_region 2 with fail
    go_quiet (fail)
    go_wp2
    go_ret2
    exact ⟨_, _, rfl, HA.out, HB.out, below_drewN' (Below.refl _ w) _⟩
  · have HA : Hid (tx s = (tx s).take 2) := Lib.hid (by rw [(split_parts (tx s) (by rw [tx_length]; omega)).1])
    have HB : Hid (tx ByteArray.empty = (tx s).drop 2) := Lib.hid (by rw [(split_parts (tx s) (by rw [tx_length]; omega)).2]; rfl)
    have h2' : (s.size : Int) < 2 := by omega
    have hm : min (s.size : Int) 2 = (s.size : Int) := by omega
    clear h2
    go_enter Try.func21, Try.ntmps21
    go_upto_region 2 with fail
    go_quiet (fail)
    go_wp2
    go_ret2
    exact ⟨_, _, rfl, HA.out, HB.out, below_drewN' (Below.refl _ w) _⟩

/-- A pointer to a part, or none. -/
def PartP (w : World) (p : Value) (o : Option PartS) : Prop := (p = .pointer none ∧ o = none) ∨ ∃ ad va x, p = .pointer (some ad) ∧ o = some x ∧ w.cell? ⟨ad.block, ad.off + 1, none⟩ = some (.string x.conn) ∧ w.cell? ⟨ad.block, ad.off + 2, none⟩ = some va ∧ ∃ A c, va = .slice A x.attrs.length c
def bareP (o : Option PartS) : Bool := match o with
  | none => false
  | some p => (tx p.conn).isEmpty && p.attrs.isEmpty
set_option maxHeartbeats 1600000 in
theorem bare_any (p : Value) (o : Option PartS) (w : World) (h : PartP w p o) : Calls Try.prog 24 #[p] w fun e w' => e = .returned (.bool (bareP o)) ∧ w = w' := by
  rcases h with ⟨rfl, rfl⟩ | ⟨ad, va, x, rfl, rfl, h1, h2, A, c, rfl⟩
  · go_enter Try.func24, Try.ntmps24
    go_wp2
    go_ret
    exact ⟨rfl, rfl⟩
  · obtain ⟨cn, hcn⟩ : ∃ cn, x.conn = cn := ⟨_, rfl⟩
    obtain ⟨n, hn⟩ : ∃ n, x.attrs.length = n := ⟨_, rfl⟩
    have HE : Hid (bareP (some x) = (cn.toList.isEmpty && decide (n = 0))) := Lib.hid (by
      show ((tx x.conn).isEmpty && x.attrs.isEmpty) = _
      rw [hcn, toList_tx, ← hn]
      congr 1
      cases x.attrs <;> simp)
    rw [hcn] at h1
    rw [hn] at h2
    clear hcn hn
    generalize bareP (some x) = r at *
    cases hq : cn.toList.isEmpty with
    | false =>
      have HR : Hid (false = r) := Lib.hid (by rw [HE.out, hq]; rfl)
      clear HE
      go_enter Try.func24, Try.ntmps24
      go_wp2
      go_ret
      exact ⟨ret_bool HR.out, rfl⟩
    | true =>
      have HR : Hid (((n : Int) == 0) = r) := Lib.hid (by rw [HE.out, hq, Bool.eq_iff_iff]; simp)
      clear HE
      go_enter Try.func24, Try.ntmps24
      go_wp2
      go_ret
      exact ⟨ret_bool HR.out, rfl⟩
end Go.Proofs.Ythijpfnfkelmbaa
