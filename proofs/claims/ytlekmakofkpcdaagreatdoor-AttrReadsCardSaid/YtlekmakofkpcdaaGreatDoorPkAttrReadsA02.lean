import Derived.Test.YtlekmakofkpcdaaGreatDoorPkAttrReadsA01
namespace Go.Proofs.YtlekmakofkpcdaaGreatDoor
open Go.RowKit
set_option linter.unusedVariables false
set_option linter.unusedSimpArgs false
theorem Tryz.sizeSPart : (Tryz.prog.info? 39).map (·.size) = some 3 := by kernel_rfl
theorem Tryz.sizeRsPart : (Tryz.prog.info? 24).map (·.size) = some 3 := by kernel_rfl
theorem Tryz.infoSAttr : (Tryz.prog.info? 90).map (fun i => (i.zero, i.size, i.bytes)) = some (some (.agg #[.string ⟨#[]⟩, .string ⟨#[]⟩]), 2, 32) := by kernel_rfl
theorem Tryz.infoRSAttr : (Tryz.prog.info? 47).map (fun i => (i.zero, i.size, i.bytes)) = some (some (.agg #[.string ⟨#[]⟩, .string ⟨#[]⟩]), 2, 32) := by kernel_rfl
theorem Tryz.infoStr : (Tryz.prog.info? 9).map (fun i => (i.zero, i.size, i.bytes)) = some (some (.string ⟨#[]⟩), 1, 16) := by kernel_rfl
def RAt (f : Nat → Option Value) (a : AttrS) : Prop := f 0 = some (.string a.name) ∧ f 1 = some (.string a.value)
def AttrsV (w : World) (B : Nat) (v : Value) (L : List AttrS) : Prop := Rows w B 2 RAt v L
def RPt (w : World) (B : Nat) (f : Nat → Option Value) (p : PartS) : Prop := f 0 = some (.string p.line) ∧ f 1 = some (.string p.conn) ∧ ∃ v, f 2 = some v ∧ AttrsV w B v p.attrs
def PartsV (w : World) (B : Nat) (v : Value) (L : List PartS) : Prop := Rows w B 3 (RPt w B) v L
theorem AttrsV.below {w w' : World} {B : Nat} {v : Value} {L : List AttrS} (h : AttrsV w B v L) (hb : Below B w w') : AttrsV w' B v L := Rows.below h hb fun _ _ _ h => h
theorem AttrsV.more {w : World} {B B' : Nat} {v : Value} {L : List AttrS} (h : AttrsV w B v L) (hB : B ≤ B') : AttrsV w B' v L := Rows.more h hB
theorem RPt.below {w w' : World} {B : Nat} {f : Nat → Option Value} {p : PartS} (h : RPt w B f p) (hb : Below B w w') : RPt w' B f p := by
 obtain ⟨h1, h2, v, h3, h4⟩ := h
 exact ⟨h1, h2, v, h3, h4.below hb⟩
theorem RPt.more {w : World} {B B' : Nat} {f : Nat → Option Value} {p : PartS} (h : RPt w B f p) (hB : B ≤ B') : RPt w B' f p := by
 obtain ⟨h1, h2, v, h3, h4⟩ := h
 exact ⟨h1, h2, v, h3, h4.more hB⟩
theorem PartsV.below {w w' : World} {B : Nat} {v : Value} {L : List PartS} (h : PartsV w B v L) (hb : Below B w w') : PartsV w' B v L := Rows.below h hb fun _ _ _ h => h.below hb
theorem PartsV.more {w : World} {B B' : Nat} {v : Value} {L : List PartS} (h : PartsV w B v L) (hB : B ≤ B') : PartsV w B' v L := Rows.more (Rows.mono h fun _ _ _ h => h.more hB) hB
theorem AttrsV.nil (w : World) (B : Nat) : AttrsV w B (.slice none 0 0) [] := Rows.nil _ _ _ _
theorem PartsV.nil (w : World) (B : Nat) : PartsV w B (.slice none 0 0) [] := Rows.nil _ _ _ _
theorem AttrsV.at_ {w : World} {B : Nat} {v : Value} {L : List AttrS} (h : AttrsV w B v L) {i : Nat} (hi : i < L.length) : ∃ ad c, v = .slice (some ad) L.length c ∧ ad.block < B ∧
 w.cell? (ad.add (i * 2)) = some (.string (L.getD i default).name) ∧ w.cell? ⟨(ad.add (i * 2)).block, (ad.add (i * 2)).off + 1, none⟩ = some (.string (L.getD i default).value) := by
 obtain ⟨ad, c, h1, h2, _, _, h3, h4⟩ := Rows.at_ h (List.getElem?_eq_getElem hi)
 have e : L.getD i default = L[i] := by simp [List.getD, hi]
 rw [e]
 refine ⟨ad, c, h1, h2, h3, ?_⟩
 rw [← add_next _ _ 1 (by decide)]
 exact h4
theorem PartsV.at_ {w : World} {B : Nat} {v : Value} {L : List PartS} (h : PartsV w B v L) {i : Nat} (hi : i < L.length) : ∃ ad c va, v = .slice (some ad) L.length c ∧ ad.block < B ∧
 w.cell? (ad.add (i * 3)) = some (.string (L.getD i default).line) ∧ w.cell? ⟨(ad.add (i * 3)).block, (ad.add (i * 3)).off + 1, none⟩ = some (.string (L.getD i default).conn) ∧
 w.cell? ⟨(ad.add (i * 3)).block, (ad.add (i * 3)).off + 2, none⟩ = some va ∧ AttrsV w B va (L.getD i default).attrs := by
 obtain ⟨ad, c, h1, h2, _, _, h3, h4, va, h5, h6⟩ := Rows.at_ h (List.getElem?_eq_getElem hi)
 have e : L.getD i default = L[i] := by simp [List.getD, hi]
 rw [e]
 refine ⟨ad, c, va, h1, h2, h3, ?_, ?_, h6⟩
 · rw [← add_next _ _ 1 (by decide)]
   exact h4
 · rw [← add_next _ _ 2 (by decide)]
   exact h5
structure SesV (w : World) (B : Nat) (M : Array Value) (x : SesS) (vA vP : Value) : Prop where
 form : M = #[.string x.origin, .string x.name, .string x.time, vA, vP]
 attrs : AttrsV w B vA x.attrs
 parts : PartsV w B vP x.parts
theorem SesV.below {w w' : World} {B : Nat} {M : Array Value} {x : SesS} {vA vP : Value} (h : SesV w B M x vA vP) (hb : Below B w w') : SesV w' B M x vA vP := ⟨h.form, h.attrs.below hb, h.parts.below hb⟩
theorem SesV.more {w : World} {B B' : Nat} {M : Array Value} {x : SesS} {vA vP : Value} (h : SesV w B M x vA vP) (hB : B ≤ B') : SesV w B' M x vA vP := ⟨h.form, h.attrs.more hB, h.parts.more hB⟩
theorem SesV.under {w w' : World} {M : Array Value} {x : SesS} {vA vP : Value} (h : SesV w w.heap.size M x vA vP) (hb : Below w.heap.size w w') : SesV w' w'.heap.size M x vA vP := (h.below hb).more hb.size
theorem getD_of {α : Type} [Inhabited α] {L : List α} {i : Nat} (hi : i < L.length) : L[i]? = some (L.getD i default) := by simp [List.getD, hi]
theorem getD_mem {α : Type} [Inhabited α] {L : List α} {i : Nat} (hi : i < L.length) : L.getD i default ∈ L := List.mem_of_getElem? (getD_of hi)
def acell (a : AttrS) : List Value := [.string a.name, .string a.value]
theorem attrs_read {L : List AttrS} (i : Nat) (r : List Value) (x : AttrS) (f : Nat → Option Value) (hr : (L.map acell)[i]? = some r) (hx : L[i]? = some x) (hf : ∀ j, j < 2 → f j = r[j]?) : RAt f x := by
 rw [List.getElem?_map, hx] at hr
 obtain rfl : acell x = r := by simpa using hr
 exact ⟨hf 0 (by decide), hf 1 (by decide)⟩
theorem Own.reads {w : World} {base B : Nat} {e : TypeId} {v : Value} {L : List AttrS} (h : Own w base e 2 v (L.map acell)) (hB : w.heap.size ≤ B) : AttrsV w B v L := h.rows hB (by rw [List.length_map]) attrs_read
theorem AttrS.ext' {a b : AttrS} (h1 : a.name = b.name) (h2 : a.value = b.value) : a = b := by cases a; cases b; simp_all
theorem toList_beq {a b : ByteArray} : (a.toList == b.toList) = true ↔ a = b := by
 rw [beq_iff_eq, toList_tx, toList_tx]
 exact ⟨tx_inj, fun h => by rw [h]⟩
def SameB {α : Type} (w : World) (x y : α) (e : Ending) (w' : World) : Prop := ∃ b, e = .returned (.bool b) ∧ (b = true ↔ x = y) ∧ Below w.heap.size w w'
theorem Tryz.eqAttr (W : World) (a b c d : ByteArray) : (Op.equalIn 10000 47 (.agg #[.string a, .string b]) (.agg #[.string c, .string d])).run Tryz.prog W = .ok ((a.toList == c.toList) && (b.toList == d.toList)) W := by
 go_simp
 by_cases h1 : a.toList = c.toList <;> by_cases h2 : b.toList = d.toList <;> simp [h1, h2]
theorem Tryz.guardAttr : Tryz.prog.eqGuardType Tryz.prog.depth 47 = false := by kernel_rfl
theorem AttrsV.form {w : World} {B : Nat} {v : Value} {L : List AttrS} (h : AttrsV w B v L) : ∃ A c, v = .slice A L.length c ∧ L.length ≤ c ∧ c ≤ maxLen ∧ (A = none → c = 0) := Rows.form h
theorem list_same {α : Type} {L M : List α} (hl : L.length = M.length) (h : ∀ j, j < L.length → L[j]? = M[j]?) : L = M := by
 apply List.ext_getElem?
 intro j
 by_cases hj : j < L.length
 · exact h j hj
 · rw [List.getElem?_eq_none (by omega), List.getElem?_eq_none (by omega)]
set_option maxHeartbeats 1600000 in
theorem sameAttrs_any (v1 v2 : Value) (L M : List AttrS) (w : World) (h1 : AttrsV w w.heap.size v1 L) (h2 : AttrsV w w.heap.size v2 M) : Calls Tryz.prog 67 #[v1, v2] w (SameB w L M) := by
 obtain ⟨A1, c1, rfl, hc1, hm1, _⟩ := h1.form
 obtain ⟨A2, c2, rfl, hc2, hm2, _⟩ := h2.form
 have H1 := Lib.hid h1
 have H2 := Lib.hid h2
 clear h1 h2
 obtain ⟨n, hn⟩ : ∃ n, L.length = n := ⟨_, rfl⟩
 obtain ⟨m, hm⟩ : ∃ m, M.length = m := ⟨_, rfl⟩
 have HN := Lib.hid hn
 have HM := Lib.hid hm
 rw [hn] at hc1
 rw [hm] at hc2
 rw [hn, hm]
 unfold maxLen at hm1 hm2
 clear hn hm
 by_cases hnm : n = m
 · subst hnm
   have hz : ((n : Int) == (n : Int)) = true := by simp
   go_enter Tryz.func67, Tryz.ntmps67
   go_wp2
   go_loopw [13] (fun s13 wr => ∃ k : Nat, k ≤ n ∧ s13 = .int .i64 k ∧ (∀ j, j < k → L[j]? = M[j]?) ∧ Below w.heap.size w wr) (fun s13 _ => n - (intOf s13).toNat)
   case atStart => exact ⟨0, Nat.zero_le _, rfl, (fun j hj => by omega), Below.refl _ w⟩
   case round =>
    obtain ⟨k, hk, rfl, hsame, hb⟩ := hrel
    have HS := Lib.hid (And.intro hsame hb)
    clear hsame
    by_cases hlt : k < n
    · obtain ⟨ad1, c1', e1, b1, x0, x1⟩ := H1.out.at_ (i := k) (by rw [HN.out]; exact hlt)
      obtain ⟨ad2, c2', e2, b2, y0, y1⟩ := H2.out.at_ (i := k) (by rw [HM.out]; exact hlt)
      injection e1 with e1 e1n e1c; clear e1n e1c
      injection e2 with e2 e2n e2c; clear e2n e2c
      subst e1 e2
      have x0' := (hb.cell (p := ad1.add (k * 2)) (by rw [add_block]; exact b1)).trans x0
      have x1' := (hb.cell (p := ⟨(ad1.add (k * 2)).block, (ad1.add (k * 2)).off + 1, none⟩) (by show (ad1.add (k * 2)).block < _; rw [add_block]; exact b1)).trans x1
      have y0' := (hb.cell (p := ad2.add (k * 2)) (by rw [add_block]; exact b2)).trans y0
      have y1' := (hb.cell (p := ⟨(ad2.add (k * 2)).block, (ad2.add (k * 2)).off + 1, none⟩) (by show (ad2.add (k * 2)).block < _; rw [add_block]; exact b2)).trans y1
      have gL := getD_of (L := L) (i := k) (by rw [HN.out]; exact hlt)
      have gM := getD_of (L := M) (i := k) (by rw [HM.out]; exact hlt)
      obtain ⟨a, ha⟩ : ∃ a, L.getD k default = a := ⟨_, rfl⟩
      obtain ⟨b, hbb⟩ : ∃ b, M.getD k default = b := ⟨_, rfl⟩
      rw [ha] at x0' x1' gL
      rw [hbb] at y0' y1' gM
      have HG := Lib.hid (And.intro gL gM)
      have hk0 : (0 : Int) ≤ (k : Int) := by omega
      have hk1 : (k : Int) < (n : Int) := by omega
      clear x0 x1 y0 y1 gL gM ha hbb b1 b2 hb
      by_cases heq : a = b
      · have hq : ∀ W, (Op.equalIn 10000 47 (.agg #[.string a.name, .string a.value]) (.agg #[.string b.name, .string b.value])).run Tryz.prog W = .ok true W := fun W => by rw [Tryz.eqAttr, heq]; simp
        have HEQ := Lib.hid heq
        have hgd := Tryz.guardAttr
        clear heq
        go_upto_region 6 with fail
        go_quiet (fail)
        go_wp2
        go_roundw
        case rel =>
         refine ⟨k + 1, by omega, by go_num, fun j hj => ?_, below_drewN' HS.out.2 _⟩
         by_cases e : j = k
         · subst e
           rw [HG.out.1, HG.out.2, HEQ.out]
         · exact HS.out.1 j (by omega)
        case measure => simp [intOf]; omega
      · have hq : ∀ W, (Op.equalIn 10000 47 (.agg #[.string a.name, .string a.value]) (.agg #[.string b.name, .string b.value])).run Tryz.prog W = .ok false W := fun W => by
         rw [Tryz.eqAttr]
         congr 1
         rw [← Bool.not_eq_true, Bool.and_eq_true, toList_beq, toList_beq]
         exact fun h => heq (AttrS.ext' h.1 h.2)
        have HNE : Hid (L ≠ M) := Lib.hid (fun e => by rw [e] at HG; have := HG.out.1.symm.trans HG.out.2; exact heq (Option.some.inj this))
        have hgd := Tryz.guardAttr
        clear heq
        go_upto_region 6 with fail
        go_quiet (fail)
        go_wp2
        go_ret
        exact ⟨false, rfl, ⟨fun e => (by cases e), fun e => (HNE.out e).elim⟩, below_drewN' HS.out.2 _⟩
    · obtain rfl : k = n := by omega
      have HEQ : Hid (L = M) := Lib.hid (list_same (by rw [HN.out, HM.out]) (fun j hj => HS.out.1 j (by rw [HN.out] at hj; exact hj)))
      clear hb
      go_wp2
      go_ret
      exact ⟨true, rfl, ⟨fun _ => HEQ.out, fun _ => rfl⟩, HS.out.2⟩
 · have hz : ((n : Int) == (m : Int)) = false := by rw [beq_eq_false_iff_ne]; omega
   have HNE : Hid (L ≠ M) := Lib.hid (fun e => hnm (by rw [← HN.out, ← HM.out, e]))
   clear hnm
   go_enter Tryz.func67, Tryz.ntmps67
   go_wp2
   go_ret
   exact ⟨false, rfl, ⟨fun e => (by cases e), fun e => (HNE.out e).elim⟩, Below.refl _ w⟩
theorem PartS.ext' {a b : PartS} (h1 : a.line = b.line) (h2 : a.conn = b.conn) (h3 : a.attrs = b.attrs) : a = b := by cases a; cases b; simp_all
set_option maxHeartbeats 1600000 in
theorem samePart_any (p r : PartS) (vp vr : Value) (w : World) (h1 : AttrsV w w.heap.size vp p.attrs) (h2 : AttrsV w w.heap.size vr r.attrs) : Calls Tryz.prog 36 #[.agg #[.string p.line, .string p.conn, vp], .agg #[.string r.line, .string r.conn, vr]] w (SameB w p r) := by
 obtain ⟨A1, k1, rfl, -⟩ := h1.form
 obtain ⟨A2, k2, rfl, -⟩ := h2.form
 have hb := two_new (w := w) 24 24 #[.string p.line, .string p.conn, .slice A1 p.attrs.length k1] #[.string r.line, .string r.conn, .slice A2 r.attrs.length k2]
 have HC := Lib.hid (sameAttrs_any _ _ p.attrs r.attrs _ ((h1.below hb).more hb.size) ((h2.below hb).more hb.size))
 have HB := Lib.hid hb
 clear hb h1 h2
 obtain ⟨x1, hx1⟩ : ∃ b, (p.line.toList == r.line.toList) = b := ⟨_, rfl⟩
 obtain ⟨x2, hx2⟩ : ∃ b, (p.conn.toList == r.conn.toList) = b := ⟨_, rfl⟩
 have H1 : Hid (x1 = true ↔ p.line = r.line) := Lib.hid (by rw [← hx1]; exact toList_beq)
 have H2 : Hid (x2 = true ↔ p.conn = r.conn) := Lib.hid (by rw [← hx2]; exact toList_beq)
 generalize p.attrs.length = n1 at *
 generalize r.attrs.length = n2 at *
 cases x1 with
 | false =>
   have HNE : Hid (p ≠ r) := Lib.hid (fun e => by have := H1.out.2 (by rw [e]); cases this)
   go_enter Tryz.func36, Tryz.ntmps36
   go_wp2
   go_ret
   exact ⟨false, rfl, ⟨fun e => (by cases e), fun e => (HNE.out e).elim⟩, HB.out⟩
 | true =>
   cases x2 with
   | false =>
     have HNE : Hid (p ≠ r) := Lib.hid (fun e => by have := H2.out.2 (by rw [e]); cases this)
     go_enter Tryz.func36, Tryz.ntmps36
     go_wp2
     go_ret
     exact ⟨false, rfl, ⟨fun e => (by cases e), fun e => (HNE.out e).elim⟩, HB.out⟩
   | true =>
     have HEQ : Hid (∀ b, (b = true ↔ p.attrs = r.attrs) → (b = true ↔ p = r)) := Lib.hid fun b hb => by
      rw [hb]
      exact ⟨fun e => PartS.ext' (H1.out.1 rfl) (H2.out.1 rfl) e, fun e => by rw [e]⟩
     go_enter Tryz.func36, Tryz.ntmps36
     go_wp2_with (go_at_call 67; (with_reducible refine HC.out.mono ?_); rintro e w1 ⟨b, rfl, hbb, hb1⟩)
     go_ret
     exact ⟨b, rfl, HEQ.out b hbb, HB.out.trans (hb1.mono HB.out.size)⟩
end Go.Proofs.YtlekmakofkpcdaaGreatDoor
namespace Go.Proofs.YtlekmakofkpcdaaGreatDoor
set_option linter.unusedVariables false
set_option linter.unusedSimpArgs false
abbrev nMid : Tx := [109, 105, 100]
abbrev nInactive : Tx := [105, 110, 97, 99, 116, 105, 118, 101]
abbrev nSendonly : Tx := [115, 101, 110, 100, 111, 110, 108, 121]
abbrev nRecvonly : Tx := [114, 101, 99, 118, 111, 110, 108, 121]
abbrev nSendrecv : Tx := [115, 101, 110, 100, 114, 101, 99, 118]
abbrev nCodec : Tx := [114, 116, 112, 109, 97, 112]
abbrev nFormat : Tx := [102, 109, 116, 112]
abbrev nFeedback : Tx := [114, 116, 99, 112, 45, 102, 98]
abbrev nExt : Tx := [101, 120, 116, 109, 97, 112]
abbrev nRid : Tx := [114, 105, 100]
abbrev nSimulcast : Tx := [115, 105, 109, 117, 108, 99, 97, 115, 116]
abbrev nSource : Tx := [115, 115, 114, 99]
abbrev nCrypto : Tx := [99, 114, 121, 112, 116, 111]
abbrev nSctp : Tx := [115, 99, 116, 112, 45, 112, 111, 114, 116]
abbrev wAudio : Tx := [97, 117, 100, 105, 111]
abbrev wVideo : Tx := [118, 105, 100, 101, 111]
abbrev wApplication : Tx := [97, 112, 112, 108, 105, 99, 97, 116, 105, 111, 110]
abbrev wStreams : Tx := [82, 84, 80, 47, 83, 65, 86, 80, 70]
abbrev wChannel : Tx := [85, 68, 80, 47, 83, 67, 84, 80, 32, 119, 101, 98, 114, 116, 99, 45, 100, 97, 116, 97, 99, 104, 97, 110, 110, 101, 108]
abbrev wConn : Tx := [73, 78, 32, 73, 80, 52, 32, 48, 46, 48, 46, 48, 46, 48]
abbrev wSend : Tx := [115, 101, 110, 100]
abbrev wRecv : Tx := [114, 101, 99, 118]
abbrev wInline : Tx := [32, 65, 69, 83, 95, 67, 77, 95, 49, 50, 56, 95, 72, 77, 65, 67, 95, 83, 72, 65, 49, 95, 56, 48, 32, 105, 110, 108, 105, 110, 101, 58]
abbrev wSuite : Tx := [65, 69, 83, 95, 67, 77, 95, 49, 50, 56, 95, 72, 77, 65, 67, 95, 83, 72, 65, 49, 95, 56, 48]
abbrev wLetters : Tx := [65, 66, 67, 68, 69, 70, 71, 72, 73, 74, 75, 76, 77, 78, 79, 80, 81, 82, 83, 84, 85, 86, 87, 88, 89, 90, 97, 98, 99, 100, 101, 102, 103, 104, 105, 106, 107, 108, 109, 110, 111, 112, 113, 114, 115, 116, 117, 118, 119, 120, 121, 122, 48, 49, 50, 51, 52, 53, 54, 55, 56, 57, 43, 47]
structure CodecS where
 type : Int
 name : ByteArray
 clock : Int
 chans : Int
 format : ByteArray
 feedback : List ByteArray
structure ExtS where
 id : Int
 uri : ByteArray
structure CryptoS where
 tag : Int
 key : Tx
structure MediaS where
 kind : Int
 port : Int
 mid : ByteArray
 dir : Int
 codecs : List CodecS
 exts : List ExtS
 rids : List ByteArray
 sending : Bool
 sources : List Nat
 crypto : List CryptoS
 sctp : Int
instance : Inhabited CodecS := ⟨⟨0, bs [], 0, 0, bs [], []⟩⟩
instance : Inhabited ExtS := ⟨⟨0, bs []⟩⟩
instance : Inhabited CryptoS := ⟨⟨0, []⟩⟩
def MediaS.zero : MediaS := ⟨0, 0, bs [], 0, [], [], [], false, [], [], 0⟩
def dec (n : Nat) : Tx := if h : n < 10 then [UInt8.ofNat (48 + n)] else dec (n / 10) ++ [UInt8.ofNat (48 + n % 10)]
termination_by n
decreasing_by omega
def decI (n : Int) : Tx := dec n.toNat
theorem dec_digit (n : Nat) : ∀ c ∈ dec n, 48 ≤ c.toNat ∧ c.toNat ≤ 57 := by
 induction n using Nat.strongRecOn with
 | _ n ih =>
   intro c hc
   unfold dec at hc
   split at hc
   · next h =>
     rw [List.mem_singleton] at hc
     subst hc
     rw [UInt8.toNat_ofNat']
     omega
   · next h =>
     rw [List.mem_append, List.mem_singleton] at hc
     rcases hc with hc | rfl
     · exact ih (n / 10) (by omega) c hc
     · rw [UInt8.toNat_ofNat']
       omega
theorem dec_ne (n : Nat) : dec n ≠ [] := by
 unfold dec
 split <;> simp
theorem dec_free (n : Nat) (d : UInt8) (hd : d.toNat < 48 ∨ 57 < d.toNat) : ∀ c ∈ dec n, c ≠ d := fun c hc e => by
 have := dec_digit n c hc
 subst e
 omega
theorem decI_free (n : Int) (d : UInt8) (hd : d.toNat < 48 ∨ 57 < d.toNat) : ∀ c ∈ decI n, c ≠ d := dec_free _ d hd
def plainP (l : Tx) : Bool := valP l && decide (l.length ≤ 100) && !(l.head? == some 32) && !(l.getLast? == some 32)
def uriP (l : Tx) : Bool := valP l && decide (l.length ≤ 100) && l.all (fun c => c != 32)
def goodC (c : CodecS) : Bool :=
 decide (0 ≤ c.type) && decide (c.type ≤ 127) && wordP 1 32 (tx c.name) && decide (1 ≤ c.clock) && decide (c.clock ≤ 1000000) && decide (1 ≤ c.chans) && decide (c.chans ≤ 2) &&
  ((tx c.format).isEmpty || plainP (tx c.format)) && (decide (c.feedback.length ≤ 8) && c.feedback.all fun f => plainP (tx f))
def goodE (x : ExtS) : Bool := decide (1 ≤ x.id) && decide (x.id ≤ 14) && uriP (tx x.uri)
def goodR (s : ByteArray) : Bool := wordP 1 8 (tx s)
def goodY (c : CryptoS) : Bool := decide (1 ≤ c.tag) && decide (c.tag ≤ 9)
def unlike {α κ : Type} [DecidableEq κ] (f : α → κ) (L : List α) : Bool := decide (L.map f).Nodup
def goodStreams (m : MediaS) : Bool :=
 decide (1 ≤ m.codecs.length) && (decide (m.codecs.length ≤ 16) && m.codecs.all goodC && unlike CodecS.type m.codecs) &&
  (decide (m.exts.length ≤ 14) && m.exts.all goodE && unlike ExtS.id m.exts) &&
  (decide (m.rids.length ≤ 3) && m.rids.all goodR && unlike tx m.rids) &&
  (decide (1 ≤ m.rids.length) || !m.sending) &&
  (decide (m.sources.length ≤ 16) && unlike id m.sources) &&
  (decide (m.crypto.length ≤ 1) && m.crypto.all goodY) &&
  decide (m.sctp = 0)
def goodChannel (m : MediaS) : Bool :=
 decide (m.codecs.length + m.exts.length + m.rids.length + m.sources.length + m.crypto.length = 0) && !m.sending && decide (1 ≤ m.sctp) && decide (m.sctp ≤ 65535)
def goodHead (m : MediaS) : Bool := (decide (m.port = 0) || decide (m.port = 9)) && wordP 1 16 (tx m.mid) && decide (0 ≤ m.dir) && decide (m.dir ≤ 3)
def goodM (m : MediaS) : Bool := goodHead m && ((decide (m.kind = 1) || decide (m.kind = 2)) && goodStreams m || decide (m.kind = 3) && goodChannel m)
def letter (v : Nat) : UInt8 := wLetters.getD v 0
def enc3 (a b c : UInt8) : Tx := let n := a.toNat * 65536 + b.toNat * 256 + c.toNat; [letter (n / 262144), letter (n / 4096 % 64), letter (n / 64 % 64), letter (n % 64)]
def encK : Tx → Tx
 | a :: b :: c :: r => enc3 a b c ++ encK r
 | _ => []
def kindW (k : Int) : Tx := if k = 1 then wAudio else if k = 2 then wVideo else wApplication
def dirW (d : Int) : Tx := if d = 1 then nSendonly else if d = 2 then nRecvonly else if d = 3 then nSendrecv else nInactive
def wayW (b : Bool) : Tx := if b then wSend else wRecv
def typesT (L : List CodecS) : Tx := L.flatMap fun c => 32 :: decI c.type
def lineM (m : MediaS) : Tx := kindW m.kind ++ 32 :: (decI m.port ++ 32 :: (if m.kind = 3 then wChannel else wStreams ++ typesT m.codecs))
def codecT (c : CodecS) : Tx := decI c.type ++ 32 :: (tx c.name ++ 47 :: (decI c.clock ++ (if c.chans = 2 then [47, 50] else [])))
def headT (n : Int) (t : Tx) : Tx := decI n ++ 32 :: t
def formatA (c : CodecS) : List AttrS := if (tx c.format).isEmpty then [] else [⟨bs nFormat, bs (headT c.type (tx c.format))⟩]
def attrsC (c : CodecS) : List AttrS := ⟨bs nCodec, bs (codecT c)⟩ :: (formatA c ++ c.feedback.map fun f => ⟨bs nFeedback, bs (headT c.type (tx f))⟩)
def attrE (x : ExtS) : AttrS := ⟨bs nExt, bs (headT x.id (tx x.uri))⟩
def attrR (b : Bool) (r : ByteArray) : AttrS := ⟨bs nRid, bs (tx r ++ 32 :: wayW b)⟩
def semi : List ByteArray → Tx
 | [] => []
 | [a] => tx a
 | a :: r => tx a ++ 59 :: semi r
def attrsR (b : Bool) (L : List ByteArray) : List AttrS := L.map (attrR b) ++ (if L.isEmpty then [] else [⟨bs nSimulcast, bs (wayW b ++ 32 :: semi L)⟩])
def attrO (n : Nat) : AttrS := ⟨bs nSource, bs (dec n)⟩
def cryptoT (c : CryptoS) : Tx := decI c.tag ++ (wInline ++ encK c.key)
def attrY (c : CryptoS) : AttrS := ⟨bs nCrypto, bs (cryptoT c)⟩
def attrsM (m : MediaS) : List AttrS :=
 ⟨bs nMid, m.mid⟩ :: ⟨bs (dirW m.dir), bs []⟩ :: (m.codecs.flatMap attrsC ++ (m.exts.map attrE ++ (attrsR m.sending m.rids ++ (m.sources.map attrO ++ (m.crypto.map attrY ++ (if m.kind = 3 then [⟨bs nSctp, bs (decI m.sctp)⟩] else []))))))
def partM (m : MediaS) : PartS := ⟨bs (lineM m), bs wConn, attrsM m⟩
def mayM (m : MediaS) : Bool := goodM m && decide ((attrsM m).length ≤ 64)
structure Rdr where
 num : Tx → Int
 src : Tx → Nat
 cry : Tx → CryptoS
 still : Int → Int
structure Rdr.Law (R : Rdr) : Prop where
 num : ∀ n, n ≤ 1000000 → R.num (dec n) = n
 src : ∀ n, n < 4294967296 → R.src (dec n) = n
 cry : ∀ c, 1 ≤ c.tag → c.tag ≤ 9 → c.key.length = 30 → R.cry (cryptoT c) = c
 still : R.still 0 = 0
theorem Rdr.Law.numI {R : Rdr} (h : R.Law) {n : Int} (h0 : 0 ≤ n) (h1 : n ≤ 1000000) : R.num (decI n) = n := by
 unfold decI
 rw [h.num _ (by omega)]
 omega
def hd (l : Tx) : Tx := (cutS [32] l).1
def tl (l : Tx) : Tx := (cutS [32] l).2.1
def kindOf (l : Tx) : Int := if l = wAudio then 1 else if l = wVideo then 2 else if l = wApplication then 3 else 0
def startM (R : Rdr) (line : Tx) : MediaS := { MediaS.zero with kind := kindOf (hd line), port := R.num (hd (tl line)) }
def codecOf (R : Rdr) (v : Tx) : CodecS :=
 let rest := cutS [47] (tl v)
 let more := cutS [47] rest.2.1
 ⟨R.num (hd v), bs rest.1, R.num more.1, if more.2.1 = [50] then 2 else 1, bs [], []⟩
def onLast (f : CodecS → CodecS) (L : List CodecS) : List CodecS := match L.getLast? with
 | none => L
 | some c => L.dropLast ++ [f c]
def rd (R : Rdr) (m : MediaS) (a : AttrS) : MediaS :=
 let n := tx a.name
 let v := tx a.value
 if n = nMid then { m with mid := a.value }
 else if n = nCodec then { m with codecs := m.codecs ++ [codecOf R v] }
 else if n = nFormat then { m with codecs := onLast (fun c => { c with format := bs (tl v) }) m.codecs }
 else if n = nFeedback then { m with codecs := onLast (fun c => { c with feedback := c.feedback ++ [bs (tl v)] }) m.codecs }
 else if n = nExt then { m with exts := m.exts ++ [⟨R.num (hd v), bs (tl v)⟩] }
 else if n = nRid then { m with rids := m.rids ++ [bs (hd v)], sending := decide (tl v = wSend) }
 else if n = nSimulcast then m
 else if n = nSource then { m with sources := m.sources ++ [R.src v] }
 else if n = nCrypto then { m with crypto := m.crypto ++ [R.cry v] }
 else if n = nSctp then { m with sctp := R.num v }
 else if n = nInactive then { m with dir := R.still m.dir }
 else if n = nSendonly then { m with dir := 1 }
 else if n = nRecvonly then { m with dir := 2 }
 else if n = nSendrecv then { m with dir := 3 }
 else m
def knownN : List Tx := [nMid, nInactive, nSendonly, nRecvonly, nSendrecv, nCodec, nFormat, nFeedback, nExt, nRid, nSimulcast, nSource, nCrypto, nSctp]
def known (a : AttrS) : Bool := knownN.contains (tx a.name)
def readM (R : Rdr) (p : PartS) : MediaS := (p.attrs.filter known).foldl (rd R) (startM R (tx p.line))
def IsM (p : PartS) (m : MediaS) : Prop := mayM m = true ∧ lineM m = tx p.line ∧ p.conn = bs wConn ∧ attrsM m = p.attrs.filter known
section
variable {R : Rdr}
theorem cut_at {c0 : UInt8} (a b : Tx) (h : ∀ c ∈ a, c ≠ c0) : cutS [c0] (a ++ c0 :: b) = (a, b, true) := by
 have := cutS_clean (c0 := c0) (t := []) a b h
 simpa using this
theorem hd_at (a b : Tx) (h : ∀ c ∈ a, c ≠ 32) : hd (a ++ 32 :: b) = a := by unfold hd; rw [cut_at a b h]
theorem tl_at (a b : Tx) (h : ∀ c ∈ a, c ≠ 32) : tl (a ++ 32 :: b) = b := by unfold tl; rw [cut_at a b h]
theorem decI_32 (n : Int) : ∀ c ∈ decI n, c ≠ 32 := decI_free n 32 (by decide)
theorem decI_47 (n : Int) : ∀ c ∈ decI n, c ≠ 47 := decI_free n 47 (by decide)
theorem word_47 {lo hi : Nat} {l : Tx} (h : wordP lo hi l = true) : ∀ c ∈ l, c ≠ 47 := fun c hc e => by
 have := wordP_in h c hc
 subst e
 revert this
 decide
theorem word_32 {lo hi : Nat} {l : Tx} (h : wordP lo hi l = true) : ∀ c ∈ l, c ≠ 32 := fun c hc => (inWd_not (wordP_in h c hc)).2.2
theorem goodC_parts {c : CodecS} (h : goodC c = true) : (0 ≤ c.type ∧ c.type ≤ 127) ∧ wordP 1 32 (tx c.name) = true ∧ (1 ≤ c.clock ∧ c.clock ≤ 1000000) ∧ (c.chans = 1 ∨ c.chans = 2) ∧ ((tx c.format).isEmpty = true ∨ plainP (tx c.format) = true) ∧ c.feedback.length ≤ 8 ∧ ∀ f ∈ c.feedback, plainP (tx f) = true := by
 unfold goodC at h
 simp only [Bool.and_eq_true, Bool.or_eq_true, decide_eq_true_eq, List.all_eq_true] at h
 obtain ⟨⟨⟨⟨⟨⟨⟨⟨h1, h2⟩, h3⟩, h4⟩, h5⟩, h6⟩, h7⟩, h8⟩, h9, h10⟩ := h
 exact ⟨⟨h1, h2⟩, h3, ⟨h4, h5⟩, by omega, h8, h9, h10⟩
theorem codecOf_text (hR : R.Law) {c : CodecS} (hc : goodC c = true) : codecOf R (codecT c) = { c with format := bs [], feedback := [] } := by
 obtain ⟨h1, h2, h3, h4, _⟩ := goodC_parts hc
 have e1 : hd (codecT c) = decI c.type := hd_at _ _ (decI_32 _)
 have e2 : tl (codecT c) = tx c.name ++ 47 :: (decI c.clock ++ (if c.chans = 2 then [47, 50] else [])) := tl_at _ _ (decI_32 _)
 have e3 := cut_at (c0 := 47) (tx c.name) (decI c.clock ++ (if c.chans = 2 then [47, 50] else [])) (word_47 h2)
 unfold codecOf
 rw [e1, e2, e3]
 simp only
 rcases h4 with h4 | h4
 · have e4 := cutS_free (c0 := 47) (t := []) (decI c.clock) (decI_47 _)
   rw [h4, if_neg (by decide), List.append_nil, e4]
   simp only
   rw [hR.numI (by omega) (by omega), hR.numI (by omega) (by omega), bs_tx, if_neg (by decide), ← h4]
 · have e4 := cut_at (c0 := 47) (decI c.clock) [50] (decI_47 _)
   rw [h4, if_pos rfl, e4]
   simp only
   rw [hR.numI (by omega) (by omega), hR.numI (by omega) (by omega), bs_tx, if_pos trivial, ← h4]
theorem onLast_snoc (f : CodecS → CodecS) (L : List CodecS) (c : CodecS) : onLast f (L ++ [c]) = L ++ [f c] := by
 unfold onLast
 rw [List.getLast?_concat]
 simp
theorem rd_mid (m : MediaS) (v : ByteArray) : rd R m ⟨bs nMid, v⟩ = { m with mid := v } := by unfold rd; simp [nMid]
theorem rd_codec (m : MediaS) (v : Tx) : rd R m ⟨bs nCodec, bs v⟩ = { m with codecs := m.codecs ++ [codecOf R v] } := by
 unfold rd
 simp only [tx_bs]
 rw [if_neg (by decide), if_pos trivial]
theorem rd_format (m : MediaS) (v : Tx) : rd R m ⟨bs nFormat, bs v⟩ = { m with codecs := onLast (fun c => { c with format := bs (tl v) }) m.codecs } := by
 unfold rd
 simp only [tx_bs]
 rw [if_neg (by decide), if_neg (by decide), if_pos trivial]
theorem rd_feedback (m : MediaS) (v : Tx) : rd R m ⟨bs nFeedback, bs v⟩ = { m with codecs := onLast (fun c => { c with feedback := c.feedback ++ [bs (tl v)] }) m.codecs } := by
 unfold rd
 simp only [tx_bs]
 rw [if_neg (by decide), if_neg (by decide), if_neg (by decide), if_pos trivial]
theorem rd_ext (m : MediaS) (v : Tx) : rd R m ⟨bs nExt, bs v⟩ = { m with exts := m.exts ++ [⟨R.num (hd v), bs (tl v)⟩] } := by
 unfold rd
 simp only [tx_bs]
 rw [if_neg (by decide), if_neg (by decide), if_neg (by decide), if_neg (by decide), if_pos trivial]
theorem rd_rid (m : MediaS) (v : Tx) : rd R m ⟨bs nRid, bs v⟩ = { m with rids := m.rids ++ [bs (hd v)], sending := decide (tl v = wSend) } := by
 unfold rd
 simp only [tx_bs]
 rw [if_neg (by decide), if_neg (by decide), if_neg (by decide), if_neg (by decide), if_neg (by decide), if_pos trivial]
theorem rd_simulcast (m : MediaS) (v : Tx) : rd R m ⟨bs nSimulcast, bs v⟩ = m := by
 unfold rd
 simp only [tx_bs]
 rw [if_neg (by decide), if_neg (by decide), if_neg (by decide), if_neg (by decide), if_neg (by decide), if_neg (by decide), if_pos trivial]
theorem rd_source (m : MediaS) (v : Tx) : rd R m ⟨bs nSource, bs v⟩ = { m with sources := m.sources ++ [R.src v] } := by
 unfold rd
 simp only [tx_bs]
 rw [if_neg (by decide), if_neg (by decide), if_neg (by decide), if_neg (by decide), if_neg (by decide), if_neg (by decide), if_neg (by decide), if_pos trivial]
theorem rd_crypto (m : MediaS) (v : Tx) : rd R m ⟨bs nCrypto, bs v⟩ = { m with crypto := m.crypto ++ [R.cry v] } := by
 unfold rd
 simp only [tx_bs]
 rw [if_neg (by decide), if_neg (by decide), if_neg (by decide), if_neg (by decide), if_neg (by decide), if_neg (by decide), if_neg (by decide), if_neg (by decide), if_pos trivial]
theorem rd_sctp (m : MediaS) (v : Tx) : rd R m ⟨bs nSctp, bs v⟩ = { m with sctp := R.num v } := by
 unfold rd
 simp only [tx_bs]
 rw [if_neg (by decide), if_neg (by decide), if_neg (by decide), if_neg (by decide), if_neg (by decide), if_neg (by decide), if_neg (by decide), if_neg (by decide), if_neg (by decide), if_pos trivial]
theorem rd_dir (hR : R.Law) (m : MediaS) {d : Int} (h0 : 0 ≤ d) (h3 : d ≤ 3) (hm : m.dir = 0) : rd R m ⟨bs (dirW d), bs []⟩ = { m with dir := d } := by
 have : d = 0 ∨ d = 1 ∨ d = 2 ∨ d = 3 := by omega
 rcases this with rfl | rfl | rfl | rfl
 · have e : rd R m ⟨bs (dirW 0), bs []⟩ = { m with dir := R.still m.dir } := by
    unfold rd
    simp only [tx_bs]
    rw [if_neg (by decide), if_neg (by decide), if_neg (by decide), if_neg (by decide), if_neg (by decide), if_neg (by decide), if_neg (by decide), if_neg (by decide), if_neg (by decide), if_neg (by decide), if_pos (by decide)]
   rw [e, hm, hR.still]
 · unfold rd
   simp only [tx_bs]
   rw [if_neg (by decide), if_neg (by decide), if_neg (by decide), if_neg (by decide), if_neg (by decide), if_neg (by decide), if_neg (by decide), if_neg (by decide), if_neg (by decide), if_neg (by decide), if_neg (by decide), if_pos (by decide)]
 · unfold rd
   simp only [tx_bs]
   rw [if_neg (by decide), if_neg (by decide), if_neg (by decide), if_neg (by decide), if_neg (by decide), if_neg (by decide), if_neg (by decide), if_neg (by decide), if_neg (by decide), if_neg (by decide), if_neg (by decide), if_neg (by decide), if_pos (by decide)]
 · unfold rd
   simp only [tx_bs]
   rw [if_neg (by decide), if_neg (by decide), if_neg (by decide), if_neg (by decide), if_neg (by decide), if_neg (by decide), if_neg (by decide), if_neg (by decide), if_neg (by decide), if_neg (by decide), if_neg (by decide), if_neg (by decide), if_neg (by decide), if_pos (by decide)]
theorem fold_fb (n : Int) : ∀ (F : List ByteArray) (m : MediaS) (L : List CodecS) (c : CodecS), m.codecs = L ++ [c] → (F.map fun f => (⟨bs nFeedback, bs (headT n (tx f))⟩ : AttrS)).foldl (rd R) m = { m with codecs := L ++ [{ c with feedback := c.feedback ++ F }] }
 | [], m, L, c, h => by
   cases m
   simp at h
   subst h
   simp
 | f :: F, m, L, c, h => by
   rw [List.map_cons, List.foldl_cons, rd_feedback, h, onLast_snoc]
   have e : tl (headT n (tx f)) = tx f := tl_at _ _ (decI_32 _)
   rw [e, bs_tx, fold_fb n F _ L { c with feedback := c.feedback ++ [f] } rfl]
   simp
theorem fold_codec (hR : R.Law) (m : MediaS) {c : CodecS} (hc : goodC c = true) : (attrsC c).foldl (rd R) m = { m with codecs := m.codecs ++ [c] } := by
 unfold attrsC
 rw [List.foldl_cons, rd_codec, codecOf_text hR hc, List.foldl_append]
 have e1 : (formatA c).foldl (rd R) { m with codecs := m.codecs ++ [{ c with format := bs [], feedback := [] }] } = { m with codecs := m.codecs ++ [{ c with feedback := [] }] } := by
  unfold formatA
  by_cases h : (tx c.format).isEmpty = true
  · rw [if_pos h]
    have : c.format = bs [] := by rw [← bs_tx c.format, List.isEmpty_iff.1 h]
    rw [← this]
    rfl
  · rw [if_neg h, List.foldl_cons, List.foldl_nil, rd_format, onLast_snoc]
    have e : tl (headT c.type (tx c.format)) = tx c.format := tl_at _ _ (decI_32 _)
    rw [e, bs_tx]
 rw [e1, fold_fb c.type c.feedback _ m.codecs { c with feedback := [] } rfl]
 simp
theorem fold_codecs (hR : R.Law) : ∀ (L : List CodecS) (m : MediaS), (∀ c ∈ L, goodC c = true) → (L.flatMap attrsC).foldl (rd R) m = { m with codecs := m.codecs ++ L }
 | [], m, _ => by simp
 | c :: L, m, h => by
   rw [List.flatMap_cons, List.foldl_append, fold_codec hR m (h c (by simp)), fold_codecs hR L _ (fun d hd => h d (by simp [hd]))]
   simp
theorem fold_exts (hR : R.Law) : ∀ (L : List ExtS) (m : MediaS), (∀ x ∈ L, goodE x = true) → (L.map attrE).foldl (rd R) m = { m with exts := m.exts ++ L }
 | [], m, _ => by simp
 | x :: L, m, h => by
   have hx := h x (by simp)
   unfold goodE at hx
   simp only [Bool.and_eq_true, decide_eq_true_eq] at hx
   have e1 : hd (headT x.id (tx x.uri)) = decI x.id := hd_at _ _ (decI_32 _)
   have e2 : tl (headT x.id (tx x.uri)) = tx x.uri := tl_at _ _ (decI_32 _)
   have e3 : rd R m (attrE x) = { m with exts := m.exts ++ [x] } := by
    show rd R m ⟨bs nExt, bs (headT x.id (tx x.uri))⟩ = _
    rw [rd_ext, e1, e2, hR.numI (by omega) (by omega), bs_tx]
   rw [List.map_cons, List.foldl_cons, e3, fold_exts hR L _ (fun d hd => h d (by simp [hd]))]
   simp
theorem fold_rids (b : Bool) : ∀ (L : List ByteArray) (m : MediaS), (∀ r ∈ L, goodR r = true) → (L.map (attrR b)).foldl (rd R) m = { m with rids := m.rids ++ L, sending := if L.isEmpty then m.sending else b }
 | [], m, _ => by simp
 | r :: L, m, h => by
   have hr := word_32 (h r (by simp))
   have e3 : rd R m (attrR b r) = { m with rids := m.rids ++ [r], sending := b } := by
    show rd R m ⟨bs nRid, bs (tx r ++ 32 :: wayW b)⟩ = _
    rw [rd_rid, hd_at _ _ hr, tl_at _ _ hr, bs_tx]
    cases b
    · rfl
    · rfl
   rw [List.map_cons, List.foldl_cons, e3, fold_rids b L _ (fun d hd => h d (by simp [hd]))]
   simp
theorem fold_ridsA (b : Bool) (L : List ByteArray) (m : MediaS) (h : ∀ r ∈ L, goodR r = true) : (attrsR b L).foldl (rd R) m = { m with rids := m.rids ++ L, sending := if L.isEmpty then m.sending else b } := by
 unfold attrsR
 rw [List.foldl_append, fold_rids b L m h]
 cases L with
 | nil => rfl
 | cons r L =>
   show List.foldl (rd R) _ [⟨bs nSimulcast, bs (wayW b ++ 32 :: semi (r :: L))⟩] = _
   rw [List.foldl_cons, List.foldl_nil, rd_simulcast]
theorem fold_sources (hR : R.Law) : ∀ (L : List Nat) (m : MediaS), (∀ n ∈ L, n < 4294967296) → (L.map attrO).foldl (rd R) m = { m with sources := m.sources ++ L }
 | [], m, _ => by simp
 | n :: L, m, h => by
   have e3 : rd R m (attrO n) = { m with sources := m.sources ++ [n] } := by
    show rd R m ⟨bs nSource, bs (dec n)⟩ = _
    rw [rd_source, hR.src n (h n (by simp))]
   rw [List.map_cons, List.foldl_cons, e3, fold_sources hR L _ (fun d hd => h d (by simp [hd]))]
   simp
theorem fold_cryptos (hR : R.Law) : ∀ (L : List CryptoS) (m : MediaS), (∀ c ∈ L, goodY c = true ∧ c.key.length = 30) → (L.map attrY).foldl (rd R) m = { m with crypto := m.crypto ++ L }
 | [], m, _ => by simp
 | c :: L, m, h => by
   obtain ⟨hc, hk⟩ := h c (by simp)
   unfold goodY at hc
   simp only [Bool.and_eq_true, decide_eq_true_eq] at hc
   have e3 : rd R m (attrY c) = { m with crypto := m.crypto ++ [c] } := by
    show rd R m ⟨bs nCrypto, bs (cryptoT c)⟩ = _
    rw [rd_crypto, hR.cry c hc.1 hc.2 hk]
   rw [List.map_cons, List.foldl_cons, e3, fold_cryptos hR L _ (fun d hd => h d (by simp [hd]))]
   simp
end
def TypedM (m : MediaS) : Prop := (∀ n ∈ m.sources, n < 4294967296) ∧ ∀ c ∈ m.crypto, c.key.length = 30
structure GoodS (m : MediaS) : Prop where
 codecs : ∀ c ∈ m.codecs, goodC c = true
 exts : ∀ x ∈ m.exts, goodE x = true
 rids : ∀ r ∈ m.rids, goodR r = true
 crypto : ∀ c ∈ m.crypto, goodY c = true
 sending : m.rids = [] → m.sending = false
 sctp : m.kind ≠ 3 → m.sctp = 0
 port : m.sctp ≤ 65535
 low : 0 ≤ m.sctp
 counts : m.codecs.length ≤ 16 ∧ m.exts.length ≤ 14 ∧ m.rids.length ≤ 3 ∧ m.sources.length ≤ 16 ∧ m.crypto.length ≤ 1
theorem goodM_parts {m : MediaS} (h : goodM m = true) : (m.port = 0 ∨ m.port = 9) ∧ wordP 1 16 (tx m.mid) = true ∧ (0 ≤ m.dir ∧ m.dir ≤ 3) ∧ (m.kind = 1 ∨ m.kind = 2 ∨ m.kind = 3) ∧ GoodS m := by
 unfold goodM goodHead at h
 simp only [Bool.and_eq_true, Bool.or_eq_true, decide_eq_true_eq] at h
 obtain ⟨⟨⟨⟨h1, h2⟩, h3⟩, h4⟩, h5⟩ := h
 refine ⟨h1, h2, ⟨h3, h4⟩, ?_, ?_⟩
 · rcases h5 with ⟨h5 | h5, _⟩ | ⟨h5, _⟩ <;> simp [h5]
 · rcases h5 with ⟨hk, h5⟩ | ⟨hk, h5⟩
   · unfold goodStreams at h5
     simp only [Bool.and_eq_true, Bool.or_eq_true, decide_eq_true_eq, List.all_eq_true, Bool.not_eq_true'] at h5
     obtain ⟨⟨⟨⟨⟨⟨⟨h1, ⟨h2, h3⟩, _⟩, ⟨h4, h5⟩, _⟩, ⟨h6, h7⟩, _⟩, h8⟩, h9, _⟩, h10, h11⟩, h12⟩ := h5
     refine ⟨h3, h5, h7, h11, fun e => ?_, fun _ => h12, by omega, by omega, h2, h4, h6, h9, h10⟩
     rcases h8 with h8 | h8
     · rw [e] at h8
       simp at h8
     · exact h8
   · unfold goodChannel at h5
     simp only [Bool.and_eq_true, decide_eq_true_eq, Bool.not_eq_true'] at h5
     obtain ⟨⟨⟨h1, h2⟩, h3⟩, h4⟩ := h5
     have e1 : m.codecs = [] := List.eq_nil_of_length_eq_zero (by omega)
     have e2 : m.exts = [] := List.eq_nil_of_length_eq_zero (by omega)
     have e3 : m.rids = [] := List.eq_nil_of_length_eq_zero (by omega)
     have e4 : m.crypto = [] := List.eq_nil_of_length_eq_zero (by omega)
     refine ⟨by rw [e1]; simp, by rw [e2]; simp, by rw [e3]; simp, by rw [e4]; simp, fun _ => h2, fun h => (h hk).elim, by omega, by omega, by omega, by omega, by omega, by omega, by omega⟩
theorem fold_all {R : Rdr} (hR : R.Law) {C : List CodecS} {E : List ExtS} {Q : List ByteArray} {b : Bool} {S : List Nat} {Y : List CryptoS} (T : List AttrS) (m : MediaS) (hC : ∀ c ∈ C, goodC c = true) (hE : ∀ x ∈ E, goodE x = true) (hQ : ∀ r ∈ Q, goodR r = true) (hS : ∀ n ∈ S, n < 4294967296)
 (hY : ∀ c ∈ Y, goodY c = true ∧ c.key.length = 30) : (C.flatMap attrsC ++ (E.map attrE ++ (attrsR b Q ++ (S.map attrO ++ (Y.map attrY ++ T))))).foldl (rd R) m =
 T.foldl (rd R) { m with codecs := m.codecs ++ C, exts := m.exts ++ E, rids := m.rids ++ Q, sending := if Q.isEmpty then m.sending else b, sources := m.sources ++ S, crypto := m.crypto ++ Y } := by
 rw [List.foldl_append, fold_codecs hR _ _ hC, List.foldl_append, fold_exts hR _ _ hE, List.foldl_append, fold_ridsA _ _ _ hQ, List.foldl_append, fold_sources hR _ _ hS, List.foldl_append, fold_cryptos hR _ _ hY]
theorem fold_two {R : Rdr} (hR : R.Law) (mid : ByteArray) {d : Int} (h0 : 0 ≤ d) (h3 : d ≤ 3) (T : List AttrS) (m : MediaS) (hm : m.dir = 0) : (⟨bs nMid, mid⟩ :: ⟨bs (dirW d), bs []⟩ :: T : List AttrS).foldl (rd R) m = T.foldl (rd R) { m with mid := mid, dir := d } := by
 rw [List.foldl_cons, rd_mid, List.foldl_cons, rd_dir hR { m with mid := mid } h0 h3 hm]
theorem read_write {R : Rdr} (hR : R.Law) {m : MediaS} (hg : goodM m = true) (ht : TypedM m) : (attrsM m).foldl (rd R) (startM R (lineM m)) = m := by
 obtain ⟨hp, hm, ⟨hd0, hd3⟩, hk, hs⟩ := goodM_parts hg
 have hkw : ∀ c ∈ kindW m.kind, c ≠ 32 := by
  rcases hk with hk | hk | hk <;> rw [hk] <;> decide
 have e1 : hd (lineM m) = kindW m.kind := hd_at _ _ hkw
 have e2 : tl (lineM m) = decI m.port ++ 32 :: (if m.kind = 3 then wChannel else wStreams ++ typesT m.codecs) := tl_at _ _ hkw
 have e3 : hd (tl (lineM m)) = decI m.port := by rw [e2]; exact hd_at _ _ (decI_32 _)
 have e4 : kindOf (kindW m.kind) = m.kind := by
  rcases hk with hk | hk | hk <;> rw [hk] <;> decide
 have hsend : (if m.rids.isEmpty then false else m.sending) = m.sending := by
  by_cases h : m.rids = []
  · rw [hs.sending h]
    simp
  · rw [if_neg (by simpa using h)]
 have est : startM R (lineM m) = ⟨m.kind, m.port, bs [], 0, [], [], [], false, [], [], 0⟩ := by
  unfold startM
  rw [e1, e3, e4, hR.numI (by omega) (by omega)]
  rfl
 rw [est]
 unfold attrsM
 rw [fold_two hR m.mid hd0 hd3 _ _ rfl, fold_all hR _ _ hs.codecs hs.exts hs.rids ht.1 (fun c hc => ⟨hs.crypto c hc, ht.2 c hc⟩)]
 simp only [List.nil_append]
 rw [hsend]
 by_cases h3 : m.kind = 3
 · rw [if_pos h3, List.foldl_cons, List.foldl_nil, rd_sctp, hR.numI hs.low (by have := hs.port; omega)]
 · rw [if_neg h3, List.foldl_nil, ← hs.sctp h3]
theorem IsM.read {R : Rdr} (hR : R.Law) {p : PartS} {m : MediaS} (h : IsM p m) (ht : TypedM m) : readM R p = m := by
 obtain ⟨h1, h2, _, h4⟩ := h
 unfold mayM at h1
 rw [Bool.and_eq_true] at h1
 unfold readM
 rw [← h4, ← h2, read_write hR h1.1 ht]
end Go.Proofs.YtlekmakofkpcdaaGreatDoor
