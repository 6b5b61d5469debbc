import Derived.Test.YtlekmakofkpcdaaGreatDoorPkAttrReadsA02
namespace Go.Proofs.YtlekmakofkpcdaaGreatDoor
open Go.RowKit
set_option linter.unusedVariables false
set_option linter.unusedSimpArgs false
theorem Tryz.sizeMedia : (Tryz.prog.info? 32).map (·.size) = some 11 := by kernel_rfl
theorem Tryz.sizeCodec : (Tryz.prog.info? 50).map (·.size) = some 6 := by kernel_rfl
theorem Tryz.sizeExt : (Tryz.prog.info? 76).map (·.size) = some 2 := by kernel_rfl
theorem Tryz.sizeCrypto : (Tryz.prog.info? 82).map (·.size) = some 31 := by kernel_rfl
theorem Tryz.sizeKey : (Tryz.prog.info? 80).map (·.size) = some 30 := by kernel_rfl
structure PartV (w : World) (B : Nat) (P : Array Value) (p : PartS) (vA : Value) : Prop where
 form : P = #[.string p.line, .string p.conn, vA]
 attrs : AttrsV w B vA p.attrs
theorem PartV.below {w w' : World} {B : Nat} {P : Array Value} {p : PartS} {vA : Value} (h : PartV w B P p vA) (hb : Below B w w') : PartV w' B P p vA := ⟨h.form, h.attrs.below hb⟩
theorem PartV.more {w : World} {B B' : Nat} {P : Array Value} {p : PartS} {vA : Value} (h : PartV w B P p vA) (hB : B ≤ B') : PartV w B' P p vA := ⟨h.form, h.attrs.more hB⟩
theorem PartV.under {w w' : World} {P : Array Value} {p : PartS} {vA : Value} (h : PartV w w.heap.size P p vA) (hb : Below w.heap.size w w') : PartV w' w'.heap.size P p vA := (h.below hb).more hb.size
def RT (f : Nat → Option Value) (s : ByteArray) : Prop := f 0 = some (.string s)
def TextsV (w : World) (B : Nat) (v : Value) (L : List ByteArray) : Prop := Rows w B 1 RT v L
def RU (f : Nat → Option Value) (n : Nat) : Prop := f 0 = some (.int .u32 n)
def NumsV (w : World) (B : Nat) (v : Value) (L : List Nat) : Prop := Rows w B 1 RU v L
def RE (f : Nat → Option Value) (x : ExtS) : Prop := f 0 = some (.int .i64 x.id) ∧ f 1 = some (.string x.uri)
def ExtsV (w : World) (B : Nat) (v : Value) (L : List ExtS) : Prop := Rows w B 2 RE v L
def keyC (k : Tx) : List Value := k.map fun c => .int .u8 (c.toNat : Int)
def cryC (c : CryptoS) : List Value := .int .i64 c.tag :: keyC c.key
def RY (f : Nat → Option Value) (c : CryptoS) : Prop := c.key.length = 30 ∧ ∀ j, j < 31 → f j = (cryC c)[j]?
def CrysV (w : World) (B : Nat) (v : Value) (L : List CryptoS) : Prop := Rows w B 31 RY v L
def RC (w : World) (B : Nat) (f : Nat → Option Value) (c : CodecS) : Prop :=
 f 0 = some (.int .i64 c.type) ∧ f 1 = some (.string c.name) ∧ f 2 = some (.int .i64 c.clock) ∧ f 3 = some (.int .i64 c.chans) ∧ f 4 = some (.string c.format) ∧ ∃ v, f 5 = some v ∧ TextsV w B v c.feedback
def CodecsV (w : World) (B : Nat) (v : Value) (L : List CodecS) : Prop := Rows w B 6 (RC w B) v L
section
variable {w w' : World} {B B' : Nat} {v : Value}
theorem TextsV.below {L : List ByteArray} (h : TextsV w B v L) (hb : Below B w w') : TextsV w' B v L := Rows.below h hb fun _ _ _ h => h
theorem TextsV.more {L : List ByteArray} (h : TextsV w B v L) (hB : B ≤ B') : TextsV w B' v L := Rows.more h hB
theorem NumsV.below {L : List Nat} (h : NumsV w B v L) (hb : Below B w w') : NumsV w' B v L := Rows.below h hb fun _ _ _ h => h
theorem NumsV.more {L : List Nat} (h : NumsV w B v L) (hB : B ≤ B') : NumsV w B' v L := Rows.more h hB
theorem ExtsV.below {L : List ExtS} (h : ExtsV w B v L) (hb : Below B w w') : ExtsV w' B v L := Rows.below h hb fun _ _ _ h => h
theorem ExtsV.more {L : List ExtS} (h : ExtsV w B v L) (hB : B ≤ B') : ExtsV w B' v L := Rows.more h hB
theorem CrysV.below {L : List CryptoS} (h : CrysV w B v L) (hb : Below B w w') : CrysV w' B v L := Rows.below h hb fun _ _ _ h => h
theorem CrysV.more {L : List CryptoS} (h : CrysV w B v L) (hB : B ≤ B') : CrysV w B' v L := Rows.more h hB
theorem RC.below {f : Nat → Option Value} {c : CodecS} (h : RC w B f c) (hb : Below B w w') : RC w' B f c := by
 obtain ⟨h0, h1, h2, h3, h4, u, h5, h6⟩ := h
 exact ⟨h0, h1, h2, h3, h4, u, h5, h6.below hb⟩
theorem RC.more {f : Nat → Option Value} {c : CodecS} (h : RC w B f c) (hB : B ≤ B') : RC w B' f c := by
 obtain ⟨h0, h1, h2, h3, h4, u, h5, h6⟩ := h
 exact ⟨h0, h1, h2, h3, h4, u, h5, h6.more hB⟩
theorem CodecsV.below {L : List CodecS} (h : CodecsV w B v L) (hb : Below B w w') : CodecsV w' B v L := Rows.below h hb fun _ _ _ h => h.below hb
theorem CodecsV.more {L : List CodecS} (h : CodecsV w B v L) (hB : B ≤ B') : CodecsV w B' v L := Rows.more (Rows.mono h fun _ _ _ h => h.more hB) hB
theorem TextsV.at_ {L : List ByteArray} (h : TextsV w B v L) {i : Nat} (hi : i < L.length) : ∃ ad c, v = .slice (some ad) L.length c ∧ ad.block < B ∧ w.cell? (ad.add i) = some (.string (L.getD i default)) := by
 obtain ⟨ad, c, h1, h2, _, _, h3⟩ := Rows.at_ h (List.getElem?_eq_getElem hi)
 have e : L.getD i default = L[i] := by simp [List.getD, hi]
 rw [e]
 refine ⟨ad, c, h1, h2, ?_⟩
 have h3 : w.cell? (ad.add (i * 1 + 0)) = some (.string L[i]) := h3
 rwa [Nat.mul_one, Nat.add_zero] at h3
theorem NumsV.at_ {L : List Nat} (h : NumsV w B v L) {i : Nat} (hi : i < L.length) : ∃ ad c, v = .slice (some ad) L.length c ∧ ad.block < B ∧ w.cell? (ad.add i) = some (.int .u32 (L.getD i default : Nat)) := by
 obtain ⟨ad, c, h1, h2, _, _, h3⟩ := Rows.at_ h (List.getElem?_eq_getElem hi)
 have e : L.getD i default = L[i] := by simp [List.getD, hi]
 rw [e]
 refine ⟨ad, c, h1, h2, ?_⟩
 have h3 : w.cell? (ad.add (i * 1 + 0)) = some (.int .u32 (L[i] : Nat)) := h3
 rwa [Nat.mul_one, Nat.add_zero] at h3
theorem ExtsV.at_ {L : List ExtS} (h : ExtsV w B v L) {i : Nat} (hi : i < L.length) : ∃ ad c, v = .slice (some ad) L.length c ∧ ad.block < B ∧
 w.cell? (ad.add (i * 2)) = some (.int .i64 (L.getD i default).id) ∧ w.cell? ⟨(ad.add (i * 2)).block, (ad.add (i * 2)).off + 1, none⟩ = some (.string (L.getD i default).uri) := by
 obtain ⟨ad, c, h1, h2, _, _, h3, h4⟩ := Rows.at_ h (List.getElem?_eq_getElem hi)
 have e : L.getD i default = L[i] := by simp [List.getD, hi]
 rw [e]
 refine ⟨ad, c, h1, h2, h3, ?_⟩
 rw [← add_next _ _ 1 (by decide)]
 exact h4
theorem CodecsV.at_ {L : List CodecS} (h : CodecsV w B v L) {i : Nat} (hi : i < L.length) : ∃ ad c vf, v = .slice (some ad) L.length c ∧ ad.block < B ∧
 w.cell? (ad.add (i * 6)) = some (.int .i64 (L.getD i default).type) ∧ w.cell? ⟨(ad.add (i * 6)).block, (ad.add (i * 6)).off + 1, none⟩ = some (.string (L.getD i default).name) ∧
 w.cell? ⟨(ad.add (i * 6)).block, (ad.add (i * 6)).off + 2, none⟩ = some (.int .i64 (L.getD i default).clock) ∧ w.cell? ⟨(ad.add (i * 6)).block, (ad.add (i * 6)).off + 3, none⟩ = some (.int .i64 (L.getD i default).chans) ∧
 w.cell? ⟨(ad.add (i * 6)).block, (ad.add (i * 6)).off + 4, none⟩ = some (.string (L.getD i default).format) ∧ w.cell? ⟨(ad.add (i * 6)).block, (ad.add (i * 6)).off + 5, none⟩ = some vf ∧ TextsV w B vf (L.getD i default).feedback := by
 obtain ⟨ad, c, h1, h2, _, _, h3, h4, h5, h6, h7, vf, h8, h9⟩ := Rows.at_ h (List.getElem?_eq_getElem hi)
 have e : L.getD i default = L[i] := by simp [List.getD, hi]
 rw [e]
 refine ⟨ad, c, vf, h1, h2, h3, ?_, ?_, ?_, ?_, ?_, h9⟩
 · rw [← add_next _ _ 1 (by decide)]; exact h4
 · rw [← add_next _ _ 2 (by decide)]; exact h5
 · rw [← add_next _ _ 3 (by decide)]; exact h6
 · rw [← add_next _ _ 4 (by decide)]; exact h7
 · rw [← add_next _ _ 5 (by decide)]; exact h8
end
structure MediaV (w : World) (B : Nat) (M : Array Value) (m : MediaS) (vC vE vR vS vY : Value) : Prop where
 form : M = #[.int .i64 m.kind, .int .i64 m.port, .string m.mid, .int .i64 m.dir, vC, vE, vR, .bool m.sending, vS, vY, .int .i64 m.sctp]
 codecs : CodecsV w B vC m.codecs
 exts : ExtsV w B vE m.exts
 rids : TextsV w B vR m.rids
 sources : NumsV w B vS m.sources
 crypto : CrysV w B vY m.crypto
section
variable {w w' : World} {B B' : Nat} {M : Array Value} {m : MediaS} {vC vE vR vS vY : Value}
theorem MediaV.below (h : MediaV w B M m vC vE vR vS vY) (hb : Below B w w') : MediaV w' B M m vC vE vR vS vY := ⟨h.form, h.codecs.below hb, h.exts.below hb, h.rids.below hb, h.sources.below hb, h.crypto.below hb⟩
theorem MediaV.more (h : MediaV w B M m vC vE vR vS vY) (hB : B ≤ B') : MediaV w B' M m vC vE vR vS vY := ⟨h.form, h.codecs.more hB, h.exts.more hB, h.rids.more hB, h.sources.more hB, h.crypto.more hB⟩
theorem MediaV.under (h : MediaV w w.heap.size M m vC vE vR vS vY) (hb : Below w.heap.size w w') : MediaV w' w'.heap.size M m vC vE vR vS vY := (h.below hb).more hb.size
theorem MediaV.size (h : MediaV w B M m vC vE vR vS vY) : M.size = 11 := by rw [h.form]; rfl
end
structure SizM (m : MediaS) : Prop where
 mid : m.mid.size ≤ 140737488355328
 names : ∀ c ∈ m.codecs, c.name.size ≤ 140737488355328 ∧ c.format.size ≤ 140737488355328 ∧ ∀ f ∈ c.feedback, f.size ≤ 140737488355328
 feeds : ∀ c ∈ m.codecs, c.feedback.length ≤ 140737488355328
 uris : ∀ x ∈ m.exts, x.uri.size ≤ 140737488355328
 rids : ∀ r ∈ m.rids, r.size ≤ 140737488355328
 typed : TypedM m
 counts : m.codecs.length ≤ 1759218604442 ∧ m.exts.length ≤ 5864062014806 ∧ m.rids.length ≤ 8796093022208 ∧ m.sources.length ≤ 35184372088832 ∧ m.crypto.length ≤ 3703618114614
end Go.Proofs.YtlekmakofkpcdaaGreatDoor
