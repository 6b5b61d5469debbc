import Derived.Test.YtbbedhecfipdjaaGreatDoorPkDescPrintsA00
import Derived.Test.YtbbedhecfipdjaaGreatDoorPkDescPrintsA04
import Derived.RangeFuncNested
namespace Go.Proofs.YtbbedhecfipdjaaGreatDoor
open Go.RowKit
set_option linter.unusedVariables false
set_option linter.unusedSimpArgs false
def numP (l : Tx) : Int := match Lib.atoiAll l with
 | .ok v => v
 | Lib.NumEnd.syntax => 0
 | .range => Lib.atoiSat l
def srcP (l : Tx) : Nat := match Lib.parseUintB 32 l with
 | .ok u => u
 | Lib.NumEnd.syntax => 0
 | .range => 4294967295
structure EnvR (w : World) : Prop where
 env : Env w
 syn : ∃ ev, w.cell? ⟨4, 0, none⟩ = some ev ∧ (ev = .nilIface ∨ ∃ te pe, ev = .iface te pe)
 rng : ∃ ev, w.cell? ⟨5, 0, none⟩ = some ev ∧ (ev = .nilIface ∨ ∃ te pe, ev = .iface te pe)
theorem EnvR.under {w w' : World} (h : EnvR w) (hb : Below w.heap.size w w') : EnvR w' := by
 obtain ⟨e1, h1, k1⟩ := h.syn
 obtain ⟨e2, h2, k2⟩ := h.rng
 exact ⟨h.env.under hb, ⟨e1, (hb.cell (p := ⟨4, 0, Option.none⟩) (block_lt_of_cell h1)).trans h1, k1⟩, ⟨e2, (hb.cell (p := ⟨5, 0, Option.none⟩) (block_lt_of_cell h2)).trans h2, k2⟩⟩
end Go.Proofs.YtbbedhecfipdjaaGreatDoor
namespace Go.Proofs.YtbbedhecfipdjaaGreatDoor
set_option linter.unusedVariables false
set_option linter.unusedSimpArgs false
def sixP (c : UInt8) : Nat := if Lib.indexByte wLetters c = -1 then 63 else (Lib.indexByte wLetters c).toNat
def num4 (a b c d : UInt8) : Nat := ((sixP a * 64 + sixP b) * 64 + sixP c) * 64 + sixP d
def dec4 (a b c d : UInt8) : Tx := [UInt8.ofNat (num4 a b c d / 65536), UInt8.ofNat (num4 a b c d / 256), UInt8.ofNat (num4 a b c d)]
def decK : Tx → Tx
 | a :: b :: c :: d :: r => dec4 a b c d ++ decK r
 | _ => []
def keyP (l : Tx) : Tx := if l.length = 40 then decK l else List.replicate 30 0
abbrev wInl : Tx := [105, 110, 108, 105, 110, 101, 58]
def cryP (l : Tx) : CryptoS := ⟨numP (hd l), keyP (Lib.trimPrefix (tl (tl l)) wInl)⟩
def rP : Rdr := ⟨numP, srcP, cryP, fun _ => 0⟩
end Go.Proofs.YtbbedhecfipdjaaGreatDoor
namespace Go.Proofs.YtbbedhecfipdjaaGreatDoor
open Go.RowKit
set_option linter.unusedVariables false
set_option linter.unusedSimpArgs false
def mcell (m : MediaS) (vC vE vR vS vY : Value) : Array Value := #[.int .i64 m.kind, .int .i64 m.port, .string m.mid, .int .i64 m.dir, vC, vE, vR, .bool m.sending, vS, vY, .int .i64 m.sctp]
def ccell (c : CodecS) (v : Value) : List Value := [.int .i64 c.type, .string c.name, .int .i64 c.clock, .int .i64 c.chans, .string c.format, v]
def tcell (s : ByteArray) : List Value := [.string s]
def ecell (x : ExtS) : List Value := [.int .i64 x.id, .string x.uri]
def ucell (n : Nat) : List Value := [.int .u32 n]
structure MW (base bm n : Nat) (w : World) (m : MediaS) (cs : List (CodecS × Value)) (vC vE vR vS vY : Value) : Prop where
 eqC : m.codecs = cs.map (·.1)
 box : Whole w bm 28 (mcell m vC vE vR vS vY)
 hC : Own w base 58 6 vC (cs.map fun c => ccell c.1 c.2)
 hF : ∀ c ∈ cs, Own w base 9 1 c.2 (c.1.feedback.map tcell)
 hE : Own w base 84 2 vE (m.exts.map ecell)
 hR : Own w base 9 1 vR (m.rids.map tcell)
 hS : Own w base 85 1 vS (m.sources.map ucell)
 hY : Own w base 88 31 vY (m.crypto.map cryC)
 ap : (vR :: cs.map (·.2)).Pairwise fun a b => a.ownBlock = none ∨ a.ownBlock ≠ b.ownBlock
 hbm : base ≤ bm
 siz : SizM m
 lens : m.codecs.length ≤ n ∧ m.exts.length ≤ n ∧ m.rids.length ≤ n ∧ m.sources.length ≤ n ∧ m.crypto.length ≤ n ∧ ∀ c ∈ m.codecs, c.feedback.length ≤ n
structure Rdt (base bm : Nat) (w w' : World) : Prop where
 low : Below base w w'
 kept : ∀ (g : Nat) (t : TypeId) (cs : Array Value), Whole w g t cs → t ≠ 58 → t ≠ 84 → t ≠ 9 → t ≠ 85 → t ≠ 88 → g ≠ bm → Whole w' g t cs
 rest : Go.KeepsOthers w w'
theorem Own.others {w w' : World} {base sz : Nat} {e : TypeId} {v : Value} {rs : List (List Value)} (h : Own w base e sz v rs) (hg : w.grownBy w' v.ownBlock) : Go.KeepsOthers w w' := Go.KeepsOthers.of_grownBy hg fun j o hj ho => by
 obtain ⟨cs, hc⟩ := h.whole hj
 rw [show w.heap[j]? = _ from hc] at ho
 cases ho
 rfl
theorem others_under {w w' : World} (hb : Below w.heap.size w w') : Go.KeepsOthers w w' := ⟨hb.size, fun k o hk _ => (hb.block k (Array.getElem?_eq_some_iff.1 hk).1).trans hk⟩
section
variable {base bm n : Nat} {w w' w2 : World} {m : MediaS} {cs : List (CodecS × Value)} {vC vE vR vS vY : Value}
theorem Rdt.refl (base bm : Nat) (w : World) : Rdt base bm w w := ⟨Below.refl _ _, fun _ _ _ h _ _ _ _ _ _ => h, Go.KeepsOthers.refl _⟩
theorem Rdt.trans (h : Rdt base bm w w') (k : Rdt base bm w' w2) : Rdt base bm w w2 := ⟨h.low.trans k.low, fun g t cs hw h1 h2 h3 h4 h5 h6 => k.kept g t cs (h.kept g t cs hw h1 h2 h3 h4 h5 h6) h1 h2 h3 h4 h5 h6, h.rest.trans k.rest⟩
theorem Rdt.under (h : Rdt base bm w w') (hb : Below w'.heap.size w' w2) (hB : base ≤ w'.heap.size) : Rdt base bm w w2 := h.trans ⟨hb.mono hB, fun g t cs hw _ _ _ _ _ _ => hw.under hb, others_under hb⟩
theorem Rdt.cell (h : Rdt base bm w w') (hbm : base ≤ bm) (i : Nat) (u : Value) : Rdt base bm w (w'.setCell ⟨bm, i, none⟩ u) := h.trans ⟨(Below.refl _ _).setCell (p := ⟨bm, i, none⟩) hbm _, fun g t cs hw _ _ _ _ _ h6 => hw.far (p := ⟨bm, i, none⟩) h6 _, Go.KeepsOthers.setCell _ _ _⟩
theorem MW.under (h : MW base bm n w m cs vC vE vR vS vY) (hb : Below w.heap.size w w') : MW base bm n w' m cs vC vE vR vS vY :=
 ⟨h.eqC, h.box.under hb, h.hC.under hb, fun c hc => (h.hF c hc).under hb, h.hE.under hb, h.hR.under hb, h.hS.under hb, h.hY.under hb, h.ap, h.hbm, h.siz, h.lens⟩
theorem MW.drewN (h : MW base bm n w m cs vC vE vR vS vY) (k : Nat) : MW base bm n (w.drewN k) m cs vC vE vR vS vY :=
 ⟨h.eqC, h.box, h.hC, h.hF, h.hE, h.hR, h.hS, h.hY, h.ap, h.hbm, h.siz, h.lens⟩
theorem MW.drew (h : MW base bm n w m cs vC vE vR vS vY) : MW base bm n w.drew m cs vC vE vR vS vY :=
 ⟨h.eqC, h.box, h.hC, h.hF, h.hE, h.hR, h.hS, h.hY, h.ap, h.hbm, h.siz, h.lens⟩
theorem MW.cell (h : MW base bm n w m cs vC vE vR vS vY) {m' : MediaS} (i : Nat) (u : Value) (hx : (mcell m vC vE vR vS vY).setIfInBounds i u = mcell m' vC vE vR vS vY)
 (h1 : m'.codecs = m.codecs) (h2 : m'.exts = m.exts) (h3 : m'.rids = m.rids) (h4 : m'.sources = m.sources) (h5 : m'.crypto = m.crypto) (hz : m'.mid.size ≤ 140737488355328) : MW base bm n (w.setCell ⟨bm, i, none⟩ u) m' cs vC vE vR vS vY := by
 refine ⟨by rw [h1]; exact h.eqC, ?_, h.hC.far (p := ⟨bm, i, none⟩) (h.hC.apart h.box (by decide)) u, fun c hc => (h.hF c hc).far (p := ⟨bm, i, none⟩) ((h.hF c hc).apart h.box (by decide)) u, ?_, ?_, ?_, ?_, h.ap, h.hbm, ?_, by rw [h1, h2, h3, h4, h5]; exact h.lens⟩
 · rw [← hx]
   exact h.box.set i u
 · rw [h2]
   exact h.hE.far (p := ⟨bm, i, none⟩) (h.hE.apart h.box (by decide)) u
 · rw [h3]
   exact h.hR.far (p := ⟨bm, i, none⟩) (h.hR.apart h.box (by decide)) u
 · rw [h4]
   exact h.hS.far (p := ⟨bm, i, none⟩) (h.hS.apart h.box (by decide)) u
 · rw [h5]
   exact h.hY.far (p := ⟨bm, i, none⟩) (h.hY.apart h.box (by decide)) u
 · obtain ⟨z1, z2, z3, z4, z5, ⟨z6, z7⟩, z8⟩ := h.siz
   exact ⟨hz, by rw [h1]; exact z2, by rw [h1]; exact z3, by rw [h2]; exact z4, by rw [h3]; exact z5, ⟨by rw [h4]; exact z6, by rw [h5]; exact z7⟩, by rw [h1, h2, h3, h4, h5]; exact z8⟩
theorem MW.media (h : MW base bm n w m cs vC vE vR vS vY) : MediaV w w.heap.size (mcell m vC vE vR vS vY) m vC vE vR vS vY := by
 refine ⟨rfl, ?_, ?_, ?_, ?_, ?_⟩
 · refine h.hC.rows (L := m.codecs) (Nat.le_refl _) (by rw [h.eqC]; simp) (fun i r x f hr hx hf => ?_)
   rw [h.eqC, List.getElem?_map] at hx
   rw [List.getElem?_map] at hr
   cases hc : cs[i]? with
   | none => rw [hc] at hx; cases hx
   | some c =>
     rw [hc] at hx hr
     obtain rfl : c.1 = x := by simpa using hx
     obtain rfl : ccell c.1 c.2 = r := by simpa using hr
     refine ⟨hf 0 (by decide), hf 1 (by decide), hf 2 (by decide), hf 3 (by decide), hf 4 (by decide), c.2, hf 5 (by decide), ?_⟩
     refine (h.hF c (List.mem_of_getElem? hc)).rows (L := c.1.feedback) (Nat.le_refl _) (by simp) (fun i r x f hr hx hf => ?_)
     rw [List.getElem?_map, hx] at hr
     obtain rfl : tcell x = r := by simpa using hr
     exact hf 0 (by decide)
 · refine h.hE.rows (L := m.exts) (Nat.le_refl _) (by simp) (fun i r x f hr hx hf => ?_)
   rw [List.getElem?_map, hx] at hr
   obtain rfl : ecell x = r := by simpa using hr
   exact ⟨hf 0 (by decide), hf 1 (by decide)⟩
 · refine h.hR.rows (L := m.rids) (Nat.le_refl _) (by simp) (fun i r x f hr hx hf => ?_)
   rw [List.getElem?_map, hx] at hr
   obtain rfl : tcell x = r := by simpa using hr
   exact hf 0 (by decide)
 · refine h.hS.rows (L := m.sources) (Nat.le_refl _) (by simp) (fun i r x f hr hx hf => ?_)
   rw [List.getElem?_map, hx] at hr
   obtain rfl : ucell x = r := by simpa using hr
   exact hf 0 (by decide)
 · refine h.hY.rows (L := m.crypto) (Nat.le_refl _) (by simp) (fun i r x f hr hx hf => ?_)
   rw [List.getElem?_map, hx] at hr
   obtain rfl : cryC x = r := by simpa using hr
   exact ⟨h.siz.typed.2 x (List.mem_of_getElem? hx), fun j hj => hf j hj⟩
end
def RdO (base bm n : Nat) (w : World) (m' : MediaS) (e : Ending) (w' : World) : Prop := e = .returned (.tuple #[]) ∧ (∃ cs vC vE vR vS vY, MW base bm n w' m' cs vC vE vR vS vY) ∧ Rdt base bm w w'
end Go.Proofs.YtbbedhecfipdjaaGreatDoor
