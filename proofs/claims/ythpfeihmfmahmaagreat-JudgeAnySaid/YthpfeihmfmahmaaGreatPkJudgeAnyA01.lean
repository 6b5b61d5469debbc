import Derived.Test.YthpfeihmfmahmaaGreatPkJudgeAnyA00
import Derived.RangeFuncNested
import Derived.RangeFuncBound
import Derived.RangeFuncCalls
import Derived.RangeFuncLeaves
import Derived.Shelf.Abstract
import Derived.OwnWalkIn
import Derived.TacticsInMore
import Derived.LoopNIn
import Derived.LoopIn
import Derived.Deep.DeepMust
import Derived.Deep.CutBlock
import Derived.Great.BuildSlice
import Derived.Lib.SplitLaws
namespace Go.Proofs.YthpfeihmfmahmaaGreat
open Go.RowKit
set_option linter.unusedVariables false
set_option linter.unusedSimpArgs false
theorem value_most (l : Tx) (m : Nat) (hm : m ≤ 200) : (l.all inVal && (decide (1 ≤ l.length) && decide ((l.length : Int) ≤ (m : Int)))) = (valP l && decide (l.length ≤ m)) := by
 unfold valP
 rw [Bool.eq_iff_iff]
 simp only [Bool.and_eq_true, decide_eq_true_eq]
 constructor
 · rintro ⟨h1, h2, h3⟩
   exact ⟨⟨h1, h2, by omega⟩, by omega⟩
 · rintro ⟨⟨h1, h2, h3⟩, h4⟩
   exact ⟨h1, h2, by omega⟩
theorem head_at (s : ByteArray) (h : 0 < s.size) : ((tx s).head? == some 32) = (((s[0]'h).toNat : Int) == 32) := by
 have hl : 0 < (tx s).length := by rw [tx_length]; exact h
 have e : (tx s).head? = some (s[0]'h) := by
  rw [List.head?_eq_getElem?]
  exact List.getElem?_eq_getElem hl
 rw [e, Bool.eq_iff_iff]
 simp only [beq_iff_eq, Option.some.injEq, ← UInt8.toNat_inj]
 rw [show (32 : UInt8).toNat = 32 from rfl]
 omega
theorem last_at (s : ByteArray) (h : s.size - 1 < s.size) : ((tx s).getLast? == some 32) = (((s[s.size - 1]'h).toNat : Int) == 32) := by
 have hl : s.size - 1 < (tx s).length := by rw [tx_length]; exact h
 have e : (tx s).getLast? = some (s[s.size - 1]'h) := by
  rw [List.getLast?_eq_getElem?, tx_length]
  exact List.getElem?_eq_getElem hl
 rw [e, Bool.eq_iff_iff]
 simp only [beq_iff_eq, Option.some.injEq, ← UInt8.toNat_inj]
 rw [show (32 : UInt8).toNat = 32 from rfl]
 omega
set_option maxHeartbeats 1600000 in
theorem rplain_any (s : ByteArray) (w : World) (hs : s.size ≤ maxLen) : Calls Tryz.prog 88 #[.string s, .int .i64 100] w fun e w' => e = .returned (.bool (plainP (tx s))) ∧ w = w' := by
 have HV : Hid (Calls Tryz.prog 58 #[.string s, .int .i64 100] w fun e w' => e = .returned (.bool (valP (tx s) && decide ((tx s).length ≤ 100))) ∧ w = w') := Lib.hid (by
  have := r6Value_any s 100 w hs
  have e := value_most (tx s) 100 (by decide)
  rw [tx_length] at e
  rw [show ((100 : Nat) : Int) = 100 from rfl] at e
  rw [e, ← tx_length] at this
  exact this)
 unfold maxLen at hs
 have HE : Hid (plainP (tx s) = ((valP (tx s) && decide ((tx s).length ≤ 100)) && (!((tx s).head? == some 32) && !((tx s).getLast? == some 32)))) := Lib.hid (by
  unfold plainP
  simp only [Bool.and_assoc])
 have HP : Hid ((valP (tx s) && decide ((tx s).length ≤ 100)) = true → 1 ≤ s.size) := Lib.hid (fun h => by
  simp only [Bool.and_eq_true] at h
  have := (valP_len h.1).1
  rwa [tx_length] at this)
 generalize (valP (tx s) && decide ((tx s).length ≤ 100)) = v at *
 cases v with
 | false =>
   have HR : Hid (false = plainP (tx s)) := Lib.hid (by rw [HE.out]; rfl)
   generalize plainP (tx s) = r at *
   go_enter Tryz.func88, Tryz.ntmps88
   go_wp2_with (go_at_call 58; (with_reducible refine HV.out.mono ?_); rintro e w' ⟨rfl, rfl⟩)
   go_ret
   exact ⟨ret_bool HR.out, rfl⟩
 | true =>
   have h1 : 1 ≤ s.size := HP.out rfl
   have h0 : 0 < s.size := by omega
   have hl : s.size - 1 < s.size := by omega
   have e1 : IntKind.i64.wrap ((s.size : Int) - 1) = ((s.size - 1 : Nat) : Int) := (IntWalk.i64_in _ (by omega)).trans (by omega)
   have hi0 : ((s.size - 1 : Nat) : Int) < (s.size : Int) := by omega
   have hi1 : (0 : Int) ≤ ((s.size - 1 : Nat) : Int) := by omega
   have hi2 : (0 : Int) < (s.size : Int) := by omega
   have hE := HE.out
   rw [head_at s h0, last_at s hl] at hE
   have HZ : Hid ((((s[0]'h0).toNat : Int) != 32 && ((s[s.size - 1]'hl).toNat : Int) != 32) = plainP (tx s)) := Lib.hid (by rw [hE]; rfl)
   clear hE HE HP
   generalize plainP (tx s) = r at *
   go_enter Tryz.func88, Tryz.ntmps88
   go_wp2_with (go_at_call 58; (with_reducible refine HV.out.mono ?_); rintro e w' ⟨rfl, rfl⟩)
   all_goals first
    | (go_ret; exact ⟨ret_bool HZ.out, rfl⟩)
    | (have hz := HZ.out; go_ret; exact ⟨ret_bool (by simp_all), rfl⟩)
set_option maxHeartbeats 1600000 in
theorem ruri_any (s : ByteArray) (w : World) (hs : s.size ≤ maxLen) : Calls Tryz.prog 54 #[.string s] w fun e w' => e = .returned (.bool (uriP (tx s))) ∧ w = w' := by
 have HV : Hid (Calls Tryz.prog 58 #[.string s, .int .i64 100] w fun e w' => e = .returned (.bool (valP (tx s) && decide ((tx s).length ≤ 100))) ∧ w = w') := Lib.hid (by
  have := r6Value_any s 100 w hs
  have e := value_most (tx s) 100 (by decide)
  rw [tx_length] at e
  rw [show ((100 : Nat) : Int) = 100 from rfl] at e
  rw [e, ← tx_length] at this
  exact this)
 unfold maxLen at hs
 have HE : Hid (uriP (tx s) = ((valP (tx s) && decide ((tx s).length ≤ 100)) && (tx s).all (fun c => c != 32))) := Lib.hid rfl
 have HT : Hid (∀ k, s.size ≤ k → (tx s).take k = tx s) := Lib.hid fun k hk => List.take_of_length_le (by rw [tx_length]; exact hk)
 have HBD : Hid (∀ c ∈ tx s, c.toNat < 33 → uriP (tx s) = false) := Lib.hid (fun c hc h33 => by
  rw [HE.out, Bool.eq_false_iff]
  intro h
  simp only [Bool.and_eq_true, List.all_eq_true, bne_iff_ne, decide_eq_true_eq] at h
  have h1 := valP_in h.1.1 c hc
  have h2 := h.2 c hc
  unfold inVal at h1
  simp only [Bool.and_eq_true, decide_eq_true_eq] at h1
  apply h2
  rw [← UInt8.toNat_inj]
  show c.toNat = 32
  omega)
 generalize (valP (tx s) && decide ((tx s).length ≤ 100)) = v at *
 generalize uriP (tx s) = r at *
 go_enter Tryz.func54, Tryz.ntmps54
 go_wp2
 go_loop [3] (fun i => ∃ k : Nat, k ≤ s.size ∧ i = .int .i64 k ∧ ((tx s).take k).all (fun c => c != 32) = true) (fun i => s.size - (intOf i).toNat)
 case atStart => exact ⟨0, Nat.zero_le _, rfl, rfl⟩
 case round =>
  obtain ⟨k, hk, rfl, hall⟩ := hrel
  have HA := Lib.hid hall
  clear hall
  by_cases hlt : k < s.size
  · have HN : Hid ((tx s).take (k + 1) = (tx s).take k ++ [s[k]]) := Lib.hid (by
     have hk' : k < (tx s).length := by rw [tx_length]; exact hlt
     rw [List.take_succ_eq_append_getElem hk']
     rfl)
    have HM : Hid (s[k] ∈ tx s) := Lib.hid (by
     have hk' : k < (tx s).length := by rw [tx_length]; exact hlt
     exact List.getElem_mem (l := tx s) hk')
    have hb := (s[k]).toNat_lt
    by_cases h1 : ((s[k]).toNat : Int) < 33
    · have HQ : Hid (r = false) := Lib.hid (HBD.out _ HM.out (by omega))
      go_wp2
      go_ret
      exact ⟨ret_bool HQ.out.symm, rfl⟩
    · have HV2 : Hid ((s[k] != 32) = true) := Lib.hid (by
       rw [bne_iff_ne]
       intro e
       apply h1
       rw [e]
       decide)
      have h1 : (33 : Int) ≤ ((s[k]).toNat : Int) := by omega
      go_wp2
      go_round
      case rel => exact ⟨k + 1, by omega, by go_num, by rw [HN.out, List.all_append, HA.out]; simp; simpa using HV2.out⟩
      case measure => simp [intOf]; omega
  · have HQ : Hid (v = r) := Lib.hid (by
     have := HA.out
     rw [HT.out k (by omega)] at this
     rw [HE.out, this, Bool.and_true])
    go_wp2_with (go_at_call 58; (with_reducible refine HV.out.mono ?_); rintro e w' ⟨rfl, rfl⟩)
    go_ret
    exact ⟨ret_bool HQ.out, rfl⟩
end Go.Proofs.YthpfeihmfmahmaaGreat
namespace Go.Proofs.YthpfeihmfmahmaaGreat
set_option linter.unusedVariables false
set_option linter.unusedSimpArgs false
def sixP (c : UInt8) : Nat := if Lib.indexByte wLetters c = -1 then 63 else (Lib.indexByte wLetters c).toNat
def num4 (a b c d : UInt8) : Nat := ((sixP a * 64 + sixP b) * 64 + sixP c) * 64 + sixP d
def dec4 (a b c d : UInt8) : Tx := [UInt8.ofNat (num4 a b c d / 65536), UInt8.ofNat (num4 a b c d / 256), UInt8.ofNat (num4 a b c d)]
def decK : Tx → Tx
 | a :: b :: c :: d :: r => dec4 a b c d ++ decK r
 | _ => []
end Go.Proofs.YthpfeihmfmahmaaGreat
namespace Go.Proofs.YthpfeihmfmahmaaGreat
open Go.RowKit
set_option linter.unusedVariables false
set_option linter.unusedSimpArgs false
abbrev zKey : Array Value := #[.int .u8 0, .int .u8 0, .int .u8 0, .int .u8 0, .int .u8 0, .int .u8 0, .int .u8 0, .int .u8 0, .int .u8 0, .int .u8 0, .int .u8 0, .int .u8 0, .int .u8 0, .int .u8 0, .int .u8 0, .int .u8 0, .int .u8 0, .int .u8 0, .int .u8 0, .int .u8 0, .int .u8 0, .int .u8 0, .int .u8 0, .int .u8 0, .int .u8 0, .int .u8 0, .int .u8 0, .int .u8 0, .int .u8 0, .int .u8 0]
structure Grew (w : World) (v : Value) (w' : World) (v' : Value) : Prop where
 only : Only (fun k => v.ownBlock = some k) w w'
 own : ∀ k, v'.ownBlock = some k → v.ownBlock = some k ∨ w.heap.size ≤ k
theorem Grew.refl (w : World) (v : Value) : Grew w v w v := ⟨Only.refl _ _, fun k h => .inl h⟩
theorem Grew.trans {w w1 w2 : World} {v v1 v2 : Value} (h : Grew w v w1 v1) (k : Grew w1 v1 w2 v2) : Grew w v w2 v2 :=
 ⟨h.only.next k.only h.own, fun j hj => by
  rcases k.own j hj with h1 | h1
  · exact h.own j h1
  · exact .inr (Nat.le_trans h.only.size h1)⟩
theorem Grew.under {w w1 w2 : World} {v v1 : Value} (h : Grew w v w1 v1) (hb : Below w1.heap.size w1 w2) : Grew w v w2 v1 := ⟨h.only.under hb, h.own⟩
theorem Grew.below {w w1 : World} {base : Nat} {v v1 : Value} (h : Grew w v w1 v1) (hv : ∀ k, v.ownBlock = some k → base ≤ k) (hB : base ≤ w.heap.size) : Below base w w1 := h.only.below hv hB
theorem Grew.whole {w w1 : World} {v v1 : Value} {g : Nat} {t : TypeId} {cs : Array Value} (h : Grew w v w1 v1) (hg : Whole w g t cs) (hne : v.ownBlock ≠ some g) : Whole w1 g t cs := hg.only h.only hne
section
variable {ops : Array Oper} {rest : List Oper} {o : Oper} {a : Act} {Q : Exit → Act → World → Prop} {K : Act → World → Prop} {w : World} {base : Nat} {v : Value} {L : List AttrS} {n val : ByteArray} {c : Nat}
end
def mcell (m : MediaS) (vC vE vR vS vY : Value) : Array Value := #[.int .i64 m.kind, .int .i64 m.port, .string m.mid, .int .i64 m.dir, vC, vE, vR, .bool m.sending, vS, vY, .int .i64 m.sctp]
def ccell (c : CodecS) (v : Value) : List Value := [.int .i64 c.type, .string c.name, .int .i64 c.clock, .int .i64 c.chans, .string c.format, v]
def tcell (s : ByteArray) : List Value := [.string s]
def ecell (x : ExtS) : List Value := [.int .i64 x.id, .string x.uri]
def ucell (n : Nat) : List Value := [.int .u32 n]
structure MW (base bm n : Nat) (w : World) (m : MediaS) (cs : List (CodecS × Value)) (vC vE vR vS vY : Value) : Prop where
 eqC : m.codecs = cs.map (·.1)
 box : Whole w bm 44 (mcell m vC vE vR vS vY)
 hC : Own w base 46 6 vC (cs.map fun c => ccell c.1 c.2)
 hF : ∀ c ∈ cs, Own w base 9 1 c.2 (c.1.feedback.map tcell)
 hE : Own w base 56 2 vE (m.exts.map ecell)
 hR : Own w base 9 1 vR (m.rids.map tcell)
 hS : Own w base 94 1 vS (m.sources.map ucell)
 hY : Own w base 58 31 vY (m.crypto.map cryC)
 ap : (vR :: cs.map (·.2)).Pairwise fun a b => a.ownBlock = none ∨ a.ownBlock ≠ b.ownBlock
 hbm : base ≤ bm
 siz : SizM m
 lens : m.codecs.length ≤ n ∧ m.exts.length ≤ n ∧ m.rids.length ≤ n ∧ m.sources.length ≤ n ∧ m.crypto.length ≤ n ∧ ∀ c ∈ m.codecs, c.feedback.length ≤ n
structure Rdt (base bm : Nat) (w w' : World) : Prop where
 low : Below base w w'
 kept : ∀ (g : Nat) (t : TypeId) (cs : Array Value), Whole w g t cs → t ≠ 46 → t ≠ 56 → t ≠ 9 → t ≠ 94 → t ≠ 58 → g ≠ bm → Whole w' g t cs
 rest : Go.KeepsOthers w w'
theorem others_under {w w' : World} (hb : Below w.heap.size w w') : Go.KeepsOthers w w' := ⟨hb.size, fun k o hk _ => (hb.block k (Array.getElem?_eq_some_iff.1 hk).1).trans hk⟩
section
variable {base bm n : Nat} {w w' w2 : World} {m : MediaS} {cs : List (CodecS × Value)} {vC vE vR vS vY : Value}
theorem Rdt.refl (base bm : Nat) (w : World) : Rdt base bm w w := ⟨Below.refl _ _, fun _ _ _ h _ _ _ _ _ _ => h, Go.KeepsOthers.refl _⟩
theorem Rdt.trans (h : Rdt base bm w w') (k : Rdt base bm w' w2) : Rdt base bm w w2 := ⟨h.low.trans k.low, fun g t cs hw h1 h2 h3 h4 h5 h6 => k.kept g t cs (h.kept g t cs hw h1 h2 h3 h4 h5 h6) h1 h2 h3 h4 h5 h6, h.rest.trans k.rest⟩
theorem Rdt.under (h : Rdt base bm w w') (hb : Below w'.heap.size w' w2) (hB : base ≤ w'.heap.size) : Rdt base bm w w2 := h.trans ⟨hb.mono hB, fun g t cs hw _ _ _ _ _ _ => hw.under hb, others_under hb⟩
theorem Rdt.cell (h : Rdt base bm w w') (hbm : base ≤ bm) (i : Nat) (u : Value) : Rdt base bm w (w'.setCell ⟨bm, i, none⟩ u) := h.trans ⟨(Below.refl _ _).setCell (p := ⟨bm, i, none⟩) hbm _, fun g t cs hw _ _ _ _ _ h6 => hw.far (p := ⟨bm, i, none⟩) h6 _, Go.KeepsOthers.setCell _ _ _⟩
theorem MW.under (h : MW base bm n w m cs vC vE vR vS vY) (hb : Below w.heap.size w w') : MW base bm n w' m cs vC vE vR vS vY :=
 ⟨h.eqC, h.box.under hb, h.hC.under hb, fun c hc => (h.hF c hc).under hb, h.hE.under hb, h.hR.under hb, h.hS.under hb, h.hY.under hb, h.ap, h.hbm, h.siz, h.lens⟩
theorem MW.drewN (h : MW base bm n w m cs vC vE vR vS vY) (k : Nat) : MW base bm n (w.drewN k) m cs vC vE vR vS vY :=
 ⟨h.eqC, h.box, h.hC, h.hF, h.hE, h.hR, h.hS, h.hY, h.ap, h.hbm, h.siz, h.lens⟩
theorem MW.drew (h : MW base bm n w m cs vC vE vR vS vY) : MW base bm n w.drew m cs vC vE vR vS vY :=
 ⟨h.eqC, h.box, h.hC, h.hF, h.hE, h.hR, h.hS, h.hY, h.ap, h.hbm, h.siz, h.lens⟩
theorem MW.cell (h : MW base bm n w m cs vC vE vR vS vY) {m' : MediaS} (i : Nat) (u : Value) (hx : (mcell m vC vE vR vS vY).setIfInBounds i u = mcell m' vC vE vR vS vY)
 (h1 : m'.codecs = m.codecs) (h2 : m'.exts = m.exts) (h3 : m'.rids = m.rids) (h4 : m'.sources = m.sources) (h5 : m'.crypto = m.crypto) (hz : m'.mid.size ≤ 140737488355328) : MW base bm n (w.setCell ⟨bm, i, none⟩ u) m' cs vC vE vR vS vY := by
 refine ⟨by rw [h1]; exact h.eqC, ?_, h.hC.far (p := ⟨bm, i, none⟩) (h.hC.apart h.box (by decide)) u, fun c hc => (h.hF c hc).far (p := ⟨bm, i, none⟩) ((h.hF c hc).apart h.box (by decide)) u, ?_, ?_, ?_, ?_, h.ap, h.hbm, ?_, by rw [h1, h2, h3, h4, h5]; exact h.lens⟩
 · rw [← hx]
   exact h.box.set i u
 · rw [h2]
   exact h.hE.far (p := ⟨bm, i, none⟩) (h.hE.apart h.box (by decide)) u
 · rw [h3]
   exact h.hR.far (p := ⟨bm, i, none⟩) (h.hR.apart h.box (by decide)) u
 · rw [h4]
   exact h.hS.far (p := ⟨bm, i, none⟩) (h.hS.apart h.box (by decide)) u
 · rw [h5]
   exact h.hY.far (p := ⟨bm, i, none⟩) (h.hY.apart h.box (by decide)) u
 · obtain ⟨z1, z2, z3, z4, z5, ⟨z6, z7⟩, z8⟩ := h.siz
   exact ⟨hz, by rw [h1]; exact z2, by rw [h1]; exact z3, by rw [h2]; exact z4, by rw [h3]; exact z5, ⟨by rw [h4]; exact z6, by rw [h5]; exact z7⟩, by rw [h1, h2, h3, h4, h5]; exact z8⟩
theorem MW.media (h : MW base bm n w m cs vC vE vR vS vY) : MediaV w w.heap.size (mcell m vC vE vR vS vY) m vC vE vR vS vY := by
 refine ⟨rfl, ?_, ?_, ?_, ?_, ?_⟩
 · refine h.hC.rows (L := m.codecs) (Nat.le_refl _) (by rw [h.eqC]; simp) (fun i r x f hr hx hf => ?_)
   rw [h.eqC, List.getElem?_map] at hx
   rw [List.getElem?_map] at hr
   cases hc : cs[i]? with
   | none => rw [hc] at hx; cases hx
   | some c =>
     rw [hc] at hx hr
     obtain rfl : c.1 = x := by simpa using hx
     obtain rfl : ccell c.1 c.2 = r := by simpa using hr
     refine ⟨hf 0 (by decide), hf 1 (by decide), hf 2 (by decide), hf 3 (by decide), hf 4 (by decide), c.2, hf 5 (by decide), ?_⟩
     refine (h.hF c (List.mem_of_getElem? hc)).rows (L := c.1.feedback) (Nat.le_refl _) (by simp) (fun i r x f hr hx hf => ?_)
     rw [List.getElem?_map, hx] at hr
     obtain rfl : tcell x = r := by simpa using hr
     exact hf 0 (by decide)
 · refine h.hE.rows (L := m.exts) (Nat.le_refl _) (by simp) (fun i r x f hr hx hf => ?_)
   rw [List.getElem?_map, hx] at hr
   obtain rfl : ecell x = r := by simpa using hr
   exact ⟨hf 0 (by decide), hf 1 (by decide)⟩
 · refine h.hR.rows (L := m.rids) (Nat.le_refl _) (by simp) (fun i r x f hr hx hf => ?_)
   rw [List.getElem?_map, hx] at hr
   obtain rfl : tcell x = r := by simpa using hr
   exact hf 0 (by decide)
 · refine h.hS.rows (L := m.sources) (Nat.le_refl _) (by simp) (fun i r x f hr hx hf => ?_)
   rw [List.getElem?_map, hx] at hr
   obtain rfl : ucell x = r := by simpa using hr
   exact hf 0 (by decide)
 · refine h.hY.rows (L := m.crypto) (Nat.le_refl _) (by simp) (fun i r x f hr hx hf => ?_)
   rw [List.getElem?_map, hx] at hr
   obtain rfl : cryC x = r := by simpa using hr
   exact ⟨h.siz.typed.2 x (List.mem_of_getElem? hx), fun j hj => hf j hj⟩
end
end Go.Proofs.YthpfeihmfmahmaaGreat
namespace Go.Proofs.YthpfeihmfmahmaaGreat
open Go.RowKit Go.Shelf
set_option linter.unusedVariables false
set_option linter.unusedSimpArgs false
structure Books (K : Nat) (r : Loop) (W : World) : Prop where
 loop : W.heap[K + 1]? = some (.loop r)
 late : W.heap[K]? = some (.deferred (some []))
theorem Books.keeps {K : Nat} {r : Loop} {W W' : World} (h : Books K r W) (k : KeepsFrom K W W') : Books K r W' := ⟨k.same _ _ (by omega) h.loop rfl, k.same _ _ (Nat.le_refl _) h.late rfl⟩
theorem Books.under {K : Nat} {r : Loop} {W W' : World} (h : Books K r W) (k : Below W.heap.size W W') : Books K r W' := h.keeps ((others_under k).from K)
end Go.Proofs.YthpfeihmfmahmaaGreat
namespace Go.Proofs.YthpfeihmfmahmaaGreat
open Go.RowKit
set_option linter.unusedVariables false
set_option linter.unusedSimpArgs false
structure It (w0 : World) (M : Array Value) (g : Nat) (T : TypeId) (X : Array Value) (w : World) : Prop where
 low : Below w0.heap.size w0 w
 box : Whole w w0.heap.size 44 M
 it : Whole w g T X
theorem It.under {w0 w w' : World} {M X : Array Value} {g : Nat} {T : TypeId} (h : It w0 M g T X w) (hb : Below w.heap.size w w') : It w0 M g T X w' := ⟨h.low.trans (hb.mono h.low.size), h.box.under hb, h.it.under hb⟩
theorem It.drew {w0 w : World} {M X : Array Value} {g : Nat} {T : TypeId} (h : It w0 M g T X w) : It w0 M g T X w.drew := ⟨h.low.drew, h.box, h.it⟩
theorem It.alloc {w0 w : World} {M X : Array Value} {g : Nat} {T : TypeId} (h : It w0 M g T X w) (o : Obj) : It w0 M g T X (w.alloc o) := h.under ((Below.refl _ w).alloc (Nat.le_refl _) o)
def WriteO (E : TypeId) (w : World) (m : MediaS) (e : Ending) (w' : World) : Prop :=
 ∃ P : Array Value, e = .returned (.tuple #[.agg P, .int .i64 (if mayM m = true then 0 else 1)]) ∧ Below w.heap.size w w' ∧
   (mayM m = true → ∃ v, P = #[.string (bs (lineM m)), .string (bs wConn), v] ∧ Own w' w.heap.size E 2 v ((attrsM m).map acell)) ∧ (mayM m = false → P = #[.string ⟨#[]⟩, .string ⟨#[]⟩, .slice none 0 0])
end Go.Proofs.YthpfeihmfmahmaaGreat
namespace Go.Proofs.YthpfeihmfmahmaaGreat
open Go.RowKit Go.Shelf
set_option linter.unusedVariables false
set_option linter.unusedSimpArgs false
def Bs (w : World) (B : Nat) (A : Option Addr) (n : Nat) (xs : List Int) : Prop :=
 xs.length = n ∧ (0 < n → ∃ ad, A = some ad ∧ ad.block < B ∧ ∀ i, i < n → w.cell? (ad.add i) = some (.int .u8 (xs.getD i 0)))
section
variable {w w' : World} {B : Nat} {A : Option Addr} {n : Nat} {xs : List Int}
theorem Bs.below (h : Bs w B A n xs) (hb : Below B w w') : Bs w' B A n xs :=
 ⟨h.1, fun hn => by
  obtain ⟨ad, h1, h2, h3⟩ := h.2 hn
  exact ⟨ad, h1, h2, fun i hi => (hb.cell (p := ad.add i) (by rw [add_block]; exact h2)).trans (h3 i hi)⟩⟩
theorem Bs.more {B' : Nat} (h : Bs w B A n xs) (hB : B ≤ B') : Bs w B' A n xs :=
 ⟨h.1, fun hn => by
  obtain ⟨ad, h1, h2, h3⟩ := h.2 hn
  exact ⟨ad, h1, by omega, h3⟩⟩
end
def u8s (xs : List Int) : List Value := xs.map (Value.int .u8)
@[simp] theorem u8s_length (xs : List Int) : (u8s xs).length = xs.length := by simp [u8s]
def Own8 (w : World) (base : Nat) (v : Value) (xs : List Int) : Prop := w.ownsRow base 5 1 v xs.length (u8s xs)
section
variable {w w' : World} {base : Nat} {v : Value} {xs : List Int}
theorem Own8.nil (w : World) (base : Nat) : Own8 w base (.slice none 0 0) [] := World.ownsRow_nil w base 5 1
theorem Own8.lt (h : Own8 w base v xs) {k : Nat} (hk : v.ownBlock = some k) : base ≤ k ∧ k < w.heap.size := World.ownsRow.lt h k hk
theorem Own8.grown {row : Option Nat} (h : Own8 w base v xs) (hg : w.grownBy w' row) (hne : v.ownBlock = none ∨ v.ownBlock ≠ row) : Own8 w' base v xs := World.ownsRow.kept h hg hne
theorem Own8.alloc (h : Own8 w base v xs) (o : Obj) : Own8 (w.alloc o) base v xs := World.ownsRow.alloc h o
theorem Own8.under (h : Own8 w base v xs) (hb : Below w.heap.size w w') : Own8 w' base v xs := by
 refine ⟨h.1, ?_⟩
 rcases h.2 with h0 | ⟨g, cap, cur, h1, h2, h3, h4⟩
 · exact .inl h0
 · exact .inr ⟨g, cap, cur, h1, h2, (hb.block g (Array.getElem?_eq_some_iff.1 h3).1).trans h3, h4⟩
theorem Own8.drewN (h : Own8 w base v xs) (n : Nat) : Own8 (w.drewN n) base v xs := h
theorem Own8.drew (h : Own8 w base v xs) : Own8 w.drew base v xs := h
theorem Own8.form (h : Own8 w base v xs) : ∃ A c, v = .slice A xs.length c ∧ xs.length ≤ c ∧ c ≤ maxLen ∧ (A = none → c = 0) ∧ Bs w w.heap.size A xs.length xs := by
 rcases h.2 with ⟨rfl, h0⟩ | ⟨g, cap, cur, rfl, h2, h3, h4, h5, h6, h7⟩
 · exact ⟨none, 0, by rw [h0], by omega, Nat.zero_le _, fun _ => rfl, rfl, fun hn => by omega⟩
 · refine ⟨_, cap, rfl, h4, h5, (fun e => by cases e), rfl, fun hn => ⟨_, rfl, (Array.getElem?_eq_some_iff.1 h3).1, fun i hi => ?_⟩⟩
   have := World.ownsRow.cells (g := g) h rfl i (.int .u8 (xs.getD i 0)) (by simp [u8s, List.getD, hi])
   exact this
theorem Own8.bs {A : Option Addr} {c : Nat} (h : Own8 w base (.slice A xs.length c) xs) : Bs w w.heap.size A xs.length xs := by
 obtain ⟨A', c', hv, _, _, _, hb⟩ := h.form
 cases hv
 exact hb
theorem Own8.at_ (h : Own8 w base v xs) {i : Nat} (hi : i < xs.length) : ∃ g c, v = .slice (some ⟨g, 0, none⟩) xs.length c ∧ base ≤ g ∧ g < w.heap.size ∧ w.cell? ⟨g, i, none⟩ = some (.int .u8 (xs.getD i 0)) ∧ w.frozen? ⟨g, i, none⟩ = false := by
 obtain ⟨A, c, rfl, _, _, _, hb⟩ := h.form
 rcases h.2 with ⟨hv, h0⟩ | ⟨g, cap, cur, hv, h2, h3, h4⟩
 · omega
 · cases hv
   refine ⟨g, c, rfl, h2, (Array.getElem?_eq_some_iff.1 h3).1, ?_, ?_⟩
   · obtain ⟨ad, e, _, hc⟩ := hb.2 (by omega)
     cases e
     have := hc i hi
     rwa [Addr.add_lit, Nat.zero_add] at this
   · simp [World.frozen?, h3]
end
theorem Own8.apart {w : World} {base : Nat} {v : Value} {xs : List Int} (h : Own8 w base v xs) {g : Nat} {t : TypeId} {cs : Array Value} (hg : Whole w g t cs) (he : 5 ≠ t) : v.ownBlock ≠ some g := fun e2 => by
 rcases h.2 with ⟨rfl, _⟩ | ⟨g', cap, cur, rfl, _, h3, _⟩
 · cases e2
 · have e3 : g' = g := by simpa [Value.ownBlock] using e2
   subst e3
   have e4 : some (Obj.cells cur 5 (0, 0)) = some (Obj.cells cs t (0, 0)) := Eq.trans (Eq.symm h3) hg
   injection e4 with e5
   injection e5 with _ e6
   exact he e6
theorem Own8.below {w w' : World} {base : Nat} {v : Value} {xs : List Int} (h : Own8 w base v xs) {w0 : World} (hb : Below base w0 w) (hB : base ≤ w.heap.size) (hg : w.grownBy w' v.ownBlock) : Below base w0 w' :=
 hb.grown hg hB (fun j hj => (h.lt hj).1)
end Go.Proofs.YthpfeihmfmahmaaGreat
namespace Go.Proofs.YthpfeihmfmahmaaGreat
open Go.RowKit
set_option linter.unusedVariables false
set_option linter.unusedSimpArgs false
def AtR (w : World) (base : Nat) (v : Value) (L : List AttrS) : Prop := Own w base 82 2 v (L.map acell)
theorem AtR.under {w w' : World} {base : Nat} {v : Value} {L : List AttrS} (h : AtR w base v L) (hb : Below w.heap.size w w') : AtR w' base v L := Own.under h hb
theorem AtR.base {w : World} {base : Nat} {v : Value} {L : List AttrS} (h : AtR w base v L) : ∀ k, v.ownBlock = some k → base ≤ k := fun k hk => (Own.lt h hk).1
theorem AtR.form {w : World} {base : Nat} {v : Value} {L : List AttrS} (h : AtR w base v L) : ∃ A n c, v = .slice A n c := by
 obtain ⟨A, c, e, -⟩ := Own.form h
 exact ⟨A, _, c, e⟩
section
variable {ops : Array Oper} {rest : List Oper} {o : Oper} {a : Act} {Q : Exit → Act → World → Prop} {K : Act → World → Prop} {w : World} {base : Nat} {v : Value} {L : List AttrS} {n val : ByteArray} {c : Nat}
end
abbrev zPart : Array Value := #[.string ⟨#[]⟩, .string ⟨#[]⟩, .slice none 0 0]
abbrev connB : ByteArray := ⟨#[73, 78, 32, 73, 80, 52, 32, 48, 46, 48, 46, 48, 46, 48]⟩
structure WB (w0 : World) (M : Array Value) (pb : Nat) (ln : ByteArray) (w : World) : Prop where
 low : Below w0.heap.size w0 w
 box : Whole w w0.heap.size 44 M
 res : Whole w (w0.heap.size + 1) 84 zPart
 prt : Whole w pb 84 #[.string ln, .string connB, .slice none 0 0]
 hpb : w0.heap.size ≤ pb
 hne : w0.heap.size + 1 ≠ pb
section
variable {w0 w w' : World} {M : Array Value} {pb : Nat} {ln : ByteArray}
theorem WB.under (h : WB w0 M pb ln w) (hb : Below w.heap.size w w') : WB w0 M pb ln w' := ⟨h.low.trans (hb.mono h.low.size), h.box.under hb, h.res.under hb, h.prt.under hb, h.hpb, h.hne⟩
theorem WB.drew (h : WB w0 M pb ln w) : WB w0 M pb ln w.drew := ⟨h.low.drew, h.box, h.res, h.prt, h.hpb, h.hne⟩
theorem WB.alloc (h : WB w0 M pb ln w) (o : Obj) : WB w0 M pb ln (w.alloc o) := h.under ((Below.refl _ w).alloc (Nat.le_refl _) o)
theorem WB.add {v v' : Value} {L : List AttrS} (h : WB w0 M pb ln w) (ho : AtR w w0.heap.size v L) (hg : Grew w v w' v') : WB w0 M pb ln w' :=
 ⟨h.low.trans (hg.below ho.base h.low.size), hg.whole h.box (Own.apart ho h.box (by decide)), hg.whole h.res (Own.apart ho h.res (by decide)), hg.whole h.prt (Own.apart ho h.prt (by decide)), h.hpb, h.hne⟩
theorem WB.line (h : WB w0 M pb ln w) (s : ByteArray) : WB w0 M pb s (w.setCell ⟨pb, 0, none⟩ (.string s)) :=
 ⟨h.low.setCell (p := ⟨pb, 0, none⟩) h.hpb _, h.box.far (p := ⟨pb, 0, none⟩) (h.box.ne h.prt (by decide)) _, h.res.far (p := ⟨pb, 0, none⟩) h.hne _, h.prt.set 0 _, h.hpb, h.hne⟩
theorem AtR.line {v : Value} {L : List AttrS} (h : WB w0 M pb ln w) (ho : AtR w w0.heap.size v L) (u : Value) (i : Nat) : AtR (w.setCell ⟨pb, i, none⟩ u) w0.heap.size v L := Own.far (p := ⟨pb, i, none⟩) ho (Own.apart ho h.prt (by decide)) u
end
def ItR (w0 : World) (M : Array Value) (pb : Nat) (ln : ByteArray) (g : Nat) (T : TypeId) (X : Array Value) (w : World) : Prop := WB w0 M pb ln w ∧ Whole w g T X
section
variable {w0 w w' : World} {M X : Array Value} {pb g : Nat} {ln : ByteArray} {T : TypeId}
theorem ItR.under (h : ItR w0 M pb ln g T X w) (hb : Below w.heap.size w w') : ItR w0 M pb ln g T X w' := ⟨h.1.under hb, h.2.under hb⟩
theorem ItR.drew (h : ItR w0 M pb ln g T X w) : ItR w0 M pb ln g T X w.drew := ⟨h.1.drew, h.2⟩
theorem ItR.alloc (h : ItR w0 M pb ln g T X w) (o : Obj) : ItR w0 M pb ln g T X (w.alloc o) := ⟨h.1.alloc o, h.2.alloc o⟩
theorem ItR.add {v v' : Value} {L : List AttrS} (h : ItR w0 M pb ln g T X w) (ho : AtR w w0.heap.size v L) (hT : 82 ≠ T) (hg : Grew w v w' v') : ItR w0 M pb ln g T X w' := ⟨h.1.add ho hg, hg.whole h.2 (Own.apart ho h.2 hT)⟩
theorem ItR.line (h : ItR w0 M pb ln g T X w) (hT : T ≠ 84) (s : ByteArray) : ItR w0 M pb s g T X (w.setCell ⟨pb, 0, none⟩ (.string s)) := ⟨h.1.line s, h.2.far (p := ⟨pb, 0, none⟩) (h.2.ne h.1.prt hT) _⟩
end
structure CpIn (PI PO EO : TypeId) (w0 : World) (M : Array Value) (go : Nat) (ln cn : ByteArray) (L : List AttrS) (v : Value) (w : World) : Prop where
 low : Below w0.heap.size w0 w
 box : Whole w w0.heap.size PI M
 res : Whole w (w0.heap.size + 1) PO #[.string ⟨#[]⟩, .string ⟨#[]⟩, .slice none 0 0]
 out : Whole w go PO #[.string ln, .string cn, v]
 own : Own w w0.heap.size EO 2 v (L.map acell)
 hgo : w0.heap.size ≤ go
 hne : w0.heap.size + 1 ≠ go
section
variable {PI PO EO : TypeId} {w0 w w' : World} {M : Array Value} {go : Nat} {ln cn : ByteArray} {L : List AttrS} {v : Value}
theorem CpIn.alloc (h : CpIn PI PO EO w0 M go ln cn L v w) (o : Obj) : CpIn PI PO EO w0 M go ln cn L v (w.alloc o) := ⟨h.low.alloc h.low.size o, h.box.alloc o, h.res.alloc o, h.out.alloc o, h.own.alloc o, h.hgo, h.hne⟩
theorem CpIn.drew (h : CpIn PI PO EO w0 M go ln cn L v w) : CpIn PI PO EO w0 M go ln cn L v w.drew := ⟨h.low.drew, h.box, h.res, h.out, h.own, h.hgo, h.hne⟩
end
end Go.Proofs.YthpfeihmfmahmaaGreat
namespace Go.Proofs.YthpfeihmfmahmaaGreat
open Go.RowKit Go.Shelf
set_option linter.unusedVariables false
set_option linter.unusedSimpArgs false
def Cells (w w' : World) : Prop := ∀ (g : Nat) (t : TypeId) (cs : Array Value), Whole w g t cs → Whole w' g t cs
section
variable {base bm n : Nat} {w w' : World} {m : MediaS} {cs : List (CodecS × Value)} {vC vE vR vS vY : Value}
theorem Own.cells {e : TypeId} {sz : Nat} {v : Value} {rs : List (List Value)} (h : Own w base e sz v rs) (hk : Cells w w') : Own w' base e sz v rs := h.keep fun g cs _ hw => hk g e cs hw
theorem MW.cells (h : MW base bm n w m cs vC vE vR vS vY) (hk : Cells w w') : MW base bm n w' m cs vC vE vR vS vY :=
 ⟨h.eqC, hk _ _ _ h.box, h.hC.cells hk, fun c hc => (h.hF c hc).cells hk, h.hE.cells hk, h.hR.cells hk, h.hS.cells hk, h.hY.cells hk, h.ap, h.hbm, h.siz, h.lens⟩
theorem MW.wider {n' : Nat} (h : MW base bm n w m cs vC vE vR vS vY) (hn : n ≤ n') : MW base bm n' w m cs vC vE vR vS vY :=
 ⟨h.eqC, h.box, h.hC, h.hF, h.hE, h.hR, h.hS, h.hY, h.ap, h.hbm, h.siz, by obtain ⟨l1, l2, l3, l4, l5, l6⟩ := h.lens; exact ⟨by omega, by omega, by omega, by omega, by omega, fun c hc => by have := l6 c hc; omega⟩⟩
end
abbrev zeroM : Array Value := #[.int .i64 0, .int .i64 0, .string ⟨#[]⟩, .int .i64 0, .slice none 0 0, .slice none 0 0, .slice none 0 0, .bool false, .slice none 0 0, .slice none 0 0, .int .i64 0]
end Go.Proofs.YthpfeihmfmahmaaGreat
namespace Go.Proofs.YthpfeihmfmahmaaGreat
open Go.RowKit
set_option linter.unusedVariables false
set_option linter.unusedSimpArgs false
end Go.Proofs.YthpfeihmfmahmaaGreat
namespace Go.Proofs.YthpfeihmfmahmaaGreat
open Go.RowKit Go.Shelf
set_option linter.unusedVariables false
set_option linter.unusedSimpArgs false
end Go.Proofs.YthpfeihmfmahmaaGreat
namespace Go.Proofs.YthpfeihmfmahmaaGreat
open Go.RowKit
set_option linter.unusedVariables false
set_option linter.unusedSimpArgs false
theorem ext_guard : Tryz.prog.eqGuardType Tryz.prog.depth 56 = false := by kernel_rfl
theorem CryptoS.ext' {a b : CryptoS} (h1 : a.tag = b.tag) (h2 : a.key = b.key) : a = b := by cases a; cases b; simp_all
instance : DecidableEq CryptoS := fun a b => if h : a.tag = b.tag ∧ a.key = b.key then isTrue (CryptoS.ext' h.1 h.2) else isFalse fun e => h (by rw [e]; exact ⟨rfl, rfl⟩)
theorem ExtS.ext' {a b : ExtS} (h1 : a.id = b.id) (h2 : a.uri = b.uri) : a = b := by cases a; cases b; simp_all
theorem ext_eq (x y : ExtS) (w : World) : (Op.equalIn 10000 56 (.agg #[.int .i64 x.id, .string x.uri]) (.agg #[.int .i64 y.id, .string y.uri])).run Tryz.prog w = .ok (x.id == y.id && x.uri.toList == y.uri.toList) w := by
 go_simp
 by_cases h1 : x.id = y.id <;> by_cases h2 : x.uri.toList = y.uri.toList <;> simp [h1, h2]
set_option maxHeartbeats 1600000 in
set_option maxRecDepth 100000 in
theorem equalT_any (v1 v2 : Value) (L M : List ByteArray) (w : World) (h1 : TextsV w w.heap.size v1 L) (h2 : TextsV w w.heap.size v2 M) : Calls Tryz.prog 87 #[v1, v2] w (SameB w L M) := by
 obtain ⟨A1, c1, rfl, hc1, hm1, _⟩ := Rows.form h1
 obtain ⟨A2, c2, rfl, hc2, hm2, _⟩ := Rows.form h2
 have H1 := Lib.hid h1
 have H2 := Lib.hid h2
 clear h1 h2
 obtain ⟨n, hn⟩ : ∃ n, L.length = n := ⟨_, rfl⟩
 obtain ⟨m, hm⟩ : ∃ m, M.length = m := ⟨_, rfl⟩
 have HN := Lib.hid hn
 have HM := Lib.hid hm
 rw [hn] at hc1
 rw [hm] at hc2
 rw [hn, hm]
 unfold maxLen at hm1 hm2
 clear hn hm
 by_cases hnm : n = m
 · subst hnm
   have hz : ((n : Int) == (n : Int)) = true := by simp
   go_enter Tryz.func87, Tryz.ntmps87
   go_wp2
   go_loopw [13] (fun s13 wr => ∃ k : Nat, k ≤ n ∧ s13 = .int .i64 k ∧ (∀ j, j < k → L[j]? = M[j]?) ∧ Below w.heap.size w wr) (fun s13 _ => n - (intOf s13).toNat)
   case atStart => exact ⟨0, Nat.zero_le _, rfl, (fun j hj => by omega), Below.refl _ w⟩
   case round =>
    obtain ⟨k, hk, rfl, hsame, hb⟩ := hrel
    have HS := Lib.hid (And.intro hsame hb)
    clear hsame
    by_cases hlt : k < n
    · obtain ⟨ad1, c1', e1, b1, x0⟩ := (H1.out.below hb).at_ (i := k) (by rw [HN.out]; exact hlt)
      obtain ⟨ad2, c2', e2, b2, y0⟩ := (H2.out.below hb).at_ (i := k) (by rw [HM.out]; exact hlt)
      injection e1 with e1 e1n e1c; clear e1n e1c
      injection e2 with e2 e2n e2c; clear e2n e2c
      subst e1 e2
      have gL := getD_of (L := L) (i := k) (by rw [HN.out]; exact hlt)
      have gM := getD_of (L := M) (i := k) (by rw [HM.out]; exact hlt)
      obtain ⟨a, ha⟩ : ∃ a, L.getD k default = a := ⟨_, rfl⟩
      obtain ⟨b, hbb⟩ : ∃ b, M.getD k default = b := ⟨_, rfl⟩
      rw [ha] at x0 gL
      rw [hbb] at y0 gM
      have HG := Lib.hid (And.intro gL gM)
      have hk0 : (0 : Int) ≤ (k : Int) := by omega
      have hk1 : (k : Int) < (n : Int) := by omega
      clear gL gM ha hbb
      by_cases heq : a = b
      · have hq : (a.toList == b.toList) = true := toList_beq.2 heq
        have HEQ := Lib.hid heq
        clear heq b1 b2 hb
        go_upto_region 6 with fail
        go_quiet (fail)
        go_wp2
        go_roundw
        case rel =>
         refine ⟨k + 1, by omega, by go_num, fun j hj => ?_, below_drewN' HS.out.2 _⟩
         by_cases e : j = k
         · subst e
           rw [HG.out.1, HG.out.2, HEQ.out]
         · exact HS.out.1 j (by omega)
        case measure => simp [intOf]; omega
      · have hq : (a.toList == b.toList) = false := toList_bne.2 heq
        have HNE : Hid (L ≠ M) := Lib.hid (fun e => by rw [e] at HG; have := HG.out.1.symm.trans HG.out.2; exact heq (Option.some.inj this))
        clear heq b1 b2 hb
        go_upto_region 6 with fail
        go_quiet (fail)
        go_wp2
        go_ret
        exact ⟨false, rfl, ⟨fun e => (by cases e), fun e => (HNE.out e).elim⟩, below_drewN' HS.out.2 _⟩
    · obtain rfl : k = n := by omega
      have HEQ : Hid (L = M) := Lib.hid (list_same (by rw [HN.out, HM.out]) (fun j hj => HS.out.1 j (by rw [HN.out] at hj; exact hj)))
      clear hb
      go_wp2
      go_ret
      exact ⟨true, rfl, ⟨fun _ => HEQ.out, fun _ => rfl⟩, HS.out.2⟩
 · have hz : ((n : Int) == (m : Int)) = false := by rw [beq_eq_false_iff_ne]; omega
   have HNE : Hid (L ≠ M) := Lib.hid (fun e => hnm (by rw [← HN.out, ← HM.out, e]))
   clear hnm
   go_enter Tryz.func87, Tryz.ntmps87
   go_wp2
   go_ret
   exact ⟨false, rfl, ⟨fun e => (by cases e), fun e => (HNE.out e).elim⟩, Below.refl _ w⟩
set_option maxHeartbeats 1600000 in
set_option maxRecDepth 100000 in
theorem sameTexts_any (v1 v2 : Value) (L M : List ByteArray) (w : World) (h1 : TextsV w w.heap.size v1 L) (h2 : TextsV w w.heap.size v2 M) : Calls Tryz.prog 20 #[v1, v2] w (SameB w L M) := by
 obtain ⟨A1, c1, rfl, hc1, hm1, _⟩ := Rows.form h1
 obtain ⟨A2, c2, rfl, hc2, hm2, _⟩ := Rows.form h2
 have H1 := Lib.hid h1
 have H2 := Lib.hid h2
 clear h1 h2
 obtain ⟨n, hn⟩ : ∃ n, L.length = n := ⟨_, rfl⟩
 obtain ⟨m, hm⟩ : ∃ m, M.length = m := ⟨_, rfl⟩
 have HN := Lib.hid hn
 have HM := Lib.hid hm
 rw [hn] at hc1
 rw [hm] at hc2
 rw [hn, hm]
 unfold maxLen at hm1 hm2
 clear hn hm
 by_cases hnm : n = m
 · subst hnm
   have hz : ((n : Int) == (n : Int)) = true := by simp
   go_enter Tryz.func20, Tryz.ntmps20
   go_wp2
   go_loopw [13] (fun s13 wr => ∃ k : Nat, k ≤ n ∧ s13 = .int .i64 k ∧ (∀ j, j < k → L[j]? = M[j]?) ∧ Below w.heap.size w wr) (fun s13 _ => n - (intOf s13).toNat)
   case atStart => exact ⟨0, Nat.zero_le _, rfl, (fun j hj => by omega), Below.refl _ w⟩
   case round =>
    obtain ⟨k, hk, rfl, hsame, hb⟩ := hrel
    have HS := Lib.hid (And.intro hsame hb)
    clear hsame
    by_cases hlt : k < n
    · obtain ⟨ad1, c1', e1, b1, x0⟩ := (H1.out.below hb).at_ (i := k) (by rw [HN.out]; exact hlt)
      obtain ⟨ad2, c2', e2, b2, y0⟩ := (H2.out.below hb).at_ (i := k) (by rw [HM.out]; exact hlt)
      injection e1 with e1 e1n e1c; clear e1n e1c
      injection e2 with e2 e2n e2c; clear e2n e2c
      subst e1 e2
      have gL := getD_of (L := L) (i := k) (by rw [HN.out]; exact hlt)
      have gM := getD_of (L := M) (i := k) (by rw [HM.out]; exact hlt)
      obtain ⟨a, ha⟩ : ∃ a, L.getD k default = a := ⟨_, rfl⟩
      obtain ⟨b, hbb⟩ : ∃ b, M.getD k default = b := ⟨_, rfl⟩
      rw [ha] at x0 gL
      rw [hbb] at y0 gM
      have HG := Lib.hid (And.intro gL gM)
      have hk0 : (0 : Int) ≤ (k : Int) := by omega
      have hk1 : (k : Int) < (n : Int) := by omega
      clear gL gM ha hbb
      by_cases heq : a = b
      · have hq : (a.toList == b.toList) = true := toList_beq.2 heq
        have HEQ := Lib.hid heq
        clear heq b1 b2 hb
        go_upto_region 6 with fail
        go_quiet (fail)
        go_wp2
        go_roundw
        case rel =>
         refine ⟨k + 1, by omega, by go_num, fun j hj => ?_, below_drewN' HS.out.2 _⟩
         by_cases e : j = k
         · subst e
           rw [HG.out.1, HG.out.2, HEQ.out]
         · exact HS.out.1 j (by omega)
        case measure => simp [intOf]; omega
      · have hq : (a.toList == b.toList) = false := toList_bne.2 heq
        have HNE : Hid (L ≠ M) := Lib.hid (fun e => by rw [e] at HG; have := HG.out.1.symm.trans HG.out.2; exact heq (Option.some.inj this))
        clear heq b1 b2 hb
        go_upto_region 6 with fail
        go_quiet (fail)
        go_wp2
        go_ret
        exact ⟨false, rfl, ⟨fun e => (by cases e), fun e => (HNE.out e).elim⟩, below_drewN' HS.out.2 _⟩
    · obtain rfl : k = n := by omega
      have HEQ : Hid (L = M) := Lib.hid (list_same (by rw [HN.out, HM.out]) (fun j hj => HS.out.1 j (by rw [HN.out] at hj; exact hj)))
      clear hb
      go_wp2
      go_ret
      exact ⟨true, rfl, ⟨fun _ => HEQ.out, fun _ => rfl⟩, HS.out.2⟩
 · have hz : ((n : Int) == (m : Int)) = false := by rw [beq_eq_false_iff_ne]; omega
   have HNE : Hid (L ≠ M) := Lib.hid (fun e => hnm (by rw [← HN.out, ← HM.out, e]))
   clear hnm
   go_enter Tryz.func20, Tryz.ntmps20
   go_wp2
   go_ret
   exact ⟨false, rfl, ⟨fun e => (by cases e), fun e => (HNE.out e).elim⟩, Below.refl _ w⟩
end Go.Proofs.YthpfeihmfmahmaaGreat
namespace Go.Proofs.YthpfeihmfmahmaaGreat
set_option linter.unusedVariables false
set_option linter.unusedSimpArgs false
abbrev nGroup : Tx := [103, 114, 111, 117, 112]
abbrev nUfrag : Tx := [105, 99, 101, 45, 117, 102, 114, 97, 103]
abbrev nPwd : Tx := [105, 99, 101, 45, 112, 119, 100]
abbrev wBundle : Tx := [66, 85, 78, 68, 76, 69]
abbrev wOEnd : Tx := [32, 73, 78, 32, 73, 80, 52, 32, 49, 50, 55, 46, 48, 46, 48, 46, 49]
structure DescS where
 id : Nat
 ver : Nat
 bundle : List ByteArray
 name : ByteArray
 pass : ByteArray
 media : List MediaS
def DescS.zero : DescS := ⟨0, 0, [], bs [], bs [], []⟩
instance : Inhabited MediaS := ⟨MediaS.zero⟩
theorem DescS.ext' {a b : DescS} (h1 : a.id = b.id) (h2 : a.ver = b.ver) (h3 : a.bundle = b.bundle) (h4 : a.name = b.name) (h5 : a.pass = b.pass) (h6 : a.media = b.media) : a = b := by
 cases a; cases b; simp_all
def midT (m : MediaS) : Tx := tx m.mid
def goodDM (L : List MediaS) : Bool := L.all goodM && unlike midT L
def goodDB (B : List ByteArray) (L : List MediaS) : Bool := B.all (fun b => (L.map midT).contains (tx b)) && unlike tx B
def goodD (d : DescS) : Bool := wordP 4 32 (tx d.name) && wordP 22 32 (tx d.pass) && decide (d.media.length ≤ 8) && goodDM d.media && goodDB d.bundle d.media
def originT (a b : Nat) : Tx := 45 :: 32 :: (dec a ++ 32 :: (dec b ++ wOEnd))
def groupT (B : List ByteArray) : Tx := wBundle ++ B.flatMap fun b => 32 :: tx b
def headA (d : DescS) : List AttrS := (if d.bundle.isEmpty then [] else [⟨bs nGroup, bs (groupT d.bundle)⟩]) ++ [⟨bs nUfrag, d.name⟩, ⟨bs nPwd, d.pass⟩]
def knownD (a : AttrS) : Bool := [nGroup, nUfrag, nPwd].contains (tx a.name)
def TypedD (d : DescS) : Prop := d.id < 18446744073709551616 ∧ d.ver < 18446744073709551616 ∧ ∀ m ∈ d.media, TypedM m
structure IsD (x : SesS) (d : DescS) : Prop where
 good : goodD d = true
 origin : tx x.origin = originT d.id d.ver
 name : tx x.name = [45]
 time : tx x.time = [48, 32, 48]
 attrs : x.attrs.filter knownD = headA d
 len : x.parts.length = d.media.length
 parts : ∀ (i : Nat) (p : PartS) (m : MediaS), x.parts[i]? = some p → d.media[i]? = some m → IsM p m
theorem goodD_parts {d : DescS} (h : goodD d = true) : wordP 4 32 (tx d.name) = true ∧ wordP 22 32 (tx d.pass) = true ∧ d.media.length ≤ 8 ∧ (∀ m ∈ d.media, goodM m = true) ∧ (d.media.map midT).Nodup ∧ (∀ b ∈ d.bundle, ∃ m ∈ d.media, midT m = tx b) ∧ (d.bundle.map tx).Nodup := by
 unfold goodD goodDM goodDB unlike at h
 simp only [Bool.and_eq_true, decide_eq_true_eq, List.all_eq_true, List.contains_iff_mem, List.mem_map] at h
 obtain ⟨⟨⟨⟨h1, h2⟩, h3⟩, h4, h5⟩, h6, h7⟩ := h
 exact ⟨h1, h2, h3, h4, h5, h6, h7⟩
theorem goodD_bundle {d : DescS} (h : goodD d = true) : ∀ b ∈ d.bundle, wordP 1 16 (tx b) = true := fun b hb => by
 obtain ⟨_, _, _, h4, _, h6, _⟩ := goodD_parts h
 obtain ⟨m, hm, e⟩ := h6 b hb
 rw [← e]
 exact (goodM_parts (h4 m hm)).2.1
theorem nodup_le {α : Type} [DecidableEq α] : ∀ (A B : List α), A.Nodup → (∀ a ∈ A, a ∈ B) → A.length ≤ B.length
 | [], _, _, _ => Nat.zero_le _
 | a :: A, B, hn, hs => by
   rw [List.nodup_cons] at hn
   have hm := hs a (by simp)
   have h2 : ∀ x ∈ A, x ∈ B.erase a := fun x hx => by
    rw [List.mem_erase_of_ne (fun e : x = a => hn.1 (by rw [← e]; exact hx))]
    exact hs x (by simp [hx])
   have := nodup_le A (B.erase a) hn.2 h2
   rw [List.length_erase_of_mem hm] at this
   have hpos : 0 < B.length := List.length_pos_of_mem hm
   rw [List.length_cons]
   omega
theorem goodD_few {d : DescS} (h : goodD d = true) : d.bundle.length ≤ 8 := by
 obtain ⟨_, _, h3, _, _, h6, h7⟩ := goodD_parts h
 have := nodup_le (d.bundle.map tx) (d.media.map midT) h7 (fun a ha => by
  obtain ⟨b, hb, rfl⟩ := List.mem_map.1 ha
  obtain ⟨m, hm, e⟩ := h6 b hb
  exact List.mem_map.2 ⟨m, hm, e⟩)
 rw [List.length_map, List.length_map] at this
 omega
structure DRdr where
 orig : Tx → Nat × Nat
 sp : Tx → List ByteArray
structure DRdr.Law (R : DRdr) : Prop where
 orig : ∀ a b, a < 18446744073709551616 → b < 18446744073709551616 → R.orig (originT a b) = (a, b)
 sp : ∀ B : List ByteArray, (∀ b ∈ B, ∀ c ∈ tx b, c ≠ 32) → R.sp (groupT B) = B
def rda (R : DRdr) (d : DescS) (a : AttrS) : DescS :=
 if tx a.name = nGroup then { d with bundle := R.sp (tx a.value) }
 else if tx a.name = nUfrag then { d with name := a.value }
 else if tx a.name = nPwd then { d with pass := a.value }
 else d
def startD (R : DRdr) (o : Tx) : DescS := { DescS.zero with id := (R.orig o).1, ver := (R.orig o).2 }
def readD (R : DRdr) (x : SesS) : DescS := (x.attrs.filter knownD).foldl (rda R) (startD R (tx x.origin))
section
variable {R : DRdr}
theorem rda_group (d : DescS) (v : ByteArray) : rda R d ⟨bs nGroup, v⟩ = { d with bundle := R.sp (tx v) } := by
 unfold rda
 simp only [tx_bs]
 rw [if_pos trivial]
theorem rda_ufrag (d : DescS) (v : ByteArray) : rda R d ⟨bs nUfrag, v⟩ = { d with name := v } := by
 unfold rda
 simp only [tx_bs]
 rw [if_neg (by decide), if_pos trivial]
theorem rda_pwd (d : DescS) (v : ByteArray) : rda R d ⟨bs nPwd, v⟩ = { d with pass := v } := by
 unfold rda
 simp only [tx_bs]
 rw [if_neg (by decide), if_neg (by decide), if_pos trivial]
theorem readD_head (hR : R.Law) {d : DescS} (h1 : d.id < 18446744073709551616) (h2 : d.ver < 18446744073709551616) (hb : ∀ b ∈ d.bundle, ∀ c ∈ tx b, c ≠ 32) : (headA d).foldl (rda R) (startD R (originT d.id d.ver)) = { d with media := [] } := by
 unfold headA startD
 rw [hR.orig _ _ h1 h2, List.foldl_append]
 cases hB : d.bundle with
 | nil =>
   simp only [List.isEmpty_nil, if_true, List.foldl_nil, List.foldl_cons]
   rw [rda_ufrag, rda_pwd, ← hB]
   exact DescS.ext' rfl rfl hB.symm rfl rfl rfl
 | cons b B =>
   rw [← hB]
   have : d.bundle.isEmpty = false := by rw [hB]; rfl
   simp only [this, Bool.false_eq_true, if_false, List.foldl_nil, List.foldl_cons]
   rw [rda_group, rda_ufrag, rda_pwd, tx_bs, hR.sp _ hb]
   rfl
theorem IsD.read (hR : R.Law) {x : SesS} {d : DescS} (h : IsD x d) (ht : TypedD d) : readD R x = { d with media := [] } := by
 unfold readD
 rw [h.attrs, h.origin]
 exact readD_head hR ht.1 ht.2.1 fun b hb => word_32 (goodD_bundle h.good b hb)
end
theorem IsD.one {R : DRdr} (hR : R.Law) {Q : Rdr} (hQ : Q.Law) {x : SesS} {d e : DescS} (h : IsD x d) (h' : IsD x e) (hd : TypedD d) (he : TypedD e) : d = e := by
 have e1 := (h.read hR hd).symm.trans (h'.read hR he)
 have e2 : d.media = e.media := by
  apply List.ext_getElem?
  intro i
  by_cases hi : i < x.parts.length
  · have h1 : i < d.media.length := by rw [← h.len]; exact hi
    have h2 : i < e.media.length := by rw [← h'.len]; exact hi
    have q1 := h.parts i _ _ (List.getElem?_eq_getElem hi) (List.getElem?_eq_getElem h1)
    have q2 := h'.parts i _ _ (List.getElem?_eq_getElem hi) (List.getElem?_eq_getElem h2)
    rw [List.getElem?_eq_getElem h1, List.getElem?_eq_getElem h2, ← IsM.read hQ q1 (hd.2.2 _ (List.getElem_mem _)), ← IsM.read hQ q2 (he.2.2 _ (List.getElem_mem _))]
  · rw [List.getElem?_eq_none (by rw [← h.len]; omega), List.getElem?_eq_none (by rw [← h'.len]; omega)]
 injection e1 with a1 a2 a3 a4 a5
 exact DescS.ext' a1 a2 a3 a4 a5 e2
end Go.Proofs.YthpfeihmfmahmaaGreat
namespace Go.Proofs.YthpfeihmfmahmaaGreat
open Go.RowKit
set_option linter.unusedVariables false
set_option linter.unusedSimpArgs false
theorem Tryz.sizeDesc : (Tryz.prog.info? 26).map (·.size) = some 6 := by kernel_rfl
def RM (w : World) (B : Nat) (f : Nat → Option Value) (m : MediaS) : Prop := ∃ M vC vE vR vS vY, MediaV w B M m vC vE vR vS vY ∧ ∀ j, j < 11 → f j = M[j]?
def MediasV (w : World) (B : Nat) (v : Value) (L : List MediaS) : Prop := Rows w B 11 (RM w B) v L
section
variable {w w' : World} {B B' : Nat} {v : Value} {L : List MediaS}
theorem RM.below {f : Nat → Option Value} {m : MediaS} (h : RM w B f m) (hb : Below B w w') : RM w' B f m := by
 obtain ⟨M, vC, vE, vR, vS, vY, h1, h2⟩ := h
 exact ⟨M, vC, vE, vR, vS, vY, h1.below hb, h2⟩
theorem RM.more {f : Nat → Option Value} {m : MediaS} (h : RM w B f m) (hB : B ≤ B') : RM w B' f m := by
 obtain ⟨M, vC, vE, vR, vS, vY, h1, h2⟩ := h
 exact ⟨M, vC, vE, vR, vS, vY, h1.more hB, h2⟩
theorem MediasV.below (h : MediasV w B v L) (hb : Below B w w') : MediasV w' B v L := Rows.below h hb fun _ _ _ h => h.below hb
theorem MediasV.more (h : MediasV w B v L) (hB : B ≤ B') : MediasV w B' v L := Rows.more (Rows.mono h fun _ _ _ h => h.more hB) hB
theorem MediasV.nil (w : World) (B : Nat) : MediasV w B (.slice none 0 0) [] := Rows.nil _ _ _ _
theorem MediasV.at_ (h : MediasV w B v L) {i : Nat} (hi : i < L.length) : ∃ ad c M vC vE vR vS vY, v = .slice (some ad) L.length c ∧ ad.block < B ∧ MediaV w B M (L.getD i default) vC vE vR vS vY ∧
 ∀ j u, M.toList[j]? = some u → w.cell? ((ad.add (i * 11)).add j) = some u := by
 obtain ⟨ad, c, h1, h2, _, _, M, vC, vE, vR, vS, vY, h3, h4⟩ := Rows.at_ h (List.getElem?_eq_getElem hi)
 have e : L.getD i default = L[i] := by simp [List.getD, hi]
 rw [e]
 refine ⟨ad, c, M, vC, vE, vR, vS, vY, h1, h2, h3, fun j u hu => ?_⟩
 rw [Array.getElem?_toList] at hu
 have hj : j < 11 := by
  have := (Array.getElem?_eq_some_iff.1 hu).1
  rwa [h3.size] at this
 rw [Go.Deep.add_add]
 exact (h4 j hj).trans hu
end
theorem MediaV.one {w : World} {B : Nat} {M : Array Value} {m : MediaS} {vC vE vR vS vY : Value} (h : MediaV w B M m vC vE vR vS vY) : M.toList.all (·.oneCell') = true := by
 obtain ⟨A1, c1, rfl, -⟩ := Rows.form h.codecs
 obtain ⟨A2, c2, rfl, -⟩ := Rows.form h.exts
 obtain ⟨A3, c3, rfl, -⟩ := Rows.form h.rids
 obtain ⟨A4, c4, rfl, -⟩ := Rows.form h.sources
 obtain ⟨A5, c5, rfl, -⟩ := Rows.form h.crypto
 rw [h.form]
 rfl
structure DescV (w : World) (B : Nat) (D : Array Value) (d : DescS) (vB vM : Value) : Prop where
 form : D = #[.int .u64 d.id, .int .u64 d.ver, vB, .string d.name, .string d.pass, vM]
 bundle : TextsV w B vB d.bundle
 media : MediasV w B vM d.media
section
variable {w w' : World} {B B' : Nat} {D : Array Value} {d : DescS} {vB vM : Value}
theorem DescV.below (h : DescV w B D d vB vM) (hb : Below B w w') : DescV w' B D d vB vM := ⟨h.form, h.bundle.below hb, h.media.below hb⟩
theorem DescV.more (h : DescV w B D d vB vM) (hB : B ≤ B') : DescV w B' D d vB vM := ⟨h.form, h.bundle.more hB, h.media.more hB⟩
theorem DescV.under (h : DescV w w.heap.size D d vB vM) (hb : Below w.heap.size w w') : DescV w' w'.heap.size D d vB vM := (h.below hb).more hb.size
end
structure SizD (d : DescS) : Prop where
 name : d.name.size ≤ 140737488355328
 pass : d.pass.size ≤ 140737488355328
 words : ∀ b ∈ d.bundle, b.size ≤ 140737488355328
 count : d.bundle.length ≤ 8796093021952
 few : d.media.length ≤ 799644820177
 media : ∀ m ∈ d.media, SizM m
 ids : d.id < 18446744073709551616 ∧ d.ver < 18446744073709551616
theorem SizD.typed {d : DescS} (h : SizD d) : TypedD d := ⟨h.ids.1, h.ids.2, fun m hm => (h.media m hm).typed⟩
theorem sameBool {α : Type} (x y : α) : ∃ b : Bool, b = true ↔ x = y := by classical exact ⟨decide (x = y), by simp⟩
theorem SameB.fix {α : Type} {w w' : World} {x y : α} {e : Ending} {b0 : Bool} (h0 : b0 = true ↔ x = y) (h : SameB w x y e w') : e = .returned (.bool b0) ∧ Below w.heap.size w w' := by
 obtain ⟨b, rfl, hb, hw⟩ := h
 have : b = b0 := by rw [Bool.eq_iff_iff, hb, h0]
 exact ⟨by rw [this], hw⟩
theorem MediaS.ext' {a b : MediaS} (h1 : a.kind = b.kind) (h2 : a.port = b.port) (h3 : a.mid = b.mid) (h4 : a.dir = b.dir) (h5 : a.codecs = b.codecs) (h6 : a.exts = b.exts) (h7 : a.rids = b.rids) (h8 : a.sending = b.sending) (h9 : a.sources = b.sources) (h10 : a.crypto = b.crypto) (h11 : a.sctp = b.sctp) : a = b := by
 cases a; cases b; simp_all
theorem CodecS.ext' {a b : CodecS} (h1 : a.type = b.type) (h2 : a.name = b.name) (h3 : a.clock = b.clock) (h4 : a.chans = b.chans) (h5 : a.format = b.format) (h6 : a.feedback = b.feedback) : a = b := by
 cases a; cases b; simp_all
structure CodecV (w : World) (B : Nat) (C : Array Value) (c : CodecS) (vf : Value) : Prop where
 form : C = #[.int .i64 c.type, .string c.name, .int .i64 c.clock, .int .i64 c.chans, .string c.format, vf]
 feeds : TextsV w B vf c.feedback
theorem CodecV.below {w w' : World} {B : Nat} {C : Array Value} {c : CodecS} {vf : Value} (h : CodecV w B C c vf) (hb : Below B w w') : CodecV w' B C c vf := ⟨h.form, h.feeds.below hb⟩
theorem CodecV.more {w : World} {B B' : Nat} {C : Array Value} {c : CodecS} {vf : Value} (h : CodecV w B C c vf) (hB : B ≤ B') : CodecV w B' C c vf := ⟨h.form, h.feeds.more hB⟩
theorem CodecV.under {w w' : World} {C : Array Value} {c : CodecS} {vf : Value} (h : CodecV w w.heap.size C c vf) (hb : Below w.heap.size w w') : CodecV w' w'.heap.size C c vf := (h.below hb).more hb.size
theorem CodecV.size {w : World} {B : Nat} {C : Array Value} {c : CodecS} {vf : Value} (h : CodecV w B C c vf) : C.size = 6 := by rw [h.form]; rfl
theorem CodecV.one {w : World} {B : Nat} {C : Array Value} {c : CodecS} {vf : Value} (h : CodecV w B C c vf) : C.toList.all (·.oneCell') = true := by
 obtain ⟨A1, c1, rfl, -⟩ := Rows.form h.feeds
 rw [h.form]
 rfl
theorem CodecsV.cells {w : World} {B : Nat} {v : Value} {L : List CodecS} (h : CodecsV w B v L) {i : Nat} (hi : i < L.length) : ∃ ad c C vf, v = .slice (some ad) L.length c ∧ ad.block < B ∧ CodecV w B C (L.getD i default) vf ∧
 ∀ j u, C.toList[j]? = some u → w.cell? ((ad.add (i * 6)).add j) = some u := by
 obtain ⟨ad, c, h1, h2, _, _, q0, q1, q2, q3, q4, vf, q5, q6⟩ := Rows.at_ h (List.getElem?_eq_getElem hi)
 have e : L.getD i default = L[i] := by simp [List.getD, hi]
 rw [e]
 refine ⟨ad, c, _, vf, h1, h2, ⟨rfl, q6⟩, fun j u hu => ?_⟩
 rw [Go.Deep.add_add]
 match j, hu with
 | 0, hu => simp at hu; subst hu; exact q0
 | 1, hu => simp at hu; subst hu; exact q1
 | 2, hu => simp at hu; subst hu; exact q2
 | 3, hu => simp at hu; subst hu; exact q3
 | 4, hu => simp at hu; subst hu; exact q4
 | 5, hu => simp at hu; subst hu; exact q5
 | j + 6, hu => simp at hu
theorem two_boxes (w : World) (t : TypeId) (X Y : Array Value) : Below w.heap.size w ((w.alloc (.cells X t)).alloc (.cells Y t)) ∧ Whole ((w.alloc (.cells X t)).alloc (.cells Y t)) w.heap.size t X ∧ Whole ((w.alloc (.cells X t)).alloc (.cells Y t)) (w.heap.size + 1) t Y :=
 ⟨two_new _ _ _ _, (Whole.new w _ _).alloc _, Whole.new2 _ _ _ _⟩
end Go.Proofs.YthpfeihmfmahmaaGreat
namespace Go.Proofs.YthpfeihmfmahmaaGreat
set_option linter.unusedVariables false
set_option linter.unusedSimpArgs false
def inT (L : List ByteArray) (s : ByteArray) : Bool := (L.map tx).contains (tx s)
def tookT (m : MediaS) : Bool := !decide (m.port = 0)
def takenMids (M : List MediaS) : List ByteArray := (M.filter tookT).map MediaS.mid
def sameC4 (x c : CodecS) : Bool := decide (tx x.name = tx c.name) && decide (x.clock = c.clock) && decide (x.chans = c.chans) && decide (tx x.format = tx c.format) && c.feedback.all (inT x.feedback)
def codecs4 : List CodecS → List CodecS → Bool
 | _, [] => true
 | o, c :: r => match o.dropWhile (fun x => !decide (x.type = c.type)) with
   | [] => false
   | x :: o' => sameC4 x c && codecs4 o' r
def exts5 (o a : MediaS) : Bool := a.exts.all fun x => o.exts.any fun y => decide (y.id = x.id) && decide (tx y.uri = tx x.uri)
def dir6 (o a : MediaS) : Bool := decide (a.dir % 2 ≤ o.dir / 2) && decide (a.dir / 2 ≤ o.dir % 2)
def rids7 (o a : MediaS) : Bool := a.rids.all (inT o.rids) && (a.rids.isEmpty || (a.sending != o.sending))
def crypto8 (o a : MediaS) : Bool := if a.kind = 3 then !decide (a.sctp = 0) else decide (a.crypto.length = o.crypto.length) && (match a.crypto, o.crypto with
 | x :: _, y :: _ => decide (x.tag = y.tag)
 | _, _ => true)
def holdsR (rule : Nat) (o a : MediaS) : Bool :=
 if rule = 2 then decide (o.kind = a.kind) && decide (tx o.mid = tx a.mid)
 else if a.port = 0 then true
 else if rule = 3 then !decide (o.port = 0)
 else if rule = 4 then codecs4 o.codecs a.codecs
 else if rule = 5 then exts5 o a
 else if rule = 6 then dir6 o a
 else if rule = 7 then rids7 o a
 else crypto8 o a
def ruleAll (rule : Nat) (O A : List MediaS) : Bool := (O.zip A).all fun p => holdsR rule p.1 p.2
def bundle9 (o a : DescS) : Bool := (takenMids a.media).all (inT o.bundle) && decide ((takenMids a.media).map tx = a.bundle.map tx)
def rulesFrom (o a : DescS) : List Nat → Nat
 | [] => if bundle9 o a = true then (if o.ver = a.ver then 0 else 10) else 9
 | r :: rs => if ruleAll r o.media a.media = true then rulesFrom o a rs else r
def checkA (o a : DescS) : Nat := if (goodD o && goodD a && decide (o.media.length = a.media.length)) = true then rulesFrom o a [2, 3, 4, 5, 6, 7, 8] else 1
theorem goodM_types {m : MediaS} (h : goodM m = true) : (m.codecs.map CodecS.type).Nodup := by
 unfold goodM goodStreams goodChannel unlike at h
 simp only [Bool.and_eq_true, Bool.or_eq_true, decide_eq_true_eq] at h
 rcases h.2 with h2 | h2
 · exact h2.2.1.1.1.1.1.1.2.2
 · have : m.codecs = [] := List.eq_nil_of_length_eq_zero (by have := h2.2.1.1.1; omega)
   rw [this]
   exact List.nodup_nil
def alike5 (o c : CodecS) : Bool := decide (o.type = c.type) && decide (tx o.name = tx c.name) && decide (o.clock = c.clock) && decide (o.chans = c.chans) && decide (tx o.format = tx c.format)
def codecsJ : List CodecS → List CodecS → Bool
 | _, [] => true
 | o, c :: r => match o.dropWhile (fun x => !alike5 x c) with
   | [] => false
   | x :: o' => c.feedback.all (inT x.feedback) && codecsJ o' r
theorem dropWhile_none {α : Type} {p : α → Bool} : ∀ {L : List α}, (∀ x ∈ L, p x = true) → L.dropWhile p = []
 | [], _ => rfl
 | a :: L, h => by
   rw [List.dropWhile_cons, if_pos (h a (by simp))]
   exact dropWhile_none fun x hx => h x (by simp [hx])
theorem dropWhile_all {α : Type} {p : α → Bool} : ∀ {L : List α}, L.dropWhile p = [] → ∀ x ∈ L, p x = true
 | [], _, x, hx => by cases hx
 | a :: L, h, x, hx => by
   rw [List.dropWhile_cons] at h
   by_cases hp : p a = true
   · rw [if_pos hp] at h
     rcases List.mem_cons.1 hx with rfl | hx
     · exact hp
     · exact dropWhile_all h x hx
   · rw [if_neg hp] at h
     cases h
theorem dropWhile_split {α : Type} {p : α → Bool} : ∀ {L : List α} {x : α} {r : List α}, L.dropWhile p = x :: r → ∃ l, L = l ++ x :: r ∧ (∀ y ∈ l, p y = true) ∧ p x = false
 | [], x, r, h => by cases h
 | a :: L, x, r, h => by
   rw [List.dropWhile_cons] at h
   by_cases hp : p a = true
   · rw [if_pos hp] at h
     obtain ⟨l, rfl, h2, h3⟩ := dropWhile_split h
     exact ⟨a :: l, rfl, fun y hy => by
      rcases List.mem_cons.1 hy with rfl | hy
      · exact hp
      · exact h2 y hy, h3⟩
   · rw [if_neg hp] at h
     injection h with h1 h2
     subst h1 h2
     exact ⟨[], rfl, (fun y hy => by cases hy), by simpa using hp⟩
theorem dropWhile_app {α : Type} {p : α → Bool} {x : α} {r : List α} (hx : p x = false) : ∀ {l : List α}, (∀ y ∈ l, p y = true) → (l ++ x :: r).dropWhile p = x :: r
 | [], _ => by rw [List.nil_append, List.dropWhile_cons, hx]; rfl
 | a :: l, h => by
   rw [List.cons_append, List.dropWhile_cons, if_pos (h a (by simp))]
   exact dropWhile_app hx fun y hy => h y (by simp [hy])
theorem codecsJ_eq : ∀ (a o : List CodecS), (o.map CodecS.type).Nodup → codecsJ o a = codecs4 o a
 | [], o, _ => by cases o <;> rfl
 | c :: r, o, hn => by
   unfold codecsJ codecs4
   cases hd : o.dropWhile (fun x => !decide (x.type = c.type)) with
   | nil =>
     have h1 : ∀ x ∈ o, (fun x => !alike5 x c) x = true := fun x hx => by
      have h2 : ¬ x.type = c.type := by
       have := dropWhile_all hd x hx
       simpa using this
      show (!alike5 x c) = true
      unfold alike5
      simp [h2]
     rw [dropWhile_none h1]
   | cons x o' =>
     obtain ⟨l, rfl, h1, h2⟩ := dropWhile_split hd
     have hxt : x.type = c.type := by simpa using h2
     have hl : ∀ y ∈ l, (fun x => !alike5 x c) y = true := fun y hy => by
      have := h1 y hy
      have h3 : ¬ y.type = c.type := by simpa using this
      show (!alike5 y c) = true
      unfold alike5
      simp [h3]
     rw [List.map_append, List.map_cons, List.nodup_append, List.nodup_cons] at hn
     cases ha : alike5 x c with
     | true =>
       have e : (l ++ x :: o').dropWhile (fun x => !alike5 x c) = x :: o' := dropWhile_app (by simp [ha]) hl
       rw [e]
       have hs : sameC4 x c = c.feedback.all (inT x.feedback) := by
        unfold alike5 at ha
        unfold sameC4
        simp only [Bool.and_eq_true, decide_eq_true_eq] at ha
        obtain ⟨⟨⟨⟨a1, a2⟩, a3⟩, a4⟩, a5⟩ := ha
        simp [a2, a3, a4, a5]
       simp only [hs, codecsJ_eq r o' hn.2.1.2]
     | false =>
       have ho : ∀ y ∈ o', (fun x => !alike5 x c) y = true := fun y hy => by
        have h3 : ¬ y.type = c.type := fun e => hn.2.1.1 (List.mem_map.2 ⟨y, hy, by rw [e, hxt]⟩)
        show (!alike5 y c) = true
        unfold alike5
        simp [h3]
       have e : (l ++ x :: o').dropWhile (fun x => !alike5 x c) = [] := dropWhile_none fun y hy => by
        rcases List.mem_append.1 hy with hy | hy
        · exact hl y hy
        · rcases List.mem_cons.1 hy with rfl | hy
          · simp [ha]
          · exact ho y hy
       rw [e]
       have hs : sameC4 x c = false := by
        rw [Bool.eq_false_iff]
        intro h
        unfold sameC4 at h
        simp only [Bool.and_eq_true, decide_eq_true_eq] at h
        obtain ⟨⟨⟨⟨a2, a3⟩, a4⟩, a5⟩, _⟩ := h
        unfold alike5 at ha
        simp [hxt, a2, a3, a4, a5] at ha
       simp [hs]
def hasW (d way : Int) : Bool := if way = 1 then decide (d % 2 = 1) else decide (2 ≤ d)
def dirJ (o a : MediaS) : Bool := (!hasW a.dir 1 || hasW o.dir 2) && (!hasW a.dir 2 || hasW o.dir 1)
theorem dirJ_eq {o a : MediaS} (h1 : 0 ≤ o.dir) (h2 : o.dir ≤ 3) (h3 : 0 ≤ a.dir) (h4 : a.dir ≤ 3) : dirJ o a = dir6 o a := by
 unfold dirJ dir6 hasW
 generalize o.dir = x at *
 generalize a.dir = y at *
 have hx : x = 0 ∨ x = 1 ∨ x = 2 ∨ x = 3 := by omega
 have hy : y = 0 ∨ y = 1 ∨ y = 2 ∨ y = 3 := by omega
 rcases hx with rfl | rfl | rfl | rfl <;> rcases hy with rfl | rfl | rfl | rfl <;> rfl
def ridsJ (o a : MediaS) : Bool := a.rids.isEmpty || (a.rids.all (inT o.rids) && (a.sending != o.sending))
theorem ridsJ_eq (o a : MediaS) : ridsJ o a = rids7 o a := by
 unfold ridsJ rids7
 cases a.rids with
 | nil => rfl
 | cons x r => simp
def pairsA {α : Type} (q : α → α → Bool) (L M : List α) : Bool := decide (L.length = M.length) && (L.zip M).all fun p => q p.1 p.2
def tagQ (x y : CryptoS) : Bool := decide (x.tag = y.tag)
def transJ (o a : MediaS) : Bool := if a.kind = 3 then !decide (a.sctp = 0) else pairsA tagQ o.crypto a.crypto
theorem goodM_one {m : MediaS} (h : goodM m = true) : m.crypto.length ≤ 1 := by
 unfold goodM goodStreams goodChannel at h
 simp only [Bool.and_eq_true, Bool.or_eq_true, decide_eq_true_eq] at h
 rcases h.2 with h2 | h2
 · exact h2.2.1.2.1
 · have := h2.2.1.1.1; omega
theorem goodM_dir {m : MediaS} (h : goodM m = true) : 0 ≤ m.dir ∧ m.dir ≤ 3 := by
 unfold goodM goodHead at h
 simp only [Bool.and_eq_true, decide_eq_true_eq] at h
 exact ⟨h.1.1.2, h.1.2⟩
theorem transJ_eq {o a : MediaS} (h1 : goodM o = true) (h2 : goodM a = true) : transJ o a = crypto8 o a := by
 have e1 := goodM_one h1
 have e2 := goodM_one h2
 unfold transJ crypto8 pairsA tagQ
 split
 · rfl
 · match ho : o.crypto, ha : a.crypto with
   | [], [] => rfl
   | [], y :: r => simp
   | x :: r, [] => simp
   | [x], [y] =>
     simp [eq_comm]
   | x :: x2 :: r, _ => rw [ho] at e1; simp at e1
   | [x], y :: y2 :: r => rw [ha] at e2; simp at e2
def takenJ (q : MediaS → MediaS → Bool) (o a : MediaS) : Bool := decide (a.port = 0) || q o a
def placeQ (o a : MediaS) : Bool := decide (o.kind = a.kind) && decide (tx o.mid = tx a.mid)
def openQ (o _a : MediaS) : Bool := !decide (o.port = 0)
def codecsQ (o a : MediaS) : Bool := codecsJ o.codecs a.codecs
def ruleJ (o a : DescS) : Nat → Bool
 | 0 => goodD o && goodD a && decide (o.media.length = a.media.length)
 | 1 => pairsA placeQ o.media a.media
 | 2 => pairsA (takenJ openQ) o.media a.media
 | 3 => pairsA (takenJ codecsQ) o.media a.media
 | 4 => pairsA (takenJ exts5) o.media a.media
 | 5 => pairsA (takenJ dirJ) o.media a.media
 | 6 => pairsA (takenJ ridsJ) o.media a.media
 | 7 => pairsA (takenJ transJ) o.media a.media
 | 8 => bundle9 o a
 | _ => decide (o.ver = a.ver)
theorem pairs_rule {q : MediaS → MediaS → Bool} {O A : List MediaS} {r : Nat} (hl : O.length = A.length) (h : ∀ x ∈ O, ∀ y ∈ A, q x y = holdsR r x y) : pairsA q O A = ruleAll r O A := by
 unfold pairsA ruleAll
 rw [hl]
 simp only [decide_true, Bool.true_and]
 rw [Bool.eq_iff_iff, List.all_eq_true, List.all_eq_true]
 constructor
 · intro h1 p hp
   rw [← h p.1 (List.of_mem_zip hp).1 p.2 (List.of_mem_zip hp).2]
   exact h1 p hp
 · intro h1 p hp
   rw [h p.1 (List.of_mem_zip hp).1 p.2 (List.of_mem_zip hp).2]
   exact h1 p hp
theorem taken_rule {q : MediaS → MediaS → Bool} {o a : MediaS} {r : Nat} (hr : r ≠ 2) (h : a.port ≠ 0 → q o a = holdsR r o a) : takenJ q o a = holdsR r o a := by
 unfold takenJ
 by_cases hp : a.port = 0
 · unfold holdsR
   rw [if_neg hr, if_pos hp]
   simp [hp]
 · rw [h hp]
   simp [hp]
theorem holdsR_at {o a : MediaS} (hp : a.port ≠ 0) : holdsR 3 o a = openQ o a ∧ holdsR 4 o a = codecs4 o.codecs a.codecs ∧ holdsR 5 o a = exts5 o a ∧ holdsR 6 o a = dir6 o a ∧ holdsR 7 o a = rids7 o a ∧ holdsR 8 o a = crypto8 o a := by
 unfold holdsR openQ
 simp [hp]
theorem ruleJ_eq {o a : DescS} (h : ruleJ o a 0 = true) (r : Nat) (h2 : 2 ≤ r) (h8 : r ≤ 8) : ruleJ o a (r - 1) = ruleAll r o.media a.media := by
 unfold ruleJ at h
 simp only [Bool.and_eq_true, decide_eq_true_eq] at h
 obtain ⟨⟨ho, ha⟩, hl⟩ := h
 have gO := (goodD_parts ho).2.2.2.1
 have gA := (goodD_parts ha).2.2.2.1
 have hr : r = 2 ∨ r = 3 ∨ r = 4 ∨ r = 5 ∨ r = 6 ∨ r = 7 ∨ r = 8 := by omega
 rcases hr with rfl | rfl | rfl | rfl | rfl | rfl | rfl
 · exact pairs_rule hl fun x hx y hy => by unfold placeQ holdsR; rw [if_pos rfl]
 · exact pairs_rule hl fun x hx y hy => taken_rule (by decide) fun hp => (holdsR_at hp).1.symm
 · exact pairs_rule hl fun x hx y hy => taken_rule (by decide) fun hp => by rw [(holdsR_at hp).2.1]; exact codecsJ_eq _ _ (goodM_types (gO x hx))
 · exact pairs_rule hl fun x hx y hy => taken_rule (by decide) fun hp => (holdsR_at hp).2.2.1.symm
 · exact pairs_rule hl fun x hx y hy => taken_rule (by decide) fun hp => by rw [(holdsR_at hp).2.2.2.1]; exact dirJ_eq (goodM_dir (gO x hx)).1 (goodM_dir (gO x hx)).2 (goodM_dir (gA y hy)).1 (goodM_dir (gA y hy)).2
 · exact pairs_rule hl fun x hx y hy => taken_rule (by decide) fun hp => by rw [(holdsR_at hp).2.2.2.2.1]; exact ridsJ_eq _ _
 · exact pairs_rule hl fun x hx y hy => taken_rule (by decide) fun hp => by rw [(holdsR_at hp).2.2.2.2.2]; exact transJ_eq (gO x hx) (gA y hy)
theorem checkA_first {o a : DescS} {k : Nat} (hk : k < 10) (h : ∀ j, j < k → ruleJ o a j = true) (hf : ruleJ o a k = false) : checkA o a = k + 1 := by
 unfold checkA
 by_cases h0 : k = 0
 · subst h0
   have e : (goodD o && goodD a && decide (o.media.length = a.media.length)) = false := hf
   rw [e]
   rfl
 · have e0 := h 0 (by omega)
   have e : (goodD o && goodD a && decide (o.media.length = a.media.length)) = true := e0
   rw [if_pos e]
   have hr := fun r h2 h8 => ruleJ_eq e0 r h2 h8
   have hk9 : k = 1 ∨ k = 2 ∨ k = 3 ∨ k = 4 ∨ k = 5 ∨ k = 6 ∨ k = 7 ∨ k = 8 ∨ k = 9 := by omega
   have q1 := hr 2 (by omega) (by omega)
   have q2 := hr 3 (by omega) (by omega)
   have q3 := hr 4 (by omega) (by omega)
   have q4 := hr 5 (by omega) (by omega)
   have q5 := hr 6 (by omega) (by omega)
   have q6 := hr 7 (by omega) (by omega)
   have q7 := hr 8 (by omega) (by omega)
   simp only [Nat.reduceSub] at q1 q2 q3 q4 q5 q6 q7
   simp only [rulesFrom, ← q1, ← q2, ← q3, ← q4, ← q5, ← q6, ← q7]
   have p := fun j => h j
   have b9 : ruleJ o a 8 = bundle9 o a := rfl
   have b10 : ruleJ o a 9 = decide (o.ver = a.ver) := rfl
   rw [← b9]
   rcases hk9 with rfl | rfl | rfl | rfl | rfl | rfl | rfl | rfl | rfl <;> simp [p, hf]
   rw [b10] at hf
   simpa using hf
theorem checkA_none {o a : DescS} (h : ∀ j, j < 10 → ruleJ o a j = true) : checkA o a = 0 := by
 unfold checkA
 have e0 := h 0 (by omega)
 have e : (goodD o && goodD a && decide (o.media.length = a.media.length)) = true := e0
 rw [if_pos e]
 have hr := fun r h2 h8 => ruleJ_eq e0 r h2 h8
 have q1 := hr 2 (by omega) (by omega)
 have q2 := hr 3 (by omega) (by omega)
 have q3 := hr 4 (by omega) (by omega)
 have q4 := hr 5 (by omega) (by omega)
 have q5 := hr 6 (by omega) (by omega)
 have q6 := hr 7 (by omega) (by omega)
 have q7 := hr 8 (by omega) (by omega)
 simp only [Nat.reduceSub] at q1 q2 q3 q4 q5 q6 q7
 simp only [rulesFrom, ← q1, ← q2, ← q3, ← q4, ← q5, ← q6, ← q7]
 have b9 : ruleJ o a 8 = bundle9 o a := rfl
 have b10 : ruleJ o a 9 = decide (o.ver = a.ver) := rfl
 rw [← b9]
 have b11 := h 9 (by omega)
 rw [b10] at b11
 simp [h]
 simpa using b11
theorem pairs_yes {α : Type} [Inhabited α] {L M : List α} {n : Nat} {q : α → α → Bool} (hn : L.length = n) (hm : M.length = n) (h : ∀ j, j < n → q (L.getD j default) (M.getD j default) = true) : pairsA q L M = true := by
 unfold pairsA
 rw [hn, hm]
 simp only [decide_true, Bool.true_and, List.all_eq_true]
 intro p hp
 obtain ⟨j, hj, rfl⟩ := List.getElem_of_mem hp
 have hj' : j < n := by rw [List.length_zip, hn, hm] at hj; omega
 have := h j hj'
 rw [List.getElem_zip]
 simpa [List.getD, show j < L.length by omega, show j < M.length by omega] using this
theorem pairs_no {α : Type} [Inhabited α] {L M : List α} {n j : Nat} {q : α → α → Bool} (hn : L.length = n) (hm : M.length = n) (hj : j < n) (h : q (L.getD j default) (M.getD j default) = false) : pairsA q L M = false := by
 unfold pairsA
 rw [hn, hm]
 simp only [decide_true, Bool.true_and]
 rw [Bool.eq_false_iff]
 intro h1
 rw [List.all_eq_true] at h1
 have hl : j < (L.zip M).length := by rw [List.length_zip, hn, hm]; omega
 have := h1 _ (List.getElem_mem hl)
 rw [List.getElem_zip] at this
 simp [List.getD, show j < L.length by omega, show j < M.length by omega] at h
 rw [h] at this
 cases this
theorem pairs_len {α : Type} {L M : List α} {q : α → α → Bool} (h : L.length ≠ M.length) : pairsA q L M = false := by
 unfold pairsA
 simp [h]
end Go.Proofs.YthpfeihmfmahmaaGreat
namespace Go.Proofs.YthpfeihmfmahmaaGreat
open Go.RowKit
set_option linter.unusedVariables false
set_option linter.unusedSimpArgs false
section
variable {ops : Array Oper} {rest : List Oper} {o : Oper} {a : Act} {w : World} {Q : Exit → Act → World → Prop} {f : Nat} {cap : Array Value} {R : Ending → World → Prop}
theorem wpList_callV1 (hgd : o.guard = none) (x y1 : Operand) (ho : ∃ T, o.op = .call { callee := .value x, args := #[y1], argTypes := T })
 (hx : a.eval x = .func (.func f) #[] cap) {u1 : Value} (h1 : a.eval y1 = u1) (eg : ∀ args w, (callFunc f args).run Tryz.prog w = .ok (.enter f args) w)
 (hc : Calls Tryz.prog f (#[u1] ++ cap) w R) (hr : ∀ e w', R e w' → ∃ v, e = .returned v ∧ wpList Tryz.prog ops Q rest (a.put o.dst v) w') : wpList Tryz.prog ops Q (o :: rest) a w := by
 refine wpList_plain hgd fun K hK => ?_
 obtain ⟨T, ho⟩ := ho
 have hrun : (execOp a.eval o).run Tryz.prog w = .ok (.enter f (#[u1] ++ cap)) w := by
  simp [execOp, ho, resolve, invoke, hx, h1, Result.andThen, eg, Deferred.ofValue]
 unfold Oper.wp
 rw [hrun, Oper.upon_enter]
 refine hc.mono fun e w'' hh => ?_
 obtain ⟨v, rfl, hk⟩ := hr e w'' hh
 exact hK _ _ hk
theorem wpList_callV2G (hw : Region.wanted o (yielded ops a.tmps) = true) (x y1 y2 : Operand) (ho : ∃ T, o.op = .call { callee := .value x, args := #[y1, y2], argTypes := T })
 (hx : a.eval x = .func (.func f) #[] cap) {u1 u2 : Value} (h1 : a.eval y1 = u1) (h2 : a.eval y2 = u2) (eg : ∀ args w, (callFunc f args).run Tryz.prog w = .ok (.enter f args) w)
 (hc : Calls Tryz.prog f (#[u1, u2] ++ cap) w R) (hr : ∀ e w', R e w' → ∃ v, e = .returned v ∧ wpList Tryz.prog ops Q rest (a.put o.dst v) w') : wpList Tryz.prog ops Q (o :: rest) a w := by
 refine wpList_step fun K hK => ?_
 rw [if_pos hw]
 obtain ⟨T, ho⟩ := ho
 have hrun : (execOp a.eval o).run Tryz.prog w = .ok (.enter f (#[u1, u2] ++ cap)) w := by
  simp [execOp, ho, resolve, invoke, hx, h1, h2, Result.andThen, eg, Deferred.ofValue]
 unfold Oper.wp
 rw [hrun, Oper.upon_enter]
 refine hc.mono fun e w'' hh => ?_
 obtain ⟨v, rfl, hk⟩ := hr e w'' hh
 exact hK _ _ hk
theorem wpList_callV2 (hgd : o.guard = none) (x y1 y2 : Operand) (ho : ∃ T, o.op = .call { callee := .value x, args := #[y1, y2], argTypes := T })
 (hx : a.eval x = .func (.func f) #[] cap) {u1 u2 : Value} (h1 : a.eval y1 = u1) (h2 : a.eval y2 = u2) (eg : ∀ args w, (callFunc f args).run Tryz.prog w = .ok (.enter f args) w)
 (hc : Calls Tryz.prog f (#[u1, u2] ++ cap) w R) (hr : ∀ e w', R e w' → ∃ v, e = .returned v ∧ wpList Tryz.prog ops Q rest (a.put o.dst v) w') : wpList Tryz.prog ops Q (o :: rest) a w :=
 wpList_callV2G (by simp [Region.wanted, hgd]) x y1 y2 ho hx h1 h2 eg hc hr
end
set_option maxHeartbeats 1600000 in
set_option maxRecDepth 100000 in
theorem indexSF_any (A : Option Addr) (n c : Nat) (L : List ByteArray) (q : ByteArray → Bool) (f : Nat) (cap : Array Value) (w : World) (h : TextsV w w.heap.size (.slice A n c) L) (hn : L.length = n) (hl : n ≤ 4611686018427387904)
 (eg : ∀ args w, (callFunc f args).run Tryz.prog w = .ok (.enter f args) w) (hp : ∀ (W : World) (x : ByteArray), Below w.heap.size w W → x ∈ L → Calls Tryz.prog f (#[.string x] ++ cap) W fun e w' => e = .returned (.bool (q x)) ∧ Below W.heap.size W w') :
 Calls Tryz.prog 115 #[.slice A n c, .func (.func f) #[] cap] w fun e w' => ∃ r : Int, e = .returned (.int .i64 r) ∧ decide (0 ≤ r) = L.any q ∧ Below w.heap.size w w' := by
 have HA := Lib.hid h
 have HP := Lib.hid hp
 have HEG := Lib.hid eg
 have HE := Lib.hid hn
 clear h hn hp eg
 go_enter Tryz.func115, Tryz.ntmps115
 go_wp2
 go_loopw [8] (fun s8 wr => ∃ k : Nat, k ≤ n ∧ s8 = .int .i64 k ∧ (∀ j, j < k → q (L.getD j default) = false) ∧ Below w.heap.size w wr) (fun s8 _ => n - (intOf s8).toNat)
 case atStart => exact ⟨0, by omega, rfl, (fun j hj => by omega), Below.refl _ w⟩
 case round =>
  obtain ⟨k, hk, rfl, hno, hb⟩ := hrel
  have HNO := Lib.hid hno
  clear hno
  by_cases hlt : k < n
  · have hlt' : k < L.length := by rw [HE.out]; exact hlt
    obtain ⟨ad, c', e1, had, c0⟩ := (HA.out.below hb).at_ hlt'
    injection e1 with e1 e1n e1c
    clear e1n e1c
    subst e1
    obtain ⟨x, hx⟩ : ∃ x, L.getD k default = x := ⟨_, rfl⟩
    have HM : Hid (x ∈ L) := Lib.hid (by rw [← hx]; exact getD_mem hlt')
    rw [hx] at c0
    have HX := Lib.hid hx
    have HB := Lib.hid (And.intro hb hlt')
    obtain ⟨b, hbb⟩ : ∃ b, q x = b := ⟨_, rfl⟩
    have HS := Lib.hid (HP.out wr x hb HM.out)
    rw [hbb] at HS
    have HBT := Lib.hid hbb
    clear hbb hx hb hlt' had
    have hk0 : (0 : Int) ≤ (k : Int) := by omega
    have hk1 : (k : Int) < (n : Int) := by omega
    cases b with
    | true =>
      go_wp2_with ((with_reducible refine wpList_callV1 ?_ (.tmp 11) (.tmp 15) ?_ ?_ ?_ HEG.out HS.out ?_); (with_reducible rfl); (exact ⟨_, rfl⟩); rfl; rfl; rintro e w2 ⟨rfl, hb2⟩; refine ⟨_, rfl, ?_⟩)
      go_ret
      exact ⟨_, rfl, by rw [any_yes HB.out.2 (by rw [HX.out]; exact HBT.out)]; exact decide_eq_true hk0, HB.out.1.trans (hb2.mono HB.out.1.size)⟩
    | false =>
      go_wp2_with ((with_reducible refine wpList_callV1 ?_ (.tmp 11) (.tmp 15) ?_ ?_ ?_ HEG.out HS.out ?_); (with_reducible rfl); (exact ⟨_, rfl⟩); rfl; rfl; rintro e w2 ⟨rfl, hb2⟩; refine ⟨_, rfl, ?_⟩)
      go_roundw
      case rel =>
       refine ⟨k + 1, by omega, by go_num, fun j hj => ?_, HB.out.1.trans (hb2.mono HB.out.1.size)⟩
       by_cases e : j = k
       · subst e
         rw [HX.out]
         exact HBT.out
       · exact HNO.out j (by omega)
      case measure => simp [intOf]; omega
  · have e : k = n := by omega
    subst e
    have HN : Hid (L.any q = false) := Lib.hid (any_no HE.out HNO.out)
    have HB := Lib.hid hb
    clear hb
    go_wp2
    go_ret
    exact ⟨_, rfl, by rw [HN.out]; rfl, HB.out⟩
set_option maxHeartbeats 800000 in
theorem containsSF_any (A : Option Addr) (n c : Nat) (L : List ByteArray) (q : ByteArray → Bool) (f : Nat) (cap : Array Value) (w : World) (h : TextsV w w.heap.size (.slice A n c) L) (hn : L.length = n) (hl : n ≤ 4611686018427387904)
 (eg : ∀ args w, (callFunc f args).run Tryz.prog w = .ok (.enter f args) w) (hp : ∀ (W : World) (x : ByteArray), Below w.heap.size w W → x ∈ L → Calls Tryz.prog f (#[.string x] ++ cap) W fun e w' => e = .returned (.bool (q x)) ∧ Below W.heap.size W w') :
 Calls Tryz.prog 101 #[.slice A n c, .func (.func f) #[] cap] w fun e w' => e = .returned (.bool (L.any q)) ∧ Below w.heap.size w w' := by
 have HC := Lib.hid (indexSF_any A n c L q f cap w h hn hl eg hp)
 clear h hp
 generalize L.any q = r at *
 go_enter Tryz.func101, Tryz.ntmps101
 go_wp2_with (go_at_call 115; (with_reducible refine HC.out.mono ?_); rintro e w2 ⟨i, rfl, hi, hb2⟩)
 go_ret
 first | exact ⟨rfl, hb2⟩ | exact ⟨ret_bool hi, hb2⟩
set_option maxHeartbeats 1600000 in
set_option maxRecDepth 100000 in
theorem indexEF_any (A : Option Addr) (n c : Nat) (L : List ExtS) (q : ExtS → Bool) (f : Nat) (cap : Array Value) (w : World) (h : ExtsV w w.heap.size (.slice A n c) L) (hn : L.length = n) (hl : n ≤ 4611686018427387904)
 (eg : ∀ args w, (callFunc f args).run Tryz.prog w = .ok (.enter f args) w) (hp : ∀ (W : World) (x : ExtS), Below w.heap.size w W → x ∈ L → Calls Tryz.prog f (#[.agg #[.int .i64 x.id, .string x.uri]] ++ cap) W fun e w' => e = .returned (.bool (q x)) ∧ Below W.heap.size W w') :
 Calls Tryz.prog 116 #[.slice A n c, .func (.func f) #[] cap] w fun e w' => ∃ r : Int, e = .returned (.int .i64 r) ∧ decide (0 ≤ r) = L.any q ∧ Below w.heap.size w w' := by
 have HA := Lib.hid h
 have HP := Lib.hid hp
 have HEG := Lib.hid eg
 have HE := Lib.hid hn
 clear h hn hp eg
 go_enter Tryz.func116, Tryz.ntmps116
 go_wp2
 go_loopw [8] (fun s8 wr => ∃ k : Nat, k ≤ n ∧ s8 = .int .i64 k ∧ (∀ j, j < k → q (L.getD j default) = false) ∧ Below w.heap.size w wr) (fun s8 _ => n - (intOf s8).toNat)
 case atStart => exact ⟨0, by omega, rfl, (fun j hj => by omega), Below.refl _ w⟩
 case round =>
  obtain ⟨k, hk, rfl, hno, hb⟩ := hrel
  have HNO := Lib.hid hno
  clear hno
  by_cases hlt : k < n
  · have hlt' : k < L.length := by rw [HE.out]; exact hlt
    obtain ⟨ad, c', e1, had, c0, c1⟩ := (HA.out.below hb).at_ hlt'
    injection e1 with e1 e1n e1c
    clear e1n e1c
    subst e1
    obtain ⟨x, hx⟩ : ∃ x, L.getD k default = x := ⟨_, rfl⟩
    have HM : Hid (x ∈ L) := Lib.hid (by rw [← hx]; exact getD_mem hlt')
    rw [hx] at c0 c1
    have HX := Lib.hid hx
    have HB := Lib.hid (And.intro hb hlt')
    obtain ⟨b, hbb⟩ : ∃ b, q x = b := ⟨_, rfl⟩
    have HS := Lib.hid (HP.out wr x hb HM.out)
    rw [hbb] at HS
    have HBT := Lib.hid hbb
    clear hbb hx hb hlt' had
    have hk0 : (0 : Int) ≤ (k : Int) := by omega
    have hk1 : (k : Int) < (n : Int) := by omega
    cases b with
    | true =>
      go_wp2_with ((with_reducible refine wpList_callV1 ?_ (.tmp 11) (.tmp 15) ?_ ?_ ?_ HEG.out HS.out ?_); (with_reducible rfl); (exact ⟨_, rfl⟩); rfl; rfl; rintro e w2 ⟨rfl, hb2⟩; refine ⟨_, rfl, ?_⟩)
      go_ret
      exact ⟨_, rfl, by rw [any_yes HB.out.2 (by rw [HX.out]; exact HBT.out)]; exact decide_eq_true hk0, HB.out.1.trans (hb2.mono HB.out.1.size)⟩
    | false =>
      go_wp2_with ((with_reducible refine wpList_callV1 ?_ (.tmp 11) (.tmp 15) ?_ ?_ ?_ HEG.out HS.out ?_); (with_reducible rfl); (exact ⟨_, rfl⟩); rfl; rfl; rintro e w2 ⟨rfl, hb2⟩; refine ⟨_, rfl, ?_⟩)
      go_roundw
      case rel =>
       refine ⟨k + 1, by omega, by go_num, fun j hj => ?_, HB.out.1.trans (hb2.mono HB.out.1.size)⟩
       by_cases e : j = k
       · subst e
         rw [HX.out]
         exact HBT.out
       · exact HNO.out j (by omega)
      case measure => simp [intOf]; omega
  · have e : k = n := by omega
    subst e
    have HN : Hid (L.any q = false) := Lib.hid (any_no HE.out HNO.out)
    have HB := Lib.hid hb
    clear hb
    go_wp2
    go_ret
    exact ⟨_, rfl, by rw [HN.out]; rfl, HB.out⟩
set_option maxHeartbeats 800000 in
theorem containsEF_any (A : Option Addr) (n c : Nat) (L : List ExtS) (q : ExtS → Bool) (f : Nat) (cap : Array Value) (w : World) (h : ExtsV w w.heap.size (.slice A n c) L) (hn : L.length = n) (hl : n ≤ 4611686018427387904)
 (eg : ∀ args w, (callFunc f args).run Tryz.prog w = .ok (.enter f args) w) (hp : ∀ (W : World) (x : ExtS), Below w.heap.size w W → x ∈ L → Calls Tryz.prog f (#[.agg #[.int .i64 x.id, .string x.uri]] ++ cap) W fun e w' => e = .returned (.bool (q x)) ∧ Below W.heap.size W w') :
 Calls Tryz.prog 103 #[.slice A n c, .func (.func f) #[] cap] w fun e w' => e = .returned (.bool (L.any q)) ∧ Below w.heap.size w w' := by
 have HC := Lib.hid (indexEF_any A n c L q f cap w h hn hl eg hp)
 clear h hp
 generalize L.any q = r at *
 go_enter Tryz.func103, Tryz.ntmps103
 go_wp2_with (go_at_call 116; (with_reducible refine HC.out.mono ?_); rintro e w2 ⟨i, rfl, hi, hb2⟩)
 go_ret
 first | exact ⟨rfl, hb2⟩ | exact ⟨ret_bool hi, hb2⟩
set_option maxHeartbeats 3200000 in
set_option maxRecDepth 100000 in
theorem eqFMF_any (v1 v2 : Value) (L M : List MediaS) (f : Nat) (cap : Array Value) (q : MediaS → MediaS → Bool) (w : World) (h1 : MediasV w w.heap.size v1 L) (h2 : MediasV w w.heap.size v2 M) (eg : ∀ args w, (callFunc f args).run Tryz.prog w = .ok (.enter f args) w)
 (hp : ∀ (W : World) (X Y : Array Value) (x y : MediaS) (vC vE vR vS vY uC uE uR uS uY : Value), Below w.heap.size w W → x ∈ L → y ∈ M → MediaV W W.heap.size X x vC vE vR vS vY → MediaV W W.heap.size Y y uC uE uR uS uY → Calls Tryz.prog f (#[.agg X, .agg Y] ++ cap) W fun e w' => e = .returned (.bool (q x y)) ∧ Below W.heap.size W w') : Calls Tryz.prog 74 #[v1, v2, .func (.func f) #[] cap] w fun e w' => e = .returned (.bool (pairsA q L M)) ∧ Below w.heap.size w w' := by
 obtain ⟨A1, c1, rfl, hc1, hm1, _⟩ := Rows.form h1
 obtain ⟨A2, c2, rfl, hc2, hm2, _⟩ := Rows.form h2
 have HEG := Lib.hid eg
 have HP := Lib.hid hp
 have H1 := Lib.hid h1
 have H2 := Lib.hid h2
 clear h1 h2 eg hp
 obtain ⟨n, hn⟩ : ∃ n, L.length = n := ⟨_, rfl⟩
 obtain ⟨m, hm⟩ : ∃ m, M.length = m := ⟨_, rfl⟩
 have HN := Lib.hid hn
 have HM := Lib.hid hm
 rw [hn] at hc1
 rw [hm] at hc2
 rw [hn, hm]
 unfold maxLen at hm1 hm2
 clear hn hm
 by_cases hnm : n = m
 · subst hnm
   have hz : ((n : Int) == (n : Int)) = true := by simp
   go_enter Tryz.func74, Tryz.ntmps74
   go_wp2
   go_loopw [17] (fun s17 wr => ∃ k : Nat, k ≤ n ∧ s17 = .int .i64 k ∧ (∀ j, j < k → q (L.getD j default) (M.getD j default) = true) ∧ Below w.heap.size w wr) (fun s17 _ => n - (intOf s17).toNat)
   case atStart => exact ⟨0, Nat.zero_le _, rfl, (fun j hj => by omega), Below.refl _ w⟩
   case round =>
    obtain ⟨k, hk, rfl, hsame, hb⟩ := hrel
    have HS := Lib.hid (And.intro hsame hb)
    clear hsame
    by_cases hlt : k < n
    · obtain ⟨ad1, c1', X, vC, vE, vR, vS, vY, e1, b1, hx, xs⟩ := MediasV.at_ (H1.out.below hb) (i := k) (by rw [HN.out]; exact hlt)
      obtain ⟨ad2, c2', Y, uC, uE, uR, uS, uY, e2, b2, hy, ys⟩ := MediasV.at_ (H2.out.below hb) (i := k) (by rw [HM.out]; exact hlt)
      injection e1 with e1 e1n e1c; clear e1n e1c
      injection e2 with e2 e2n e2c; clear e2n e2c
      subst e1 e2
      have gL := getD_mem (L := L) (i := k) (by rw [HN.out]; exact hlt)
      have gM := getD_mem (L := M) (i := k) (by rw [HM.out]; exact hlt)
      obtain ⟨a, ha⟩ : ∃ a, L.getD k default = a := ⟨_, rfl⟩
      obtain ⟨b, hbb⟩ : ∃ b, M.getD k default = b := ⟨_, rfl⟩
      rw [ha] at hx gL
      rw [hbb] at hy gM
      have HG := Lib.hid (And.intro gL gM)
      have HAB := Lib.hid (And.intro ha hbb)
      have hk0 : (0 : Int) ≤ (k : Int) := by omega
      have hk1 : (k : Int) < (n : Int) := by omega
      have hwr := hb.size
      have HLD1 : Hid (∀ (ops : Array Oper) (rest : List Oper) (op : Oper) (act : Act) (Q : Exit → Act → World → Prop), op.guard = none → op.op = .load 44 (.tmp 20) → act.eval (.tmp 20) = .pointer (some (ad1.add (k * 11))) → wpList Tryz.prog ops Q rest (act.put op.dst (.agg X)) wr → wpList Tryz.prog ops Q (op :: rest) act wr) :=
       Lib.hid fun ops rest op act Q h1 h2 h3 h4 => wpList_load_at h1 44 (.tmp 20) h2 _ h3 X.toList _ xs Tryz.underlying44 rfl (by rw [Array.length_toList, hx.size]; exact Tryz.sizeMedia) (by rw [Array.toArray_toList]; exact h4)
      have HLD2 : Hid (∀ (W : World) (ops : Array Oper) (rest : List Oper) (op : Oper) (act : Act) (Q : Exit → Act → World → Prop), Below w.heap.size wr W → op.guard = none → op.op = .load 44 (.tmp 24) → act.eval (.tmp 24) = .pointer (some (ad2.add (k * 11))) → wpList Tryz.prog ops Q rest (act.put op.dst (.agg Y)) W → wpList Tryz.prog ops Q (op :: rest) act W) :=
       Lib.hid fun W ops rest op act Q hW h1 h2 h3 h4 => wpList_load_at h1 44 (.tmp 24) h2 _ h3 Y.toList _ (fun j u hu => (hW.cell (p := (ad2.add (k * 11)).add j) (by rw [add_block, add_block]; exact b2)).trans (ys j u hu)) Tryz.underlying44 rfl (by rw [Array.length_toList, hy.size]; exact Tryz.sizeMedia) (by rw [Array.toArray_toList]; exact h4)
      have HNEW : Hid (∀ W : World, Whole (W.alloc (.cells #[.int .i64 0, .int .i64 0, .string ⟨#[]⟩, .int .i64 0, .slice none 0 0, .slice none 0 0, .slice none 0 0, .bool false, .slice none 0 0, .slice none 0 0, .int .i64 0] 44)) W.heap.size 44 #[.int .i64 0, .int .i64 0, .string ⟨#[]⟩, .int .i64 0, .slice none 0 0, .slice none 0 0, .slice none 0 0, .bool false, .slice none 0 0, .slice none 0 0, .int .i64 0]) := Lib.hid fun W => Whole.new _ _ _
      have HXS : Hid ((X.size = 11 ∧ X.toList.all (·.oneCell') = true) ∧ Y.size = 11 ∧ Y.toList.all (·.oneCell') = true) := Lib.hid ⟨⟨hx.size, hx.one⟩, hy.size, hy.one⟩
      have HW1 : Hid (Below w.heap.size wr ((wr.alloc (.cells #[.int .i64 0, .int .i64 0, .string ⟨#[]⟩, .int .i64 0, .slice none 0 0, .slice none 0 0, .slice none 0 0, .bool false, .slice none 0 0, .slice none 0 0, .int .i64 0] 44)).setRow wr.heap.size X) ∧ Whole ((wr.alloc (.cells #[.int .i64 0, .int .i64 0, .string ⟨#[]⟩, .int .i64 0, .slice none 0 0, .slice none 0 0, .slice none 0 0, .bool false, .slice none 0 0, .slice none 0 0, .int .i64 0] 44)).setRow wr.heap.size X) wr.heap.size 44 X) := Lib.hid ⟨below_row ((Below.refl _ wr).alloc hwr _) hwr _, (HNEW.out wr).row _⟩
      have HXY := Lib.hid (And.intro hx hy)
      clear gL gM ha hbb xs ys hx hy b1 b2 hb
      go_upto_region 6 with (first | ((with_reducible refine HLD1.out _ _ _ _ _ ?_ ?_ ?_ ?_); (with_reducible rfl); (with_reducible rfl); rfl) | ((with_reducible refine wpList_storeS X ?_ 44 (.tmp 8) (.tmp 21) ?_ ?_ ?_ (HNEW.out _) Tryz.sizeMedia HXS.out.1.1 ?_ HXS.out.1.2 ?_); (with_reducible rfl); (with_reducible rfl); rfl; rfl; rfl))
      clear HLD1
      generalize ((wr.alloc (.cells #[.int .i64 0, .int .i64 0, .string ⟨#[]⟩, .int .i64 0, .slice none 0 0, .slice none 0 0, .slice none 0 0, .bool false, .slice none 0 0, .slice none 0 0, .int .i64 0] 44)).setRow wr.heap.size X) = W1 at *
      have HG1 : Hid (w.heap.size ≤ wr.heap.size) := Lib.hid hwr
      clear hwr
      generalize wr.heap.size = g1 at *
      have hW1 : w.heap.size ≤ W1.heap.size := Nat.le_trans HS.out.2.size HW1.out.1.size
      have HW2 : Hid (Below w.heap.size wr ((W1.alloc (.cells #[.int .i64 0, .int .i64 0, .string ⟨#[]⟩, .int .i64 0, .slice none 0 0, .slice none 0 0, .slice none 0 0, .bool false, .slice none 0 0, .slice none 0 0, .int .i64 0] 44)).setRow W1.heap.size Y) ∧ Whole ((W1.alloc (.cells #[.int .i64 0, .int .i64 0, .string ⟨#[]⟩, .int .i64 0, .slice none 0 0, .slice none 0 0, .slice none 0 0, .bool false, .slice none 0 0, .slice none 0 0, .int .i64 0] 44)).setRow W1.heap.size Y) W1.heap.size 44 Y ∧ Whole ((W1.alloc (.cells #[.int .i64 0, .int .i64 0, .string ⟨#[]⟩, .int .i64 0, .slice none 0 0, .slice none 0 0, .slice none 0 0, .bool false, .slice none 0 0, .slice none 0 0, .int .i64 0] 44)).setRow W1.heap.size Y) g1 44 X) := Lib.hid ⟨below_row (HW1.out.1.alloc hW1 _) hW1 _, (HNEW.out W1).row _, (HW1.out.2.alloc _).farRow (Nat.ne_of_lt HW1.out.2.lt) _⟩
      go_upto_region 7 with (first | ((with_reducible refine HLD2.out _ _ _ _ _ _ HW1.out.1 ?_ ?_ ?_ ?_); (with_reducible rfl); (with_reducible rfl); rfl) | ((with_reducible refine wpList_storeS Y ?_ 44 (.tmp 9) (.tmp 25) ?_ ?_ ?_ (HNEW.out _) Tryz.sizeMedia HXS.out.2.1 ?_ HXS.out.2.2 ?_); (with_reducible rfl); (with_reducible rfl); rfl; rfl; rfl))
      clear HLD2 HNEW
      generalize ((W1.alloc (.cells #[.int .i64 0, .int .i64 0, .string ⟨#[]⟩, .int .i64 0, .slice none 0 0, .slice none 0 0, .slice none 0 0, .bool false, .slice none 0 0, .slice none 0 0, .int .i64 0] 44)).setRow W1.heap.size Y) = W2 at *
      generalize W1.heap.size = g2 at *
      have hW2 : w.heap.size ≤ W2.heap.size := Nat.le_trans HS.out.2.size HW2.out.1.size
      obtain ⟨qb, hq⟩ : ∃ r, q a b = r := ⟨_, rfl⟩
      have HCL : Hid (Calls Tryz.prog f (#[.agg X, .agg Y] ++ cap) W2 fun e w' => e = .returned (.bool qb) ∧ Below W2.heap.size W2 w') := Lib.hid (by
       have := HP.out W2 X Y a b vC vE vR vS vY uC uE uR uS uY (HS.out.2.trans HW2.out.1) HG.out.1 HG.out.2 ((HXY.out.1.below HW2.out.1).more hW2) ((HXY.out.2.below HW2.out.1).more hW2)
       rw [hq] at this
       exact this)
      have HQ : Hid (q (L.getD k default) (M.getD k default) = qb) := Lib.hid (by rw [HAB.out.1, HAB.out.2]; exact hq)
      have HFIN : Hid (∀ W, Below W2.heap.size W2 W → Below w.heap.size w W) := Lib.hid fun W hW => (HS.out.2.trans HW2.out.1).trans (hW.mono hW2)
      clear hq hW1 hW2
      cases qb with
      | true =>
        go_wp2_with (first | ((with_reducible refine wpList_load_all ?_ 44 (.tmp 8) ?_ HW2.out.2.2 ?_ Tryz.sizeMedia HXS.out.1.1 Tryz.underlying44 rfl ?_); (with_reducible rfl); (with_reducible rfl); rfl) | ((with_reducible refine wpList_load_all ?_ 44 (.tmp 9) ?_ HW2.out.2.1 ?_ Tryz.sizeMedia HXS.out.2.1 Tryz.underlying44 rfl ?_); (with_reducible rfl); (with_reducible rfl); rfl) | ((with_reducible refine wpList_callV2 ?_ (.tmp 26) (.tmp 27) (.tmp 28) ?_ ?_ ?_ ?_ HEG.out HCL.out ?_); (with_reducible rfl); (exact ⟨_, rfl⟩); rfl; rfl; rfl; rintro e w5 ⟨rfl, hb5⟩; refine ⟨_, rfl, ?_⟩))
        go_roundw
        case rel =>
         refine ⟨k + 1, by omega, by go_num, fun j hj => ?_, HFIN.out _ hb5⟩
         by_cases e : j = k
         · subst e
           exact HQ.out
         · exact HS.out.1 j (by omega)
        case measure => simp [intOf]; omega
      | false =>
        have HNO : Hid (pairsA q L M = false) := Lib.hid (pairs_no HN.out HM.out hlt HQ.out)
        go_wp2_with (first | ((with_reducible refine wpList_load_all ?_ 44 (.tmp 8) ?_ HW2.out.2.2 ?_ Tryz.sizeMedia HXS.out.1.1 Tryz.underlying44 rfl ?_); (with_reducible rfl); (with_reducible rfl); rfl) | ((with_reducible refine wpList_load_all ?_ 44 (.tmp 9) ?_ HW2.out.2.1 ?_ Tryz.sizeMedia HXS.out.2.1 Tryz.underlying44 rfl ?_); (with_reducible rfl); (with_reducible rfl); rfl) | ((with_reducible refine wpList_callV2 ?_ (.tmp 26) (.tmp 27) (.tmp 28) ?_ ?_ ?_ ?_ HEG.out HCL.out ?_); (with_reducible rfl); (exact ⟨_, rfl⟩); rfl; rfl; rfl; rintro e w5 ⟨rfl, hb5⟩; refine ⟨_, rfl, ?_⟩))
        go_ret
        exact ⟨ret_bool HNO.out.symm, HFIN.out _ hb5⟩
    · obtain rfl : k = n := by omega
      have HEQ : Hid (pairsA q L M = true) := Lib.hid (pairs_yes HN.out HM.out HS.out.1)
      clear hb
      go_wp2
      go_ret
      exact ⟨ret_bool HEQ.out.symm, HS.out.2⟩
 · have hz : ((n : Int) == (m : Int)) = false := by rw [beq_eq_false_iff_ne]; omega
   have HNE : Hid (pairsA q L M = false) := Lib.hid (pairs_len (by rw [HN.out, HM.out]; exact hnm))
   clear hnm
   go_enter Tryz.func74, Tryz.ntmps74
   go_wp2
   go_ret
   exact ⟨ret_bool HNE.out.symm, Below.refl _ w⟩
end Go.Proofs.YthpfeihmfmahmaaGreat
