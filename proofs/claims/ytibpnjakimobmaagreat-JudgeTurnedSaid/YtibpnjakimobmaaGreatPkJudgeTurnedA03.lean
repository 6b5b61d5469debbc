import Derived.Test.YtibpnjakimobmaaGreatPkJudgeTurnedA01
import Derived.Test.YtibpnjakimobmaaGreatPkJudgeTurnedA00
import Derived.RangeFuncNested
import Derived.RangeFuncBound
import Derived.RangeFuncCalls
import Derived.RangeFuncLeaves
import Derived.Shelf.Abstract
import Derived.OwnWalkIn
import Derived.TacticsInMore
import Derived.LoopNIn
import Derived.LoopIn
import Derived.Deep.DeepMust
import Derived.Deep.CutBlock
import Derived.Great.BuildSlice
import Derived.Test.YtibpnjakimobmaaGreatPkJudgeTurnedA02
namespace Go.Proofs.YtibpnjakimobmaaGreat
open Go.RowKit
set_option linter.unusedVariables false
set_option linter.unusedSimpArgs false
theorem value_most (l : Tx) (m : Nat) (hm : m ≤ 200) : (l.all inVal && (decide (1 ≤ l.length) && decide ((l.length : Int) ≤ (m : Int)))) = (valP l && decide (l.length ≤ m)) := by
 unfold valP
 rw [Bool.eq_iff_iff]
 simp only [Bool.and_eq_true, decide_eq_true_eq]
 constructor
 · rintro ⟨h1, h2, h3⟩
   exact ⟨⟨h1, h2, by omega⟩, by omega⟩
 · rintro ⟨⟨h1, h2, h3⟩, h4⟩
   exact ⟨h1, h2, by omega⟩
theorem head_at (s : ByteArray) (h : 0 < s.size) : ((tx s).head? == some 32) = (((s[0]'h).toNat : Int) == 32) := by
 have hl : 0 < (tx s).length := by rw [tx_length]; exact h
 have e : (tx s).head? = some (s[0]'h) := by
  rw [List.head?_eq_getElem?]
  exact List.getElem?_eq_getElem hl
 rw [e, Bool.eq_iff_iff]
 simp only [beq_iff_eq, Option.some.injEq, ← UInt8.toNat_inj]
 rw [show (32 : UInt8).toNat = 32 from rfl]
 omega
theorem last_at (s : ByteArray) (h : s.size - 1 < s.size) : ((tx s).getLast? == some 32) = (((s[s.size - 1]'h).toNat : Int) == 32) := by
 have hl : s.size - 1 < (tx s).length := by rw [tx_length]; exact h
 have e : (tx s).getLast? = some (s[s.size - 1]'h) := by
  rw [List.getLast?_eq_getElem?, tx_length]
  exact List.getElem?_eq_getElem hl
 rw [e, Bool.eq_iff_iff]
 simp only [beq_iff_eq, Option.some.injEq, ← UInt8.toNat_inj]
 rw [show (32 : UInt8).toNat = 32 from rfl]
 omega
set_option maxHeartbeats 1600000 in
theorem rplain_any (s : ByteArray) (w : World) (hs : s.size ≤ maxLen) : Calls Tryz.prog 51 #[.string s, .int .i64 100] w fun e w' => e = .returned (.bool (plainP (tx s))) ∧ w = w' := by
 have HV : Hid (Calls Tryz.prog 52 #[.string s, .int .i64 100] w fun e w' => e = .returned (.bool (valP (tx s) && decide ((tx s).length ≤ 100))) ∧ w = w') := Lib.hid (by
  have := r6Value_any s 100 w hs
  have e := value_most (tx s) 100 (by decide)
  rw [tx_length] at e
  rw [show ((100 : Nat) : Int) = 100 from rfl] at e
  rw [e, ← tx_length] at this
  exact this)
 unfold maxLen at hs
 have HE : Hid (plainP (tx s) = ((valP (tx s) && decide ((tx s).length ≤ 100)) && (!((tx s).head? == some 32) && !((tx s).getLast? == some 32)))) := Lib.hid (by
  unfold plainP
  simp only [Bool.and_assoc])
 have HP : Hid ((valP (tx s) && decide ((tx s).length ≤ 100)) = true → 1 ≤ s.size) := Lib.hid (fun h => by
  simp only [Bool.and_eq_true] at h
  have := (valP_len h.1).1
  rwa [tx_length] at this)
 generalize (valP (tx s) && decide ((tx s).length ≤ 100)) = v at *
 cases v with
 | false =>
   have HR : Hid (false = plainP (tx s)) := Lib.hid (by rw [HE.out]; rfl)
   generalize plainP (tx s) = r at *
   go_enter Tryz.func51, Tryz.ntmps51
   go_wp2_with (go_at_call 52; (with_reducible refine HV.out.mono ?_); rintro e w' ⟨rfl, rfl⟩)
   go_ret
   exact ⟨ret_bool HR.out, rfl⟩
 | true =>
   have h1 : 1 ≤ s.size := HP.out rfl
   have h0 : 0 < s.size := by omega
   have hl : s.size - 1 < s.size := by omega
   have e1 : IntKind.i64.wrap ((s.size : Int) - 1) = ((s.size - 1 : Nat) : Int) := (IntWalk.i64_in _ (by omega)).trans (by omega)
   have hi0 : ((s.size - 1 : Nat) : Int) < (s.size : Int) := by omega
   have hi1 : (0 : Int) ≤ ((s.size - 1 : Nat) : Int) := by omega
   have hi2 : (0 : Int) < (s.size : Int) := by omega
   have hE := HE.out
   rw [head_at s h0, last_at s hl] at hE
   have HZ : Hid ((((s[0]'h0).toNat : Int) != 32 && ((s[s.size - 1]'hl).toNat : Int) != 32) = plainP (tx s)) := Lib.hid (by rw [hE]; rfl)
   clear hE HE HP
   generalize plainP (tx s) = r at *
   go_enter Tryz.func51, Tryz.ntmps51
   go_wp2_with (go_at_call 52; (with_reducible refine HV.out.mono ?_); rintro e w' ⟨rfl, rfl⟩)
   all_goals first
    | (go_ret; exact ⟨ret_bool HZ.out, rfl⟩)
    | (have hz := HZ.out; go_ret; exact ⟨ret_bool (by simp_all), rfl⟩)
set_option maxHeartbeats 1600000 in
theorem ruri_any (s : ByteArray) (w : World) (hs : s.size ≤ maxLen) : Calls Tryz.prog 35 #[.string s] w fun e w' => e = .returned (.bool (uriP (tx s))) ∧ w = w' := by
 have HV : Hid (Calls Tryz.prog 52 #[.string s, .int .i64 100] w fun e w' => e = .returned (.bool (valP (tx s) && decide ((tx s).length ≤ 100))) ∧ w = w') := Lib.hid (by
  have := r6Value_any s 100 w hs
  have e := value_most (tx s) 100 (by decide)
  rw [tx_length] at e
  rw [show ((100 : Nat) : Int) = 100 from rfl] at e
  rw [e, ← tx_length] at this
  exact this)
 unfold maxLen at hs
 have HE : Hid (uriP (tx s) = ((valP (tx s) && decide ((tx s).length ≤ 100)) && (tx s).all (fun c => c != 32))) := Lib.hid rfl
 have HT : Hid (∀ k, s.size ≤ k → (tx s).take k = tx s) := Lib.hid fun k hk => List.take_of_length_le (by rw [tx_length]; exact hk)
 have HBD : Hid (∀ c ∈ tx s, c.toNat < 33 → uriP (tx s) = false) := Lib.hid (fun c hc h33 => by
  rw [HE.out, Bool.eq_false_iff]
  intro h
  simp only [Bool.and_eq_true, List.all_eq_true, bne_iff_ne, decide_eq_true_eq] at h
  have h1 := valP_in h.1.1 c hc
  have h2 := h.2 c hc
  unfold inVal at h1
  simp only [Bool.and_eq_true, decide_eq_true_eq] at h1
  apply h2
  rw [← UInt8.toNat_inj]
  show c.toNat = 32
  omega)
 generalize (valP (tx s) && decide ((tx s).length ≤ 100)) = v at *
 generalize uriP (tx s) = r at *
 go_enter Tryz.func35, Tryz.ntmps35
 go_wp2
 go_loop [3] (fun i => ∃ k : Nat, k ≤ s.size ∧ i = .int .i64 k ∧ ((tx s).take k).all (fun c => c != 32) = true) (fun i => s.size - (intOf i).toNat)
 case atStart => exact ⟨0, Nat.zero_le _, rfl, rfl⟩
 case round =>
  obtain ⟨k, hk, rfl, hall⟩ := hrel
  have HA := Lib.hid hall
  clear hall
  by_cases hlt : k < s.size
  · have HN : Hid ((tx s).take (k + 1) = (tx s).take k ++ [s[k]]) := Lib.hid (by
     have hk' : k < (tx s).length := by rw [tx_length]; exact hlt
     rw [List.take_succ_eq_append_getElem hk']
     rfl)
    have HM : Hid (s[k] ∈ tx s) := Lib.hid (by
     have hk' : k < (tx s).length := by rw [tx_length]; exact hlt
     exact List.getElem_mem (l := tx s) hk')
    have hb := (s[k]).toNat_lt
    by_cases h1 : ((s[k]).toNat : Int) < 33
    · have HQ : Hid (r = false) := Lib.hid (HBD.out _ HM.out (by omega))
      go_wp2
      go_ret
      exact ⟨ret_bool HQ.out.symm, rfl⟩
    · have HV2 : Hid ((s[k] != 32) = true) := Lib.hid (by
       rw [bne_iff_ne]
       intro e
       apply h1
       rw [e]
       decide)
      have h1 : (33 : Int) ≤ ((s[k]).toNat : Int) := by omega
      go_wp2
      go_round
      case rel => exact ⟨k + 1, by omega, by go_num, by rw [HN.out, List.all_append, HA.out]; simp; simpa using HV2.out⟩
      case measure => simp [intOf]; omega
  · have HQ : Hid (v = r) := Lib.hid (by
     have := HA.out
     rw [HT.out k (by omega)] at this
     rw [HE.out, this, Bool.and_true])
    go_wp2_with (go_at_call 52; (with_reducible refine HV.out.mono ?_); rintro e w' ⟨rfl, rfl⟩)
    go_ret
    exact ⟨ret_bool HQ.out, rfl⟩
abbrev zKey : Array Value := #[.int .u8 0, .int .u8 0, .int .u8 0, .int .u8 0, .int .u8 0, .int .u8 0, .int .u8 0, .int .u8 0, .int .u8 0, .int .u8 0, .int .u8 0, .int .u8 0, .int .u8 0, .int .u8 0, .int .u8 0, .int .u8 0, .int .u8 0, .int .u8 0, .int .u8 0, .int .u8 0, .int .u8 0, .int .u8 0, .int .u8 0, .int .u8 0, .int .u8 0, .int .u8 0, .int .u8 0, .int .u8 0, .int .u8 0, .int .u8 0]
structure Grew (w : World) (v : Value) (w' : World) (v' : Value) : Prop where
 only : Only (fun k => v.ownBlock = some k) w w'
 own : ∀ k, v'.ownBlock = some k → v.ownBlock = some k ∨ w.heap.size ≤ k
theorem Grew.refl (w : World) (v : Value) : Grew w v w v := ⟨Only.refl _ _, fun k h => .inl h⟩
theorem Grew.trans {w w1 w2 : World} {v v1 v2 : Value} (h : Grew w v w1 v1) (k : Grew w1 v1 w2 v2) : Grew w v w2 v2 :=
 ⟨h.only.next k.only h.own, fun j hj => by
  rcases k.own j hj with h1 | h1
  · exact h.own j h1
  · exact .inr (Nat.le_trans h.only.size h1)⟩
theorem Grew.under {w w1 w2 : World} {v v1 : Value} (h : Grew w v w1 v1) (hb : Below w1.heap.size w1 w2) : Grew w v w2 v1 := ⟨h.only.under hb, h.own⟩
theorem Grew.below {w w1 : World} {base : Nat} {v v1 : Value} (h : Grew w v w1 v1) (hv : ∀ k, v.ownBlock = some k → base ≤ k) (hB : base ≤ w.heap.size) : Below base w w1 := h.only.below hv hB
theorem Grew.whole {w w1 : World} {v v1 : Value} {g : Nat} {t : TypeId} {cs : Array Value} (h : Grew w v w1 v1) (hg : Whole w g t cs) (hne : v.ownBlock ≠ some g) : Whole w1 g t cs := hg.only h.only hne
section
variable {ops : Array Oper} {rest : List Oper} {o : Oper} {a : Act} {Q : Exit → Act → World → Prop} {K : Act → World → Prop} {w : World} {base : Nat} {v : Value} {L : List AttrS} {n val : ByteArray} {c : Nat}
end
def mcell (m : MediaS) (vC vE vR vS vY : Value) : Array Value := #[.int .i64 m.kind, .int .i64 m.port, .string m.mid, .int .i64 m.dir, vC, vE, vR, .bool m.sending, vS, vY, .int .i64 m.sctp]
def ccell (c : CodecS) (v : Value) : List Value := [.int .i64 c.type, .string c.name, .int .i64 c.clock, .int .i64 c.chans, .string c.format, v]
def tcell (s : ByteArray) : List Value := [.string s]
def ecell (x : ExtS) : List Value := [.int .i64 x.id, .string x.uri]
def ucell (n : Nat) : List Value := [.int .u32 n]
structure MW (base bm n : Nat) (w : World) (m : MediaS) (cs : List (CodecS × Value)) (vC vE vR vS vY : Value) : Prop where
 eqC : m.codecs = cs.map (·.1)
 box : Whole w bm 44 (mcell m vC vE vR vS vY)
 hC : Own w base 47 6 vC (cs.map fun c => ccell c.1 c.2)
 hF : ∀ c ∈ cs, Own w base 9 1 c.2 (c.1.feedback.map tcell)
 hE : Own w base 49 2 vE (m.exts.map ecell)
 hR : Own w base 9 1 vR (m.rids.map tcell)
 hS : Own w base 70 1 vS (m.sources.map ucell)
 hY : Own w base 51 31 vY (m.crypto.map cryC)
 ap : (vR :: cs.map (·.2)).Pairwise fun a b => a.ownBlock = none ∨ a.ownBlock ≠ b.ownBlock
 hbm : base ≤ bm
 siz : SizM m
 lens : m.codecs.length ≤ n ∧ m.exts.length ≤ n ∧ m.rids.length ≤ n ∧ m.sources.length ≤ n ∧ m.crypto.length ≤ n ∧ ∀ c ∈ m.codecs, c.feedback.length ≤ n
structure Rdt (base bm : Nat) (w w' : World) : Prop where
 low : Below base w w'
 kept : ∀ (g : Nat) (t : TypeId) (cs : Array Value), Whole w g t cs → t ≠ 47 → t ≠ 49 → t ≠ 9 → t ≠ 70 → t ≠ 51 → g ≠ bm → Whole w' g t cs
 rest : Go.KeepsOthers w w'
theorem others_under {w w' : World} (hb : Below w.heap.size w w') : Go.KeepsOthers w w' := ⟨hb.size, fun k o hk _ => (hb.block k (Array.getElem?_eq_some_iff.1 hk).1).trans hk⟩
section
variable {base bm n : Nat} {w w' w2 : World} {m : MediaS} {cs : List (CodecS × Value)} {vC vE vR vS vY : Value}
theorem Rdt.refl (base bm : Nat) (w : World) : Rdt base bm w w := ⟨Below.refl _ _, fun _ _ _ h _ _ _ _ _ _ => h, Go.KeepsOthers.refl _⟩
theorem Rdt.trans (h : Rdt base bm w w') (k : Rdt base bm w' w2) : Rdt base bm w w2 := ⟨h.low.trans k.low, fun g t cs hw h1 h2 h3 h4 h5 h6 => k.kept g t cs (h.kept g t cs hw h1 h2 h3 h4 h5 h6) h1 h2 h3 h4 h5 h6, h.rest.trans k.rest⟩
theorem Rdt.under (h : Rdt base bm w w') (hb : Below w'.heap.size w' w2) (hB : base ≤ w'.heap.size) : Rdt base bm w w2 := h.trans ⟨hb.mono hB, fun g t cs hw _ _ _ _ _ _ => hw.under hb, others_under hb⟩
theorem Rdt.cell (h : Rdt base bm w w') (hbm : base ≤ bm) (i : Nat) (u : Value) : Rdt base bm w (w'.setCell ⟨bm, i, none⟩ u) := h.trans ⟨(Below.refl _ _).setCell (p := ⟨bm, i, none⟩) hbm _, fun g t cs hw _ _ _ _ _ h6 => hw.far (p := ⟨bm, i, none⟩) h6 _, Go.KeepsOthers.setCell _ _ _⟩
theorem MW.under (h : MW base bm n w m cs vC vE vR vS vY) (hb : Below w.heap.size w w') : MW base bm n w' m cs vC vE vR vS vY :=
 ⟨h.eqC, h.box.under hb, h.hC.under hb, fun c hc => (h.hF c hc).under hb, h.hE.under hb, h.hR.under hb, h.hS.under hb, h.hY.under hb, h.ap, h.hbm, h.siz, h.lens⟩
theorem MW.drewN (h : MW base bm n w m cs vC vE vR vS vY) (k : Nat) : MW base bm n (w.drewN k) m cs vC vE vR vS vY :=
 ⟨h.eqC, h.box, h.hC, h.hF, h.hE, h.hR, h.hS, h.hY, h.ap, h.hbm, h.siz, h.lens⟩
theorem MW.drew (h : MW base bm n w m cs vC vE vR vS vY) : MW base bm n w.drew m cs vC vE vR vS vY :=
 ⟨h.eqC, h.box, h.hC, h.hF, h.hE, h.hR, h.hS, h.hY, h.ap, h.hbm, h.siz, h.lens⟩
theorem MW.cell (h : MW base bm n w m cs vC vE vR vS vY) {m' : MediaS} (i : Nat) (u : Value) (hx : (mcell m vC vE vR vS vY).setIfInBounds i u = mcell m' vC vE vR vS vY)
 (h1 : m'.codecs = m.codecs) (h2 : m'.exts = m.exts) (h3 : m'.rids = m.rids) (h4 : m'.sources = m.sources) (h5 : m'.crypto = m.crypto) (hz : m'.mid.size ≤ 140737488355328) : MW base bm n (w.setCell ⟨bm, i, none⟩ u) m' cs vC vE vR vS vY := by
 refine ⟨by rw [h1]; exact h.eqC, ?_, h.hC.far (p := ⟨bm, i, none⟩) (h.hC.apart h.box (by decide)) u, fun c hc => (h.hF c hc).far (p := ⟨bm, i, none⟩) ((h.hF c hc).apart h.box (by decide)) u, ?_, ?_, ?_, ?_, h.ap, h.hbm, ?_, by rw [h1, h2, h3, h4, h5]; exact h.lens⟩
 · rw [← hx]
   exact h.box.set i u
 · rw [h2]
   exact h.hE.far (p := ⟨bm, i, none⟩) (h.hE.apart h.box (by decide)) u
 · rw [h3]
   exact h.hR.far (p := ⟨bm, i, none⟩) (h.hR.apart h.box (by decide)) u
 · rw [h4]
   exact h.hS.far (p := ⟨bm, i, none⟩) (h.hS.apart h.box (by decide)) u
 · rw [h5]
   exact h.hY.far (p := ⟨bm, i, none⟩) (h.hY.apart h.box (by decide)) u
 · obtain ⟨z1, z2, z3, z4, z5, ⟨z6, z7⟩, z8⟩ := h.siz
   exact ⟨hz, by rw [h1]; exact z2, by rw [h1]; exact z3, by rw [h2]; exact z4, by rw [h3]; exact z5, ⟨by rw [h4]; exact z6, by rw [h5]; exact z7⟩, by rw [h1, h2, h3, h4, h5]; exact z8⟩
theorem MW.media (h : MW base bm n w m cs vC vE vR vS vY) : MediaV w w.heap.size (mcell m vC vE vR vS vY) m vC vE vR vS vY := by
 refine ⟨rfl, ?_, ?_, ?_, ?_, ?_⟩
 · refine h.hC.rows (L := m.codecs) (Nat.le_refl _) (by rw [h.eqC]; simp) (fun i r x f hr hx hf => ?_)
   rw [h.eqC, List.getElem?_map] at hx
   rw [List.getElem?_map] at hr
   cases hc : cs[i]? with
   | none => rw [hc] at hx; cases hx
   | some c =>
     rw [hc] at hx hr
     obtain rfl : c.1 = x := by simpa using hx
     obtain rfl : ccell c.1 c.2 = r := by simpa using hr
     refine ⟨hf 0 (by decide), hf 1 (by decide), hf 2 (by decide), hf 3 (by decide), hf 4 (by decide), c.2, hf 5 (by decide), ?_⟩
     refine (h.hF c (List.mem_of_getElem? hc)).rows (L := c.1.feedback) (Nat.le_refl _) (by simp) (fun i r x f hr hx hf => ?_)
     rw [List.getElem?_map, hx] at hr
     obtain rfl : tcell x = r := by simpa using hr
     exact hf 0 (by decide)
 · refine h.hE.rows (L := m.exts) (Nat.le_refl _) (by simp) (fun i r x f hr hx hf => ?_)
   rw [List.getElem?_map, hx] at hr
   obtain rfl : ecell x = r := by simpa using hr
   exact ⟨hf 0 (by decide), hf 1 (by decide)⟩
 · refine h.hR.rows (L := m.rids) (Nat.le_refl _) (by simp) (fun i r x f hr hx hf => ?_)
   rw [List.getElem?_map, hx] at hr
   obtain rfl : tcell x = r := by simpa using hr
   exact hf 0 (by decide)
 · refine h.hS.rows (L := m.sources) (Nat.le_refl _) (by simp) (fun i r x f hr hx hf => ?_)
   rw [List.getElem?_map, hx] at hr
   obtain rfl : ucell x = r := by simpa using hr
   exact hf 0 (by decide)
 · refine h.hY.rows (L := m.crypto) (Nat.le_refl _) (by simp) (fun i r x f hr hx hf => ?_)
   rw [List.getElem?_map, hx] at hr
   obtain rfl : cryC x = r := by simpa using hr
   exact ⟨h.siz.typed.2 x (List.mem_of_getElem? hx), fun j hj => hf j hj⟩
end
end Go.Proofs.YtibpnjakimobmaaGreat
namespace Go.Proofs.YtibpnjakimobmaaGreat
open Go.RowKit Go.Shelf
set_option linter.unusedVariables false
set_option linter.unusedSimpArgs false
structure Books (K : Nat) (r : Loop) (W : World) : Prop where
 loop : W.heap[K + 1]? = some (.loop r)
 late : W.heap[K]? = some (.deferred (some []))
theorem Books.keeps {K : Nat} {r : Loop} {W W' : World} (h : Books K r W) (k : KeepsFrom K W W') : Books K r W' := ⟨k.same _ _ (by omega) h.loop rfl, k.same _ _ (Nat.le_refl _) h.late rfl⟩
theorem Books.under {K : Nat} {r : Loop} {W W' : World} (h : Books K r W) (k : Below W.heap.size W W') : Books K r W' := h.keeps ((others_under k).from K)
end Go.Proofs.YtibpnjakimobmaaGreat
namespace Go.Proofs.YtibpnjakimobmaaGreat
open Go.RowKit
set_option linter.unusedVariables false
set_option linter.unusedSimpArgs false
structure It (w0 : World) (M : Array Value) (g : Nat) (T : TypeId) (X : Array Value) (w : World) : Prop where
 low : Below w0.heap.size w0 w
 box : Whole w w0.heap.size 44 M
 it : Whole w g T X
theorem It.under {w0 w w' : World} {M X : Array Value} {g : Nat} {T : TypeId} (h : It w0 M g T X w) (hb : Below w.heap.size w w') : It w0 M g T X w' := ⟨h.low.trans (hb.mono h.low.size), h.box.under hb, h.it.under hb⟩
theorem It.drew {w0 w : World} {M X : Array Value} {g : Nat} {T : TypeId} (h : It w0 M g T X w) : It w0 M g T X w.drew := ⟨h.low.drew, h.box, h.it⟩
theorem It.alloc {w0 w : World} {M X : Array Value} {g : Nat} {T : TypeId} (h : It w0 M g T X w) (o : Obj) : It w0 M g T X (w.alloc o) := h.under ((Below.refl _ w).alloc (Nat.le_refl _) o)
def WriteO (E : TypeId) (w : World) (m : MediaS) (e : Ending) (w' : World) : Prop :=
 ∃ P : Array Value, e = .returned (.tuple #[.agg P, .int .i64 (if mayM m = true then 0 else 1)]) ∧ Below w.heap.size w w' ∧
   (mayM m = true → ∃ v, P = #[.string (bs (lineM m)), .string (bs wConn), v] ∧ Own w' w.heap.size E 2 v ((attrsM m).map acell)) ∧ (mayM m = false → P = #[.string ⟨#[]⟩, .string ⟨#[]⟩, .slice none 0 0])
end Go.Proofs.YtibpnjakimobmaaGreat
namespace Go.Proofs.YtibpnjakimobmaaGreat
open Go.RowKit Go.Shelf
set_option linter.unusedVariables false
set_option linter.unusedSimpArgs false
def Bs (w : World) (B : Nat) (A : Option Addr) (n : Nat) (xs : List Int) : Prop :=
 xs.length = n ∧ (0 < n → ∃ ad, A = some ad ∧ ad.block < B ∧ ∀ i, i < n → w.cell? (ad.add i) = some (.int .u8 (xs.getD i 0)))
section
variable {w w' : World} {B : Nat} {A : Option Addr} {n : Nat} {xs : List Int}
theorem Bs.below (h : Bs w B A n xs) (hb : Below B w w') : Bs w' B A n xs :=
 ⟨h.1, fun hn => by
  obtain ⟨ad, h1, h2, h3⟩ := h.2 hn
  exact ⟨ad, h1, h2, fun i hi => (hb.cell (p := ad.add i) (by rw [add_block]; exact h2)).trans (h3 i hi)⟩⟩
theorem Bs.more {B' : Nat} (h : Bs w B A n xs) (hB : B ≤ B') : Bs w B' A n xs :=
 ⟨h.1, fun hn => by
  obtain ⟨ad, h1, h2, h3⟩ := h.2 hn
  exact ⟨ad, h1, by omega, h3⟩⟩
end
def u8s (xs : List Int) : List Value := xs.map (Value.int .u8)
@[simp] theorem u8s_length (xs : List Int) : (u8s xs).length = xs.length := by simp [u8s]
def Own8 (w : World) (base : Nat) (v : Value) (xs : List Int) : Prop := w.ownsRow base 5 1 v xs.length (u8s xs)
section
variable {w w' : World} {base : Nat} {v : Value} {xs : List Int}
theorem Own8.nil (w : World) (base : Nat) : Own8 w base (.slice none 0 0) [] := World.ownsRow_nil w base 5 1
theorem Own8.lt (h : Own8 w base v xs) {k : Nat} (hk : v.ownBlock = some k) : base ≤ k ∧ k < w.heap.size := World.ownsRow.lt h k hk
theorem Own8.grown {row : Option Nat} (h : Own8 w base v xs) (hg : w.grownBy w' row) (hne : v.ownBlock = none ∨ v.ownBlock ≠ row) : Own8 w' base v xs := World.ownsRow.kept h hg hne
theorem Own8.alloc (h : Own8 w base v xs) (o : Obj) : Own8 (w.alloc o) base v xs := World.ownsRow.alloc h o
theorem Own8.under (h : Own8 w base v xs) (hb : Below w.heap.size w w') : Own8 w' base v xs := by
 refine ⟨h.1, ?_⟩
 rcases h.2 with h0 | ⟨g, cap, cur, h1, h2, h3, h4⟩
 · exact .inl h0
 · exact .inr ⟨g, cap, cur, h1, h2, (hb.block g (Array.getElem?_eq_some_iff.1 h3).1).trans h3, h4⟩
theorem Own8.drewN (h : Own8 w base v xs) (n : Nat) : Own8 (w.drewN n) base v xs := h
theorem Own8.drew (h : Own8 w base v xs) : Own8 w.drew base v xs := h
theorem Own8.form (h : Own8 w base v xs) : ∃ A c, v = .slice A xs.length c ∧ xs.length ≤ c ∧ c ≤ maxLen ∧ (A = none → c = 0) ∧ Bs w w.heap.size A xs.length xs := by
 rcases h.2 with ⟨rfl, h0⟩ | ⟨g, cap, cur, rfl, h2, h3, h4, h5, h6, h7⟩
 · exact ⟨none, 0, by rw [h0], by omega, Nat.zero_le _, fun _ => rfl, rfl, fun hn => by omega⟩
 · refine ⟨_, cap, rfl, h4, h5, (fun e => by cases e), rfl, fun hn => ⟨_, rfl, (Array.getElem?_eq_some_iff.1 h3).1, fun i hi => ?_⟩⟩
   have := World.ownsRow.cells (g := g) h rfl i (.int .u8 (xs.getD i 0)) (by simp [u8s, List.getD, hi])
   exact this
theorem Own8.bs {A : Option Addr} {c : Nat} (h : Own8 w base (.slice A xs.length c) xs) : Bs w w.heap.size A xs.length xs := by
 obtain ⟨A', c', hv, _, _, _, hb⟩ := h.form
 cases hv
 exact hb
theorem Own8.at_ (h : Own8 w base v xs) {i : Nat} (hi : i < xs.length) : ∃ g c, v = .slice (some ⟨g, 0, none⟩) xs.length c ∧ base ≤ g ∧ g < w.heap.size ∧ w.cell? ⟨g, i, none⟩ = some (.int .u8 (xs.getD i 0)) ∧ w.frozen? ⟨g, i, none⟩ = false := by
 obtain ⟨A, c, rfl, _, _, _, hb⟩ := h.form
 rcases h.2 with ⟨hv, h0⟩ | ⟨g, cap, cur, hv, h2, h3, h4⟩
 · omega
 · cases hv
   refine ⟨g, c, rfl, h2, (Array.getElem?_eq_some_iff.1 h3).1, ?_, ?_⟩
   · obtain ⟨ad, e, _, hc⟩ := hb.2 (by omega)
     cases e
     have := hc i hi
     rwa [Addr.add_lit, Nat.zero_add] at this
   · simp [World.frozen?, h3]
end
theorem Own8.apart {w : World} {base : Nat} {v : Value} {xs : List Int} (h : Own8 w base v xs) {g : Nat} {t : TypeId} {cs : Array Value} (hg : Whole w g t cs) (he : 5 ≠ t) : v.ownBlock ≠ some g := fun e2 => by
 rcases h.2 with ⟨rfl, _⟩ | ⟨g', cap, cur, rfl, _, h3, _⟩
 · cases e2
 · have e3 : g' = g := by simpa [Value.ownBlock] using e2
   subst e3
   have e4 : some (Obj.cells cur 5 (0, 0)) = some (Obj.cells cs t (0, 0)) := Eq.trans (Eq.symm h3) hg
   injection e4 with e5
   injection e5 with _ e6
   exact he e6
theorem Own8.below {w w' : World} {base : Nat} {v : Value} {xs : List Int} (h : Own8 w base v xs) {w0 : World} (hb : Below base w0 w) (hB : base ≤ w.heap.size) (hg : w.grownBy w' v.ownBlock) : Below base w0 w' :=
 hb.grown hg hB (fun j hj => (h.lt hj).1)
end Go.Proofs.YtibpnjakimobmaaGreat
namespace Go.Proofs.YtibpnjakimobmaaGreat
open Go.RowKit
set_option linter.unusedVariables false
set_option linter.unusedSimpArgs false
structure CpIn (PI PO EO : TypeId) (w0 : World) (M : Array Value) (go : Nat) (ln cn : ByteArray) (L : List AttrS) (v : Value) (w : World) : Prop where
 low : Below w0.heap.size w0 w
 box : Whole w w0.heap.size PI M
 res : Whole w (w0.heap.size + 1) PO #[.string ⟨#[]⟩, .string ⟨#[]⟩, .slice none 0 0]
 out : Whole w go PO #[.string ln, .string cn, v]
 own : Own w w0.heap.size EO 2 v (L.map acell)
 hgo : w0.heap.size ≤ go
 hne : w0.heap.size + 1 ≠ go
section
variable {PI PO EO : TypeId} {w0 w w' : World} {M : Array Value} {go : Nat} {ln cn : ByteArray} {L : List AttrS} {v : Value}
theorem CpIn.alloc (h : CpIn PI PO EO w0 M go ln cn L v w) (o : Obj) : CpIn PI PO EO w0 M go ln cn L v (w.alloc o) := ⟨h.low.alloc h.low.size o, h.box.alloc o, h.res.alloc o, h.out.alloc o, h.own.alloc o, h.hgo, h.hne⟩
theorem CpIn.drew (h : CpIn PI PO EO w0 M go ln cn L v w) : CpIn PI PO EO w0 M go ln cn L v w.drew := ⟨h.low.drew, h.box, h.res, h.out, h.own, h.hgo, h.hne⟩
end
end Go.Proofs.YtibpnjakimobmaaGreat
namespace Go.Proofs.YtibpnjakimobmaaGreat
open Go.RowKit Go.Shelf
set_option linter.unusedVariables false
set_option linter.unusedSimpArgs false
def Cells (w w' : World) : Prop := ∀ (g : Nat) (t : TypeId) (cs : Array Value), Whole w g t cs → Whole w' g t cs
section
variable {base bm n : Nat} {w w' : World} {m : MediaS} {cs : List (CodecS × Value)} {vC vE vR vS vY : Value}
theorem Own.cells {e : TypeId} {sz : Nat} {v : Value} {rs : List (List Value)} (h : Own w base e sz v rs) (hk : Cells w w') : Own w' base e sz v rs := h.keep fun g cs _ hw => hk g e cs hw
theorem MW.cells (h : MW base bm n w m cs vC vE vR vS vY) (hk : Cells w w') : MW base bm n w' m cs vC vE vR vS vY :=
 ⟨h.eqC, hk _ _ _ h.box, h.hC.cells hk, fun c hc => (h.hF c hc).cells hk, h.hE.cells hk, h.hR.cells hk, h.hS.cells hk, h.hY.cells hk, h.ap, h.hbm, h.siz, h.lens⟩
end
abbrev zeroM : Array Value := #[.int .i64 0, .int .i64 0, .string ⟨#[]⟩, .int .i64 0, .slice none 0 0, .slice none 0 0, .slice none 0 0, .bool false, .slice none 0 0, .slice none 0 0, .int .i64 0]
end Go.Proofs.YtibpnjakimobmaaGreat
namespace Go.Proofs.YtibpnjakimobmaaGreat
open Go.RowKit
set_option linter.unusedVariables false
set_option linter.unusedSimpArgs false
end Go.Proofs.YtibpnjakimobmaaGreat
namespace Go.Proofs.YtibpnjakimobmaaGreat
open Go.RowKit Go.Shelf
set_option linter.unusedVariables false
set_option linter.unusedSimpArgs false
end Go.Proofs.YtibpnjakimobmaaGreat
namespace Go.Proofs.YtibpnjakimobmaaGreat
open Go.RowKit
set_option linter.unusedVariables false
set_option linter.unusedSimpArgs false
theorem ext_guard : Tryz.prog.eqGuardType Tryz.prog.depth 49 = false := by kernel_rfl
theorem CryptoS.ext' {a b : CryptoS} (h1 : a.tag = b.tag) (h2 : a.key = b.key) : a = b := by cases a; cases b; simp_all
instance : DecidableEq CryptoS := fun a b => if h : a.tag = b.tag ∧ a.key = b.key then isTrue (CryptoS.ext' h.1 h.2) else isFalse fun e => h (by rw [e]; exact ⟨rfl, rfl⟩)
theorem ExtS.ext' {a b : ExtS} (h1 : a.id = b.id) (h2 : a.uri = b.uri) : a = b := by cases a; cases b; simp_all
theorem ext_eq (x y : ExtS) (w : World) : (Op.equalIn 10000 49 (.agg #[.int .i64 x.id, .string x.uri]) (.agg #[.int .i64 y.id, .string y.uri])).run Tryz.prog w = .ok (x.id == y.id && x.uri.toList == y.uri.toList) w := by
 go_simp
 by_cases h1 : x.id = y.id <;> by_cases h2 : x.uri.toList = y.uri.toList <;> simp [h1, h2]
set_option maxHeartbeats 1600000 in
set_option maxRecDepth 100000 in
theorem equalT_any (v1 v2 : Value) (L M : List ByteArray) (w : World) (h1 : TextsV w w.heap.size v1 L) (h2 : TextsV w w.heap.size v2 M) : Calls Tryz.prog 50 #[v1, v2] w (SameB w L M) := by
 obtain ⟨A1, c1, rfl, hc1, hm1, _⟩ := Rows.form h1
 obtain ⟨A2, c2, rfl, hc2, hm2, _⟩ := Rows.form h2
 have H1 := Lib.hid h1
 have H2 := Lib.hid h2
 clear h1 h2
 obtain ⟨n, hn⟩ : ∃ n, L.length = n := ⟨_, rfl⟩
 obtain ⟨m, hm⟩ : ∃ m, M.length = m := ⟨_, rfl⟩
 have HN := Lib.hid hn
 have HM := Lib.hid hm
 rw [hn] at hc1
 rw [hm] at hc2
 rw [hn, hm]
 unfold maxLen at hm1 hm2
 clear hn hm
 by_cases hnm : n = m
 · subst hnm
   have hz : ((n : Int) == (n : Int)) = true := by simp
   go_enter Tryz.func50, Tryz.ntmps50
   go_wp2
   go_loopw [13] (fun s13 wr => ∃ k : Nat, k ≤ n ∧ s13 = .int .i64 k ∧ (∀ j, j < k → L[j]? = M[j]?) ∧ Below w.heap.size w wr) (fun s13 _ => n - (intOf s13).toNat)
   case atStart => exact ⟨0, Nat.zero_le _, rfl, (fun j hj => by omega), Below.refl _ w⟩
   case round =>
    obtain ⟨k, hk, rfl, hsame, hb⟩ := hrel
    have HS := Lib.hid (And.intro hsame hb)
    clear hsame
    by_cases hlt : k < n
    · obtain ⟨ad1, c1', e1, b1, x0⟩ := (H1.out.below hb).at_ (i := k) (by rw [HN.out]; exact hlt)
      obtain ⟨ad2, c2', e2, b2, y0⟩ := (H2.out.below hb).at_ (i := k) (by rw [HM.out]; exact hlt)
      injection e1 with e1 e1n e1c; clear e1n e1c
      injection e2 with e2 e2n e2c; clear e2n e2c
      subst e1 e2
      have gL := getD_of (L := L) (i := k) (by rw [HN.out]; exact hlt)
      have gM := getD_of (L := M) (i := k) (by rw [HM.out]; exact hlt)
      obtain ⟨a, ha⟩ : ∃ a, L.getD k default = a := ⟨_, rfl⟩
      obtain ⟨b, hbb⟩ : ∃ b, M.getD k default = b := ⟨_, rfl⟩
      rw [ha] at x0 gL
      rw [hbb] at y0 gM
      have HG := Lib.hid (And.intro gL gM)
      have hk0 : (0 : Int) ≤ (k : Int) := by omega
      have hk1 : (k : Int) < (n : Int) := by omega
      clear gL gM ha hbb
      by_cases heq : a = b
      · have hq : (a.toList == b.toList) = true := toList_beq.2 heq
        have HEQ := Lib.hid heq
        clear heq b1 b2 hb
        go_upto_region 6 with fail
        go_quiet (fail)
        go_wp2
        go_roundw
        case rel =>
         refine ⟨k + 1, by omega, by go_num, fun j hj => ?_, below_drewN' HS.out.2 _⟩
         by_cases e : j = k
         · subst e
           rw [HG.out.1, HG.out.2, HEQ.out]
         · exact HS.out.1 j (by omega)
        case measure => simp [intOf]; omega
      · have hq : (a.toList == b.toList) = false := toList_bne.2 heq
        have HNE : Hid (L ≠ M) := Lib.hid (fun e => by rw [e] at HG; have := HG.out.1.symm.trans HG.out.2; exact heq (Option.some.inj this))
        clear heq b1 b2 hb
        go_upto_region 6 with fail
        go_quiet (fail)
        go_wp2
        go_ret
        exact ⟨false, rfl, ⟨fun e => (by cases e), fun e => (HNE.out e).elim⟩, below_drewN' HS.out.2 _⟩
    · obtain rfl : k = n := by omega
      have HEQ : Hid (L = M) := Lib.hid (list_same (by rw [HN.out, HM.out]) (fun j hj => HS.out.1 j (by rw [HN.out] at hj; exact hj)))
      clear hb
      go_wp2
      go_ret
      exact ⟨true, rfl, ⟨fun _ => HEQ.out, fun _ => rfl⟩, HS.out.2⟩
 · have hz : ((n : Int) == (m : Int)) = false := by rw [beq_eq_false_iff_ne]; omega
   have HNE : Hid (L ≠ M) := Lib.hid (fun e => hnm (by rw [← HN.out, ← HM.out, e]))
   clear hnm
   go_enter Tryz.func50, Tryz.ntmps50
   go_wp2
   go_ret
   exact ⟨false, rfl, ⟨fun e => (by cases e), fun e => (HNE.out e).elim⟩, Below.refl _ w⟩
set_option maxHeartbeats 1600000 in
set_option maxRecDepth 100000 in
theorem sameTexts_any (v1 v2 : Value) (L M : List ByteArray) (w : World) (h1 : TextsV w w.heap.size v1 L) (h2 : TextsV w w.heap.size v2 M) : Calls Tryz.prog 14 #[v1, v2] w (SameB w L M) := by
 obtain ⟨A1, c1, rfl, hc1, hm1, _⟩ := Rows.form h1
 obtain ⟨A2, c2, rfl, hc2, hm2, _⟩ := Rows.form h2
 have H1 := Lib.hid h1
 have H2 := Lib.hid h2
 clear h1 h2
 obtain ⟨n, hn⟩ : ∃ n, L.length = n := ⟨_, rfl⟩
 obtain ⟨m, hm⟩ : ∃ m, M.length = m := ⟨_, rfl⟩
 have HN := Lib.hid hn
 have HM := Lib.hid hm
 rw [hn] at hc1
 rw [hm] at hc2
 rw [hn, hm]
 unfold maxLen at hm1 hm2
 clear hn hm
 by_cases hnm : n = m
 · subst hnm
   have hz : ((n : Int) == (n : Int)) = true := by simp
   go_enter Tryz.func14, Tryz.ntmps14
   go_wp2
   go_loopw [13] (fun s13 wr => ∃ k : Nat, k ≤ n ∧ s13 = .int .i64 k ∧ (∀ j, j < k → L[j]? = M[j]?) ∧ Below w.heap.size w wr) (fun s13 _ => n - (intOf s13).toNat)
   case atStart => exact ⟨0, Nat.zero_le _, rfl, (fun j hj => by omega), Below.refl _ w⟩
   case round =>
    obtain ⟨k, hk, rfl, hsame, hb⟩ := hrel
    have HS := Lib.hid (And.intro hsame hb)
    clear hsame
    by_cases hlt : k < n
    · obtain ⟨ad1, c1', e1, b1, x0⟩ := (H1.out.below hb).at_ (i := k) (by rw [HN.out]; exact hlt)
      obtain ⟨ad2, c2', e2, b2, y0⟩ := (H2.out.below hb).at_ (i := k) (by rw [HM.out]; exact hlt)
      injection e1 with e1 e1n e1c; clear e1n e1c
      injection e2 with e2 e2n e2c; clear e2n e2c
      subst e1 e2
      have gL := getD_of (L := L) (i := k) (by rw [HN.out]; exact hlt)
      have gM := getD_of (L := M) (i := k) (by rw [HM.out]; exact hlt)
      obtain ⟨a, ha⟩ : ∃ a, L.getD k default = a := ⟨_, rfl⟩
      obtain ⟨b, hbb⟩ : ∃ b, M.getD k default = b := ⟨_, rfl⟩
      rw [ha] at x0 gL
      rw [hbb] at y0 gM
      have HG := Lib.hid (And.intro gL gM)
      have hk0 : (0 : Int) ≤ (k : Int) := by omega
      have hk1 : (k : Int) < (n : Int) := by omega
      clear gL gM ha hbb
      by_cases heq : a = b
      · have hq : (a.toList == b.toList) = true := toList_beq.2 heq
        have HEQ := Lib.hid heq
        clear heq b1 b2 hb
        go_upto_region 6 with fail
        go_quiet (fail)
        go_wp2
        go_roundw
        case rel =>
         refine ⟨k + 1, by omega, by go_num, fun j hj => ?_, below_drewN' HS.out.2 _⟩
         by_cases e : j = k
         · subst e
           rw [HG.out.1, HG.out.2, HEQ.out]
         · exact HS.out.1 j (by omega)
        case measure => simp [intOf]; omega
      · have hq : (a.toList == b.toList) = false := toList_bne.2 heq
        have HNE : Hid (L ≠ M) := Lib.hid (fun e => by rw [e] at HG; have := HG.out.1.symm.trans HG.out.2; exact heq (Option.some.inj this))
        clear heq b1 b2 hb
        go_upto_region 6 with fail
        go_quiet (fail)
        go_wp2
        go_ret
        exact ⟨false, rfl, ⟨fun e => (by cases e), fun e => (HNE.out e).elim⟩, below_drewN' HS.out.2 _⟩
    · obtain rfl : k = n := by omega
      have HEQ : Hid (L = M) := Lib.hid (list_same (by rw [HN.out, HM.out]) (fun j hj => HS.out.1 j (by rw [HN.out] at hj; exact hj)))
      clear hb
      go_wp2
      go_ret
      exact ⟨true, rfl, ⟨fun _ => HEQ.out, fun _ => rfl⟩, HS.out.2⟩
 · have hz : ((n : Int) == (m : Int)) = false := by rw [beq_eq_false_iff_ne]; omega
   have HNE : Hid (L ≠ M) := Lib.hid (fun e => hnm (by rw [← HN.out, ← HM.out, e]))
   clear hnm
   go_enter Tryz.func14, Tryz.ntmps14
   go_wp2
   go_ret
   exact ⟨false, rfl, ⟨fun e => (by cases e), fun e => (HNE.out e).elim⟩, Below.refl _ w⟩
theorem sameBool {α : Type} (x y : α) : ∃ b : Bool, b = true ↔ x = y := by classical exact ⟨decide (x = y), by simp⟩
theorem SameB.fix {α : Type} {w w' : World} {x y : α} {e : Ending} {b0 : Bool} (h0 : b0 = true ↔ x = y) (h : SameB w x y e w') : e = .returned (.bool b0) ∧ Below w.heap.size w w' := by
 obtain ⟨b, rfl, hb, hw⟩ := h
 have : b = b0 := by rw [Bool.eq_iff_iff, hb, h0]
 exact ⟨by rw [this], hw⟩
theorem MediaS.ext' {a b : MediaS} (h1 : a.kind = b.kind) (h2 : a.port = b.port) (h3 : a.mid = b.mid) (h4 : a.dir = b.dir) (h5 : a.codecs = b.codecs) (h6 : a.exts = b.exts) (h7 : a.rids = b.rids) (h8 : a.sending = b.sending) (h9 : a.sources = b.sources) (h10 : a.crypto = b.crypto) (h11 : a.sctp = b.sctp) : a = b := by
 cases a; cases b; simp_all
theorem CodecS.ext' {a b : CodecS} (h1 : a.type = b.type) (h2 : a.name = b.name) (h3 : a.clock = b.clock) (h4 : a.chans = b.chans) (h5 : a.format = b.format) (h6 : a.feedback = b.feedback) : a = b := by
 cases a; cases b; simp_all
structure CodecV (w : World) (B : Nat) (C : Array Value) (c : CodecS) (vf : Value) : Prop where
 form : C = #[.int .i64 c.type, .string c.name, .int .i64 c.clock, .int .i64 c.chans, .string c.format, vf]
 feeds : TextsV w B vf c.feedback
theorem CodecV.below {w w' : World} {B : Nat} {C : Array Value} {c : CodecS} {vf : Value} (h : CodecV w B C c vf) (hb : Below B w w') : CodecV w' B C c vf := ⟨h.form, h.feeds.below hb⟩
theorem CodecV.more {w : World} {B B' : Nat} {C : Array Value} {c : CodecS} {vf : Value} (h : CodecV w B C c vf) (hB : B ≤ B') : CodecV w B' C c vf := ⟨h.form, h.feeds.more hB⟩
theorem CodecV.under {w w' : World} {C : Array Value} {c : CodecS} {vf : Value} (h : CodecV w w.heap.size C c vf) (hb : Below w.heap.size w w') : CodecV w' w'.heap.size C c vf := (h.below hb).more hb.size
theorem CodecV.size {w : World} {B : Nat} {C : Array Value} {c : CodecS} {vf : Value} (h : CodecV w B C c vf) : C.size = 6 := by rw [h.form]; rfl
theorem CodecV.one {w : World} {B : Nat} {C : Array Value} {c : CodecS} {vf : Value} (h : CodecV w B C c vf) : C.toList.all (·.oneCell') = true := by
 obtain ⟨A1, c1, rfl, -⟩ := Rows.form h.feeds
 rw [h.form]
 rfl
theorem CodecsV.cells {w : World} {B : Nat} {v : Value} {L : List CodecS} (h : CodecsV w B v L) {i : Nat} (hi : i < L.length) : ∃ ad c C vf, v = .slice (some ad) L.length c ∧ ad.block < B ∧ CodecV w B C (L.getD i default) vf ∧
 ∀ j u, C.toList[j]? = some u → w.cell? ((ad.add (i * 6)).add j) = some u := by
 obtain ⟨ad, c, h1, h2, _, _, q0, q1, q2, q3, q4, vf, q5, q6⟩ := Rows.at_ h (List.getElem?_eq_getElem hi)
 have e : L.getD i default = L[i] := by simp [List.getD, hi]
 rw [e]
 refine ⟨ad, c, _, vf, h1, h2, ⟨rfl, q6⟩, fun j u hu => ?_⟩
 rw [Go.Deep.add_add]
 match j, hu with
 | 0, hu => simp at hu; subst hu; exact q0
 | 1, hu => simp at hu; subst hu; exact q1
 | 2, hu => simp at hu; subst hu; exact q2
 | 3, hu => simp at hu; subst hu; exact q3
 | 4, hu => simp at hu; subst hu; exact q4
 | 5, hu => simp at hu; subst hu; exact q5
 | j + 6, hu => simp at hu
theorem two_boxes (w : World) (t : TypeId) (X Y : Array Value) : Below w.heap.size w ((w.alloc (.cells X t)).alloc (.cells Y t)) ∧ Whole ((w.alloc (.cells X t)).alloc (.cells Y t)) w.heap.size t X ∧ Whole ((w.alloc (.cells X t)).alloc (.cells Y t)) (w.heap.size + 1) t Y :=
 ⟨two_new _ _ _ _, (Whole.new w _ _).alloc _, Whole.new2 _ _ _ _⟩
end Go.Proofs.YtibpnjakimobmaaGreat
namespace Go.Proofs.YtibpnjakimobmaaGreat
set_option linter.unusedVariables false
set_option linter.unusedSimpArgs false
structure ConfigS where
 codecs : List CodecS
 exts : List ByteArray
 data : Bool
def inT (L : List ByteArray) (s : ByteArray) : Bool := (L.map tx).contains (tx s)
def alikeC (a b : CodecS) : Bool := decide (tx a.name = tx b.name) && decide (a.clock = b.clock) && decide (a.chans = b.chans)
def ownC (c : ConfigS) (o : CodecS) : Option CodecS := c.codecs.find? (alikeC · o)
def withF (o : CodecS) (x : CodecS) : CodecS := { o with feedback := o.feedback.filter (inT x.feedback) }
def commonC (c : ConfigS) (L : List CodecS) : List CodecS := L.filterMap fun o => (ownC c o).map (withF o)
def ableA (c : ConfigS) (m : MediaS) : Bool := if m.kind = 3 then c.data else !(commonC c m.codecs).isEmpty && !m.crypto.isEmpty
def takenA (B : List ByteArray) (c : ConfigS) (m : MediaS) : Bool := !decide (m.port = 0) && inT B m.mid && ableA c m
def swapD (d : Int) : Int := if d = 1 then 2 else if d = 2 then 1 else d
def takeA (c : ConfigS) (key : Tx) (m : MediaS) : MediaS := ⟨m.kind, 9, m.mid, swapD m.dir, commonC c m.codecs, m.exts.filter (fun x => inT c.exts x.uri), if m.sending then m.rids else [], false, [], m.crypto.map (fun y => ⟨y.tag, key⟩), m.sctp⟩
def dropA (m : MediaS) : MediaS := ⟨m.kind, 0, m.mid, 0, m.codecs, [], [], false, [], [], m.sctp⟩
def mediaA (B : List ByteArray) (c : ConfigS) (key : Tx) (m : MediaS) : MediaS := if takenA B c m = true then takeA c key m else dropA m
def tookT (m : MediaS) : Bool := !decide (m.port = 0)
def takenMids (M : List MediaS) : List ByteArray := (M.filter tookT).map MediaS.mid
def descA (o : DescS) (c : ConfigS) (id : Nat) (name pass : ByteArray) (key : Tx) : DescS :=
 ⟨id, o.ver, takenMids (o.media.map (mediaA o.bundle c key)), name, pass, o.media.map (mediaA o.bundle c key)⟩
def mayA (o : DescS) (c : ConfigS) (id : Nat) (name pass : ByteArray) (key : Tx) : Bool := goodD o && goodD (descA o c id name pass key)
def sameC4 (x c : CodecS) : Bool := decide (tx x.name = tx c.name) && decide (x.clock = c.clock) && decide (x.chans = c.chans) && decide (tx x.format = tx c.format) && c.feedback.all (inT x.feedback)
def codecs4 : List CodecS → List CodecS → Bool
 | _, [] => true
 | o, c :: r => match o.dropWhile (fun x => !decide (x.type = c.type)) with
   | [] => false
   | x :: o' => sameC4 x c && codecs4 o' r
def exts5 (o a : MediaS) : Bool := a.exts.all fun x => o.exts.any fun y => decide (y.id = x.id) && decide (tx y.uri = tx x.uri)
def dir6 (o a : MediaS) : Bool := decide (a.dir % 2 ≤ o.dir / 2) && decide (a.dir / 2 ≤ o.dir % 2)
def rids7 (o a : MediaS) : Bool := a.rids.all (inT o.rids) && (a.rids.isEmpty || (a.sending != o.sending))
def crypto8 (o a : MediaS) : Bool := if a.kind = 3 then !decide (a.sctp = 0) else decide (a.crypto.length = o.crypto.length) && (match a.crypto, o.crypto with
 | x :: _, y :: _ => decide (x.tag = y.tag)
 | _, _ => true)
def holdsR (rule : Nat) (o a : MediaS) : Bool :=
 if rule = 2 then decide (o.kind = a.kind) && decide (tx o.mid = tx a.mid)
 else if a.port = 0 then true
 else if rule = 3 then !decide (o.port = 0)
 else if rule = 4 then codecs4 o.codecs a.codecs
 else if rule = 5 then exts5 o a
 else if rule = 6 then dir6 o a
 else if rule = 7 then rids7 o a
 else crypto8 o a
def ruleAll (rule : Nat) (O A : List MediaS) : Bool := (O.zip A).all fun p => holdsR rule p.1 p.2
def bundle9 (o a : DescS) : Bool := (takenMids a.media).all (inT o.bundle) && decide ((takenMids a.media).map tx = a.bundle.map tx)
def rulesFrom (o a : DescS) : List Nat → Nat
 | [] => if bundle9 o a = true then (if o.ver = a.ver then 0 else 10) else 9
 | r :: rs => if ruleAll r o.media a.media = true then rulesFrom o a rs else r
def checkA (o a : DescS) : Nat := if (goodD o && goodD a && decide (o.media.length = a.media.length)) = true then rulesFrom o a [2, 3, 4, 5, 6, 7, 8] else 1
theorem goodM_types {m : MediaS} (h : goodM m = true) : (m.codecs.map CodecS.type).Nodup := by
 unfold goodM goodStreams goodChannel unlike at h
 simp only [Bool.and_eq_true, Bool.or_eq_true, decide_eq_true_eq] at h
 rcases h.2 with h2 | h2
 · exact h2.2.1.1.1.1.1.1.2.2
 · have : m.codecs = [] := List.eq_nil_of_length_eq_zero (by have := h2.2.1.1.1; omega)
   rw [this]
   exact List.nodup_nil
def alike5 (o c : CodecS) : Bool := decide (o.type = c.type) && decide (tx o.name = tx c.name) && decide (o.clock = c.clock) && decide (o.chans = c.chans) && decide (tx o.format = tx c.format)
def codecsJ : List CodecS → List CodecS → Bool
 | _, [] => true
 | o, c :: r => match o.dropWhile (fun x => !alike5 x c) with
   | [] => false
   | x :: o' => c.feedback.all (inT x.feedback) && codecsJ o' r
theorem dropWhile_none {α : Type} {p : α → Bool} : ∀ {L : List α}, (∀ x ∈ L, p x = true) → L.dropWhile p = []
 | [], _ => rfl
 | a :: L, h => by
   rw [List.dropWhile_cons, if_pos (h a (by simp))]
   exact dropWhile_none fun x hx => h x (by simp [hx])
theorem dropWhile_all {α : Type} {p : α → Bool} : ∀ {L : List α}, L.dropWhile p = [] → ∀ x ∈ L, p x = true
 | [], _, x, hx => by cases hx
 | a :: L, h, x, hx => by
   rw [List.dropWhile_cons] at h
   by_cases hp : p a = true
   · rw [if_pos hp] at h
     rcases List.mem_cons.1 hx with rfl | hx
     · exact hp
     · exact dropWhile_all h x hx
   · rw [if_neg hp] at h
     cases h
theorem dropWhile_split {α : Type} {p : α → Bool} : ∀ {L : List α} {x : α} {r : List α}, L.dropWhile p = x :: r → ∃ l, L = l ++ x :: r ∧ (∀ y ∈ l, p y = true) ∧ p x = false
 | [], x, r, h => by cases h
 | a :: L, x, r, h => by
   rw [List.dropWhile_cons] at h
   by_cases hp : p a = true
   · rw [if_pos hp] at h
     obtain ⟨l, rfl, h2, h3⟩ := dropWhile_split h
     exact ⟨a :: l, rfl, fun y hy => by
      rcases List.mem_cons.1 hy with rfl | hy
      · exact hp
      · exact h2 y hy, h3⟩
   · rw [if_neg hp] at h
     injection h with h1 h2
     subst h1 h2
     exact ⟨[], rfl, (fun y hy => by cases hy), by simpa using hp⟩
theorem dropWhile_app {α : Type} {p : α → Bool} {x : α} {r : List α} (hx : p x = false) : ∀ {l : List α}, (∀ y ∈ l, p y = true) → (l ++ x :: r).dropWhile p = x :: r
 | [], _ => by rw [List.nil_append, List.dropWhile_cons, hx]; rfl
 | a :: l, h => by
   rw [List.cons_append, List.dropWhile_cons, if_pos (h a (by simp))]
   exact dropWhile_app hx fun y hy => h y (by simp [hy])
theorem codecsJ_eq : ∀ (a o : List CodecS), (o.map CodecS.type).Nodup → codecsJ o a = codecs4 o a
 | [], o, _ => by cases o <;> rfl
 | c :: r, o, hn => by
   unfold codecsJ codecs4
   cases hd : o.dropWhile (fun x => !decide (x.type = c.type)) with
   | nil =>
     have h1 : ∀ x ∈ o, (fun x => !alike5 x c) x = true := fun x hx => by
      have h2 : ¬ x.type = c.type := by
       have := dropWhile_all hd x hx
       simpa using this
      show (!alike5 x c) = true
      unfold alike5
      simp [h2]
     rw [dropWhile_none h1]
   | cons x o' =>
     obtain ⟨l, rfl, h1, h2⟩ := dropWhile_split hd
     have hxt : x.type = c.type := by simpa using h2
     have hl : ∀ y ∈ l, (fun x => !alike5 x c) y = true := fun y hy => by
      have := h1 y hy
      have h3 : ¬ y.type = c.type := by simpa using this
      show (!alike5 y c) = true
      unfold alike5
      simp [h3]
     rw [List.map_append, List.map_cons, List.nodup_append, List.nodup_cons] at hn
     cases ha : alike5 x c with
     | true =>
       have e : (l ++ x :: o').dropWhile (fun x => !alike5 x c) = x :: o' := dropWhile_app (by simp [ha]) hl
       rw [e]
       have hs : sameC4 x c = c.feedback.all (inT x.feedback) := by
        unfold alike5 at ha
        unfold sameC4
        simp only [Bool.and_eq_true, decide_eq_true_eq] at ha
        obtain ⟨⟨⟨⟨a1, a2⟩, a3⟩, a4⟩, a5⟩ := ha
        simp [a2, a3, a4, a5]
       simp only [hs, codecsJ_eq r o' hn.2.1.2]
     | false =>
       have ho : ∀ y ∈ o', (fun x => !alike5 x c) y = true := fun y hy => by
        have h3 : ¬ y.type = c.type := fun e => hn.2.1.1 (List.mem_map.2 ⟨y, hy, by rw [e, hxt]⟩)
        show (!alike5 y c) = true
        unfold alike5
        simp [h3]
       have e : (l ++ x :: o').dropWhile (fun x => !alike5 x c) = [] := dropWhile_none fun y hy => by
        rcases List.mem_append.1 hy with hy | hy
        · exact hl y hy
        · rcases List.mem_cons.1 hy with rfl | hy
          · simp [ha]
          · exact ho y hy
       rw [e]
       have hs : sameC4 x c = false := by
        rw [Bool.eq_false_iff]
        intro h
        unfold sameC4 at h
        simp only [Bool.and_eq_true, decide_eq_true_eq] at h
        obtain ⟨⟨⟨⟨a2, a3⟩, a4⟩, a5⟩, _⟩ := h
        unfold alike5 at ha
        simp [hxt, a2, a3, a4, a5] at ha
       simp [hs]
def hasW (d way : Int) : Bool := if way = 1 then decide (d % 2 = 1) else decide (2 ≤ d)
def dirJ (o a : MediaS) : Bool := (!hasW a.dir 1 || hasW o.dir 2) && (!hasW a.dir 2 || hasW o.dir 1)
theorem dirJ_eq {o a : MediaS} (h1 : 0 ≤ o.dir) (h2 : o.dir ≤ 3) (h3 : 0 ≤ a.dir) (h4 : a.dir ≤ 3) : dirJ o a = dir6 o a := by
 unfold dirJ dir6 hasW
 generalize o.dir = x at *
 generalize a.dir = y at *
 have hx : x = 0 ∨ x = 1 ∨ x = 2 ∨ x = 3 := by omega
 have hy : y = 0 ∨ y = 1 ∨ y = 2 ∨ y = 3 := by omega
 rcases hx with rfl | rfl | rfl | rfl <;> rcases hy with rfl | rfl | rfl | rfl <;> rfl
def ridsJ (o a : MediaS) : Bool := a.rids.isEmpty || (a.rids.all (inT o.rids) && (a.sending != o.sending))
theorem ridsJ_eq (o a : MediaS) : ridsJ o a = rids7 o a := by
 unfold ridsJ rids7
 cases a.rids with
 | nil => rfl
 | cons x r => simp
def pairsA {α : Type} (q : α → α → Bool) (L M : List α) : Bool := decide (L.length = M.length) && (L.zip M).all fun p => q p.1 p.2
def tagQ (x y : CryptoS) : Bool := decide (x.tag = y.tag)
def transJ (o a : MediaS) : Bool := if a.kind = 3 then !decide (a.sctp = 0) else pairsA tagQ o.crypto a.crypto
theorem goodM_one {m : MediaS} (h : goodM m = true) : m.crypto.length ≤ 1 := by
 unfold goodM goodStreams goodChannel at h
 simp only [Bool.and_eq_true, Bool.or_eq_true, decide_eq_true_eq] at h
 rcases h.2 with h2 | h2
 · exact h2.2.1.2.1
 · have := h2.2.1.1.1; omega
theorem goodM_dir {m : MediaS} (h : goodM m = true) : 0 ≤ m.dir ∧ m.dir ≤ 3 := by
 unfold goodM goodHead at h
 simp only [Bool.and_eq_true, decide_eq_true_eq] at h
 exact ⟨h.1.1.2, h.1.2⟩
theorem transJ_eq {o a : MediaS} (h1 : goodM o = true) (h2 : goodM a = true) : transJ o a = crypto8 o a := by
 have e1 := goodM_one h1
 have e2 := goodM_one h2
 unfold transJ crypto8 pairsA tagQ
 split
 · rfl
 · match ho : o.crypto, ha : a.crypto with
   | [], [] => rfl
   | [], y :: r => simp
   | x :: r, [] => simp
   | [x], [y] =>
     simp [eq_comm]
   | x :: x2 :: r, _ => rw [ho] at e1; simp at e1
   | [x], y :: y2 :: r => rw [ha] at e2; simp at e2
def takenJ (q : MediaS → MediaS → Bool) (o a : MediaS) : Bool := decide (a.port = 0) || q o a
def placeQ (o a : MediaS) : Bool := decide (o.kind = a.kind) && decide (tx o.mid = tx a.mid)
def openQ (o _a : MediaS) : Bool := !decide (o.port = 0)
def codecsQ (o a : MediaS) : Bool := codecsJ o.codecs a.codecs
def ruleJ (o a : DescS) : Nat → Bool
 | 0 => goodD o && goodD a && decide (o.media.length = a.media.length)
 | 1 => pairsA placeQ o.media a.media
 | 2 => pairsA (takenJ openQ) o.media a.media
 | 3 => pairsA (takenJ codecsQ) o.media a.media
 | 4 => pairsA (takenJ exts5) o.media a.media
 | 5 => pairsA (takenJ dirJ) o.media a.media
 | 6 => pairsA (takenJ ridsJ) o.media a.media
 | 7 => pairsA (takenJ transJ) o.media a.media
 | 8 => bundle9 o a
 | _ => decide (o.ver = a.ver)
theorem pairs_rule {q : MediaS → MediaS → Bool} {O A : List MediaS} {r : Nat} (hl : O.length = A.length) (h : ∀ x ∈ O, ∀ y ∈ A, q x y = holdsR r x y) : pairsA q O A = ruleAll r O A := by
 unfold pairsA ruleAll
 rw [hl]
 simp only [decide_true, Bool.true_and]
 rw [Bool.eq_iff_iff, List.all_eq_true, List.all_eq_true]
 constructor
 · intro h1 p hp
   rw [← h p.1 (List.of_mem_zip hp).1 p.2 (List.of_mem_zip hp).2]
   exact h1 p hp
 · intro h1 p hp
   rw [h p.1 (List.of_mem_zip hp).1 p.2 (List.of_mem_zip hp).2]
   exact h1 p hp
theorem taken_rule {q : MediaS → MediaS → Bool} {o a : MediaS} {r : Nat} (hr : r ≠ 2) (h : a.port ≠ 0 → q o a = holdsR r o a) : takenJ q o a = holdsR r o a := by
 unfold takenJ
 by_cases hp : a.port = 0
 · unfold holdsR
   rw [if_neg hr, if_pos hp]
   simp [hp]
 · rw [h hp]
   simp [hp]
theorem holdsR_at {o a : MediaS} (hp : a.port ≠ 0) : holdsR 3 o a = openQ o a ∧ holdsR 4 o a = codecs4 o.codecs a.codecs ∧ holdsR 5 o a = exts5 o a ∧ holdsR 6 o a = dir6 o a ∧ holdsR 7 o a = rids7 o a ∧ holdsR 8 o a = crypto8 o a := by
 unfold holdsR openQ
 simp [hp]
theorem ruleJ_eq {o a : DescS} (h : ruleJ o a 0 = true) (r : Nat) (h2 : 2 ≤ r) (h8 : r ≤ 8) : ruleJ o a (r - 1) = ruleAll r o.media a.media := by
 unfold ruleJ at h
 simp only [Bool.and_eq_true, decide_eq_true_eq] at h
 obtain ⟨⟨ho, ha⟩, hl⟩ := h
 have gO := (goodD_parts ho).2.2.2.1
 have gA := (goodD_parts ha).2.2.2.1
 have hr : r = 2 ∨ r = 3 ∨ r = 4 ∨ r = 5 ∨ r = 6 ∨ r = 7 ∨ r = 8 := by omega
 rcases hr with rfl | rfl | rfl | rfl | rfl | rfl | rfl
 · exact pairs_rule hl fun x hx y hy => by unfold placeQ holdsR; rw [if_pos rfl]
 · exact pairs_rule hl fun x hx y hy => taken_rule (by decide) fun hp => (holdsR_at hp).1.symm
 · exact pairs_rule hl fun x hx y hy => taken_rule (by decide) fun hp => by rw [(holdsR_at hp).2.1]; exact codecsJ_eq _ _ (goodM_types (gO x hx))
 · exact pairs_rule hl fun x hx y hy => taken_rule (by decide) fun hp => (holdsR_at hp).2.2.1.symm
 · exact pairs_rule hl fun x hx y hy => taken_rule (by decide) fun hp => by rw [(holdsR_at hp).2.2.2.1]; exact dirJ_eq (goodM_dir (gO x hx)).1 (goodM_dir (gO x hx)).2 (goodM_dir (gA y hy)).1 (goodM_dir (gA y hy)).2
 · exact pairs_rule hl fun x hx y hy => taken_rule (by decide) fun hp => by rw [(holdsR_at hp).2.2.2.2.1]; exact ridsJ_eq _ _
 · exact pairs_rule hl fun x hx y hy => taken_rule (by decide) fun hp => by rw [(holdsR_at hp).2.2.2.2.2]; exact transJ_eq (gO x hx) (gA y hy)
theorem checkA_first {o a : DescS} {k : Nat} (hk : k < 10) (h : ∀ j, j < k → ruleJ o a j = true) (hf : ruleJ o a k = false) : checkA o a = k + 1 := by
 unfold checkA
 by_cases h0 : k = 0
 · subst h0
   have e : (goodD o && goodD a && decide (o.media.length = a.media.length)) = false := hf
   rw [e]
   rfl
 · have e0 := h 0 (by omega)
   have e : (goodD o && goodD a && decide (o.media.length = a.media.length)) = true := e0
   rw [if_pos e]
   have hr := fun r h2 h8 => ruleJ_eq e0 r h2 h8
   have hk9 : k = 1 ∨ k = 2 ∨ k = 3 ∨ k = 4 ∨ k = 5 ∨ k = 6 ∨ k = 7 ∨ k = 8 ∨ k = 9 := by omega
   have q1 := hr 2 (by omega) (by omega)
   have q2 := hr 3 (by omega) (by omega)
   have q3 := hr 4 (by omega) (by omega)
   have q4 := hr 5 (by omega) (by omega)
   have q5 := hr 6 (by omega) (by omega)
   have q6 := hr 7 (by omega) (by omega)
   have q7 := hr 8 (by omega) (by omega)
   simp only [Nat.reduceSub] at q1 q2 q3 q4 q5 q6 q7
   simp only [rulesFrom, ← q1, ← q2, ← q3, ← q4, ← q5, ← q6, ← q7]
   have p := fun j => h j
   have b9 : ruleJ o a 8 = bundle9 o a := rfl
   have b10 : ruleJ o a 9 = decide (o.ver = a.ver) := rfl
   rw [← b9]
   rcases hk9 with rfl | rfl | rfl | rfl | rfl | rfl | rfl | rfl | rfl <;> simp [p, hf]
   rw [b10] at hf
   simpa using hf
theorem checkA_none {o a : DescS} (h : ∀ j, j < 10 → ruleJ o a j = true) : checkA o a = 0 := by
 unfold checkA
 have e0 := h 0 (by omega)
 have e : (goodD o && goodD a && decide (o.media.length = a.media.length)) = true := e0
 rw [if_pos e]
 have hr := fun r h2 h8 => ruleJ_eq e0 r h2 h8
 have q1 := hr 2 (by omega) (by omega)
 have q2 := hr 3 (by omega) (by omega)
 have q3 := hr 4 (by omega) (by omega)
 have q4 := hr 5 (by omega) (by omega)
 have q5 := hr 6 (by omega) (by omega)
 have q6 := hr 7 (by omega) (by omega)
 have q7 := hr 8 (by omega) (by omega)
 simp only [Nat.reduceSub] at q1 q2 q3 q4 q5 q6 q7
 simp only [rulesFrom, ← q1, ← q2, ← q3, ← q4, ← q5, ← q6, ← q7]
 have b9 : ruleJ o a 8 = bundle9 o a := rfl
 have b10 : ruleJ o a 9 = decide (o.ver = a.ver) := rfl
 rw [← b9]
 have b11 := h 9 (by omega)
 rw [b10] at b11
 simp [h]
 simpa using b11
theorem pairs_yes {α : Type} [Inhabited α] {L M : List α} {n : Nat} {q : α → α → Bool} (hn : L.length = n) (hm : M.length = n) (h : ∀ j, j < n → q (L.getD j default) (M.getD j default) = true) : pairsA q L M = true := by
 unfold pairsA
 rw [hn, hm]
 simp only [decide_true, Bool.true_and, List.all_eq_true]
 intro p hp
 obtain ⟨j, hj, rfl⟩ := List.getElem_of_mem hp
 have hj' : j < n := by rw [List.length_zip, hn, hm] at hj; omega
 have := h j hj'
 rw [List.getElem_zip]
 simpa [List.getD, show j < L.length by omega, show j < M.length by omega] using this
theorem pairs_no {α : Type} [Inhabited α] {L M : List α} {n j : Nat} {q : α → α → Bool} (hn : L.length = n) (hm : M.length = n) (hj : j < n) (h : q (L.getD j default) (M.getD j default) = false) : pairsA q L M = false := by
 unfold pairsA
 rw [hn, hm]
 simp only [decide_true, Bool.true_and]
 rw [Bool.eq_false_iff]
 intro h1
 rw [List.all_eq_true] at h1
 have hl : j < (L.zip M).length := by rw [List.length_zip, hn, hm]; omega
 have := h1 _ (List.getElem_mem hl)
 rw [List.getElem_zip] at this
 simp [List.getD, show j < L.length by omega, show j < M.length by omega] at h
 rw [h] at this
 cases this
theorem pairs_len {α : Type} {L M : List α} {q : α → α → Bool} (h : L.length ≠ M.length) : pairsA q L M = false := by
 unfold pairsA
 simp [h]
end Go.Proofs.YtibpnjakimobmaaGreat
namespace Go.Proofs.YtibpnjakimobmaaGreat
open Go.RowKit
set_option linter.unusedVariables false
set_option linter.unusedSimpArgs false
def placeT (L : List ByteArray) (s : ByteArray) : Int := if inT L s = true then (L.findIdx (fun b => tx b == tx s) : Int) else -1
theorem inT_any (L : List ByteArray) (s : ByteArray) : (L.any fun b => tx b == tx s) = inT L s := by
 unfold inT
 rw [Bool.eq_iff_iff]
 simp only [List.any_eq_true, List.contains_iff_mem, List.mem_map, beq_iff_eq]
theorem place_some {L : List ByteArray} {s : ByteArray} {k : Nat} (hk : k < L.length) (h : ∀ j, j < k → (tx (L.getD j default) == tx s) = false) (hq : (tx (L.getD k default) == tx s) = true) : placeT L s = k := by
 have h1 : inT L s = true := by rw [← inT_any]; exact any_yes (q := fun b => tx b == tx s) hk hq
 unfold placeT
 rw [if_pos h1]
 have : L.findIdx (fun b => tx b == tx s) = k := (List.findIdx_eq hk).2 ⟨by simpa [List.getD, hk] using hq, fun j hj => by have := h j hj; simpa [List.getD, show j < L.length by omega] using this⟩
 rw [this]
theorem place_none {L : List ByteArray} {s : ByteArray} {n : Nat} (hn : L.length = n) (h : ∀ j, j < n → (tx (L.getD j default) == tx s) = false) : placeT L s = -1 := by
 have h1 : inT L s = false := by rw [← inT_any]; exact any_no (q := fun b => tx b == tx s) hn h
 unfold placeT
 rw [h1]
 rfl
theorem place_in {L : List ByteArray} {s : ByteArray} (h : inT L s = true) : ¬ placeT L s < 0 := by
 unfold placeT
 rw [if_pos h]
 omega
theorem place_out {L : List ByteArray} {s : ByteArray} (h : inT L s = false) : placeT L s < 0 := by
 unfold placeT
 simp [h]
set_option maxHeartbeats 1600000 in
set_option maxRecDepth 100000 in
theorem rIn_q (A : Option Addr) (n c : Nat) (s : ByteArray) (L : List ByteArray) (w : World) (h : TextsV w w.heap.size (.slice A n c) L) (hn : L.length = n) (hl : n ≤ 4611686018427387904) :
 Calls Tryz.prog 13 #[.slice A n c, .string s] w fun e w' => e = .returned (.int .i64 (placeT L s)) ∧ w' = w := by
 have HPS : Hid (∀ k, k < L.length → (∀ j, j < k → (tx (L.getD j default) == tx s) = false) → (tx (L.getD k default) == tx s) = true → placeT L s = k) := Lib.hid fun k h1 h2 h3 => place_some h1 h2 h3
 have HPN : Hid ((∀ j, j < n → (tx (L.getD j default) == tx s) = false) → placeT L s = -1) := Lib.hid fun h => place_none hn h
 generalize placeT L s = pl at *
 have HA := Lib.hid h
 have HE := Lib.hid hn
 obtain ⟨q, hq⟩ : ∃ q : ByteArray → Bool, (fun b => tx b == tx s) = q := ⟨_, rfl⟩
 have HQE : Hid (∀ b, (tx b == tx s) = q b) := Lib.hid fun b => by rw [← hq]
 have HQ : Hid (∀ x : ByteArray, (x.toList == s.toList) = q x) := Lib.hid fun x => by
  rw [← hq, toList_tx, toList_tx]
 simp only [HQE.out] at HPS HPN
 clear h hn hq
 go_enter Tryz.func13, Tryz.ntmps13
 go_wp2
 go_loopw [8] (fun s8 wr => ∃ k : Nat, k ≤ n ∧ s8 = .int .i64 k ∧ (∀ j, j < k → q (L.getD j default) = false) ∧ w = wr) (fun s8 _ => n - (intOf s8).toNat)
 case atStart => exact ⟨0, by omega, rfl, (fun j hj => by omega), by first | rfl | trivial⟩
 case round =>
  obtain ⟨k, hk, rfl, hno, rfl⟩ := hrel
  have HNO := Lib.hid hno
  clear hno
  by_cases hlt : k < n
  · have hlt' : k < L.length := by rw [HE.out]; exact hlt
    obtain ⟨ad, c', e1, had, c0⟩ := HA.out.at_ hlt'
    injection e1 with e1 e1n e1c
    clear e1n e1c
    subst e1
    obtain ⟨x, hx⟩ : ∃ x, L.getD k default = x := ⟨_, rfl⟩
    rw [hx] at c0
    have HX := Lib.hid (And.intro hx hlt')
    obtain ⟨b, hbb⟩ : ∃ b, (x.toList == s.toList) = b := ⟨_, rfl⟩
    have HBT : Hid (q x = b) := Lib.hid (by rw [← HQ.out, hbb])
    clear hx hlt' had
    have hk0 : (0 : Int) ≤ (k : Int) := by omega
    have hk1 : (k : Int) < (n : Int) := by omega
    go_upto_if 16 with fail
    clear hbb
    cases b with
    | true =>
      go_wp2
      go_ret
      exact ⟨by rw [HPS.out k HX.out.2 HNO.out (by rw [HX.out.1]; exact HBT.out)]; rfl, rfl⟩
    | false =>
      go_wp2
      go_roundw
      case rel =>
       refine ⟨k + 1, by omega, by go_num, fun j hj => ?_, by first | rfl | trivial⟩
       by_cases e : j = k
       · subst e
         rw [HX.out.1]
         exact HBT.out
       · exact HNO.out j (by omega)
      case measure => simp [intOf]; omega
  · have e : k = n := by omega
    subst e
    have HN : Hid (pl = -1) := Lib.hid (HPN.out HNO.out)
    go_wp2
    go_ret
    exact ⟨by rw [HN.out]; rfl, rfl⟩
set_option maxHeartbeats 1600000 in
set_option maxRecDepth 100000 in
theorem r10rids_any (X Y : Array Value) (x y : MediaS) (vC vE vR vS vY uC uE uR uS uY : Value) (w : World) (h1 : MediaV w w.heap.size X x vC vE vR vS vY) (h2 : MediaV w w.heap.size Y y uC uE uR uS uY) (hzx : SizM x) :
 Calls Tryz.prog 32 #[.agg X, .agg Y] w fun e w' => e = .returned (.bool (rids7 x y)) ∧ Below w.heap.size w w' := by
 obtain ⟨hb0, hbx, hby⟩ := two_boxes w 44 X Y
 obtain ⟨AX, cX, rfl, hcX, hmX, -⟩ := Rows.form h1.rids
 obtain ⟨AY, cY, rfl, hcY, hmY, -⟩ := Rows.form h2.rids
 obtain ⟨nx, hnx⟩ : ∃ n, x.rids.length = n := ⟨_, rfl⟩
 obtain ⟨ny, hny⟩ : ∃ n, y.rids.length = n := ⟨_, rfl⟩
 rw [hnx] at h1 hcX
 rw [hny] at h2 hcY
 unfold maxLen at hmX hmY
 have HNX := Lib.hid hnx
 have HNY := Lib.hid hny
 clear hnx hny
 have hcnt : nx ≤ 8796093021952 := by rw [← HNX.out]; exact hzx.counts.2.2.1
 have hx6 : X[6]? = some (.slice AX nx cX) := by rw [h1.form]; rfl
 have hx7 : X[7]? = some (.bool x.sending) := by rw [h1.form]; rfl
 have hy6 : Y[6]? = some (.slice AY ny cY) := by rw [h2.form]; rfl
 have hy7 : Y[7]? = some (.bool y.sending) := by rw [h2.form]; rfl
 have HX6 := Lib.hid hx6
 have HX7 := Lib.hid hx7
 have HY6 := Lib.hid hy6
 have HY7 := Lib.hid hy7
 obtain ⟨N, hN⟩ : ∃ N, w.heap.size = N := ⟨_, rfl⟩
 have H0 := Lib.hid (And.intro hb0 (And.intro hbx hby))
 have HV := Lib.hid (And.intro h1 h2)
 have HSZ : Hid ((X.size = 11 ∧ X.toList.all (·.oneCell') = true) ∧ Y.size = 11 ∧ Y.toList.all (·.oneCell') = true) := Lib.hid ⟨⟨h1.size, h1.one⟩, h2.size, h2.one⟩
 rw [hN] at H0 HV
 have HN := Lib.hid hN
 clear h1 h2 hb0 hbx hby hN hx6 hx7 hy6 hy7
 have HR : Hid (rids7 x y = (y.rids.all (inT x.rids) && (y.rids.isEmpty || (y.sending != x.sending)))) := Lib.hid rfl
 generalize rids7 x y = r at *
 go_enter Tryz.func32, Tryz.ntmps32
 go_upto_region 1 with fail
 simp only [HN.out, Nat.add_assoc, Nat.reduceAdd]
 generalize ((w.alloc (.cells X 44)).alloc (.cells Y 44)) = W0 at *
 have cx6 : W0.cell? ⟨N, 6, none⟩ = some (.slice AX nx cX) := (H0.out.2.1.cell 6).trans HX6.out
 have cx7 : W0.cell? ⟨N, 7, none⟩ = some (.bool x.sending) := (H0.out.2.1.cell 7).trans HX7.out
 have cy6 : W0.cell? ⟨N + 1, 6, none⟩ = some (.slice AY ny cY) := (H0.out.2.2.cell 6).trans HY6.out
 have cy7 : W0.cell? ⟨N + 1, 7, none⟩ = some (.bool y.sending) := (H0.out.2.2.cell 7).trans HY7.out
 have HF : Hid (∀ W, Below W0.heap.size W0 W → Below N w W ∧ W.cell? ⟨N, 6, none⟩ = some (.slice AX nx cX) ∧ W.cell? ⟨N, 7, none⟩ = some (.bool x.sending) ∧ W.cell? ⟨N + 1, 6, none⟩ = some (.slice AY ny cY) ∧ W.cell? ⟨N + 1, 7, none⟩ = some (.bool y.sending)) := Lib.hid fun W hW =>
  ⟨H0.out.1.trans (hW.mono (Nat.le_trans (Nat.le_of_lt H0.out.2.1.lt) (Nat.le_refl _))), ((H0.out.2.1.under hW).cell 6).trans HX6.out, ((H0.out.2.1.under hW).cell 7).trans HX7.out, ((H0.out.2.2.under hW).cell 6).trans HY6.out, ((H0.out.2.2.under hW).cell 7).trans HY7.out⟩
 have HN0 : Hid (N ≤ W0.heap.size) := Lib.hid (Nat.le_of_lt H0.out.2.1.lt)
 go_wp2
 clear cx6 cx7 cy6 cy7
 go_loopw [9] (fun s9 wr => ∃ k : Nat, k ≤ ny ∧ s9 = .int .i64 k ∧ (∀ j, j < k → inT x.rids (y.rids.getD j default) = true) ∧ Below W0.heap.size W0 wr) (fun s9 _ => ny - (intOf s9).toNat)
 case atStart => exact ⟨0, Nat.zero_le _, rfl, (fun j hj => by omega), Below.refl _ _⟩
 case round =>
  obtain ⟨k, hk, rfl, hall, hb⟩ := hrel
  have HS := Lib.hid (And.intro hall hb)
  obtain ⟨hbw, d6, d7, e6, e7⟩ := HF.out wr hb
  have HBW := Lib.hid hbw
  clear hall hb hbw
  by_cases hlt : k < ny
  · have hlt' : k < y.rids.length := by rw [HNY.out]; exact hlt
    obtain ⟨ad, c', e1, had, c0⟩ := (HV.out.2.rids.below HBW.out).at_ hlt'
    injection e1 with e1 e1n e1c
    clear e1n e1c
    subst e1
    obtain ⟨s, hs⟩ : ∃ s, y.rids.getD k default = s := ⟨_, rfl⟩
    rw [hs] at c0
    have HSK := Lib.hid (And.intro hs hlt')
    have HIN : Hid (∀ m, Calls Tryz.prog 13 #[.slice AX nx cX, .string s] (wr.drewN m) fun e w' => e = .returned (.int .i64 (placeT x.rids s)) ∧ w' = wr.drewN m) := Lib.hid fun m => rIn_q AX nx cX s x.rids (wr.drewN m) ((HV.out.1.rids.below (below_drewN' HBW.out m)).more (by have := HBW.out.size; have := HS.out.2.size; have := HN0.out; show N ≤ wr.heap.size; omega)) HNX.out (by omega)
    have hk0 : (0 : Int) ≤ (k : Int) := by omega
    have hk1 : (k : Int) < (ny : Int) := by omega
    clear hs hlt' had
    cases hi : inT x.rids s with
    | true =>
      have hp := place_in hi
      have HI := Lib.hid hi
      clear hi
      generalize placeT x.rids s = pl at *
      go_upto_region 4 with fail
      go_quiet ((go_at_call 13; exact Calls.quiet_of_same (HIN.out _)))
      go_wp2
      go_roundw
      case rel =>
       refine ⟨k + 1, by omega, by go_num, fun j hj => ?_, below_drewN' HS.out.2 _⟩
       by_cases e : j = k
       · subst e
         rw [HSK.out.1]
         exact HI.out
       · exact HS.out.1 j (by omega)
      case measure => simp [intOf]; omega
    | false =>
      have hp := place_out hi
      have HQ : Hid (r = false) := Lib.hid (by
       rw [HR.out]
       have : y.rids.all (inT x.rids) = false := by
        rw [Bool.eq_false_iff]
        intro h
        have := List.all_eq_true.1 h s (by rw [← HSK.out.1]; exact getD_mem HSK.out.2)
        rw [hi] at this
        cases this
       rw [this]
       rfl)
      clear hi
      generalize placeT x.rids s = pl at *
      go_upto_region 4 with fail
      go_quiet ((go_at_call 13; exact Calls.quiet_of_same (HIN.out _)))
      go_wp2
      go_ret
      exact ⟨ret_bool HQ.out.symm, by rw [HN.out]; exact below_drewN' HBW.out _⟩
  · obtain rfl : k = ny := by omega
    have HQ : Hid (r = (y.rids.isEmpty || (y.sending != x.sending))) := Lib.hid (by rw [HR.out, all_yesL HNY.out HS.out.1]; rfl)
    clear HR
    cases hl : y.rids with
    | nil =>
      have hk0 : k = 0 := by rw [← HNY.out, hl]; rfl
      rw [hl] at HQ
      subst hk0
      go_wp2
      go_ret
      exact ⟨ret_bool HQ.out.symm, by rw [HN.out]; exact HBW.out⟩
    | cons a l =>
      have hk0 : ((k : Int) == 0) = false := by rw [beq_eq_false_iff_ne, ← HNY.out, hl]; simp; omega
      have hk1 : ¬ (k : Int) = 0 := by simpa using hk0
      have HQ2 : Hid (r = (y.sending != x.sending)) := Lib.hid (by rw [HQ.out, hl]; rfl)
      clear HQ
      clear hl
      generalize y.sending = sy at *
      generalize x.sending = sx at *
      go_wp2
      go_ret
      exact ⟨ret_bool HQ2.out.symm, by rw [HN.out]; exact HBW.out⟩
theorem any_take {α : Type} [Inhabited α] {L : List α} {p : α → Bool} {k : Nat} (hk : k < L.length) : (L.take (k + 1)).any p = ((L.take k).any p || p (L.getD k default)) := by
 rw [List.take_add_one, List.getElem?_eq_getElem hk, List.any_append]
 simp [List.getD, hk]
def extIn (L : List ExtS) (e : ExtS) : Bool := L.any fun z => z.id == e.id && z.uri.toList == e.uri.toList
theorem exts5_in (x y : MediaS) : exts5 x y = y.exts.all (extIn x.exts) := by
 unfold exts5 extIn
 rw [Bool.eq_iff_iff]
 simp only [List.all_eq_true, List.any_eq_true, Bool.and_eq_true, decide_eq_true_eq, beq_iff_eq, toList_tx]
set_option maxHeartbeats 3200000 in
set_option maxRecDepth 100000 in
theorem r10exts_any (X Y : Array Value) (x y : MediaS) (vC vE vR vS vY uC uE uR uS uY : Value) (w : World) (h1 : MediaV w w.heap.size X x vC vE vR vS vY) (h2 : MediaV w w.heap.size Y y uC uE uR uS uY) :
 Calls Tryz.prog 31 #[.agg X, .agg Y] w fun e w' => e = .returned (.bool (exts5 x y)) ∧ Below w.heap.size w w' := by
 obtain ⟨hb0, hbx, hby⟩ := two_boxes w 44 X Y
 obtain ⟨AX, cX, rfl, hcX, hmX, -⟩ := Rows.form h1.exts
 obtain ⟨AY, cY, rfl, hcY, hmY, -⟩ := Rows.form h2.exts
 obtain ⟨nx, hnx⟩ : ∃ n, x.exts.length = n := ⟨_, rfl⟩
 obtain ⟨ny, hny⟩ : ∃ n, y.exts.length = n := ⟨_, rfl⟩
 rw [hnx] at h1 hcX
 rw [hny] at h2 hcY
 unfold maxLen at hmX hmY
 have HNX := Lib.hid hnx
 have HNY := Lib.hid hny
 clear hnx hny
 have hx5 : X[5]? = some (.slice AX nx cX) := by rw [h1.form]; rfl
 have hy5 : Y[5]? = some (.slice AY ny cY) := by rw [h2.form]; rfl
 have HX5 := Lib.hid hx5
 have HY5 := Lib.hid hy5
 obtain ⟨N, hN⟩ : ∃ N, w.heap.size = N := ⟨_, rfl⟩
 have H0 := Lib.hid (And.intro hb0 (And.intro hbx hby))
 have HV := Lib.hid (And.intro h1 h2)
 have HSZ : Hid ((X.size = 11 ∧ X.toList.all (·.oneCell') = true) ∧ Y.size = 11 ∧ Y.toList.all (·.oneCell') = true) := Lib.hid ⟨⟨h1.size, h1.one⟩, h2.size, h2.one⟩
 rw [hN] at H0 HV
 have HN := Lib.hid hN
 clear h1 h2 hb0 hbx hby hN hx5 hy5
 have HR : Hid (exts5 x y = y.exts.all (extIn x.exts)) := Lib.hid (exts5_in x y)
 generalize exts5 x y = r at *
 go_enter Tryz.func31, Tryz.ntmps31
 go_upto_region 1 with fail
 simp only [HN.out, Nat.add_assoc, Nat.reduceAdd]
 generalize ((w.alloc (.cells X 44)).alloc (.cells Y 44)) = W0 at *
 have cx5 : W0.cell? ⟨N, 5, none⟩ = some (.slice AX nx cX) := (H0.out.2.1.cell 5).trans HX5.out
 have cy5 : W0.cell? ⟨N + 1, 5, none⟩ = some (.slice AY ny cY) := (H0.out.2.2.cell 5).trans HY5.out
 have HF : Hid (∀ W, Below W0.heap.size W0 W → Below N w W ∧ W.cell? ⟨N, 5, none⟩ = some (.slice AX nx cX) ∧ W.cell? ⟨N + 1, 5, none⟩ = some (.slice AY ny cY)) := Lib.hid fun W hW =>
  ⟨H0.out.1.trans (hW.mono (Nat.le_of_lt H0.out.2.1.lt)), ((H0.out.2.1.under hW).cell 5).trans HX5.out, ((H0.out.2.2.under hW).cell 5).trans HY5.out⟩
 have hgd := ext_guard
 go_wp2
 clear cx5 cy5
 go_loopw [11] (fun s11 wr => ∃ k : Nat, k ≤ ny ∧ s11 = .int .i64 k ∧ (∀ j, j < k → extIn x.exts (y.exts.getD j default) = true) ∧ Below W0.heap.size W0 wr) (fun s11 _ => ny - (intOf s11).toNat)
 case atStart => exact ⟨0, Nat.zero_le _, rfl, (fun j hj => by omega), Below.refl _ _⟩
 case round =>
  obtain ⟨k, hk, rfl, hall, hb⟩ := hrel
  have HS := Lib.hid (And.intro hall hb)
  obtain ⟨hbw, d5, e5⟩ := HF.out wr hb
  have HBW := Lib.hid hbw
  clear hall hb hbw
  by_cases hlt : k < ny
  · have hlt' : k < y.exts.length := by rw [HNY.out]; exact hlt
    obtain ⟨ad, c', e1, had, -, -⟩ := (HV.out.2.exts.below HBW.out).at_ hlt'
    injection e1 with e1 e1n e1c
    clear e1n e1c
    subst e1
    obtain ⟨z, hz⟩ : ∃ s, y.exts.getD k default = s := ⟨_, rfl⟩
    have HAY : Hid (∀ W, Below W0.heap.size W0 W → W.cell? (ad.add (k * 2)) = some (.int .i64 z.id) ∧ W.cell? ⟨(ad.add (k * 2)).block, (ad.add (k * 2)).off + 1, none⟩ = some (.string z.uri)) := Lib.hid fun W hW => by
     obtain ⟨ad', c2, e2, -, q0, q1⟩ := (HV.out.2.exts.below (HF.out W hW).1).at_ hlt'
     injection e2 with e2 _ _
     obtain rfl := Option.some.inj e2
     rw [hz] at q0 q1
     exact ⟨q0, q1⟩
    have HSK := Lib.hid (And.intro hz hlt')
    have hk0 : (0 : Int) ≤ (k : Int) := by omega
    have hk1 : (k : Int) < (ny : Int) := by omega
    clear hz hlt' had
    obtain ⟨p, hp⟩ : ∃ p : ExtS → Bool, (fun u : ExtS => u.id == z.id && u.uri.toList == z.uri.toList) = p := ⟨_, rfl⟩
    have HEI : Hid (extIn x.exts z = x.exts.any p) := Lib.hid (by unfold extIn; rw [hp])
    have HEQ : Hid (∀ (u : ExtS) W, (Op.equalIn 10000 49 (.agg #[.int .i64 u.id, .string u.uri]) (.agg #[.int .i64 z.id, .string z.uri])).run Tryz.prog W = .ok (p u) W) := Lib.hid fun u W => by rw [ext_eq, ← hp]
    clear hp
    go_wp2
    go_loopw [17, 6] (fun s17 s6 wq => ∃ j : Nat, j ≤ nx ∧ s17 = .int .i64 j ∧ s6 = .bool ((x.exts.take j).any p) ∧ Below W0.heap.size W0 wq) (fun s17 _ _ => nx - (intOf s17).toNat)
    case atStart => exact ⟨0, Nat.zero_le _, rfl, rfl, HS.out.2⟩
    case round =>
     obtain ⟨j, hj, rfl, rfl, hbq⟩ := hrel
     obtain ⟨hbw2, d5', e5'⟩ := HF.out wr hbq
     obtain ⟨g0, g1⟩ := HAY.out wr hbq
     have HQ2 := Lib.hid (And.intro hbq hbw2)
     clear hbq hbw2
     by_cases hjl : j < nx
     · have hjl' : j < x.exts.length := by rw [HNX.out]; exact hjl
       obtain ⟨ad2, c2, e2, -, f0, f1⟩ := (HV.out.1.exts.below HQ2.out.2).at_ hjl'
       injection e2 with e2 e2n e2c
       clear e2n e2c
       subst e2
       obtain ⟨u, hu⟩ : ∃ s, x.exts.getD j default = s := ⟨_, rfl⟩
       rw [hu] at f0 f1
       have HT : Hid ((x.exts.take (j + 1)).any p = ((x.exts.take j).any p || p u)) := Lib.hid (by rw [any_take hjl', hu])
       obtain ⟨b, hb⟩ : ∃ b, (x.exts.take j).any p = b := ⟨_, rfl⟩
       rw [hb] at HT ⊢
       have hj0 : (0 : Int) ≤ (j : Int) := by omega
       have hj1 : (j : Int) < (nx : Int) := by omega
       clear hb hu hjl'
       cases b with
       | true =>
         go_upto_region 8 with fail
         go_quiet (fail)
         go_wp2
         go_roundw
         case rel => exact ⟨j + 1, by omega, by go_num, by rw [HT.out]; rfl, below_drewN' HQ2.out.1 _⟩
         case measure => simp [intOf]; omega
       | false =>
         have hq := HEQ.out u
         generalize p u = pu at *
         go_upto_region 8 with fail
         go_quiet (fail)
         go_wp2
         go_roundw
         case rel => exact ⟨j + 1, by omega, by go_num, by rw [HT.out]; rfl, below_drewN' HQ2.out.1 _⟩
         case measure => simp [intOf]; omega
     · obtain rfl : j = nx := by omega
       have HT : Hid ((x.exts.take j).any p = extIn x.exts z) := Lib.hid (by rw [HEI.out, List.take_of_length_le (by rw [HNX.out]; exact Nat.le_refl _)])
       rw [HT.out]
       cases hi : extIn x.exts z with
       | true =>
         have HI := Lib.hid hi
         clear hi
         go_wp2
         go_roundw
         case rel =>
          refine ⟨k + 1, by omega, by go_num, fun j hj => ?_, HQ2.out.1⟩
          by_cases e : j = k
          · subst e
            rw [HSK.out.1]
            exact HI.out
          · exact HS.out.1 j (by omega)
         case measure => simp [intOf]; omega
       | false =>
         have HQ : Hid (r = false) := Lib.hid (by
          rw [HR.out, Bool.eq_false_iff]
          intro h
          have := List.all_eq_true.1 h z (by rw [← HSK.out.1]; exact getD_mem HSK.out.2)
          rw [hi] at this
          cases this)
         clear hi
         go_wp2
         go_ret
         exact ⟨ret_bool HQ.out.symm, by rw [HN.out]; exact HQ2.out.2⟩
  · obtain rfl : k = ny := by omega
    have HQ : Hid (r = true) := Lib.hid (by rw [HR.out]; exact all_yesL HNY.out HS.out.1)
    go_wp2
    go_ret
    exact ⟨ret_bool HQ.out.symm, by rw [HN.out]; exact HBW.out⟩
set_option maxHeartbeats 3200000 in
set_option maxRecDepth 100000 in
theorem r10crypto_any (X Y : Array Value) (x y : MediaS) (vC vE vR vS vY uC uE uR uS uY : Value) (w : World) (h1 : MediaV w w.heap.size X x vC vE vR vS vY) (h2 : MediaV w w.heap.size Y y uC uE uR uS uY) :
 Calls Tryz.prog 33 #[.agg X, .agg Y] w fun e w' => e = .returned (.bool (crypto8 x y)) ∧ Below w.heap.size w w' := by
 obtain ⟨hb0, hbx, hby⟩ := two_boxes w 44 X Y
 obtain ⟨AX, cX, rfl, hcX, hmX, -⟩ := Rows.form h1.crypto
 obtain ⟨AY, cY, rfl, hcY, hmY, -⟩ := Rows.form h2.crypto
 obtain ⟨nx, hnx⟩ : ∃ n, x.crypto.length = n := ⟨_, rfl⟩
 obtain ⟨ny, hny⟩ : ∃ n, y.crypto.length = n := ⟨_, rfl⟩
 rw [hnx] at h1 hcX
 rw [hny] at h2 hcY
 unfold maxLen at hmX hmY
 have HNX := Lib.hid hnx
 have HNY := Lib.hid hny
 clear hnx hny
 have hx9 : X[9]? = some (.slice AX nx cX) := by rw [h1.form]; rfl
 have hy0 : Y[0]? = some (.int .i64 y.kind) := by rw [h2.form]; rfl
 have hy9 : Y[9]? = some (.slice AY ny cY) := by rw [h2.form]; rfl
 have hy10 : Y[10]? = some (.int .i64 y.sctp) := by rw [h2.form]; rfl
 have HX9 := Lib.hid hx9
 have HY0 := Lib.hid hy0
 have HY9 := Lib.hid hy9
 have HY10 := Lib.hid hy10
 obtain ⟨N, hN⟩ : ∃ N, w.heap.size = N := ⟨_, rfl⟩
 have H0 := Lib.hid (And.intro hb0 (And.intro hbx hby))
 have HV := Lib.hid (And.intro h1 h2)
 have HSZ : Hid ((X.size = 11 ∧ X.toList.all (·.oneCell') = true) ∧ Y.size = 11 ∧ Y.toList.all (·.oneCell') = true) := Lib.hid ⟨⟨h1.size, h1.one⟩, h2.size, h2.one⟩
 rw [hN] at H0 HV
 have HN := Lib.hid hN
 clear h1 h2 hb0 hbx hby hN hx9 hy0 hy9 hy10
 have HR : Hid (crypto8 x y = if y.kind = 3 then !decide (y.sctp = 0) else decide (y.crypto.length = x.crypto.length) && (match y.crypto, x.crypto with
 | a :: _, b :: _ => decide (a.tag = b.tag)
 | _, _ => true)) := Lib.hid rfl
 generalize crypto8 x y = r at *
 go_enter Tryz.func33, Tryz.ntmps33
 go_upto_region 1 with fail
 simp only [HN.out, Nat.add_assoc, Nat.reduceAdd]
 generalize ((w.alloc (.cells X 44)).alloc (.cells Y 44)) = W0 at *
 have cx9 : W0.cell? ⟨N, 9, none⟩ = some (.slice AX nx cX) := (H0.out.2.1.cell 9).trans HX9.out
 have cy0 : W0.cell? ⟨N + 1, 0, none⟩ = some (.int .i64 y.kind) := (H0.out.2.2.cell 0).trans HY0.out
 have cy9 : W0.cell? ⟨N + 1, 9, none⟩ = some (.slice AY ny cY) := (H0.out.2.2.cell 9).trans HY9.out
 have cy10 : W0.cell? ⟨N + 1, 10, none⟩ = some (.int .i64 y.sctp) := (H0.out.2.2.cell 10).trans HY10.out
 by_cases h3 : y.kind = 3
 · have h3' : (y.kind == 3) = true := by simpa using h3
   have HQ : Hid (r = !(y.sctp == 0)) := Lib.hid (by rw [HR.out, if_pos h3]; rfl)
   clear h3
   generalize y.kind = yk at *
   obtain ⟨b, hb⟩ : ∃ b, (y.sctp == 0) = b := ⟨_, rfl⟩
   have hb' : (y.sctp != 0) = !b := by rw [← hb]; rfl
   rw [hb] at HQ
   generalize y.sctp = ys at *
   go_wp2
   go_ret
   exact ⟨ret_bool HQ.out.symm, by rw [HN.out]; exact H0.out.1⟩
 · have h3' : (y.kind == 3) = false := by simpa using h3
   have HQ : Hid (r = (decide (y.crypto.length = x.crypto.length) && (match y.crypto, x.crypto with
    | a :: _, b :: _ => decide (a.tag = b.tag)
    | _, _ => true))) := Lib.hid (by rw [HR.out, if_neg h3])
   clear HR h3
   generalize y.kind = yk at *
   by_cases hl : ny = nx
   · subst hl
     have hl' : ((ny : Int) != (ny : Int)) = false := by simp
     cases hx : x.crypto with
     | nil =>
       have h0 : ny = 0 := by rw [← HNX.out, hx]; rfl
       subst h0
       have HQ2 : Hid (r = true) := Lib.hid (by rw [HQ.out, HNX.out, HNY.out, hx]; cases y.crypto <;> rfl)
       clear HQ hx
       go_upto_region 5 with fail
       go_quiet (fail)
       go_wp2
       go_ret
       exact ⟨ret_bool HQ2.out.symm, by rw [HN.out]; exact below_drewN' H0.out.1 _⟩
     | cons a l =>
       cases hy : y.crypto with
       | nil => exact absurd HNY.out (by rw [hy, ← HNX.out, hx]; simp)
       | cons b l2 =>
         have hne : ((ny : Int) == 0) = false := by rw [beq_eq_false_iff_ne, ← HNX.out, hx]; simp; omega
         have hpos : (0 : Int) < (ny : Int) := by rw [← HNX.out, hx]; simp
         have HQ2 : Hid (r = (b.tag == a.tag)) := Lib.hid (by rw [HQ.out, HNX.out, HNY.out, hx, hy]; rw [Bool.eq_iff_iff]; simp)
         obtain ⟨ad1, k1, e1, -, -, q1⟩ := (HV.out.1.crypto.below H0.out.1).at_ (i := 0) (by rw [hx]; simp)
         obtain ⟨ad2, k2, e2, -, -, q2⟩ := (HV.out.2.crypto.below H0.out.1).at_ (i := 0) (by rw [hy]; simp)
         injection e1 with e1 e1n e1c; clear e1n e1c
         injection e2 with e2 e2n e2c; clear e2n e2c
         subst e1 e2
         have t1 : W0.cell? (ad1.add (0 * 31)) = some (.int .i64 a.tag) := by
          have := q1 0 (.int .i64 a.tag) (by rw [hx]; rfl)
          exact this
         have t2 : W0.cell? (ad2.add (0 * 31)) = some (.int .i64 b.tag) := by
          have := q2 0 (.int .i64 b.tag) (by rw [hy]; rfl)
          exact this
         rw [Nat.zero_mul] at t1 t2
         have z1 : ad1.add 0 = ad1 := rfl
         have z2 : ad2.add 0 = ad2 := rfl
         rw [z1] at t1
         rw [z2] at t2
         obtain ⟨q, hq⟩ : ∃ q, (b.tag == a.tag) = q := ⟨_, rfl⟩
         rw [hq] at HQ2
         clear q1 q2 HQ hx hy
         generalize a.tag = ta at *
         generalize b.tag = tb at *
         go_upto_region 5 with fail
         go_quiet (fail)
         go_wp2
         go_ret
         exact ⟨ret_bool HQ2.out.symm, by rw [HN.out]; exact below_drewN' H0.out.1 _⟩
   · have hl' : ((ny : Int) != (nx : Int)) = true := by simp; omega
     have HQ2 : Hid (r = false) := Lib.hid (by rw [HQ.out, HNX.out, HNY.out, decide_eq_false hl]; rfl)
     go_wp2
     go_ret
     exact ⟨ret_bool HQ2.out.symm, by rw [HN.out]; exact H0.out.1⟩
end Go.Proofs.YtibpnjakimobmaaGreat
