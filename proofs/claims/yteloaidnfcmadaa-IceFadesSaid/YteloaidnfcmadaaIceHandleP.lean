/- What Handle comes to, and what is known while it runs. -/
import Derived.Test.YteloaidnfcmadaaIceNom
import Derived.Test.YteloaidnfcmadaaIceDoubt
import Derived.Test.YteloaidnfcmadaaIceSigned
namespace Go.Proofs.Yteloaidnfcmadaa
open Go.RowKit
set_option linter.unusedVariables false

/-- A request that is fine in all. -/
def Good (s : Ag) (m : Msg) : Prop := m.cl = 0 ∧ m.me = 1 ∧ NoDoubt s m ∧ NoFault m.at_
def Ag.tick (s : Ag) (now : Int) : Ag := { s with clk := max s.clk now }
/-- What a call of Handle comes to. -/
def HandleV (base ga : Nat) (v : Value) (s : Ag) (xs : List Int) (ip port now : Int) (w : World) (e : Ending) (w' : World) : Prop :=
  ∃ vr x s' v', e = .returned (.tuple #[vr, .int .i64 x]) ∧ AgV w' base ga v' s' ∧ Stepped ga v v' w w' ∧
    ((x = 0 ∧ ∃ m ps, Is xs m ∧ Good s m ∧ CkV (s.tick now) ip port true ps ∧ s' = (s.tick now).put (if (findP m.at_ 37).isSome = true then ps.map (nomBy ip port) else ps) ∧ V8 w' w'.heap.size vr (signB (succP m ip port) (nums s.pw))) ∨
     (x ≠ 0 ∧ s' = s.tick now ∧ ((∀ m, Is xs m → ¬ Good s m) ∨ CkV (s.tick now) ip port false (s.tick now).ps)))

/-- A message whose attributes are rows of their own. -/
def FirmV (w : World) (fb : Nat) (M : Array Value) (m : Msg) (A : Option Addr) (c : Nat) : Prop := ∃ ps, MsgV w w.heap.size M m A c ∧ Row2 92 w fb (.slice A m.at_.length c) ps ∧ ElsO w fb ps m.at_ ∧ fb ≤ w.heap.size
theorem FirmV.on {w w' : World} {fb : Nat} {M : Array Value} {m : Msg} {A : Option Addr} {c : Nat} (h : FirmV w fb M m A c) (hk : ∀ g cs, Whole w g 92 cs → Whole w' g 92 cs) (hk8 : Kept8 w w') (hs : w.heap.size ≤ w'.heap.size) : FirmV w' fb M m A c := by
  obtain ⟨ps, h1, h2, h3, h4⟩ := h
  obtain ⟨k1, k2, k3⟩ := firm_keep h1 h2 h3 hk hk8 hs h4
  exact ⟨ps, k1, k2, k3, Nat.le_trans h4 hs⟩
theorem FirmV.under {w w' : World} {fb : Nat} {M : Array Value} {m : Msg} {A : Option Addr} {c : Nat} (h : FirmV w fb M m A c) (hb : Below w.heap.size w w') : FirmV w' fb M m A c := h.on (fun g cs hg => hg.under hb) (Kept8.under hb) hb.size

/-- What is known behind Parse. -/
structure Kn (base ga N gm fb : Nat) (v0 : Value) (ip port : Int) (M : Array Value) (m : Msg) (A : Option Addr) (c : Nat) (w W : World) (v : Value) (s : Ag) : Prop where
  ag : AgV W base ga v s
  step : Stepped ga v0 v w W
  adr : Whole W N 33 #[.int .u32 ip, .int .u16 port]
  box : Whole W gm 69 M
  firm : FirmV W fb M m A c
section
variable {base ga N gm fb : Nat} {v0 v v' : Value} {ip port : Int} {M : Array Value} {m : Msg} {A : Option Addr} {c : Nat} {w W W' : World} {s s' : Ag}
theorem Kn.under (h : Kn base ga N gm fb v0 ip port M m A c w W v s) (hb : Below W.heap.size W W') : Kn base ga N gm fb v0 ip port M m A c w W' v s :=
  ⟨h.ag.under hb, h.step.under hb, h.adr.under hb, h.box.under hb, h.firm.under hb⟩
theorem Kn.move (h : Kn base ga N gm fb v0 ip port M m A c w W v s) (hA : AgV W' base ga v' s') (hs : Stepped ga v v' W W') : Kn base ga N gm fb v0 ip port M m A c w W' v' s' :=
  ⟨hA, h.step.trans hs, h.adr.only hs.only (h.ag.not_mine h.adr (by decide) (by decide)), h.box.only hs.only (h.ag.not_mine h.box (by decide) (by decide)),
    h.firm.on (fun g cs hg => hg.only hs.only (h.ag.not_mine hg (by decide) (by decide))) (fun g cs hg => hg.only hs.only (h.ag.not_mine hg (by decide) (by decide))) hs.only.size⟩
theorem Kn.msg (h : Kn base ga N gm fb v0 ip port M m A c w W v s) : MsgV W W.heap.size M m A c := by
  obtain ⟨ps, h1, _⟩ := h.firm
  exact h1
theorem Kn.size (h : Kn base ga N gm fb v0 ip port M m A c w W v s) : M.size = 15 := h.msg.size
end
/-- The clock is set. -/
theorem AgV.tick {w : World} {base ga : Nat} {v : Value} {s : Ag} {now : Int} (h : AgV w base ga v s) (hn : now < 9223372036854775808) :
    AgV (w.setCell ⟨ga, 3, none⟩ (.int .i64 (max s.clk now))) base ga v (s.tick now) ∧ Stepped ga v v w (w.setCell ⟨ga, 3, none⟩ (.int .i64 (max s.clk now))) := by
  have h0 := h.c0
  have h1 := h.c1
  refine ⟨⟨h.box.set 3 _, h.row.keep fun g cs _ hw => hw.far (p := ⟨ga, 3, none⟩) (hw.ne h.box (by decide)) _, h.low, h.few, ?_, ?_, fun p hp => ?_, h.ns, h.ws⟩, ⟨(Only.refl _ w).setCell (p := ⟨ga, 3, none⟩) (.inl (.inl rfl)) _, .inl rfl⟩⟩
  · show 0 ≤ max s.clk now
    omega
  · show max s.clk now < 9223372036854775808
    omega
  · have := h.last p hp
    refine ⟨this.1, ?_⟩
    show p.last ≤ max s.clk now
    omega
theorem mapB_len (ip port : Int) : (mapB ip port).length = 8 := rfl
theorem succ_can {m : Msg} {ip port : Int} (hf : Fine m) (hm : m.me = 1) : CanSign (succP m ip port) ∧ Fine (succP m ip port) := by
  refine ⟨⟨?_, ?_⟩, ⟨hf.id12, hf.idb, ?_, ?_⟩⟩
  · intro a ha
    simp only [succP, List.mem_singleton] at ha
    subst ha
    simp
  · refine ⟨by simp [with2, succP], by simp [with2, succP], ?_, ?_, by simp [with2, succP], ?_, ?_⟩
    · show 0 ≤ m.me
      omega
    · show m.me ≤ 4095
      omega
    · intro a ha
      simp only [with2, succP, List.cons_append, List.nil_append, List.mem_cons, List.not_mem_nil, or_false] at ha
      rcases ha with rfl | rfl | rfl
      · show (mapB ip port).length ≤ 512
        rw [mapB_len]
        omega
      · show z20.length ≤ 512
        rw [z20_len]
        omega
      · show z4.length ≤ 512
        rw [z4_len]
        omega
    · rw [with2_size z20_len z4_len]
      simp only [szN, succP, bodySize, atSize, mapB_len, padN]
      omega
  · intro a ha
    simp only [succP, List.mem_singleton] at ha
    subst ha
    exact ⟨by simp, by simp⟩
  · intro a ha
    simp only [succP, List.mem_singleton] at ha
    subst ha
    exact In256.append (a := [0, 1]) (In256.of_all (by simp)) (In256.append (in256_be2 _) (in256_be4 _))
end Go.Proofs.Yteloaidnfcmadaa
