/- The pair of an address. -/
import Derived.Test.YteloaidnfcmadaaIceSel
namespace Go.Proofs.Yteloaidnfcmadaa
open Go.RowKit
set_option linter.unusedVariables false

def hits (p : Pr) (ip port : Int) : Bool := decide (p.ip = ip) && decide (p.port = port)

set_option maxHeartbeats 1600000 in
theorem checkedc_any (p : Pr) (gb : Nat) (ip port : Int) (w : World) (h : Whole w gb 33 #[.int .u32 ip, .int .u16 port]) :
    Calls Try.prog 50 #[.agg (prc p), .pointer (some ⟨gb, 0, none⟩)] w fun e w' => e = .returned (.bool (hits p ip port)) ∧ Below w.heap.size w w' := by
  obtain ⟨pip, ppo, pla, pno⟩ := p
  unfold prc
  have hW := Whole.new w 63 #[.int .u32 pip, .int .u16 ppo, .int .i64 pla, .bool pno]
  have hg := h.alloc (.cells #[.int .u32 pip, .int .u16 ppo, .int .i64 pla, .bool pno] 63)
  have c0 := hW.cell 0
  have c1 := hW.cell 1
  have d0 := hg.cell 0
  have d1 := hg.cell 1
  have HB := Lib.hid ((Below.refl w.heap.size w).alloc (Nat.le_refl _) (.cells #[.int .u32 pip, .int .u16 ppo, .int .i64 pla, .bool pno] 63))
  clear hW hg h
  obtain ⟨b, hb⟩ : ∃ b, hits ⟨pip, ppo, pla, pno⟩ ip port = b := ⟨_, rfl⟩
  rw [hb]
  have hb2 : (decide (pip = ip) && decide (ppo = port)) = b := hb
  clear hb
  by_cases h1 : pip = ip
  · by_cases h2 : ppo = port
    · have HBB : Hid (true = b) := Lib.hid (by rw [← hb2]; simp [h1, h2])
      clear hb2
      subst h1
      subst h2
      go_enter Try.func50, Try.ntmps50
      go_wp2
      go_ret
      exact ⟨congrArg (fun x => Ending.returned (Value.bool x)) HBB.out, HB.out⟩
    · have HBB : Hid (false = b) := Lib.hid (by rw [← hb2]; simp [h2])
      clear hb2
      subst h1
      go_enter Try.func50, Try.ntmps50
      go_wp2
      all_goals
        go_ret
        exact ⟨congrArg (fun x => Ending.returned (Value.bool x)) HBB.out, HB.out⟩
  · have HBB : Hid (false = b) := Lib.hid (by rw [← hb2]; simp [h1])
    clear hb2
    go_enter Try.func50, Try.ntmps50
    go_wp2
    all_goals
      go_ret
      exact ⟨congrArg (fun x => Ending.returned (Value.bool x)) HBB.out, HB.out⟩

/-- The first pair of an address. -/
def IdxV (ps : List Pr) (ip port : Int) (r : Int) : Prop := (∃ k : Nat, k < ps.length ∧ r = k ∧ hits (ps.getD k default) ip port = true) ∨ (r = -1 ∧ ∀ j, j < ps.length → hits (ps.getD j default) ip port = false)

set_option maxHeartbeats 1600000 in
set_option maxRecDepth 100000 in
theorem indexP_any (base : Nat) (v : Value) (ps : List Pr) (gb : Nat) (ip port : Int) (w : World) (h : Row4 w base v ps) (hl : ps.length ≤ 4) (hg : Whole w gb 33 #[.int .u32 ip, .int .u16 port]) :
    Calls Try.prog 49 #[v, .func (.func 50) #[] #[.pointer (some ⟨gb, 0, none⟩)]] w fun e w' => ∃ r : Int, e = .returned (.int .i64 r) ∧ IdxV ps ip port r ∧ Below w.heap.size w w' := by
  have HA := Lib.hid (And.intro h hg)
  have HSG : Hid (∀ p W, Whole W gb 33 #[.int .u32 ip, .int .u16 port] → Calls Try.prog 50 #[.agg (prc p), .pointer (some ⟨gb, 0, none⟩)] W fun e w' => e = .returned (.bool (hits p ip port)) ∧ Below W.heap.size W w') := Lib.hid fun p W hW => checkedc_any p gb ip port W hW
  obtain ⟨A, c, hv, -⟩ := h.form
  clear h hg
  obtain ⟨n, hn⟩ : ∃ n, ps.length = n := ⟨_, rfl⟩
  rw [hn] at hv hl
  have HE := Lib.hid hn
  clear hn
  subst hv
  go_enter Try.func49, Try.ntmps49
  go_wp2
  go_loopw [8] (fun s8 wr => ∃ k : Nat, k ≤ n ∧ s8 = .int .i64 k ∧ (∀ j, j < k → hits (ps.getD j default) ip port = false) ∧ Below w.heap.size w wr) (fun s8 _ => n - (intOf s8).toNat)
  case atStart => exact ⟨0, by omega, rfl, (fun j hj => by omega), Below.refl _ w⟩
  case round =>
    obtain ⟨k, hk, rfl, hno, hb⟩ := hrel
    have HNO := Lib.hid hno
    clear hno
    by_cases hlt : k < n
    · have hlt' : k < ps.length := by rw [HE.out]; exact hlt
      obtain ⟨g, c', hv, -, -, c0, c1, c2, c3, -, -⟩ := (HA.out.1.under hb).at_ hlt'
      injection hv with e1 e2 e3
      subst e1
      subst e3
      obtain ⟨p, hp⟩ : ∃ x, ps.getD k default = x := ⟨_, rfl⟩
      rw [hp] at c0 c1 c2 c3
      have HP := Lib.hid (And.intro hp (And.intro hb hlt'))
      have HS := Lib.hid (HSG.out p wr (HA.out.2.under hb))
      clear hp hb hlt' e2
      obtain ⟨pip, ppo, pla, pno⟩ := p
      simp only [prc] at HS
      simp only at c0 c1 c2 c3
      obtain ⟨b, hbb⟩ : ∃ b, hits ⟨pip, ppo, pla, pno⟩ ip port = b := ⟨_, rfl⟩
      have HBT := Lib.hid hbb
      rw [hbb] at HS
      clear hbb
      have hk0 : (0 : Int) ≤ (k : Int) := by omega
      have hk1 : (k : Int) < (n : Int) := by omega
      cases b with
      | true =>
        go_wp2_with (go_at_call 50; (with_reducible refine HS.out.mono ?_); rintro e w2 ⟨rfl, hb2⟩)
        go_ret
        exact ⟨_, rfl, .inl ⟨k, HP.out.2.2, rfl, by rw [HP.out.1]; exact HBT.out⟩, HP.out.2.1.trans (hb2.mono HP.out.2.1.size)⟩
      | false =>
        go_wp2_with (go_at_call 50; (with_reducible refine HS.out.mono ?_); rintro e w2 ⟨rfl, hb2⟩)
        go_roundw
        case rel =>
          refine ⟨k + 1, by omega, by go_num, fun j hj => ?_, HP.out.2.1.trans (hb2.mono HP.out.2.1.size)⟩
          by_cases e : j = k
          · subst e
            rw [HP.out.1]
            exact HBT.out
          · exact HNO.out j (by omega)
        case measure => simp [intOf]; omega
    · have e : k = n := by omega
      have HF : Hid (∀ j, j < ps.length → hits (ps.getD j default) ip port = false) := Lib.hid (fun j hj => HNO.out j (by rw [HE.out] at hj; omega))
      subst e
      have HBB := Lib.hid hb
      clear hb
      go_wp2
      go_ret
      exact ⟨_, rfl, .inr ⟨rfl, HF.out⟩, HBB.out⟩
end Go.Proofs.Yteloaidnfcmadaa
