/- The nominated pair; Selected. -/
import Derived.Test.YteloaidnfcmadaaIceP
namespace Go.Proofs.Yteloaidnfcmadaa
open Go.RowKit
set_option linter.unusedVariables false

def zPr : Pr := ⟨0, 0, 0, false⟩
theorem Try.zeroPair (w : World) : (zeroValue 63).run Try.prog w = .ok (.agg #[.int .u32 0, .int .u16 0, .int .i64 0, .bool false]) w := by kernel_rfl
theorem built_pair0 : Try.prog.built 63 [] = some #[.int .u32 0, .int .u16 0, .int .i64 0, .bool false] := by kernel_rfl
theorem build_pair0 (w : World) : (Instr.build 63 #[]).run Try.prog w = .ok (.agg #[.int .u32 0, .int .u16 0, .int .i64 0, .bool false]) w := run_build w 63 _ _ built_pair0
/-- What nominated answers. -/
def NomV (ps : List Pr) (p : Pr) (b : Bool) : Prop := (nomP ps = some p ∧ b = true) ∨ (nomP ps = none ∧ b = false ∧ p = zPr)


def zeroP : Obj := .cells #[.int .u32 0, .int .u16 0, .int .i64 0, .bool false] 63
set_option maxHeartbeats 1600000 in
set_option maxRecDepth 100000 in
theorem nominated_any (base ga : Nat) (v : Value) (s : Ag) (w : World) (h : AgV w base ga v s) :
    Calls Try.prog 20 #[.pointer (some ⟨ga, 0, none⟩)] w fun e w' => ∃ p b, e = .returned (.tuple #[.agg (prc p), .bool b]) ∧ NomV s.ps p b ∧ Below w.heap.size w w' := by
  have hz := Try.zeroPair
  have h0 := build_pair0
  have hA1 : AgV (w.alloc (.cells #[.int .u32 0, .int .u16 0, .int .i64 0, .bool false] 63)) base ga v s := h.under ((Below.refl _ w).alloc (Nat.le_refl _) _)
  have g0 : Whole (w.alloc (.cells #[.int .u32 0, .int .u16 0, .int .i64 0, .bool false] 63)) w.heap.size 63 #[.int .u32 0, .int .u16 0, .int .i64 0, .bool false] := Whole.new w 63 _
  have hB1 : Below w.heap.size w (w.alloc (.cells #[.int .u32 0, .int .u16 0, .int .i64 0, .bool false] 63)) := (Below.refl _ w).alloc (Nat.le_refl _) _
  have hsz : (w.alloc (.cells #[.int .u32 0, .int .u16 0, .int .i64 0, .bool false] 63)).heap.size = w.heap.size + 1 := by simp
  have c2 : (w.alloc (.cells #[.int .u32 0, .int .u16 0, .int .i64 0, .bool false] 63)).cell? ⟨ga, 2, none⟩ = some v := hA1.box.cell 2
  obtain ⟨A, c, hv, f1, f2, f3⟩ := h.row.form
  have hfew := h.few
  have HN4 := Lib.hid (fun g cs (e : v.ownBlock = some g) (hw : Whole w g 63 cs) => Nat.ne_of_lt hw.lt)
  have HR := Lib.hid (And.intro hA1.row (And.intro hB1 hsz))
  clear h hA1 hB1 hsz
  subst hv
  obtain ⟨ps, hps⟩ : ∃ x, s.ps = x := ⟨_, rfl⟩
  rw [hps] at f1 hfew c2 HR ⊢
  clear hps
  obtain ⟨n, hn⟩ : ∃ x, ps.length = x := ⟨_, rfl⟩
  have HE := Lib.hid hn
  rw [hn] at f1 hfew c2 HR
  clear hn HN4
  obtain ⟨N, hN⟩ : ∃ N, w.heap.size = N := ⟨_, rfl⟩
  rw [hN] at g0 HR ⊢
  have G0 := Lib.hid g0
  clear g0
  go_enter Try.func20, Try.ntmps20
  go_upto_region 1 with fail
  generalize w.alloc (.cells #[.int .u32 0, .int .u16 0, .int .i64 0, .bool false] 63) = W0 at *
  clear hN
  go_wp2
  go_loopw [14] (fun s14 wr => ∃ k : Nat, k ≤ n ∧ s14 = .int .i64 k ∧ (∀ j, j < k → (ps.getD j default).nom = false) ∧ Below W0.heap.size W0 wr) (fun s14 _ => n - (intOf s14).toNat)
  case atStart => exact ⟨0, by omega, rfl, (fun j hj => by omega), Below.refl _ _⟩
  case round =>
    obtain ⟨k, hk, rfl, hno, hb⟩ := hrel
    have HNO := Lib.hid hno
    clear hno
    by_cases hlt : k < n
    · have hlt' : k < ps.length := by rw [HE.out]; exact hlt
      obtain ⟨g, c', hv, hbg, hgl, c0, c1, c3, c4, -, -⟩ := (HR.out.1.under hb).at_ hlt'
      injection hv with e1 e2 e3
      subst e1
      subst e3
      obtain ⟨pip, hpip⟩ : ∃ x, (ps.getD k default).ip = x := ⟨_, rfl⟩
      obtain ⟨ppo, hppo⟩ : ∃ x, (ps.getD k default).port = x := ⟨_, rfl⟩
      obtain ⟨pla, hpla⟩ : ∃ x, (ps.getD k default).last = x := ⟨_, rfl⟩
      obtain ⟨pno, hpno⟩ : ∃ x, (ps.getD k default).nom = x := ⟨_, rfl⟩
      rw [hpip] at c0
      rw [hppo] at c1
      rw [hpla] at c3
      rw [hpno] at c4
      have HP := Lib.hid (And.intro (show ps.getD k default = ⟨pip, ppo, pla, pno⟩ by rw [← hpip, ← hppo, ← hpla, ← hpno]) (And.intro hb (And.intro hlt' hpno)))
      clear hpip hppo hpla hpno hb hlt' e2 hbg hgl
      have hk0 : (0 : Int) ≤ (k : Int) := by omega
      have hk1 : (k : Int) < (n : Int) := by omega
      go_upto_region 6 with fail
      have hW := Whole.new wr 63 #[.int .u32 pip, .int .u16 ppo, .int .i64 pla, .bool pno]
      have hB := (Below.refl wr.heap.size wr).alloc (Nat.le_refl _) (.cells #[.int .u32 pip, .int .u16 ppo, .int .i64 pla, .bool pno] 63)
      have d0 : (wr.alloc (.cells #[.int .u32 pip, .int .u16 ppo, .int .i64 pla, .bool pno] 63)).cell? ⟨wr.heap.size, 0, none⟩ = some (.int .u32 pip) := hW.cell 0
      have d1 : (wr.alloc (.cells #[.int .u32 pip, .int .u16 ppo, .int .i64 pla, .bool pno] 63)).cell? ⟨wr.heap.size, 1, none⟩ = some (.int .u16 ppo) := hW.cell 1
      have d2 : (wr.alloc (.cells #[.int .u32 pip, .int .u16 ppo, .int .i64 pla, .bool pno] 63)).cell? ⟨wr.heap.size, 2, none⟩ = some (.int .i64 pla) := hW.cell 2
      have d3 : (wr.alloc (.cells #[.int .u32 pip, .int .u16 ppo, .int .i64 pla, .bool pno] 63)).cell? ⟨wr.heap.size, 3, none⟩ = some (.bool pno) := hW.cell 3
      have HB := Lib.hid (And.intro hB hW)
      clear hB hW c0 c1 c3 c4
      generalize wr.alloc (.cells #[.int .u32 pip, .int .u16 ppo, .int .i64 pla, .bool pno] 63) = W1 at *
      have hs0 : W0.heap.size ≤ wr.heap.size := HP.out.2.1.size
      have HS := Lib.hid hs0
      clear hs0
      have HL := Lib.hid (show wr.heap.size < W1.heap.size from HB.out.2.lt)
      generalize wr.heap.size = g5 at *
      have hgN := G0.out.below (HP.out.2.1.trans (HB.out.1.mono HS.out)) (by have := G0.out.lt; exact this)
      have HG := Lib.hid hgN
      cases pno with
      | true =>
        have e0 := hgN.cell 0
        have e1 := hgN.cell 1
        have e2 := hgN.cell 2
        have e3 := hgN.cell 3
        have q := hgN.frz
        have HNP : Hid (nomP ps = some ⟨pip, ppo, pla, true⟩) := Lib.hid (by rw [nom_at ps k HNO.out HP.out.2.2.1 HP.out.2.2.2, HP.out.1])
        have HBB := Lib.hid (HR.out.2.1.trans ((HP.out.2.1.trans (HB.out.1.mono HS.out)).mono (by have := HR.out.2.2; omega)))
        clear hgN
        go_wp2
        have f1 : Whole _ N 63 #[.int .u32 pip, .int .u16 ppo, .int .i64 pla, .bool true] := (((HG.out.set 0 (.int .u32 pip)).set 1 (.int .u16 ppo)).set 2 (.int .i64 pla)).set 3 (.bool true)
        refine bodyPost_ret (v := .tuple #[.agg #[.int .u32 pip, .int .u16 ppo, .int .i64 pla, .bool true], .bool true]) ?_ rfl ?_
        · exact ret_struct2 (p := 2) (s := 3) rfl rfl f1 Try.underlying63 rfl Try.sizePair rfl
        · exact ⟨⟨pip, ppo, pla, true⟩, true, rfl, .inl ⟨HNP.out, rfl⟩, (((HBB.out.setCell (p := ⟨N, 0, none⟩) (Nat.le_refl _) _).setCell (p := ⟨N, 1, none⟩) (Nat.le_refl _) _).setCell (p := ⟨N, 2, none⟩) (Nat.le_refl _) _).setCell (p := ⟨N, 3, none⟩) (Nat.le_refl _) _⟩
      | false =>
        clear hgN
        go_wp2
        go_roundw
        case rel =>
          refine ⟨k + 1, by omega, by go_num, fun j hj => ?_, HP.out.2.1.trans (HB.out.1.mono HS.out)⟩
          by_cases e : j = k
          · subst e
            exact HP.out.2.2.2
          · exact HNO.out j (by omega)
        case measure => simp [intOf]; omega
    · have e : k = n := by omega
      have HFD := Lib.hid (nom_none ps (fun j hj => HNO.out j (by rw [HE.out] at hj; omega)))
      subst e
      have hgN := G0.out.below hb (by have := G0.out.lt; exact this)
      have HB := Lib.hid (And.intro (HR.out.2.1.trans (hb.mono (by have := HR.out.2.2; omega))) hgN)
      have e0 := hgN.cell 0
      have e1 := hgN.cell 1
      have e2 := hgN.cell 2
      have e3 := hgN.cell 3
      have q := hgN.frz
      clear hb hgN
      go_wp2
      have f1 : Whole _ N 63 #[.int .u32 0, .int .u16 0, .int .i64 0, .bool false] := (((HB.out.2.set 0 (.int .u32 0)).set 1 (.int .u16 0)).set 2 (.int .i64 0)).set 3 (.bool false)
      refine bodyPost_ret (v := .tuple #[.agg #[.int .u32 0, .int .u16 0, .int .i64 0, .bool false], .bool false]) ?_ rfl ?_
      · exact ret_struct2 (p := 2) (s := 3) rfl rfl f1 Try.underlying63 rfl Try.sizePair rfl
      · exact ⟨zPr, false, rfl, .inr ⟨HFD.out, rfl, rfl⟩, (((HB.out.1.setCell (p := ⟨N, 0, none⟩) (Nat.le_refl _) _).setCell (p := ⟨N, 1, none⟩) (Nat.le_refl _) _).setCell (p := ⟨N, 2, none⟩) (Nat.le_refl _) _).setCell (p := ⟨N, 3, none⟩) (Nat.le_refl _) _⟩

set_option maxHeartbeats 800000 in
theorem nominated_nil (w : World) : Calls Try.prog 20 #[.pointer none] w fun e w' => e = .returned (.tuple #[.agg (prc zPr), .bool false]) ∧ Below w.heap.size w w' := by
  have hz := Try.zeroPair
  have h0 := build_pair0
  have g0 : Whole (w.alloc (.cells #[.int .u32 0, .int .u16 0, .int .i64 0, .bool false] 63)) w.heap.size 63 #[.int .u32 0, .int .u16 0, .int .i64 0, .bool false] := Whole.new w 63 _
  have hB1 : Below w.heap.size w (w.alloc (.cells #[.int .u32 0, .int .u16 0, .int .i64 0, .bool false] 63)) := (Below.refl _ w).alloc (Nat.le_refl _) _
  obtain ⟨N, hN⟩ : ∃ N, w.heap.size = N := ⟨_, rfl⟩
  rw [hN] at g0 hB1 ⊢
  have G0 := Lib.hid (And.intro hB1 g0)
  clear g0 hB1
  go_enter Try.func20, Try.ntmps20
  go_upto_region 1 with fail
  generalize w.alloc (.cells #[.int .u32 0, .int .u16 0, .int .i64 0, .bool false] 63) = W0 at *
  clear hN
  have e0 := G0.out.2.cell 0
  have e1 := G0.out.2.cell 1
  have e2 := G0.out.2.cell 2
  have e3 := G0.out.2.cell 3
  have q := G0.out.2.frz
  go_wp2
  have f1 : Whole _ N 63 #[.int .u32 0, .int .u16 0, .int .i64 0, .bool false] := (((G0.out.2.set 0 (.int .u32 0)).set 1 (.int .u16 0)).set 2 (.int .i64 0)).set 3 (.bool false)
  refine bodyPost_ret (v := .tuple #[.agg #[.int .u32 0, .int .u16 0, .int .i64 0, .bool false], .bool false]) ?_ rfl ?_
  · exact ret_struct2 (p := 2) (s := 3) rfl rfl f1 Try.underlying63 rfl Try.sizePair rfl
  · exact ⟨rfl, (((G0.out.1.setCell (p := ⟨N, 0, none⟩) (Nat.le_refl _) _).setCell (p := ⟨N, 1, none⟩) (Nat.le_refl _) _).setCell (p := ⟨N, 2, none⟩) (Nat.le_refl _) _).setCell (p := ⟨N, 3, none⟩) (Nat.le_refl _) _⟩
end Go.Proofs.Yteloaidnfcmadaa
