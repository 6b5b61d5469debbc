/- nominate: from's pair is nominated in the place of whatever was. -/
import Derived.Test.YteloaidnfcmadaaIceCheck
namespace Go.Proofs.Yteloaidnfcmadaa
open Go.RowKit
set_option linter.unusedVariables false
set_option linter.unusedSimpArgs false

def nomBy (ip port : Int) (p : Pr) : Pr := { p with nom := hits p ip port }
/-- The first k pairs are done. -/
def NomK (ps qs : List Pr) (ip port : Int) (k : Nat) : Prop := qs.length = ps.length ∧ (∀ j, j < ps.length → qs.getD j default = if j < k then nomBy ip port (ps.getD j default) else ps.getD j default)
theorem NomK.zero (ps : List Pr) (ip port : Int) : NomK ps ps ip port 0 := ⟨rfl, fun j hj => by simp⟩
theorem NomK.step {ps qs : List Pr} {ip port : Int} {k : Nat} (h : NomK ps qs ip port k) (hk : k < ps.length) : NomK ps (qs.set k { qs.getD k default with nom := hits (ps.getD k default) ip port }) ip port (k + 1) := by
  refine ⟨by rw [List.length_set]; exact h.1, fun j hj => ?_⟩
  have e := h.2 k hk
  rw [if_neg (by omega)] at e
  by_cases ej : j = k
  · subst ej
    rw [if_pos (by omega), e]
    have hq : j < qs.length := by rw [h.1]; exact hj
    simp [List.getD, hq, nomBy]
  · have : (qs.set k { qs.getD k default with nom := hits (ps.getD k default) ip port }).getD j default = qs.getD j default := by
      simp [List.getD, List.getElem?_set, Ne.symm ej]
    rw [this, h.2 j hj]
    by_cases h1 : j < k
    · rw [if_pos h1, if_pos (by omega)]
    · rw [if_neg h1, if_neg (by omega)]
theorem NomK.done {ps qs : List Pr} {ip port : Int} (h : NomK ps qs ip port ps.length) : qs = ps.map (nomBy ip port) := by
  apply List.ext_getElem (by rw [List.length_map]; exact h.1)
  intro i hi hj
  have hp : i < ps.length := by rw [← h.1]; exact hi
  have := h.2 i hp
  rw [if_pos hp] at this
  simpa [List.getD, hi, hp] using this
theorem put_put (s : Ag) (a b : List Pr) : (s.put a).put b = s.put b := rfl

set_option maxHeartbeats 3200000 in
set_option maxRecDepth 100000 in
theorem nominate_any (base ga : Nat) (v : Value) (s : Ag) (ip port : Int) (w : World) (h : AgV w base ga v s) :
    Calls Try.prog 30 #[.pointer (some ⟨ga, 0, none⟩), .agg #[.int .u32 ip, .int .u16 port]] w fun e w' => e = .returned (.tuple #[]) ∧ AgV w' base ga v (s.put (s.ps.map (nomBy ip port))) ∧ Stepped ga v v w w' := by
  have hb0 : Below w.heap.size w (w.alloc (.cells #[.int .u32 ip, .int .u16 port] 33)) := (Below.refl _ w).alloc (Nat.le_refl _) _
  have g0 := Whole.new w 33 #[.int .u32 ip, .int .u16 port]
  have hA0 := h.under hb0
  have c2 : (w.alloc (.cells #[.int .u32 ip, .int .u16 port] 33)).cell? ⟨ga, 2, none⟩ = some v := hA0.box.cell 2
  obtain ⟨A, c, hv, -⟩ := h.row.form
  have hfew := h.few
  have hst : Stepped ga v v w (w.alloc (.cells #[.int .u32 ip, .int .u16 port] 33)) := Stepped.quiet hb0 ga v
  have HA := Lib.hid (And.intro hA0 (And.intro g0 hst))
  clear hb0 g0 hA0 h hst
  obtain ⟨N, hN⟩ : ∃ N, w.heap.size = N := ⟨_, rfl⟩
  rw [hN] at HA
  obtain ⟨n, hn⟩ : ∃ x, s.ps.length = x := ⟨_, rfl⟩
  have HE := Lib.hid hn
  rw [hn] at hv hfew
  subst hv
  clear hn
  go_enter Try.func30, Try.ntmps30
  go_upto_region 1 with fail
  generalize w.alloc (.cells #[.int .u32 ip, .int .u16 port] 33) = W0 at *
  clear hN
  go_wp2
  clear c2
  go_loopw [10] (fun s10 wr => ∃ (k : Nat) (qs : List Pr), k ≤ n ∧ s10 = .int .i64 k ∧ NomK s.ps qs ip port k ∧ AgV wr base ga (.slice A n c) (s.put qs) ∧ Whole wr N 33 #[.int .u32 ip, .int .u16 port] ∧ Stepped ga (.slice A n c) (.slice A n c) w wr) (fun s10 _ => n - (intOf s10).toNat)
  case atStart => exact ⟨0, s.ps, by omega, rfl, NomK.zero _ _ _, HA.out.1, HA.out.2.1, HA.out.2.2⟩
  case round =>
    obtain ⟨k, qs, hk, rfl, hnk, hA, hg, hst⟩ := hrel
    by_cases hlt : k < n
    · have hql : qs.length = n := hnk.1.trans HE.out
      have hkq : k < qs.length := by rw [hql]; exact hlt
      have x2 : wr.cell? ⟨ga, 2, none⟩ = some (.slice A n c) := hA.box.cell 2
      obtain ⟨g, c', hv, -, -, c0, c1, -, y3, -, yf⟩ := hA.row.at_ (i := k) hkq
      injection hv with e1 e2 e3
      subst e1
      subst e3
      have d0 : wr.cell? ⟨N, 0, none⟩ = some (.int .u32 ip) := hg.cell 0
      have d1 : wr.cell? ⟨N, 1, none⟩ = some (.int .u16 port) := hg.cell 1
      have hqk : qs.getD k default = s.ps.getD k default := by
        have := hnk.2 k (by rw [HE.out]; exact hlt)
        rwa [if_neg (by omega)] at this
      obtain ⟨p, hp⟩ : ∃ x, s.ps.getD k default = x := ⟨_, rfl⟩
      have HP := Lib.hid (And.intro hp (And.intro hqk (And.intro hnk (And.intro hA (And.intro hg hst)))))
      have hc0 : wr.cell? ⟨g, k * 4, none⟩ = some (.int .u32 p.ip) := by rw [c0]; show some (Value.int .u32 (qs.getD k default).ip) = _; rw [hqk, hp]
      have hc1 : wr.cell? ⟨g, k * 4 + 1, none⟩ = some (.int .u16 p.port) := by rw [c1]; show some (Value.int .u16 (qs.getD k default).port) = _; rw [hqk, hp]
      have HKN : Hid (k < s.ps.length ∧ qs.length = n) := Lib.hid ⟨by rw [HE.out]; exact hlt, hql⟩
      clear hp hqk hnk hA hg hst hql hkq e2 c0 c1
      obtain ⟨pip, ppo, pla, pno⟩ := p
      simp only at hc0 hc1
      have hk0 : (0 : Int) ≤ (k : Int) := by omega
      have hk1 : (k : Int) < (n : Int) := by omega
      have HR : Hid (∃ qs', NomK s.ps qs' ip port (k + 1) ∧ AgV (wr.setCell ⟨g, k * 4 + 3, none⟩ (.bool (hits ⟨pip, ppo, pla, pno⟩ ip port))) base ga (.slice (some ⟨g, 0, none⟩) n c) (s.put qs') ∧
          Whole (wr.setCell ⟨g, k * 4 + 3, none⟩ (.bool (hits ⟨pip, ppo, pla, pno⟩ ip port))) N 33 #[.int .u32 ip, .int .u16 port] ∧ Stepped ga (.slice (some ⟨g, 0, none⟩) n c) (.slice (some ⟨g, 0, none⟩) n c) w (wr.setCell ⟨g, k * 4 + 3, none⟩ (.bool (hits ⟨pip, ppo, pla, pno⟩ ip port)))) := Lib.hid (by
        have hA := HP.out.2.2.2.1
        have hg := HP.out.2.2.2.2.1
        have hl := HKN.out.2
        rw [← hl] at hA
        have h3 := AgV.put3 (x := hits ⟨pip, ppo, pla, pno⟩ ip port) (s := s.put qs) hA (k := k) (by show k < qs.length; rw [hl]; exact hlt)
        have hs := HP.out.2.2.1.step HKN.out.1
        rw [HP.out.1] at hs
        refine ⟨_, hs, ?_, hg.far (p := ⟨g, k * 4 + 3, none⟩) (fun e => hA.not_mine hg (by decide) (by decide) (.inr (by rw [e]; rfl))) _, ?_⟩
        · have h4 := h3.1
          have hl2 : (s.put qs).ps.length = n := hl
          rw [hl2] at h4
          exact h4
        · have h4 := h3.2
          have hl2 : (s.put qs).ps.length = n := hl
          rw [hl2] at h4
          exact HP.out.2.2.2.2.2.trans h4)
      by_cases h1 : pip = ip
      · by_cases h2 : ppo = port
        · rw [show hits ⟨pip, ppo, pla, pno⟩ ip port = true by simp [hits, h1, h2]] at HR
          subst h1
          subst h2
          go_upto_region 4 with fail
          go_region
          go_wp2
          go_roundw
          case rel =>
            obtain ⟨qs', a1, a2, a3, a4⟩ := HR.out
            exact ⟨k + 1, qs', by omega, by go_num, a1, a2.under (Below.refl _ _).drew, a3.drew, a4.under (Below.refl _ _).drew⟩
          case measure => simp [intOf]; omega
        · rw [show hits ⟨pip, ppo, pla, pno⟩ ip port = false by simp [hits, h2]] at HR
          subst h1
          go_upto_region 4 with fail
          go_region
          go_wp2
          go_roundw
          case rel =>
            obtain ⟨qs', a1, a2, a3, a4⟩ := HR.out
            exact ⟨k + 1, qs', by omega, by go_num, a1, a2.under (Below.refl _ _).drew, a3.drew, a4.under (Below.refl _ _).drew⟩
          case measure => simp [intOf]; omega
      · rw [show hits ⟨pip, ppo, pla, pno⟩ ip port = false by simp [hits, h1]] at HR
        go_upto_region 4 with fail
        go_region
        go_wp2
        all_goals
          go_roundw
          case rel =>
            obtain ⟨qs', a1, a2, a3, a4⟩ := HR.out
            exact ⟨k + 1, qs', by omega, by go_num, a1, a2.under (Below.refl _ _).drew, a3.drew, a4.under (Below.refl _ _).drew⟩
          case measure => simp [intOf]; omega
    · have e : k = n := by omega
      subst e
      have hd : qs = s.ps.map (nomBy ip port) := NomK.done (by rw [HE.out]; exact hnk)
      rw [hd] at hA
      have HF := Lib.hid (And.intro hA hst)
      clear hA hst hg hnk hd
      go_wp2
      go_end0
      exact ⟨rfl, HF.out.1, HF.out.2⟩
end Go.Proofs.Yteloaidnfcmadaa
