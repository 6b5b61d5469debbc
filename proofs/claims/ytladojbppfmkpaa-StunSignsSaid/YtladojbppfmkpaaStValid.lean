/- Whether it is a message (valid). -/
import Derived.Test.YtladojbppfmkpaaStSize
namespace Go.Proofs.Ytladojbppfmkpaa
open Go.RowKit
set_option linter.unusedVariables false

theorem valid_cl {m : Msg} (h : m.cl < 0 ∨ m.cl > 3 ∨ m.me < 0 ∨ m.me > 4095 ∨ 16 < m.at_.length) : valid? m = false := by
  cases hv : valid? m with
  | false => rfl
  | true =>
    have := (valid_iff m).1 hv
    have h1 := this.c0
    have h2 := this.c3
    have h3 := this.m0
    have h4 := this.m4
    have h5 := this.most
    omega
theorem valid_big {m : Msg} {k : Nat} (hk : k < m.at_.length) (h : 512 < (m.at_.getD k default).val.length) : valid? m = false := by
  cases hv : valid? m with
  | false => rfl
  | true =>
    have := ((valid_iff m).1 hv).vals _ (getD_mem hk)
    omega
theorem valid_size {m : Msg} (c0 : 0 ≤ m.cl) (c3 : m.cl ≤ 3) (m0 : 0 ≤ m.me) (m4 : m.me ≤ 4095) (hl : m.at_.length ≤ 16) (hv : ∀ a ∈ m.at_, a.val.length ≤ 512) : valid? m = decide (szN m ≤ 1500) := by
  cases h : valid? m with
  | true => exact (decide_eq_true ((valid_iff m).1 h).size).symm
  | false =>
    refine (decide_eq_false fun hs => ?_).symm
    have := (valid_iff m).2 ⟨c0, c3, m0, m4, hl, hv, hs⟩
    rw [h] at this
    cases this
theorem ret_bool {a b : Bool} (h : a = b) : Ending.returned (.bool a) = .returned (.bool b) := by rw [h]
theorem all_of_get {L : List At} {P : At → Prop} (h : ∀ k, k < L.length → P (L.getD k default)) : ∀ a ∈ L, P a := by
  intro a ha
  obtain ⟨i, hi, e⟩ := List.getElem_of_mem ha
  have := h i hi
  simp [List.getD, hi] at this
  rw [e] at this
  exact this

set_option maxHeartbeats 1600000 in
set_option maxRecDepth 100000 in
theorem valid_any (M : Array Value) (m : Msg) (A : Option Addr) (c : Nat) (w : World) (h : MsgV w w.heap.size M m A c) :
    Calls Try.prog 32 #[.agg M] w fun e w' => e = .returned (.bool (valid? m)) ∧ Below w.heap.size w w' := by
  have hg := Whole.new w 34 M
  have h0 := h.cl hg
  have h1 := h.me hg
  have h14 := h.sl hg
  have hb0 : Below w.heap.size w (w.alloc (.cells M 34)) := (Below.refl _ w).alloc (Nat.le_refl _) _
  have hml : m.at_.length ≤ maxLen := Nat.le_trans h.fits h.most
  have HM := Lib.hid (And.intro h (And.intro hg hb0))
  have hf : (m.cl < 0 ∨ m.cl > 3 ∨ m.me < 0 ∨ m.me > 4095 ∨ 16 < m.at_.length) → valid? m = false := valid_cl
  have HF := Lib.hid hf
  have hML := h.size
  have HSZ := Lib.hid (And.intro hML h.one)
  clear h hg hb0 hf
  obtain ⟨cl, hcl⟩ : ∃ x, m.cl = x := ⟨_, rfl⟩
  obtain ⟨me, hme⟩ : ∃ x, m.me = x := ⟨_, rfl⟩
  obtain ⟨n, hn⟩ : ∃ x, m.at_.length = x := ⟨_, rfl⟩
  rw [hcl] at h0 HF
  rw [hme] at h1 HF
  rw [hn] at h14 HF hml
  have HE := Lib.hid (And.intro hcl (And.intro hme hn))
  clear hcl hme hn
  obtain ⟨W, hW⟩ : ∃ W, w.alloc (.cells M 34) = W := ⟨_, rfl⟩
  have HW := Lib.hid hW
  rw [hW] at h0 h1 h14 HM
  unfold maxLen at hml
  clear hW
  obtain ⟨vb, hvb⟩ : ∃ b, valid? m = b := ⟨_, rfl⟩
  have HV := Lib.hid hvb
  rw [hvb] at HF ⊢
  clear hvb
  go_enter Try.func32, Try.ntmps32
  go_upto_region 1 with fail
  rw [HW.out]
  obtain ⟨N, hN⟩ : ∃ N, w.heap.size = N := ⟨_, rfl⟩
  rw [hN] at h0 h1 h14 HM ⊢
  have HN := Lib.hid hN
  clear hN
  by_cases a0 : cl < 0
  · obtain rfl := HF.out (.inl a0)
    go_wp2
    go_ret
    exact ⟨rfl, by rw [HN.out]; exact HM.out.2.2⟩
  by_cases a1 : cl > 3
  · obtain rfl := HF.out (.inr (.inl a1))
    go_wp2
    go_ret
    exact ⟨rfl, by rw [HN.out]; exact HM.out.2.2⟩
  by_cases a2 : me < 0
  · obtain rfl := HF.out (.inr (.inr (.inl a2)))
    go_wp2
    go_ret
    exact ⟨rfl, by rw [HN.out]; exact HM.out.2.2⟩
  by_cases a3 : me > 4095
  · obtain rfl := HF.out (.inr (.inr (.inr (.inl a3))))
    go_wp2
    go_ret
    exact ⟨rfl, by rw [HN.out]; exact HM.out.2.2⟩
  by_cases a4 : 16 < n
  · obtain rfl := HF.out (.inr (.inr (.inr (.inr a4))))
    have a5 : (n : Int) > 16 := by omega
    go_wp2
    go_ret
    exact ⟨rfl, by rw [HN.out]; exact HM.out.2.2⟩
  have a5 : ¬ (n : Int) > 16 := by omega
  go_wp2
  go_loopw [30] (fun s30 wr => ∃ k : Nat, k ≤ n ∧ s30 = .int .i64 k ∧ (∀ j, j < k → (m.at_.getD j default).val.length ≤ 512) ∧ Below N w wr ∧ Whole wr N 34 M) (fun s30 _ => n - (intOf s30).toNat)
  case atStart => exact ⟨0, by omega, rfl, fun j hj => by omega, HM.out.2.2, HM.out.2.1⟩
  case round =>
    obtain ⟨k, hk, rfl, hv, hb, hg⟩ := hrel
    by_cases hlt : k < n
    · have hlt' : k < m.at_.length := by rw [HE.out.2.2]; exact hlt
      obtain ⟨ad, A', c', rfl, had, c0, c1, -⟩ := (HM.out.1.ats.below hb).at_ hlt'
      have hbg : 512 < (m.at_.getD k default).val.length → valid? m = false := valid_big hlt'
      rw [HV.out] at hbg
      obtain ⟨a, ha⟩ : ∃ a, m.at_.getD k default = a := ⟨_, rfl⟩
      rw [ha] at c0 c1 hbg
      have HA := Lib.hid ha
      have HB := Lib.hid (And.intro hb (And.intro hg hv))
      obtain ⟨l, hl⟩ : ∃ l, a.val.length = l := ⟨_, rfl⟩
      rw [hl] at c1 hbg
      have HLL := Lib.hid hl
      clear hb hg hv ha hl
      by_cases hbig : 512 < l
      · obtain rfl := hbg hbig
        have hbig' : (l : Int) > 512 := by omega
        go_wp2
        go_ret
        exact ⟨rfl, by rw [HN.out]; exact HB.out.1.alloc (HN.out ▸ HB.out.1.size) _⟩
      · have hbig' : ¬ (l : Int) > 512 := by omega
        go_wp2
        go_roundw
        case rel =>
          refine ⟨k + 1, by omega, by go_num, fun j hj => ?_, HB.out.1.alloc (HN.out ▸ HB.out.1.size) _, HB.out.2.1.alloc _⟩
          by_cases hjk : j < k
          · exact HB.out.2.2 j hjk
          · obtain rfl : j = k := by omega
            rw [HA.out, HLL.out]
            omega
        case measure => simp [intOf]; omega
    · obtain rfl : k = n := by omega
      have hall := all_of_get (P := fun a => a.val.length ≤ 512) (L := m.at_) (by rw [HE.out.2.2]; exact hv)
      have hsz := valid_size (m := m) (by rw [HE.out.1]; omega) (by rw [HE.out.1]; omega) (by rw [HE.out.2.1]; omega) (by rw [HE.out.2.1]; omega) (by rw [HE.out.2.2]; omega) hall
      rw [HV.out] at hsz
      have HC : Hid (Calls Try.prog 53 #[.agg M] wr fun e w' => e = .returned (.int .i64 (szN m)) ∧ Below N wr w') :=
        Lib.hid ((size_any M m A c wr ((HM.out.1.below hb).more (Nat.le_of_lt hg.lt)) (by rw [HE.out.2.2]; omega) hall).mono fun e w' h => ⟨h.1, h.2.mono (by have := hg.lt; omega)⟩)
      have HB := Lib.hid (And.intro hb hg)
      obtain ⟨s, hs⟩ : ∃ s, szN m = s := ⟨_, rfl⟩
      rw [hs] at hsz HC
      clear hb hg hv hall hs
      subst hsz
      go_wp2_with (first
        | (refine wpList_load_all rfl 34 (.tmp 1) rfl HB.out.2 rfl Try.sizeMsg HSZ.out.1 Try.underlying34 rfl ?_)
        | (go_at_call 53; (with_reducible refine HC.out.mono ?_); rintro e w2 ⟨rfl, hb2⟩))
      go_ret
      exact ⟨ret_bool (decide_eq_decide.2 (by omega)), by rw [HN.out]; exact HB.out.1.trans hb2⟩
end Go.Proofs.Ytladojbppfmkpaa
