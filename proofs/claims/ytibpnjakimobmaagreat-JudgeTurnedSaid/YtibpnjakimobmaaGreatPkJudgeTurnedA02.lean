import Derived.Test.YtibpnjakimobmaaGreatPkJudgeTurnedA00
import Derived.Test.YtibpnjakimobmaaGreatPkJudgeTurnedA01
namespace Go.Proofs.YtibpnjakimobmaaGreat
open Go.RowKit
set_option linter.unusedVariables false
set_option linter.unusedSimpArgs false
set_option maxHeartbeats 800000 in
theorem wordFrom_any (s : ByteArray) (k : Nat) (w : World) (hs : s.size ≤ maxLen) (h1 : 1 ≤ k) (hk : k ≤ 1000) : Calls Tryz.prog 53 #[.string s, .int .i64 k] w fun e w' => e = .returned (.bool (wordP k 32 (tx s))) ∧ w = w' := by
 have HW := Lib.hid (word_any s w hs)
 have HE : Hid (wordP k 32 (tx s) = (decide (k ≤ s.size) && wordP 1 32 (tx s))) := Lib.hid (by
  unfold wordP
  rw [tx_length, Bool.eq_iff_iff]
  simp only [Bool.and_eq_true, decide_eq_true_eq]
  constructor
  · rintro ⟨h2, h3, h4⟩; exact ⟨h3, h2, by omega, h4⟩
  · rintro ⟨h2, h3, h4, h5⟩; exact ⟨h3, h2, h5⟩)
 generalize wordP k 32 (tx s) = r at *
 generalize wordP 1 32 (tx s) = b at *
 by_cases hl : k ≤ s.size
 · have hl' : (k : Int) ≤ (s.size : Int) := by omega
   have HR : Hid (b = r) := Lib.hid (by rw [HE.out]; simp [hl])
   clear HE
   go_enter Tryz.func53, Tryz.ntmps53
   go_wp2_with (go_at_call 62; (with_reducible refine HW.out.mono ?_); rintro e w' ⟨rfl, rfl⟩)
   go_ret
   exact ⟨ret_bool HR.out, rfl⟩
 · have hl' : ¬ (k : Int) ≤ (s.size : Int) := by omega
   have HR : Hid (false = r) := Lib.hid (by rw [HE.out]; simp [hl])
   clear HE
   go_enter Tryz.func53, Tryz.ntmps53
   go_wp2
   go_ret
   exact ⟨ret_bool HR.out, rfl⟩
set_option maxHeartbeats 1600000 in
set_option maxRecDepth 100000 in
theorem has1_any (M : Array Value) (m : MediaS) (vC vE vR vS vY : Value) (B gx : Nat) (s : ByteArray) (w : World) (hM : MediaV w B M m vC vE vR vS vY) (hx : w.cell? ⟨gx, 0, none⟩ = some (.string s)) :
 Calls Tryz.prog 77 #[.agg M, .pointer (some ⟨gx, 0, none⟩)] w fun e w' => e = .returned (.bool (tx m.mid == tx s)) ∧ Below w.heap.size w w' := by
 have hb := (Below.refl w.heap.size w).alloc (Nat.le_refl _) (.cells M 44)
 have hx2 := (hb.cell (p := ⟨gx, 0, none⟩) (block_lt_of_cell hx)).trans hx
 have hg : (w.alloc (.cells M 44)).cell? ⟨w.heap.size, 2, none⟩ = some (.string m.mid) := by rw [(Whole.new w 44 M).cell 2, hM.form]; rfl
 have HB := Lib.hid hb
 have HE : Hid ((m.mid.toList == s.toList) = (tx m.mid == tx s)) := Lib.hid (by rw [toList_tx, toList_tx])
 clear hb hM hx
 go_enter Tryz.func77, Tryz.ntmps77
 go_upto_region 1 with fail
 generalize (w.alloc (.cells M 44)) = W at *
 go_wp2
 go_ret
 exact ⟨ret_bool HE.out, HB.out⟩
set_option maxHeartbeats 1600000 in
set_option maxRecDepth 100000 in
theorem indexM_any (A : Option Addr) (n c gx : Nat) (s : ByteArray) (L : List MediaS) (w : World) (h : MediasV w w.heap.size (.slice A n c) L) (hn : L.length = n) (hl : n ≤ 4611686018427387904) (hx : w.cell? ⟨gx, 0, none⟩ = some (.string s)) :
 Calls Tryz.prog 93 #[.slice A n c, .func (.func 77) #[] #[.pointer (some ⟨gx, 0, none⟩)]] w fun e w' => ∃ r : Int, e = .returned (.int .i64 r) ∧ decide (0 ≤ r) = (L.any fun m => tx m.mid == tx s) ∧ Below w.heap.size w w' := by
 have HA := Lib.hid h
 have HE := Lib.hid hn
 have HX := Lib.hid hx
 obtain ⟨q, hq⟩ : ∃ q : MediaS → Bool, (fun m => tx m.mid == tx s) = q := ⟨_, rfl⟩
 have HP : Hid (∀ (W : World) (M : Array Value) (m : MediaS) (vC vE vR vS vY : Value) (B : Nat), Below w.heap.size w W → MediaV W B M m vC vE vR vS vY → Calls Tryz.prog 77 #[.agg M, .pointer (some ⟨gx, 0, none⟩)] W fun e w' => e = .returned (.bool (q m)) ∧ Below W.heap.size W w') := Lib.hid fun W M m vC vE vR vS vY B hb hM => by
  have := has1_any M m vC vE vR vS vY B gx s W hM ((hb.cell (p := ⟨gx, 0, none⟩) (block_lt_of_cell HX.out)).trans HX.out)
  rw [← hq]
  exact this
 rw [hq]
 clear h hn hx hq
 go_enter Tryz.func93, Tryz.ntmps93
 go_wp2
 go_loopw [8] (fun s8 wr => ∃ k : Nat, k ≤ n ∧ s8 = .int .i64 k ∧ (∀ j, j < k → q (L.getD j default) = false) ∧ Below w.heap.size w wr) (fun s8 _ => n - (intOf s8).toNat)
 case atStart => exact ⟨0, by omega, rfl, (fun j hj => by omega), Below.refl _ w⟩
 case round =>
  obtain ⟨k, hk, rfl, hno, hb⟩ := hrel
  have HNO := Lib.hid hno
  clear hno
  by_cases hlt : k < n
  · have hlt' : k < L.length := by rw [HE.out]; exact hlt
    obtain ⟨ad, c', M, vC, vE, vR, vS, vY, e1, had, hM, hcs⟩ := (HA.out.below hb).at_ hlt'
    injection e1 with e1 e1n e1c
    clear e1n e1c
    subst e1
    obtain ⟨x, hx⟩ : ∃ x, L.getD k default = x := ⟨_, rfl⟩
    have HX2 := Lib.hid hx
    rw [hx] at hM
    have HB := Lib.hid (And.intro hb hlt')
    obtain ⟨b, hbb⟩ : ∃ b, q x = b := ⟨_, rfl⟩
    have HS := Lib.hid (HP.out wr M x _ _ _ _ _ _ hb hM)
    rw [hbb] at HS
    have HBT := Lib.hid hbb
    have HLD : Hid (∀ (ops : Array Oper) (rest : List Oper) (op : Oper) (a : Act) (Q : Exit → Act → World → Prop), op.guard = none → op.op = .load 44 (.tmp 14) → a.eval (.tmp 14) = .pointer (some (ad.add (k * 11))) → wpList Tryz.prog ops Q rest (a.put op.dst (.agg M)) wr → wpList Tryz.prog ops Q (op :: rest) a wr) :=
     Lib.hid fun ops rest op a Q h1 h2 h3 h4 => wpList_load_at h1 44 (.tmp 14) h2 _ h3 M.toList _ hcs Tryz.underlying44 rfl (by rw [Array.length_toList, hM.size]; exact Tryz.sizeMedia) (by rw [Array.toArray_toList]; exact h4)
    clear hbb hx hb hlt' had hcs hM
    have hk0 : (0 : Int) ≤ (k : Int) := by omega
    have hk1 : (k : Int) < (n : Int) := by omega
    cases b with
    | true =>
      go_wp2_with (first | ((with_reducible refine HLD.out _ _ _ _ _ ?_ ?_ ?_ ?_); (with_reducible rfl); (with_reducible rfl); rfl) | (go_at_call 77; (with_reducible refine HS.out.mono ?_); rintro e w2 ⟨rfl, hb2⟩))
      go_ret
      exact ⟨_, rfl, by rw [any_yes HB.out.2 (by rw [HX2.out]; exact HBT.out)]; exact decide_eq_true hk0, HB.out.1.trans (hb2.mono HB.out.1.size)⟩
    | false =>
      go_wp2_with (first | ((with_reducible refine HLD.out _ _ _ _ _ ?_ ?_ ?_ ?_); (with_reducible rfl); (with_reducible rfl); rfl) | (go_at_call 77; (with_reducible refine HS.out.mono ?_); rintro e w2 ⟨rfl, hb2⟩))
      go_roundw
      case rel =>
       refine ⟨k + 1, by omega, by go_num, fun j hj => ?_, HB.out.1.trans (hb2.mono HB.out.1.size)⟩
       by_cases e : j = k
       · subst e
         rw [HX2.out]
         exact HBT.out
       · exact HNO.out j (by omega)
      case measure => simp [intOf]; omega
  · have e : k = n := by omega
    subst e
    have HN : Hid (L.any q = false) := Lib.hid (any_no HE.out HNO.out)
    have HB := Lib.hid hb
    clear hb
    go_wp2
    go_ret
    exact ⟨_, rfl, by rw [HN.out]; rfl, HB.out⟩
set_option maxHeartbeats 800000 in
theorem has_any (A : Option Addr) (n c : Nat) (s : ByteArray) (L : List MediaS) (w : World) (h : MediasV w w.heap.size (.slice A n c) L) (hn : L.length = n) (hl : n ≤ 4611686018427387904) :
 Calls Tryz.prog 64 #[.slice A n c, .string s] w fun e w' => e = .returned (.bool (L.any fun m => tx m.mid == tx s)) ∧ Below w.heap.size w w' := by
 have hb0 : Below w.heap.size w (w.alloc (.cells #[.string s] 9)) := (Below.refl _ w).alloc (Nat.le_refl _) _
 have hc := (Whole.new w 9 #[.string s]).cell 0
 have HC := Lib.hid (indexM_any A n c w.heap.size s L (w.alloc (.cells #[.string s] 9)) ((h.below hb0).more hb0.size) hn hl hc)
 have HB := Lib.hid hb0
 clear h hb0 hc
 generalize (L.any fun m => tx m.mid == tx s) = r at *
 have hmf : ∀ (fn : Fn) (first cap : Array Value) (w : World), (Instr.makeFunc fn first cap).run Tryz.prog w = .ok (.func fn first cap) w := fun _ _ _ _ => rfl
 have HD : Hid (Calls Tryz.prog 76 #[.slice A n c, .func (.func 77) #[] #[.pointer (some ⟨w.heap.size, 0, none⟩)]] (w.alloc (.cells #[.string s] 9)) fun e w' => e = .returned (.bool r) ∧ Below w.heap.size w w') := Lib.hid (by
  generalize (w.alloc (.cells #[.string s] 9)) = W at *
  go_enter Tryz.func76, Tryz.ntmps76
  go_wp2_with (go_at_call 93; (with_reducible refine HC.out.mono ?_); rintro e w2 ⟨i, rfl, hi, hb2⟩)
  go_ret
  first | exact ⟨rfl, HB.out.trans (hb2.mono HB.out.size)⟩ | exact ⟨ret_bool hi, HB.out.trans (hb2.mono HB.out.size)⟩)
 go_enter Tryz.func64, Tryz.ntmps64
 go_upto_region 1 with fail
 generalize (w.alloc (.cells #[.string s] 9)) = W at *
 go_wp2_with (go_at_call 76; (with_reducible refine HD.out.mono ?_); rintro e w2 ⟨rfl, hb2⟩)
 go_ret
 exact ⟨rfl, hb2⟩
set_option maxHeartbeats 1600000 in
set_option maxRecDepth 100000 in
theorem atT_any (A : Option Addr) (n c : Nat) (s : ByteArray) (L : List ByteArray) (w : World) (h : TextsV w w.heap.size (.slice A n c) L) (hn : L.length = n) (hl : n ≤ 4611686018427387904) :
 Calls Tryz.prog 66 #[.slice A n c, .string s] w fun e w' => ∃ r : Int, e = .returned (.int .i64 r) ∧ decide (0 ≤ r) = (L.any fun b => tx b == tx s) ∧ w = w' := by
 have HA := Lib.hid h
 have HE := Lib.hid hn
 obtain ⟨q, hq⟩ : ∃ q : ByteArray → Bool, (fun b => tx b == tx s) = q := ⟨_, rfl⟩
 have HQ : Hid (∀ x : ByteArray, (s.toList == x.toList) = q x) := Lib.hid fun x => by
  rw [← hq, toList_tx, toList_tx, Bool.eq_iff_iff, beq_iff_eq, beq_iff_eq]
  exact ⟨fun h => h.symm, fun h => h.symm⟩
 rw [hq]
 clear h hn hq
 go_enter Tryz.func66, Tryz.ntmps66
 go_wp2
 go_loopw [8] (fun s8 wr => ∃ k : Nat, k ≤ n ∧ s8 = .int .i64 k ∧ (∀ j, j < k → q (L.getD j default) = false) ∧ w = wr) (fun s8 _ => n - (intOf s8).toNat)
 case atStart => exact ⟨0, by omega, rfl, (fun j hj => by omega), by first | rfl | trivial⟩
 case round =>
  obtain ⟨k, hk, rfl, hno, rfl⟩ := hrel
  have HNO := Lib.hid hno
  clear hno
  by_cases hlt : k < n
  · have hlt' : k < L.length := by rw [HE.out]; exact hlt
    obtain ⟨ad, c', e1, had, c0⟩ := HA.out.at_ hlt'
    injection e1 with e1 e1n e1c
    clear e1n e1c
    subst e1
    obtain ⟨x, hx⟩ : ∃ x, L.getD k default = x := ⟨_, rfl⟩
    rw [hx] at c0
    have HX := Lib.hid (And.intro hx hlt')
    obtain ⟨b, hbb⟩ : ∃ b, (s.toList == x.toList) = b := ⟨_, rfl⟩
    have HBT : Hid (q x = b) := Lib.hid (by rw [← HQ.out, hbb])
    clear hx hlt' had
    have hk0 : (0 : Int) ≤ (k : Int) := by omega
    have hk1 : (k : Int) < (n : Int) := by omega
    go_upto_if 16 with fail
    clear hbb
    cases b with
    | true =>
      go_wp2
      go_ret
      exact ⟨_, rfl, by rw [any_yes HX.out.2 (by rw [HX.out.1]; exact HBT.out)]; exact decide_eq_true hk0, rfl⟩
    | false =>
      go_wp2
      go_roundw
      case rel =>
       refine ⟨k + 1, by omega, by go_num, fun j hj => ?_, by first | rfl | trivial⟩
       by_cases e : j = k
       · subst e
         rw [HX.out.1]
         exact HBT.out
       · exact HNO.out j (by omega)
      case measure => simp [intOf]; omega
  · have e : k = n := by omega
    subst e
    have HN : Hid (L.any q = false) := Lib.hid (any_no HE.out HNO.out)
    go_wp2
    go_ret
    exact ⟨_, rfl, by rw [HN.out]; rfl, rfl⟩
set_option maxHeartbeats 800000 in
theorem hasT_any (A : Option Addr) (n c : Nat) (s : ByteArray) (L : List ByteArray) (w : World) (h : TextsV w w.heap.size (.slice A n c) L) (hn : L.length = n) (hl : n ≤ 4611686018427387904) :
 Calls Tryz.prog 58 #[.slice A n c, .string s] w fun e w' => e = .returned (.bool (L.any fun b => tx b == tx s)) ∧ w = w' := by
 have HC := Lib.hid (atT_any A n c s L w h hn hl)
 clear h
 generalize (L.any fun b => tx b == tx s) = r at *
 go_enter Tryz.func58, Tryz.ntmps58
 go_wp2_with (go_at_call 66; (with_reducible refine HC.out.mono ?_); rintro e w2 ⟨i, rfl, hi, rfl⟩)
 go_ret
 first | exact ⟨rfl, rfl⟩ | exact ⟨ret_bool hi, rfl⟩
set_option maxHeartbeats 3200000 in
set_option maxRecDepth 100000 in
theorem goodBundle_any (A : Option Addr) (n c : Nat) (Q : Option Addr) (m k0 : Nat) (B : List ByteArray) (L : List MediaS) (w : World) (h : TextsV w w.heap.size (.slice A n c) B) (hn : B.length = n) (hl : n ≤ 140737488355328)
 (hQ : MediasV w w.heap.size (.slice Q m k0) L) (hm : L.length = m) (hml : m ≤ 140737488355328) :
 Calls Tryz.prog 55 #[.slice A n c, .slice Q m k0] w fun e w' => e = .returned (.bool (goodDB B L)) ∧ Below w.heap.size w w' := by
 have hcap : n ≤ c ∧ c ≤ maxLen := by
  obtain ⟨A', c', e1, e2, e3, -⟩ := Rows.form h
  injection e1 with e1 e1n e1c
  subst e1c
  exact ⟨by omega, e3⟩
 obtain ⟨hc1, hc2⟩ := hcap
 unfold maxLen at hc2
 have HV := Lib.hid h
 have HE := Lib.hid hn
 have HH : Hid (∀ (W : World) (s : ByteArray), Below w.heap.size w W → Calls Tryz.prog 64 #[.slice Q m k0, .string s] W fun e w' => e = .returned (.bool ((L.map midT).contains (tx s))) ∧ Below W.heap.size W w') := Lib.hid fun W s hb => by
  have := has_any Q m k0 s L W ((hQ.below hb).more hb.size) hm (by omega)
  have e : (L.any fun m => tx m.mid == tx s) = (L.map midT).contains (tx s) := by
   rw [Bool.eq_iff_iff]
   simp only [List.any_eq_true, List.contains_iff_mem, List.mem_map, beq_iff_eq, midT]
  rw [e] at this
  exact this
 obtain ⟨good, hg⟩ : ∃ q : ByteArray → Bool, (fun b => (L.map midT).contains (tx b)) = q := ⟨_, rfl⟩
 have hHe : ∀ s : ByteArray, (L.map midT).contains (tx s) = good s := fun s => by rw [← hg]
 simp only [hHe] at HH
 have HR : Hid (goodDB B L = (B.all good && unlike tx B)) := Lib.hid (by unfold goodDB; rw [hg])
 clear hg hHe h hn hQ hm
 generalize goodDB B L = r at *
 go_enter Tryz.func55, Tryz.ntmps55
 go_wp2
 go_loopw [9] (fun s9 wr => ∃ k : Nat, k ≤ n ∧ s9 = .int .i64 k ∧ (Below w.heap.size w wr ∧ (∀ j, j < k → good (B.getD j default) = true) ∧ unlike tx (B.take k) = true)) (fun s9 _ => n - (intOf s9).toNat)
 case atStart => exact ⟨0, by omega, rfl, Below.refl _ _, (fun j hj => by omega), by first | rfl | trivial⟩
 case round =>
  obtain ⟨k, hk, rfl, hst⟩ := hrel
  have HS := Lib.hid hst
  clear hst
  by_cases hlt : k < n
  · have hlt' : k < B.length := by rw [HE.out]; exact hlt
    obtain ⟨ad, c', e1, had, c0⟩ := (HV.out.below HS.out.1).at_ hlt'
    injection e1 with e1 e1n e1c
    clear e1n e1c
    subst e1
    obtain ⟨x, hx⟩ : ∃ x, B.getD k default = x := ⟨_, rfl⟩
    have HM : Hid (x ∈ B ∧ B[k]? = some x ∧ B.getD k default = x) := Lib.hid ⟨by rw [← hx]; exact getD_mem hlt', by rw [← hx]; exact getD_of hlt', hx⟩
    rw [hx] at c0
    have hk0 : (0 : Int) ≤ (k : Int) := by omega
    have hk1 : (k : Int) < (n : Int) := by omega
    have hk2 : (k : Int) ≤ (c : Int) := by omega
    obtain ⟨b, hb⟩ : ∃ b, good x = b := ⟨_, rfl⟩
    have HC := Lib.hid (HH.out wr x HS.out.1)
    rw [hb] at HC
    have HBG := Lib.hid hb
    clear hb hx had hlt'
    cases b with
    | false =>
      have HQ : Hid (r = false) := Lib.hid (by rw [HR.out, all_no HM.out.1 HBG.out]; simp)
      go_wp2_with (go_at_call 64; (with_reducible refine HC.out.mono ?_); rintro e w3 ⟨rfl, hb3⟩)
      go_ret
      exact ⟨ret_bool HQ.out.symm, HS.out.1.trans (hb3.mono HS.out.1.size)⟩
    | true =>
      obtain ⟨a, ha⟩ : ∃ a, (B.take k).any (fun y => tx y == tx x) = a := ⟨_, rfl⟩
      have HCO : Hid (∀ w3, Below wr.heap.size wr w3 → Calls Tryz.prog 58 #[.slice (some ad) k c, .string x] w3 fun e w' => e = .returned (.bool a) ∧ w3 = w') := Lib.hid fun w3 hb3 => by
       have hb := HS.out.1.trans (hb3.mono HS.out.1.size)
       have hv3 := Rows.take (k := k) (HV.out.below hb) (by rw [HE.out]; omega)
       have hv3 : TextsV w3 w3.heap.size (.slice (some ad) k c) (B.take k) := TextsV.more hv3 hb.size
       have := hasT_any (some ad) k c x (B.take k) w3 hv3 (by rw [List.length_take, HE.out]; omega) (by omega)
       rw [ha] at this
       exact this
      have HST := Lib.hid (unlike_step (f := tx) (q := (fun y => tx y == tx x)) HM.out.2.1 HS.out.2.2 (fun y => by rw [beq_iff_eq]))
      rw [ha] at HST
      clear ha
      cases a with
      | true =>
        have HQ : Hid (r = false) := Lib.hid (by rw [HR.out, HST.out.1 rfl]; simp)
        go_wp2_with (first | (go_at_call 64; (with_reducible refine HC.out.mono ?_); rintro e w3 ⟨rfl, hb3⟩; have HCC := Lib.hid (HCO.out w3 hb3)) | (go_at_call 58; (with_reducible refine HCC.out.mono ?_); rintro e w4 ⟨rfl, rfl⟩))
        go_ret
        exact ⟨ret_bool HQ.out.symm, HS.out.1.trans (hb3.mono HS.out.1.size)⟩
      | false =>
        go_wp2_with (first | (go_at_call 64; (with_reducible refine HC.out.mono ?_); rintro e w3 ⟨rfl, hb3⟩; have HCC := Lib.hid (HCO.out w3 hb3)) | (go_at_call 58; (with_reducible refine HCC.out.mono ?_); rintro e w4 ⟨rfl, rfl⟩))
        go_roundw
        case rel =>
         refine ⟨k + 1, by omega, by go_num, HS.out.1.trans (hb3.mono HS.out.1.size), fun j hj => ?_, HST.out.2 (by first | rfl | trivial)⟩
         by_cases e : j = k
         · subst e
           rw [HM.out.2.2]
           exact HBG.out
         · exact HS.out.2.1 j (by omega)
        case measure => simp [intOf]; omega
  · have e : k = n := by omega
    subst e
    have HQ : Hid (r = true) := Lib.hid (by
     rw [HR.out, all_yesL HE.out HS.out.2.1]
     have := HS.out.2.2
     rw [List.take_of_length_le (by rw [HE.out]; exact Nat.le_refl _)] at this
     rw [this]
     rfl)
    have HBW := Lib.hid HS.out.1
    go_wp2
    go_ret
    exact ⟨ret_bool HQ.out.symm, HBW.out⟩
set_option maxHeartbeats 3200000 in
set_option maxRecDepth 100000 in
theorem goodMedia_any (A : Option Addr) (n c : Nat) (L : List MediaS) (w : World) (h : MediasV w w.heap.size (.slice A n c) L) (hn : L.length = n) (hl : n ≤ 140737488355328) (hz : ∀ m ∈ L, SizM m) :
 Calls Tryz.prog 54 #[.slice A n c] w fun e w' => e = .returned (.bool (goodDM L)) ∧ Below w.heap.size w w' := by
 have hcap : n ≤ c ∧ c ≤ maxLen := by
  obtain ⟨A', c', e1, e2, e3, -⟩ := Rows.form h
  injection e1 with e1 e1n e1c
  subst e1c
  exact ⟨by omega, e3⟩
 obtain ⟨hc1, hc2⟩ := hcap
 unfold maxLen at hc2
 have HV := Lib.hid h
 have HE := Lib.hid hn
 have HGD : Hid (∀ (W : World) (M : Array Value) (m : MediaS) (vC vE vR vS vY : Value), m ∈ L → MediaV W W.heap.size M m vC vE vR vS vY → Calls Tryz.prog 63 #[.agg M] W fun e w' => e = .returned (.bool (goodM m)) ∧ Below W.heap.size W w') := Lib.hid fun W M m vC vE vR vS vY hm hM => good_any M m vC vE vR vS vY W hM (hz m hm)
 have HH : Hid (∀ (W : World) (s : ByteArray) (ad : Addr) (k : Nat), A = some ad → k ≤ n → Below w.heap.size w W → Calls Tryz.prog 64 #[.slice (some ad) k c, .string s] W fun e w' => e = .returned (.bool ((L.take k).any fun m => midT m == tx s)) ∧ Below W.heap.size W w') := Lib.hid fun W s ad k hA hk hb => by
  subst hA
  have hv := Rows.take (k := k) (h.below hb) (by rw [hn]; exact hk)
  exact has_any (some ad) k c s (L.take k) W (MediasV.more hv hb.size) (by rw [List.length_take, hn]; omega) (by omega)
 have HR : Hid (goodDM L = (L.all goodM && unlike midT L)) := Lib.hid rfl
 clear h hn hz
 generalize goodDM L = r at *
 obtain ⟨N, hN⟩ : ∃ N, w.heap.size = N := ⟨_, rfl⟩
 rw [hN] at HV HH ⊢
 have HN := Lib.hid hN
 clear hN
 go_enter Tryz.func54, Tryz.ntmps54
 go_wp2
 go_loopw [7] (fun s7 wr => ∃ k : Nat, k ≤ n ∧ s7 = .int .i64 k ∧ (Below N w wr ∧ (∀ j, j < k → goodM (L.getD j default) = true) ∧ unlike midT (L.take k) = true)) (fun s7 _ => n - (intOf s7).toNat)
 case atStart => exact ⟨0, by omega, rfl, Below.refl _ _, (fun j hj => by omega), by first | rfl | trivial⟩
 case round =>
  obtain ⟨k, hk, rfl, hst⟩ := hrel
  have HS := Lib.hid hst
  clear hst
  by_cases hlt : k < n
  · have hlt' : k < L.length := by rw [HE.out]; exact hlt
    obtain ⟨ad, c', M, vC, vE, vR, vS, vY, e1, had, hM, hcs⟩ := (HV.out.below HS.out.1).at_ hlt'
    injection e1 with e1 e1n e1c
    clear e1n e1c
    subst e1
    obtain ⟨x, hx⟩ : ∃ x, L.getD k default = x := ⟨_, rfl⟩
    rw [hx] at hM
    have HM : Hid (x ∈ L ∧ L[k]? = some x ∧ L.getD k default = x ∧ MediaV wr N M x vC vE vR vS vY) := Lib.hid ⟨by rw [← hx]; exact getD_mem hlt', by rw [← hx]; exact getD_of hlt', hx, hM⟩
    have hk0 : (0 : Int) ≤ (k : Int) := by omega
    have hk1 : (k : Int) < (n : Int) := by omega
    have hk2 : (k : Int) ≤ (c : Int) := by omega
    have hN0 : N ≤ wr.heap.size := by have := HS.out.1.size; rw [HN.out] at this; exact this
    have HLD : Hid (∀ (ops : Array Oper) (rest : List Oper) (op : Oper) (a : Act) (Q : Exit → Act → World → Prop), op.guard = none → op.op = .load 44 (.tmp 10) → a.eval (.tmp 10) = .pointer (some (ad.add (k * 11))) → wpList Tryz.prog ops Q rest (a.put op.dst (.agg M)) wr → wpList Tryz.prog ops Q (op :: rest) a wr) :=
     Lib.hid fun ops rest op a Q h1 h2 h3 h4 => wpList_load_at h1 44 (.tmp 10) h2 _ h3 M.toList _ hcs Tryz.underlying44 rfl (by rw [Array.length_toList, hM.size]; exact Tryz.sizeMedia) (by rw [Array.toArray_toList]; exact h4)
    have HNEW : Hid (Whole (wr.alloc (.cells #[.int .i64 0, .int .i64 0, .string ⟨#[]⟩, .int .i64 0, .slice none 0 0, .slice none 0 0, .slice none 0 0, .bool false, .slice none 0 0, .slice none 0 0, .int .i64 0] 44)) wr.heap.size 44 #[.int .i64 0, .int .i64 0, .string ⟨#[]⟩, .int .i64 0, .slice none 0 0, .slice none 0 0, .slice none 0 0, .bool false, .slice none 0 0, .slice none 0 0, .int .i64 0] ∧ M.size = 11 ∧ M.toList.all (·.oneCell') = true ∧ M[2]? = some (.string x.mid)) := Lib.hid ⟨Whole.new _ _ _, hM.size, hM.one, by rw [hM.form]; rfl⟩
    have HW : Hid (Below N wr ((wr.alloc (.cells #[.int .i64 0, .int .i64 0, .string ⟨#[]⟩, .int .i64 0, .slice none 0 0, .slice none 0 0, .slice none 0 0, .bool false, .slice none 0 0, .slice none 0 0, .int .i64 0] 44)).setRow wr.heap.size M) ∧ Whole ((wr.alloc (.cells #[.int .i64 0, .int .i64 0, .string ⟨#[]⟩, .int .i64 0, .slice none 0 0, .slice none 0 0, .slice none 0 0, .bool false, .slice none 0 0, .slice none 0 0, .int .i64 0] 44)).setRow wr.heap.size M) wr.heap.size 44 M) := Lib.hid ⟨below_row ((Below.refl _ wr).alloc hN0 _) hN0 _, HNEW.out.1.row _⟩
    clear hx had hlt' hcs hM
    go_upto_region 4 with (first | ((with_reducible refine HLD.out _ _ _ _ _ ?_ ?_ ?_ ?_); (with_reducible rfl); (with_reducible rfl); rfl) | ((with_reducible refine wpList_storeS M ?_ 44 (.tmp 4) (.tmp 11) ?_ ?_ ?_ HNEW.out.1 Tryz.sizeMedia HNEW.out.2.1 ?_ HNEW.out.2.2.1 ?_); (with_reducible rfl); (with_reducible rfl); rfl; rfl; rfl))
    generalize ((wr.alloc (.cells #[.int .i64 0, .int .i64 0, .string ⟨#[]⟩, .int .i64 0, .slice none 0 0, .slice none 0 0, .slice none 0 0, .bool false, .slice none 0 0, .slice none 0 0, .int .i64 0] 44)).setRow wr.heap.size M) = w2 at *
    have HG : Hid (N ≤ wr.heap.size ∧ N ≤ w2.heap.size ∧ MediaV w2 w2.heap.size M x vC vE vR vS vY) := Lib.hid ⟨hN0, Nat.le_trans hN0 HW.out.1.size, (HM.out.2.2.2.below HW.out.1).more (Nat.le_trans hN0 HW.out.1.size)⟩
    generalize wr.heap.size = g at *
    clear HLD hN0
    have HB2 : Hid (Below N w w2) := Lib.hid (HS.out.1.trans (HW.out.1.mono (Nat.le_refl _)))
    have HLM : Hid (∀ W, Below w2.heap.size w2 W → ∀ j v, M.toList[j]? = some v → W.cell? ((⟨g, 0, none⟩ : Addr).add j) = some v) := Lib.hid fun W hW j v hv => by
     rw [Addr.add_lit, Nat.zero_add, (HW.out.2.under hW).cell j, ← Array.getElem?_toList]
     exact hv
    have HC2 : Hid (∀ W, Below w2.heap.size w2 W → W.cell? ⟨g, 2, none⟩ = some (.string x.mid)) := Lib.hid fun W hW => ((HW.out.2.under hW).cell 2).trans HNEW.out.2.2.2
    have HSZL : Hid ((Tryz.prog.info? 44).map (·.size) = some M.toList.length) := Lib.hid (by rw [Tryz.sizeMedia, Array.length_toList, HNEW.out.2.1])
    have HKB : Hid (∀ W W', Below w2.heap.size w2 W → Below W.heap.size W W' → Below w2.heap.size w2 W') := Lib.hid fun W W' h1 h2 => below_chain (Nat.le_refl _) h1 h2
    have HFIN : Hid (∀ W, Below w2.heap.size w2 W → Below N w W) := Lib.hid fun W hW => HB2.out.trans (hW.mono HG.out.2.1)
    obtain ⟨b, hb⟩ : ∃ b, goodM x = b := ⟨_, rfl⟩
    have HC : Hid (∀ W, Below w2.heap.size w2 W → Calls Tryz.prog 63 #[.agg M] W fun e w' => e = .returned (.bool b) ∧ Below W.heap.size W w') := Lib.hid fun W hW => by
     have := HGD.out W M x vC vE vR vS vY HM.out.1 (HG.out.2.2.under hW)
     rw [hb] at this
     exact this
    have HBG := Lib.hid hb
    have HDR : Hid (Below w2.heap.size w2 w2.drew) := Lib.hid (Below.refl _ _).drew
    clear hb
    cases b with
    | false =>
      have HQ : Hid (r = false) := Lib.hid (by rw [HR.out, all_no HM.out.1 HBG.out]; simp)
      refine wp_region_held_drew (S := fun W => Below w2.heap.size w2 W) (by kernel_rfl) HDR.out (fun hHeld => ?_)
      refine wpAnyH_take (i := 0) (v := _) rfl (by as_aux_lemma => kernel_rfl) (by as_aux_lemma => kernel_rfl) (by as_aux_lemma => kernel_rfl) (fun _ _ _ h => h) (yieldsIf_load_at (by rfl) 44 (.tmp 4) rfl ⟨g, 0, none⟩ rfl M.toList _ (fun w h => HLM.out w h) Tryz.underlying44 rfl HSZL.out) (by assumption) ?_
      simp only [Act.put, List.getElem_toArray, List.getElem_cons_succ, List.getElem_cons_zero, List.setIfInBounds_toArray, List.set_cons_succ, List.set_cons_zero]
      refine wpAnyH_ready (rs := [1]) (by as_aux_lemma => kernel_rfl) (by simp) ?_
      refine AllReadyH.cons (i := 1) rfl (fun K hK => ?_) AllReadyH.nil
      go_simp
      refine (HC.out _ hHeld).mono ?_
      rintro e w3 ⟨rfl, hb3⟩
      refine hK.out _ _ (HKB.out _ _ hHeld hb3) (fun hHeld4 => ?_)
      clear hK K hHeld
      have hHeld := hHeld4
      clear hHeld4
      refine wpAnyH_take (i := 2) (v := _) rfl (by as_aux_lemma => kernel_rfl) (by as_aux_lemma => kernel_rfl) (by as_aux_lemma => kernel_rfl) (fun _ _ _ h => h) (Or.inl ⟨by rfl, fun w h => by have e0 := HC2.out w h; clear h; go_simp; (try with_reducible rfl)⟩) (by assumption) ?_
      simp only [Act.put, List.getElem_toArray, List.getElem_cons_succ, List.getElem_cons_zero, List.setIfInBounds_toArray, List.set_cons_succ, List.set_cons_zero]
      refine wpAnyH_take (i := 3) (v := _) rfl (by as_aux_lemma => kernel_rfl) (by as_aux_lemma => kernel_rfl) (by as_aux_lemma => kernel_rfl) (fun _ _ _ h => h) (Or.inl ⟨by rfl, fun w h => by have e0 := HC2.out w h; clear h; go_simp; (try with_reducible rfl)⟩) (by assumption) ?_
      simp only [Act.put, List.getElem_toArray, List.getElem_cons_succ, List.getElem_cons_zero, List.setIfInBounds_toArray, List.set_cons_succ, List.set_cons_zero]
      refine wpAnyH_take (i := 4) (v := _) rfl (by as_aux_lemma => kernel_rfl) (by as_aux_lemma => kernel_rfl) (by as_aux_lemma => kernel_rfl) (fun _ _ _ h => h) (Or.inr ⟨by rfl, rfl⟩) (by assumption) ?_
      simp only [Act.put, List.getElem_toArray, List.getElem_cons_succ, List.getElem_cons_zero, List.setIfInBounds_toArray, List.set_cons_succ, List.set_cons_zero]
      refine wpAnyH_take (i := 5) (v := _) rfl (by as_aux_lemma => kernel_rfl) (by as_aux_lemma => kernel_rfl) (by as_aux_lemma => kernel_rfl) (fun _ _ _ h => h) (Or.inr ⟨by rfl, rfl⟩) (by assumption) ?_
      simp only [Act.put, List.getElem_toArray, List.getElem_cons_succ, List.getElem_cons_zero, List.setIfInBounds_toArray, List.set_cons_succ, List.set_cons_zero]
      refine wpAnyH_take (i := 6) (v := _) rfl (by as_aux_lemma => kernel_rfl) (by as_aux_lemma => kernel_rfl) (by as_aux_lemma => kernel_rfl) (fun _ _ _ h => h) (Or.inr ⟨by rfl, rfl⟩) (by assumption) ?_
      simp only [Act.put, List.getElem_toArray, List.getElem_cons_succ, List.getElem_cons_zero, List.setIfInBounds_toArray, List.set_cons_succ, List.set_cons_zero]
      refine wpAnyH_take (i := 7) (v := _) rfl (by as_aux_lemma => kernel_rfl) (by as_aux_lemma => kernel_rfl) (by as_aux_lemma => kernel_rfl) (fun _ _ _ h => h) (Or.inr ⟨by rfl, rfl⟩) (by assumption) ?_
      simp only [Act.put, List.getElem_toArray, List.getElem_cons_succ, List.getElem_cons_zero, List.setIfInBounds_toArray, List.set_cons_succ, List.set_cons_zero]
      refine wpAnyH_take (i := 8) (v := _) rfl (by as_aux_lemma => kernel_rfl) (by as_aux_lemma => kernel_rfl) (by as_aux_lemma => kernel_rfl) (fun _ _ _ h => h) (Or.inr ⟨by rfl, rfl⟩) (by assumption) ?_
      simp only [Act.put, List.getElem_toArray, List.getElem_cons_succ, List.getElem_cons_zero, List.setIfInBounds_toArray, List.set_cons_succ, List.set_cons_zero]
      refine wpAnyH_take (i := 9) (v := _) rfl (by as_aux_lemma => kernel_rfl) (by as_aux_lemma => kernel_rfl) (by as_aux_lemma => kernel_rfl) (fun _ _ _ h => h) (Or.inr ⟨by rfl, rfl⟩) (by assumption) ?_
      simp only [Act.put, List.getElem_toArray, List.getElem_cons_succ, List.getElem_cons_zero, List.setIfInBounds_toArray, List.set_cons_succ, List.set_cons_zero]
      refine wpAnyH_take (i := 10) (v := _) rfl (by as_aux_lemma => kernel_rfl) (by as_aux_lemma => kernel_rfl) (by as_aux_lemma => kernel_rfl) (fun _ _ _ h => h) (Or.inl ⟨by rfl, fun w h => by have e0 := HC2.out w h; clear h; go_simp; (try with_reducible rfl)⟩) (by assumption) ?_
      simp only [Act.put, List.getElem_toArray, List.getElem_cons_succ, List.getElem_cons_zero, List.setIfInBounds_toArray, List.set_cons_succ, List.set_cons_zero]
      refine wpAnyH_done (by as_aux_lemma => kernel_rfl) ?_ _
      go_wp2
      go_ret
      exact ⟨ret_bool HQ.out.symm, HFIN.out _ hHeld⟩
    | true =>
      obtain ⟨a, ha⟩ : ∃ a, ((L.take k).any fun y => midT y == tx x.mid) = a := ⟨_, rfl⟩
      have HCO : Hid (∀ W, Below w2.heap.size w2 W → Calls Tryz.prog 64 #[.slice (some ad) k c, .string x.mid] W fun e w' => e = .returned (.bool a) ∧ Below W.heap.size W w') := Lib.hid fun W hW => by
       have := HH.out W x.mid ad k rfl (by omega) (HFIN.out W hW)
       rw [ha] at this
       exact this
      have HST := Lib.hid (unlike_step (f := midT) (q := (fun y => midT y == tx x.mid)) HM.out.2.1 HS.out.2.2 (fun y => by rw [beq_iff_eq]; rfl))
      rw [ha] at HST
      clear ha
      refine wp_region_held_drew (S := fun W => Below w2.heap.size w2 W) (by kernel_rfl) HDR.out (fun hHeld => ?_)
      refine wpAnyH_take (i := 0) (v := _) rfl (by as_aux_lemma => kernel_rfl) (by as_aux_lemma => kernel_rfl) (by as_aux_lemma => kernel_rfl) (fun _ _ _ h => h) (yieldsIf_load_at (by rfl) 44 (.tmp 4) rfl ⟨g, 0, none⟩ rfl M.toList _ (fun w h => HLM.out w h) Tryz.underlying44 rfl HSZL.out) (by assumption) ?_
      simp only [Act.put, List.getElem_toArray, List.getElem_cons_succ, List.getElem_cons_zero, List.setIfInBounds_toArray, List.set_cons_succ, List.set_cons_zero]
      refine wpAnyH_ready (rs := [1]) (by as_aux_lemma => kernel_rfl) (by simp) ?_
      refine AllReadyH.cons (i := 1) rfl (fun K hK => ?_) AllReadyH.nil
      go_simp
      refine (HC.out _ hHeld).mono ?_
      rintro e w3 ⟨rfl, hb3⟩
      refine hK.out _ _ (HKB.out _ _ hHeld hb3) (fun hHeld4 => ?_)
      clear hK K hHeld
      have hHeld := hHeld4
      clear hHeld4
      refine wpAnyH_take (i := 2) (v := _) rfl (by as_aux_lemma => kernel_rfl) (by as_aux_lemma => kernel_rfl) (by as_aux_lemma => kernel_rfl) (fun _ _ _ h => h) (Or.inl ⟨by rfl, fun w h => by have e0 := HC2.out w h; clear h; go_simp; (try with_reducible rfl)⟩) (by assumption) ?_
      simp only [Act.put, List.getElem_toArray, List.getElem_cons_succ, List.getElem_cons_zero, List.setIfInBounds_toArray, List.set_cons_succ, List.set_cons_zero]
      refine wpAnyH_take (i := 3) (v := _) rfl (by as_aux_lemma => kernel_rfl) (by as_aux_lemma => kernel_rfl) (by as_aux_lemma => kernel_rfl) (fun _ _ _ h => h) (Or.inl ⟨by rfl, fun w h => by have e0 := HC2.out w h; clear h; go_simp; (try with_reducible rfl)⟩) (by assumption) ?_
      simp only [Act.put, List.getElem_toArray, List.getElem_cons_succ, List.getElem_cons_zero, List.setIfInBounds_toArray, List.set_cons_succ, List.set_cons_zero]
      refine wpAnyH_take (i := 4) (v := _) rfl (by as_aux_lemma => kernel_rfl) (by as_aux_lemma => kernel_rfl) (by as_aux_lemma => kernel_rfl) (fun _ _ _ h => h) (Or.inl ⟨by rfl, fun w h => by have e0 := HC2.out w h; clear h; go_simp; (try with_reducible rfl)⟩) (by assumption) ?_
      simp only [Act.put, List.getElem_toArray, List.getElem_cons_succ, List.getElem_cons_zero, List.setIfInBounds_toArray, List.set_cons_succ, List.set_cons_zero]
      refine wpAnyH_take (i := 5) (v := _) rfl (by as_aux_lemma => kernel_rfl) (by as_aux_lemma => kernel_rfl) (by as_aux_lemma => kernel_rfl) (fun _ _ _ h => h) (Or.inl ⟨by rfl, fun w h => by have e0 := HC2.out w h; clear h; go_simp; (try with_reducible rfl)⟩) (by assumption) ?_
      simp only [Act.put, List.getElem_toArray, List.getElem_cons_succ, List.getElem_cons_zero, List.setIfInBounds_toArray, List.set_cons_succ, List.set_cons_zero]
      refine wpAnyH_take (i := 6) (v := _) rfl (by as_aux_lemma => kernel_rfl) (by as_aux_lemma => kernel_rfl) (by as_aux_lemma => kernel_rfl) (fun _ _ _ h => h) (Or.inl ⟨by rfl, fun w h => by have e0 := HC2.out w h; clear h; go_simp; (try with_reducible rfl)⟩) (by assumption) ?_
      simp only [Act.put, List.getElem_toArray, List.getElem_cons_succ, List.getElem_cons_zero, List.setIfInBounds_toArray, List.set_cons_succ, List.set_cons_zero]
      refine wpAnyH_take (i := 7) (v := _) rfl (by as_aux_lemma => kernel_rfl) (by as_aux_lemma => kernel_rfl) (by as_aux_lemma => kernel_rfl) (fun _ _ _ h => h) (Or.inl ⟨by rfl, fun w h => by have e0 := HC2.out w h; clear h; go_simp; (try with_reducible rfl)⟩) (by assumption) ?_
      simp only [Act.put, List.getElem_toArray, List.getElem_cons_succ, List.getElem_cons_zero, List.setIfInBounds_toArray, List.set_cons_succ, List.set_cons_zero]
      refine wpAnyH_take (i := 8) (v := _) rfl (by as_aux_lemma => kernel_rfl) (by as_aux_lemma => kernel_rfl) (by as_aux_lemma => kernel_rfl) (fun _ _ _ h => h) (Or.inl ⟨by rfl, fun w h => by have e0 := HC2.out w h; clear h; go_simp; (try with_reducible rfl)⟩) (by assumption) ?_
      simp only [Act.put, List.getElem_toArray, List.getElem_cons_succ, List.getElem_cons_zero, List.setIfInBounds_toArray, List.set_cons_succ, List.set_cons_zero]
      refine wpAnyH_ready (rs := [9]) (by as_aux_lemma => kernel_rfl) (by simp) ?_
      refine AllReadyH.cons (i := 9) rfl (fun K hK => ?_) AllReadyH.nil
      go_simp
      refine (HCO.out _ hHeld).mono ?_
      rintro e w4 ⟨rfl, hb4⟩
      refine hK.out _ _ (HKB.out _ _ hHeld hb4) (fun hHeld4 => ?_)
      clear hK K hHeld
      have hHeld := hHeld4
      clear hHeld4
      refine wpAnyH_take (i := 10) (v := _) rfl (by as_aux_lemma => kernel_rfl) (by as_aux_lemma => kernel_rfl) (by as_aux_lemma => kernel_rfl) (fun _ _ _ h => h) (Or.inl ⟨by rfl, fun w h => by have e0 := HC2.out w h; clear h; go_simp; (try with_reducible rfl)⟩) (by assumption) ?_
      simp only [Act.put, List.getElem_toArray, List.getElem_cons_succ, List.getElem_cons_zero, List.setIfInBounds_toArray, List.set_cons_succ, List.set_cons_zero]
      refine wpAnyH_done (by as_aux_lemma => kernel_rfl) ?_ _
      cases a with
      | true =>
        have HQ : Hid (r = false) := Lib.hid (by rw [HR.out, HST.out.1 rfl]; simp)
        go_wp2
        go_ret
        exact ⟨ret_bool HQ.out.symm, HFIN.out _ hHeld⟩
      | false =>
        go_wp2
        go_roundw
        case rel =>
         refine ⟨k + 1, by omega, by go_num, HFIN.out _ hHeld, fun j hj => ?_, HST.out.2 (by first | rfl | trivial)⟩
         by_cases e : j = k
         · subst e
           rw [HM.out.2.2.1]
           exact HBG.out
         · exact HS.out.2.1 j (by omega)
        case measure => simp [intOf]; omega
  · have e : k = n := by omega
    subst e
    have HQ : Hid (r = true) := Lib.hid (by
     rw [HR.out, all_yesL HE.out HS.out.2.1]
     have := HS.out.2.2
     rw [List.take_of_length_le (by rw [HE.out]; exact Nat.le_refl _)] at this
     rw [this]
     rfl)
    have HBW := Lib.hid HS.out.1
    go_wp2
    go_ret
    exact ⟨ret_bool HQ.out.symm, HBW.out⟩
set_option maxHeartbeats 3200000 in
set_option maxRecDepth 100000 in
theorem deGood_any (D : Array Value) (d : DescS) (vB vM : Value) (w : World) (h : DescV w w.heap.size D d vB vM) (hz : SizD d) :
 Calls Tryz.prog 36 #[.agg D] w fun e w' => e = .returned (.bool (goodD d)) ∧ Below w.heap.size w w' := by
 obtain ⟨rfl, hvB, hvM⟩ := h
 obtain ⟨AB, cB, rfl, -⟩ := Rows.form hvB
 obtain ⟨AM, cM, rfl, -⟩ := Rows.form hvM
 obtain ⟨nB, hnB⟩ : ∃ n, d.bundle.length = n := ⟨_, rfl⟩
 obtain ⟨nM, hnM⟩ : ∃ n, d.media.length = n := ⟨_, rfl⟩
 rw [hnB] at hvB ⊢
 rw [hnM] at hvM ⊢
 have hzB : nB ≤ 140737488355328 := by have := hz.count; omega
 have hzM : nM ≤ 140737488355328 := by have := hz.few; omega
 have hzn := hz.name
 have hzp := hz.pass
 have hzm := hz.media
 obtain ⟨b1, hb1⟩ : ∃ b, wordP 4 32 (tx d.name) = b := ⟨_, rfl⟩
 obtain ⟨b2, hb2⟩ : ∃ b, wordP 22 32 (tx d.pass) = b := ⟨_, rfl⟩
 obtain ⟨b4, hb4⟩ : ∃ b, goodDM d.media = b := ⟨_, rfl⟩
 obtain ⟨b5, hb5⟩ : ∃ b, goodDB d.bundle d.media = b := ⟨_, rfl⟩
 obtain ⟨nm, hnm⟩ : ∃ x, d.name = x := ⟨_, rfl⟩
 obtain ⟨pw, hpw⟩ : ∃ x, d.pass = x := ⟨_, rfl⟩
 obtain ⟨i1, hi1⟩ : ∃ x, d.id = x := ⟨_, rfl⟩
 obtain ⟨i2, hi2⟩ : ∃ x, d.ver = x := ⟨_, rfl⟩
 have HG : Hid (goodD d = (b1 && b2 && decide (nM ≤ 8) && b4 && b5)) := Lib.hid (by unfold goodD; rw [hb1, hb2, hb4, hb5, hnM])
 rw [hnm] at hb1 hzn ⊢
 rw [hpw] at hb2 hzp ⊢
 rw [hi1, hi2]
 generalize goodD d = r at *
 have HW1 : Hid (∀ W : World, Calls Tryz.prog 53 #[.string nm, .int .i64 4] W fun e w' => e = .returned (.bool b1) ∧ W = w') := Lib.hid fun W => by
  have := wordFrom_any nm 4 W (by unfold maxLen; omega) (by decide) (by decide)
  rw [hb1] at this
  exact this
 have HW2 : Hid (∀ W : World, Calls Tryz.prog 53 #[.string pw, .int .i64 22] W fun e w' => e = .returned (.bool b2) ∧ W = w') := Lib.hid fun W => by
  have := wordFrom_any pw 22 W (by unfold maxLen; omega) (by decide) (by decide)
  rw [hb2] at this
  exact this
 have hb0 : Below w.heap.size w (w.alloc (.cells #[.int .u64 i1, .int .u64 i2, .slice AB nB cB, .string nm, .string pw, .slice AM nM cM] 26)) := (Below.refl _ w).alloc (Nat.le_refl _) _
 have hg0 := Whole.new w 26 #[.int .u64 i1, .int .u64 i2, .slice AB nB cB, .string nm, .string pw, .slice AM nM cM]
 have HGM : Hid (Calls Tryz.prog 54 #[.slice AM nM cM] (w.alloc (.cells #[.int .u64 i1, .int .u64 i2, .slice AB nB cB, .string nm, .string pw, .slice AM nM cM] 26)) fun e w' => e = .returned (.bool b4) ∧ Below (w.alloc (.cells #[.int .u64 i1, .int .u64 i2, .slice AB nB cB, .string nm, .string pw, .slice AM nM cM] 26)).heap.size (w.alloc (.cells #[.int .u64 i1, .int .u64 i2, .slice AB nB cB, .string nm, .string pw, .slice AM nM cM] 26)) w') := Lib.hid (by
  have := goodMedia_any AM nM cM d.media _ ((hvM.below hb0).more hb0.size) hnM hzM hzm
  rw [hb4] at this
  exact this)
 have HGB : Hid (∀ W, Below (w.alloc (.cells #[.int .u64 i1, .int .u64 i2, .slice AB nB cB, .string nm, .string pw, .slice AM nM cM] 26)).heap.size (w.alloc (.cells #[.int .u64 i1, .int .u64 i2, .slice AB nB cB, .string nm, .string pw, .slice AM nM cM] 26)) W → Calls Tryz.prog 55 #[.slice AB nB cB, .slice AM nM cM] W fun e w' => e = .returned (.bool b5) ∧ Below W.heap.size W w') := Lib.hid fun W hW => by
  have hb := below_chain (Nat.le_refl _) hb0 hW
  have := goodBundle_any AB nB cB AM nM cM d.bundle d.media W ((hvB.below hb).more hb.size) hnB hzB ((hvM.below hb).more hb.size) hnM hzM
  rw [hb5] at this
  exact this
 have H0 := Lib.hid (And.intro hb0 hg0)
 obtain ⟨N, hN⟩ : ∃ N, w.heap.size = N := ⟨_, rfl⟩
 rw [hN] at H0 ⊢
 have HN := Lib.hid hN
 clear hvB hvM hz hzm hb1 hb2 hb4 hb5 hnm hpw hi1 hi2 hnB hnM hb0 hg0 hN hzn hzp
 go_enter Tryz.func36, Tryz.ntmps36
 go_upto_region 1 with fail
 simp only [HN.out]
 generalize w.alloc (.cells #[.int .u64 i1, .int .u64 i2, .slice AB nB cB, .string nm, .string pw, .slice AM nM cM] 26) = W0 at *
 have q2 : W0.cell? ⟨N, 2, none⟩ = some (.slice AB nB cB) := H0.out.2.cell 2
 have q3 : W0.cell? ⟨N, 3, none⟩ = some (.string nm) := H0.out.2.cell 3
 have q4 : W0.cell? ⟨N, 4, none⟩ = some (.string pw) := H0.out.2.cell 4
 have q5 : W0.cell? ⟨N, 5, none⟩ = some (.slice AM nM cM) := H0.out.2.cell 5
 cases b1 with
 | false =>
   have HR : Hid (false = r) := Lib.hid (by rw [HG.out]; rfl)
   clear HG
   go_wp2_with (first | (go_at_call 53; (with_reducible refine (HW1.out _).mono ?_); rintro e w' ⟨rfl, rfl⟩) | (go_at_call 53; (with_reducible refine (HW2.out _).mono ?_); rintro e w' ⟨rfl, rfl⟩) | (go_at_call 54; (with_reducible refine HGM.out.mono ?_); rintro e w1 ⟨rfl, hb1⟩; have HGB1 := Lib.hid (HGB.out w1 hb1)) | (go_at_call 55; (with_reducible refine HGB1.out.mono ?_); rintro e w2 ⟨rfl, hb2⟩))
   go_ret
   exact ⟨ret_bool HR.out, H0.out.1⟩
 | true =>
   cases b2 with
   | false =>
     have HR : Hid (false = r) := Lib.hid (by rw [HG.out]; rfl)
     clear HG
     go_wp2_with (first | (go_at_call 53; (with_reducible refine (HW1.out _).mono ?_); rintro e w' ⟨rfl, rfl⟩) | (go_at_call 53; (with_reducible refine (HW2.out _).mono ?_); rintro e w' ⟨rfl, rfl⟩) | (go_at_call 54; (with_reducible refine HGM.out.mono ?_); rintro e w1 ⟨rfl, hb1⟩; have HGB1 := Lib.hid (HGB.out w1 hb1)) | (go_at_call 55; (with_reducible refine HGB1.out.mono ?_); rintro e w2 ⟨rfl, hb2⟩))
     go_ret
     exact ⟨ret_bool HR.out, H0.out.1⟩
   | true =>
     by_cases h8 : nM ≤ 8
     · have h8' : (nM : Int) ≤ 8 := by omega
       cases b4 with
       | false =>
         have HR : Hid (false = r) := Lib.hid (by rw [HG.out]; simp)
         clear HG
         go_wp2_with (first | (go_at_call 53; (with_reducible refine (HW1.out _).mono ?_); rintro e w' ⟨rfl, rfl⟩) | (go_at_call 53; (with_reducible refine (HW2.out _).mono ?_); rintro e w' ⟨rfl, rfl⟩) | (go_at_call 54; (with_reducible refine HGM.out.mono ?_); rintro e w1 ⟨rfl, hb1⟩; have HGB1 := Lib.hid (HGB.out w1 hb1)) | (go_at_call 55; (with_reducible refine HGB1.out.mono ?_); rintro e w2 ⟨rfl, hb2⟩))
         go_ret
         exact ⟨ret_bool HR.out, below_chain (by rw [HN.out]; exact Nat.le_refl _) H0.out.1 hb1⟩
       | true =>
         have HR : Hid (b5 = r) := Lib.hid (by rw [HG.out]; simp [h8])
         clear HG
         have HQ2 : Hid (∀ W, Below W0.heap.size W0 W → W.cell? ⟨N, 2, none⟩ = some (.slice AB nB cB) ∧ W.cell? ⟨N, 5, none⟩ = some (.slice AM nM cM)) := Lib.hid fun W hW => ⟨(H0.out.2.under hW).cell 2, (H0.out.2.under hW).cell 5⟩
         go_wp2_with (first | (go_at_call 53; (with_reducible refine (HW1.out _).mono ?_); rintro e w' ⟨rfl, rfl⟩) | (go_at_call 53; (with_reducible refine (HW2.out _).mono ?_); rintro e w' ⟨rfl, rfl⟩) | (go_at_call 54; (with_reducible refine HGM.out.mono ?_); rintro e w1 ⟨rfl, hb1⟩; have HGB1 := Lib.hid (HGB.out w1 hb1); have q2' := (HQ2.out w1 hb1).1; have q5' := (HQ2.out w1 hb1).2) | (go_at_call 55; (with_reducible refine HGB1.out.mono ?_); rintro e w2 ⟨rfl, hb2⟩))
         go_ret
         exact ⟨ret_bool HR.out, below_chain (by rw [HN.out]; exact Nat.le_refl _) H0.out.1 (below_chain (Nat.le_refl _) hb1 hb2)⟩
     · have h8' : ¬ (nM : Int) ≤ 8 := by omega
       have HR : Hid (false = r) := Lib.hid (by rw [HG.out]; simp [h8])
       clear HG
       go_wp2_with (first | (go_at_call 53; (with_reducible refine (HW1.out _).mono ?_); rintro e w' ⟨rfl, rfl⟩) | (go_at_call 53; (with_reducible refine (HW2.out _).mono ?_); rintro e w' ⟨rfl, rfl⟩) | (go_at_call 54; (with_reducible refine HGM.out.mono ?_); rintro e w1 ⟨rfl, hb1⟩; have HGB1 := Lib.hid (HGB.out w1 hb1)) | (go_at_call 55; (with_reducible refine HGB1.out.mono ?_); rintro e w2 ⟨rfl, hb2⟩))
       go_ret
       exact ⟨ret_bool HR.out, H0.out.1⟩
end Go.Proofs.YtibpnjakimobmaaGreat
