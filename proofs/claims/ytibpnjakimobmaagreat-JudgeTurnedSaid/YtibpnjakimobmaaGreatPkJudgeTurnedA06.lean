import Derived.Test.YtibpnjakimobmaaGreatPkJudgeTurnedA02
import Derived.Test.YtibpnjakimobmaaGreatPkJudgeTurnedA03
import Derived.Test.YtibpnjakimobmaaGreatPkJudgeTurnedA05
namespace Go.Proofs.YtibpnjakimobmaaGreat
open Go.RowKit
set_option linter.unusedVariables false
set_option linter.unusedSimpArgs false
set_option maxHeartbeats 1600000 in
set_option maxRecDepth 100000 in
theorem rIn_any (A : Option Addr) (n c : Nat) (s : ByteArray) (L : List ByteArray) (w : World) (h : TextsV w w.heap.size (.slice A n c) L) (hn : L.length = n) (hl : n ≤ 4611686018427387904) :
 Calls Tryz.prog 13 #[.slice A n c, .string s] w fun e w' => ∃ r : Int, e = .returned (.int .i64 r) ∧ decide (0 ≤ r) = (L.any fun b => tx b == tx s) ∧ w = w' := by
 have HA := Lib.hid h
 have HE := Lib.hid hn
 obtain ⟨q, hq⟩ : ∃ q : ByteArray → Bool, (fun b => tx b == tx s) = q := ⟨_, rfl⟩
 have HQ : Hid (∀ x : ByteArray, (x.toList == s.toList) = q x) := Lib.hid fun x => by
  rw [← hq, toList_tx, toList_tx]
 rw [hq]
 clear h hn hq
 go_enter Tryz.func13, Tryz.ntmps13
 go_wp2
 go_loopw [8] (fun s8 wr => ∃ k : Nat, k ≤ n ∧ s8 = .int .i64 k ∧ (∀ j, j < k → q (L.getD j default) = false) ∧ w = wr) (fun s8 _ => n - (intOf s8).toNat)
 case atStart => exact ⟨0, by omega, rfl, (fun j hj => by omega), by first | rfl | trivial⟩
 case round =>
  obtain ⟨k, hk, rfl, hno, rfl⟩ := hrel
  have HNO := Lib.hid hno
  clear hno
  by_cases hlt : k < n
  · have hlt' : k < L.length := by rw [HE.out]; exact hlt
    obtain ⟨ad, c', e1, had, c0⟩ := HA.out.at_ hlt'
    injection e1 with e1 e1n e1c
    clear e1n e1c
    subst e1
    obtain ⟨x, hx⟩ : ∃ x, L.getD k default = x := ⟨_, rfl⟩
    rw [hx] at c0
    have HX := Lib.hid (And.intro hx hlt')
    obtain ⟨b, hbb⟩ : ∃ b, (x.toList == s.toList) = b := ⟨_, rfl⟩
    have HBT : Hid (q x = b) := Lib.hid (by rw [← HQ.out, hbb])
    clear hx hlt' had
    have hk0 : (0 : Int) ≤ (k : Int) := by omega
    have hk1 : (k : Int) < (n : Int) := by omega
    go_upto_if 16 with fail
    clear hbb
    cases b with
    | true =>
      go_wp2
      go_ret
      exact ⟨_, rfl, by rw [any_yes HX.out.2 (by rw [HX.out.1]; exact HBT.out)]; exact decide_eq_true hk0, rfl⟩
    | false =>
      go_wp2
      go_roundw
      case rel =>
       refine ⟨k + 1, by omega, by go_num, fun j hj => ?_, by first | rfl | trivial⟩
       by_cases e : j = k
       · subst e
         rw [HX.out.1]
         exact HBT.out
       · exact HNO.out j (by omega)
      case measure => simp [intOf]; omega
  · have e : k = n := by omega
    subst e
    have HN : Hid (L.any q = false) := Lib.hid (any_no HE.out HNO.out)
    go_wp2
    go_ret
    exact ⟨_, rfl, by rw [HN.out]; rfl, rfl⟩
theorem text_read {L : List ByteArray} (i : Nat) (r : List Value) (x : ByteArray) (f : Nat → Option Value) (hr : (L.map tcell)[i]? = some r) (hx : L[i]? = some x) (hf : ∀ j, j < 1 → f j = r[j]?) : RT f x := by
 rw [List.getElem?_map, hx] at hr
 obtain rfl := Option.some.inj hr
 exact hf 0 (by decide)
theorem Own.texts {w : World} {base B : Nat} {e : TypeId} {v : Value} {L : List ByteArray} (h : Own w base e 1 v (L.map tcell)) (hB : w.heap.size ≤ B) : TextsV w B v L := h.rows hB (by rw [List.length_map]) text_read
theorem any_midT (L : List MediaS) (s : ByteArray) : ((L.map MediaS.mid).any fun b => tx b == tx s) = (L.map midT).contains (tx s) := by
 rw [Bool.eq_iff_iff]
 simp only [List.any_eq_true, List.contains_iff_mem, List.mem_map, beq_iff_eq, midT]
 constructor
 · rintro ⟨_, ⟨m, hm, rfl⟩, e⟩; exact ⟨m, hm, e⟩
 · rintro ⟨m, hm, e⟩; exact ⟨_, ⟨m, hm, rfl⟩, e⟩
theorem descBox (w : World) (D : Array Value) : Below w.heap.size w (w.alloc (.cells D 26)) ∧ Whole (w.alloc (.cells D 26)) w.heap.size 26 D := ⟨(Below.refl _ w).alloc (Nat.le_refl _) _, Whole.new _ _ _⟩
set_option maxHeartbeats 6400000 in
set_option maxRecDepth 100000 in
theorem r8Good_any (D : Array Value) (d : DescS) (vB vM : Value) (w : World) (h : DescV w w.heap.size D d vB vM) (hz : SizD d) :
 Calls Tryz.prog 9 #[.agg D] w fun e w' => e = .returned (.bool (goodD d)) ∧ Below w.heap.size w w' := by
 obtain ⟨hD, hvB, hvM⟩ := h
 obtain ⟨AB, cB, rfl, hBc, hBm, -⟩ := Rows.form hvB
 obtain ⟨AM, cM, rfl, -⟩ := Rows.form hvM
 obtain ⟨nB, hnB⟩ : ∃ n, d.bundle.length = n := ⟨_, rfl⟩
 obtain ⟨nM, hnM⟩ : ∃ n, d.media.length = n := ⟨_, rfl⟩
 rw [hnB] at hvB hD hBc
 rw [hnM] at hvM hD
 unfold maxLen at hBm
 obtain ⟨b1, hb1⟩ : ∃ b, wordP 4 32 (tx d.name) = b := ⟨_, rfl⟩
 obtain ⟨b2, hb2⟩ : ∃ b, wordP 22 32 (tx d.pass) = b := ⟨_, rfl⟩
 obtain ⟨nm, hnm⟩ : ∃ x, d.name = x := ⟨_, rfl⟩
 obtain ⟨pw, hpw⟩ : ∃ x, d.pass = x := ⟨_, rfl⟩
 obtain ⟨B, hB⟩ : ∃ x, d.bundle = x := ⟨_, rfl⟩
 obtain ⟨L, hL⟩ : ∃ x, d.media = x := ⟨_, rfl⟩
 have HG : Hid (goodD d = (b1 && b2 && decide (nM ≤ 8) && goodDM L && goodDB B L)) := Lib.hid (by unfold goodD; rw [hb1, hb2, hnM, hL, hB])
 have HG2 : Hid (8 < nB → goodD d = false) := Lib.hid (fun h8 => by
  cases hq : goodD d with
  | false => rfl
  | true => have := goodD_few hq; omega)
 have hzn := hz.name
 have hzp := hz.pass
 have HZM : Hid (∀ m ∈ L, SizM m) := Lib.hid (by rw [← hL]; exact hz.media)
 rw [hB] at hvB hnB
 rw [hL] at hvM hnM
 rw [hnm] at hb1 hzn hD
 rw [hpw] at hb2 hzp hD
 generalize goodD d = r at *
 have HW1 : Hid (∀ W : World, Calls Tryz.prog 15 #[.string nm, .int .i64 4, .int .i64 32] W fun e w' => e = .returned (.bool b1) ∧ W = w') := Lib.hid fun W => by
  have := word_most nm 4 32 W (by unfold maxLen; omega)
  rw [hb1] at this
  exact this
 have HW2 : Hid (∀ W : World, Calls Tryz.prog 15 #[.string pw, .int .i64 22, .int .i64 32] W fun e w' => e = .returned (.bool b2) ∧ W = w') := Lib.hid fun W => by
  have := word_most pw 22 32 W (by unfold maxLen; omega)
  rw [hb2] at this
  exact this
 obtain ⟨hb0, hg0⟩ := descBox w D
 have H0 := Lib.hid (And.intro hb0 hg0)
 have HVB := Lib.hid (And.intro hvB hnB)
 have HVM := Lib.hid (And.intro hvM hnM)
 have HD0 : Hid (D[2]? = some (.slice AB nB cB) ∧ D[3]? = some (.string nm) ∧ D[4]? = some (.string pw) ∧ D[5]? = some (.slice AM nM cM)) := Lib.hid (by rw [hD]; exact ⟨rfl, rfl, rfl, rfl⟩)
 obtain ⟨N, hN⟩ : ∃ N, w.heap.size = N := ⟨_, rfl⟩
 rw [hN] at H0 HVB HVM ⊢
 have HN := Lib.hid hN
 clear hvB hvM hz hb1 hb2 hnm hpw hnB hnM hb0 hg0 hN hzn hzp hD hB hL
 go_enter Tryz.func9, Tryz.ntmps9
 go_upto_region 1 with fail
 simp only [HN.out]
 generalize w.alloc (.cells D 26) = W0 at *
 have HN0 : Hid (N ≤ W0.heap.size) := Lib.hid (Nat.le_of_lt H0.out.2.lt)
 have q2 : W0.cell? ⟨N, 2, none⟩ = some (.slice AB nB cB) := (H0.out.2.cell 2).trans HD0.out.1
 have q3 : W0.cell? ⟨N, 3, none⟩ = some (.string nm) := (H0.out.2.cell 3).trans HD0.out.2.1
 have q4 : W0.cell? ⟨N, 4, none⟩ = some (.string pw) := (H0.out.2.cell 4).trans HD0.out.2.2.1
 have q5 : W0.cell? ⟨N, 5, none⟩ = some (.slice AM nM cM) := (H0.out.2.cell 5).trans HD0.out.2.2.2
 cases b1 with
 | false =>
   have HR : Hid (false = r) := Lib.hid (by rw [HG.out]; rfl)
   clear HG HG2
   go_wp2_with (first | (go_at_call 15; (with_reducible refine (HW1.out _).mono ?_); rintro e w' ⟨rfl, rfl⟩) | (go_at_call 15; (with_reducible refine (HW2.out _).mono ?_); rintro e w' ⟨rfl, rfl⟩))
   go_ret
   exact ⟨ret_bool HR.out, H0.out.1⟩
 | true =>
   cases b2 with
   | false =>
     have HR : Hid (false = r) := Lib.hid (by rw [HG.out]; rfl)
     clear HG HG2
     go_wp2_with (first | (go_at_call 15; (with_reducible refine (HW1.out _).mono ?_); rintro e w' ⟨rfl, rfl⟩) | (go_at_call 15; (with_reducible refine (HW2.out _).mono ?_); rintro e w' ⟨rfl, rfl⟩))
     go_ret
     exact ⟨ret_bool HR.out, H0.out.1⟩
   | true =>
     by_cases h8 : nM ≤ 8
     · have h8' : ¬ (8 : Int) < (nM : Int) := by omega
       by_cases h9 : nB ≤ 8
       · have h9' : ¬ (8 : Int) < (nB : Int) := by omega
         have HG3 : Hid (r = (goodDM L && goodDB B L)) := Lib.hid (by rw [HG.out]; simp [h8])
         clear HG HG2
         go_upto_if 27 with (first | (go_at_call 15; (with_reducible refine (HW1.out _).mono ?_); rintro e w' ⟨rfl, rfl⟩) | (go_at_call 15; (with_reducible refine (HW2.out _).mono ?_); rintro e w' ⟨rfl, rfl⟩))
         clear q3 q4
         go_wp2
         go_loopw [31, 3] (fun s31 s3 wr => ∃ k : Nat, k ≤ nM ∧ s31 = .int .i64 k ∧ (Below W0.heap.size W0 wr ∧ Own wr W0.heap.size 9 1 s3 (((L.take k).map MediaS.mid).map tcell) ∧ (∀ j, j < k → goodM (L.getD j default) = true) ∧ unlike midT (L.take k) = true)) (fun s31 _ _ => nM - (intOf s31).toNat)
         case atStart => exact ⟨0, by omega, rfl, Below.refl _ _, Own.nil _ _ _ _, (fun j hj => by omega), by first | rfl | trivial⟩
         case round =>
          obtain ⟨k, hk, rfl, hst⟩ := hrel
          have HS := Lib.hid hst
          clear hst
          have HBN : Hid (Below N w wr) := Lib.hid (H0.out.1.trans (HS.out.1.mono HN0.out))
          obtain ⟨Am, cm, hvm, -⟩ := Own.form HS.out.2.1
          obtain ⟨nm', hnm'⟩ : ∃ n, (((L.take k).map MediaS.mid).map tcell).length = n := ⟨_, rfl⟩
          rw [hnm'] at hvm
          subst hvm
          have HNM : Hid (nm' = k) := Lib.hid (by rw [← hnm', List.length_map, List.length_map, List.length_take, HVM.out.2]; omega)
          clear hnm'
          have q2 : wr.cell? ⟨N, 2, none⟩ = some (.slice AB nB cB) := ((H0.out.2.under HS.out.1).cell 2).trans HD0.out.1
          have q5 : wr.cell? ⟨N, 5, none⟩ = some (.slice AM nM cM) := ((H0.out.2.under HS.out.1).cell 5).trans HD0.out.2.2.2
          by_cases hlt : k < nM
          · have hlt' : k < L.length := by rw [HVM.out.2]; exact hlt
            obtain ⟨ad, c', M, vC, vE, vR, vS, vY, e1, had, hM, hcs⟩ := (HVM.out.1.below HBN.out).at_ hlt'
            injection e1 with e1 e1n e1c
            clear e1n e1c
            subst e1
            obtain ⟨x, hx⟩ : ∃ x, L.getD k default = x := ⟨_, rfl⟩
            rw [hx] at hM
            have HM : Hid (x ∈ L ∧ L[k]? = some x ∧ L.getD k default = x) := Lib.hid ⟨by rw [← hx]; exact getD_mem hlt', by rw [← hx]; exact getD_of hlt', hx⟩
            have hk0 : (0 : Int) ≤ (k : Int) := by omega
            have hk1 : (k : Int) < (nM : Int) := by omega
            have HLD : Hid (∀ (ops : Array Oper) (rest : List Oper) (op : Oper) (a : Act) (Q : Exit → Act → World → Prop), op.guard = none → op.op = .load 44 (.tmp 37) → a.eval (.tmp 37) = .pointer (some (ad.add (k * 11))) → wpList Tryz.prog ops Q rest (a.put op.dst (.agg M)) wr → wpList Tryz.prog ops Q (op :: rest) a wr) :=
             Lib.hid fun ops rest op a Q h1 h2 h3 h4 => wpList_load_at h1 44 (.tmp 37) h2 _ h3 M.toList _ hcs Tryz.underlying44 rfl (by rw [Array.length_toList, hM.size]; exact Tryz.sizeMedia) (by rw [Array.toArray_toList]; exact h4)
            have hm2 : wr.cell? ⟨(ad.add (k * 11)).block, (ad.add (k * 11)).off + 2, none⟩ = some (.string x.mid) := by
             have := hcs 2 (.string x.mid) (by rw [hM.form]; rfl)
             rwa [Go.Deep.add_add, add_next _ _ 2 (by decide)] at this
            have hN : N ≤ wr.heap.size := by have := HBN.out.size; rw [HN.out] at this; exact this
            have HU : Hid (∀ W, Below wr.heap.size wr W → W.cell? ⟨N, 5, none⟩ = some (.slice (some ad) nM cM) ∧ W.cell? ⟨(ad.add (k * 11)).block, (ad.add (k * 11)).off + 2, none⟩ = some (.string x.mid) ∧ Own W W0.heap.size 9 1 (.slice Am nm' cm) (((L.take k).map MediaS.mid).map tcell) ∧ Below W0.heap.size W0 W) := Lib.hid fun W hW =>
             ⟨(hW.cell (p := ⟨N, 5, none⟩) (block_lt_of_cell q5)).trans q5, (hW.cell (p := ⟨(ad.add (k * 11)).block, (ad.add (k * 11)).off + 2, none⟩) (block_lt_of_cell hm2)).trans hm2, HS.out.2.1.under hW, below_chain (Nat.le_refl _) HS.out.1 hW⟩
            obtain ⟨b, hb⟩ : ∃ b, goodM x = b := ⟨_, rfl⟩
            have HC : Hid (Calls Tryz.prog 16 #[.agg M] wr fun e w' => e = .returned (.bool b) ∧ Below wr.heap.size wr w') := Lib.hid (by
             have := rgood_any M x vC vE vR vS vY wr (hM.more hN) (HZM.out x HM.out.1)
             rw [hb] at this
             exact this)
            have HBG := Lib.hid hb
            clear hx had hlt' hcs hM hm2 hN hb q2
            cases b with
            | false =>
              have HR : Hid (false = r) := Lib.hid (by rw [HG3.out]; unfold goodDM; rw [all_no HM.out.1 HBG.out]; rfl)
              have HF : Hid (∀ W, Below wr.heap.size wr W → Below N w W) := Lib.hid fun W hW => below_chain (by rw [HN.out]; exact Nat.le_refl _) HBN.out hW
              go_wp2_with (first | ((with_reducible refine HLD.out _ _ _ _ _ ?_ ?_ ?_ ?_); (with_reducible rfl); (with_reducible rfl); rfl) | (go_at_call 16; (with_reducible refine HC.out.mono ?_); rintro e w3 ⟨rfl, hb3⟩))
              go_ret
              exact ⟨ret_bool HR.out, HF.out _ hb3⟩
            | true =>
              obtain ⟨a, ha⟩ : ∃ a, ((L.take k).any fun y => midT y == tx x.mid) = a := ⟨_, rfl⟩
              have HI : Hid (∀ W, Below wr.heap.size wr W → Calls Tryz.prog 13 #[.slice Am nm' cm, .string x.mid] W fun e w' => ∃ i : Int, e = .returned (.int .i64 i) ∧ decide (0 ≤ i) = a ∧ W = w') := Lib.hid fun W hW => by
               have ho := (HU.out W hW).2.2.1
               have := rIn_any Am nm' cm x.mid ((L.take k).map MediaS.mid) W (ho.texts (Nat.le_refl _)) (by rw [List.length_map, List.length_take, HVM.out.2, HNM.out]; omega) (by rw [HNM.out]; omega)
               rw [List.any_map] at this
               rw [← ha]
               exact this
              have HST := Lib.hid (unlike_step (f := midT) (q := (fun y => midT y == tx x.mid)) HM.out.2.1 HS.out.2.2.2 (fun y => by rw [beq_iff_eq]; rfl))
              rw [ha] at HST
              clear ha
              cases a with
              | true =>
                have HR : Hid (false = r) := Lib.hid (by rw [HG3.out]; unfold goodDM; rw [HST.out.1 rfl]; simp)
                have HF : Hid (∀ W, Below wr.heap.size wr W → Below N w W) := Lib.hid fun W hW => below_chain (by rw [HN.out]; exact Nat.le_refl _) HBN.out hW
                go_wp2_with (first | ((with_reducible refine HLD.out _ _ _ _ _ ?_ ?_ ?_ ?_); (with_reducible rfl); (with_reducible rfl); rfl) | (go_at_call 16; (with_reducible refine HC.out.mono ?_); rintro e w3 ⟨rfl, hb3⟩; have H3 := Lib.hid hb3; have q5' := (HU.out w3 hb3).1; have m2' := (HU.out w3 hb3).2.1) | (go_at_call 13; (with_reducible refine (HI.out _ H3.out).mono ?_); rintro e w4 ⟨i, rfl, hi, rfl⟩; have hi' : (0 : Int) ≤ i := of_decide_eq_true hi))
                go_ret
                exact ⟨ret_bool HR.out, HF.out _ H3.out⟩
              | false =>
                go_upto_if 51 with (first | ((with_reducible refine HLD.out _ _ _ _ _ ?_ ?_ ?_ ?_); (with_reducible rfl); (with_reducible rfl); rfl) | (go_at_call 16; (with_reducible refine HC.out.mono ?_); rintro e w3 ⟨rfl, hb3⟩; have H3 := Lib.hid hb3; have q5' := (HU.out w3 hb3).1; have m2' := (HU.out w3 hb3).2.1) | (go_at_call 13; (with_reducible refine (HI.out _ H3.out).mono ?_); rintro e w4 ⟨i, rfl, hi, rfl⟩; have hi' : ¬ (0 : Int) ≤ i := (fun h => by rw [decide_eq_true h] at hi; cases hi)))
                have hnk : k ≤ 8 := by omega
                have HO : Hid (Own w3 W0.heap.size 9 1 (.slice Am nm' cm) (((L.take k).map MediaS.mid).map tcell) ∧ W0.heap.size ≤ w3.heap.size) := Lib.hid ⟨(HU.out w3 H3.out).2.2.1, (HU.out w3 H3.out).2.2.2.size⟩
                have HNA : Hid (Own (w3.alloc (.cells #[.string x.mid] 9)) W0.heap.size 9 1 (.slice Am nm' cm) (((L.take k).map MediaS.mid).map tcell) ∧ Whole (w3.alloc (.cells #[.string x.mid] 9)) w3.heap.size 9 #[.string x.mid] ∧ W0.heap.size ≤ (w3.alloc (.cells #[.string x.mid] 9)).heap.size ∧ Below W0.heap.size W0 (w3.alloc (.cells #[.string x.mid] 9)) ∧ (((L.take k).map MediaS.mid).map tcell).length = k) := Lib.hid
                 ⟨HO.out.1.alloc _, Whole.new _ _ _, Nat.le_trans HO.out.2 (by rw [World.size_alloc]; omega), (HU.out w3 H3.out).2.2.2.alloc ((HU.out w3 H3.out).2.2.2).size _, by rw [List.length_map, List.length_map, List.length_take, HVM.out.2]; omega⟩
                go_wp2_with (at_builtin; refine wpList_appendE (r := [.string x.mid]) rfl (.tmp 52) (.tmp 59) rfl Tryz.underlying23 Tryz.infoStr rfl (Nat.zero_lt_succ _) rfl HNA.out.1 rfl HNA.out.2.1 rfl (fun u hu => by simp at hu; subst hu; rfl) (by rw [HNA.out.2.2.2.2]; omega) (by rw [HNA.out.2.2.2.2]; omega) HNA.out.2.2.1 ?_; intro v8 w8 ho8 hg8 hn8; have H8 : Hid (Own w8 W0.heap.size 9 1 v8 (((L.take k).map MediaS.mid).map tcell ++ [tcell x.mid]) ∧ Below W0.heap.size W0 w8) := Lib.hid ⟨ho8, HNA.out.2.2.2.1.grown hg8 HNA.out.2.2.1 (fun j hj => (HNA.out.1.lt hj).1)⟩; clear ho8 hg8 hn8)
                go_roundw
                case rel =>
                 have htk : L.take (k + 1) = L.take k ++ [x] := by rw [List.take_add_one, HM.out.2.1]; rfl
                 refine ⟨k + 1, by omega, by go_num, H8.out.2, by rw [htk, List.map_append, List.map_append]; exact H8.out.1, fun j hj => ?_, HST.out.2 (by first | rfl | trivial)⟩
                 by_cases e : j = k
                 · subst e
                   rw [HM.out.2.2]
                   exact HBG.out
                 · exact HS.out.2.2.1 j (by omega)
                case measure => simp [intOf]; omega
          · have e : k = nM := by omega
            subst e
            have HDM : Hid (goodDM L = true) := Lib.hid (by
             unfold goodDM
             rw [all_yesL HVM.out.2 HS.out.2.2.1]
             have := HS.out.2.2.2
             rw [List.take_of_length_le (by rw [HVM.out.2]; exact Nat.le_refl _)] at this
             rw [this]
             rfl)
            have HG4 : Hid (r = goodDB B L) := Lib.hid (by rw [HG3.out, HDM.out]; rfl)
            have HMD : Hid (((L.take k).map MediaS.mid) = L.map MediaS.mid) := Lib.hid (by rw [List.take_of_length_le (by rw [HVM.out.2]; exact Nat.le_refl _)])
            clear HG3 HDM q5
            go_wp2
            rw [HMD.out] at HS
            have HS0 : Hid (Below W0.heap.size W0 wr ∧ Own wr W0.heap.size 9 1 (.slice Am nm' cm) ((L.map MediaS.mid).map tcell)) := Lib.hid ⟨HS.out.1, HS.out.2.1⟩
            have HNL : Hid ((L.map MediaS.mid).length = nm' ∧ nm' ≤ 8) := Lib.hid ⟨by rw [List.length_map, HVM.out.2, HNM.out], by rw [HNM.out]; exact h8⟩
            clear HS HMD HBN HNM HVM q2
            obtain ⟨good, hg⟩ : ∃ q : ByteArray → Bool, (fun b => (L.map midT).contains (tx b)) = q := ⟨_, rfl⟩
            have HGG : Hid (∀ s, ((L.map MediaS.mid).any fun b => tx b == tx s) = good s) := Lib.hid fun s => by rw [any_midT, ← hg]
            have HG5 : Hid (r = (B.all good && unlike tx B)) := Lib.hid (by rw [HG4.out]; unfold goodDB; rw [hg])
            clear hg HG4
            generalize wr = w1 at *
            go_loopw [65] (fun s65 wr => ∃ j : Nat, j ≤ nB ∧ s65 = .int .i64 j ∧ (Below w1.heap.size w1 wr ∧ (∀ i, i < j → good (B.getD i default) = true) ∧ unlike tx (B.take j) = true)) (fun s65 _ => nB - (intOf s65).toNat)
            case atStart => exact ⟨0, by omega, rfl, Below.refl _ _, (fun j hj => by omega), by first | rfl | trivial⟩
            case round =>
             obtain ⟨j, hj, rfl, hst⟩ := hrel
             have HS := Lib.hid hst
             clear hst
             have HB0W : Hid (∀ W, Below w1.heap.size w1 W → Below W0.heap.size W0 W ∧ Below N w W) := Lib.hid fun W hW => by
              have h1 := below_chain (Nat.le_refl _) HS0.out.1 hW
              exact ⟨h1, H0.out.1.trans (h1.mono HN0.out)⟩
             have q2 : wr.cell? ⟨N, 2, none⟩ = some (.slice AB nB cB) := ((H0.out.2.under (HB0W.out _ HS.out.1).1).cell 2).trans HD0.out.1
             by_cases hlt : j < nB
             · have hlt' : j < B.length := by rw [HVB.out.2]; exact hlt
               obtain ⟨ad, c', e1, had, c0⟩ := (HVB.out.1.below (HB0W.out _ HS.out.1).2).at_ hlt'
               injection e1 with e1 e1n e1c
               clear e1n e1c
               subst e1
               obtain ⟨x, hx⟩ : ∃ x, B.getD j default = x := ⟨_, rfl⟩
               rw [hx] at c0
               have HM : Hid (x ∈ B ∧ B[j]? = some x ∧ B.getD j default = x) := Lib.hid ⟨by rw [← hx]; exact getD_mem hlt', by rw [← hx]; exact getD_of hlt', hx⟩
               have hk0 : (0 : Int) ≤ (j : Int) := by omega
               have hk1 : (j : Int) < (nB : Int) := by omega
               have hk2 : (j : Int) ≤ (cB : Int) := by omega
               have HF2 : Hid (∀ W, Below wr.heap.size wr W → W.cell? ⟨N, 2, none⟩ = some (.slice (some ad) nB cB)) := Lib.hid fun W hW => (hW.cell (p := ⟨N, 2, none⟩) (block_lt_of_cell q2)).trans q2
               have HF5 : Hid (∀ W, Below wr.heap.size wr W → W.cell? (ad.add j) = some (.string x)) := Lib.hid fun W hW => (hW.cell (p := ad.add j) (block_lt_of_cell c0)).trans c0
               have HKB : Hid (∀ W W', Below wr.heap.size wr W → Below W.heap.size W W' → Below wr.heap.size wr W') := Lib.hid fun W W' h1 h2 => below_chain (Nat.le_refl _) h1 h2
               have HFIN : Hid (∀ W, Below wr.heap.size wr W → Below w1.heap.size w1 W) := Lib.hid fun W hW => below_chain (Nat.le_refl _) HS.out.1 hW
               have HDR : Hid (Below wr.heap.size wr wr.drew) := Lib.hid (Below.refl _ _).drew
               obtain ⟨b, hb⟩ : ∃ b, good x = b := ⟨_, rfl⟩
               have HI1 : Hid (∀ W, Below wr.heap.size wr W → Calls Tryz.prog 13 #[.slice Am nm' cm, .string x] W fun e w' => ∃ i : Int, e = .returned (.int .i64 i) ∧ decide (0 ≤ i) = b ∧ Below W.heap.size W w') := Lib.hid fun W hW => by
                have ho := HS0.out.2.under (HFIN.out W hW)
                refine (rIn_any Am nm' cm x (L.map MediaS.mid) W (ho.texts (Nat.le_refl _)) HNL.out.1 (by have := HNL.out.2; omega)).mono fun e w' hh => ?_
                obtain ⟨i, h1, h2, rfl⟩ := hh
                exact ⟨i, h1, by rw [h2, HGG.out, hb], Below.refl _ _⟩
               have HBG := Lib.hid hb
               clear hx had hlt' hb q2 c0
               cases b with
               | false =>
                 have HR : Hid (false = r) := Lib.hid (by rw [HG5.out, all_no HM.out.1 HBG.out]; rfl)
                 go_upto_region 14 with fail
                 refine wp_region_held_drew (S := fun W => Below wr.heap.size wr W) (by kernel_rfl) HDR.out (fun hHeld => ?_)
                 refine wpAnyH_take (i := 0) (v := _) rfl (by as_aux_lemma => kernel_rfl) (by as_aux_lemma => kernel_rfl) (by as_aux_lemma => kernel_rfl) (fun _ _ _ h => h) (Or.inl ⟨by rfl, fun w h => by have e0 := HF2.out w h; have e1 := HF5.out w h; clear h; go_simp; (try with_reducible rfl)⟩) (by assumption) ?_
                 simp only [Act.put, List.getElem_toArray, List.getElem_cons_succ, List.getElem_cons_zero, List.setIfInBounds_toArray, List.set_cons_succ, List.set_cons_zero]
                 refine wpAnyH_take (i := 1) (v := _) rfl (by as_aux_lemma => kernel_rfl) (by as_aux_lemma => kernel_rfl) (by as_aux_lemma => kernel_rfl) (fun _ _ _ h => h) (Or.inl ⟨by rfl, fun w h => by have e0 := HF2.out w h; have e1 := HF5.out w h; clear h; go_simp; (try with_reducible rfl)⟩) (by assumption) ?_
                 simp only [Act.put, List.getElem_toArray, List.getElem_cons_succ, List.getElem_cons_zero, List.setIfInBounds_toArray, List.set_cons_succ, List.set_cons_zero]
                 refine wpAnyH_take (i := 2) (v := _) rfl (by as_aux_lemma => kernel_rfl) (by as_aux_lemma => kernel_rfl) (by as_aux_lemma => kernel_rfl) (fun _ _ _ h => h) (Or.inl ⟨by rfl, fun w h => by have e0 := HF2.out w h; have e1 := HF5.out w h; clear h; go_simp; (try with_reducible rfl)⟩) (by assumption) ?_
                 simp only [Act.put, List.getElem_toArray, List.getElem_cons_succ, List.getElem_cons_zero, List.setIfInBounds_toArray, List.set_cons_succ, List.set_cons_zero]
                 refine wpAnyH_take (i := 3) (v := _) rfl (by as_aux_lemma => kernel_rfl) (by as_aux_lemma => kernel_rfl) (by as_aux_lemma => kernel_rfl) (fun _ _ _ h => h) (Or.inl ⟨by rfl, fun w h => by have e0 := HF2.out w h; have e1 := HF5.out w h; clear h; go_simp; (try with_reducible rfl)⟩) (by assumption) ?_
                 simp only [Act.put, List.getElem_toArray, List.getElem_cons_succ, List.getElem_cons_zero, List.setIfInBounds_toArray, List.set_cons_succ, List.set_cons_zero]
                 refine wpAnyH_take (i := 4) (v := _) rfl (by as_aux_lemma => kernel_rfl) (by as_aux_lemma => kernel_rfl) (by as_aux_lemma => kernel_rfl) (fun _ _ _ h => h) (Or.inl ⟨by rfl, fun w h => by have e0 := HF2.out w h; have e1 := HF5.out w h; clear h; go_simp; (try with_reducible rfl)⟩) (by assumption) ?_
                 simp only [Act.put, List.getElem_toArray, List.getElem_cons_succ, List.getElem_cons_zero, List.setIfInBounds_toArray, List.set_cons_succ, List.set_cons_zero]
                 refine wpAnyH_take (i := 5) (v := _) rfl (by as_aux_lemma => kernel_rfl) (by as_aux_lemma => kernel_rfl) (by as_aux_lemma => kernel_rfl) (fun _ _ _ h => h) (Or.inl ⟨by rfl, fun w h => by have e0 := HF2.out w h; have e1 := HF5.out w h; clear h; go_simp; (try with_reducible rfl)⟩) (by assumption) ?_
                 simp only [Act.put, List.getElem_toArray, List.getElem_cons_succ, List.getElem_cons_zero, List.setIfInBounds_toArray, List.set_cons_succ, List.set_cons_zero]
                 refine wpAnyH_ready (rs := [6]) (by as_aux_lemma => kernel_rfl) (by simp) ?_
                 refine AllReadyH.cons (i := 6) rfl (fun K hK => ?_) AllReadyH.nil
                 go_simp
                 refine (HI1.out _ hHeld).mono ?_
                 rintro e w4 ⟨i1, rfl, hi1, hb4⟩
                 refine hK.out _ _ (HKB.out _ _ hHeld hb4) (fun hHeld4 => ?_)
                 clear hK K hHeld
                 have hHeld := hHeld4
                 clear hHeld4
                 have hi1' : i1 < 0 := by simpa using hi1
                 refine wpAnyH_take (i := 7) (v := _) rfl (by as_aux_lemma => kernel_rfl) (by as_aux_lemma => kernel_rfl) (by as_aux_lemma => kernel_rfl) (fun _ _ _ h => h) (Or.inl ⟨by rfl, fun w h => by have e0 := HF2.out w h; have e1 := HF5.out w h; clear h; go_simp; (try with_reducible rfl)⟩) (by assumption) ?_
                 simp only [Act.put, List.getElem_toArray, List.getElem_cons_succ, List.getElem_cons_zero, List.setIfInBounds_toArray, List.set_cons_succ, List.set_cons_zero]
                 refine wpAnyH_take (i := 8) (v := _) rfl (by as_aux_lemma => kernel_rfl) (by as_aux_lemma => kernel_rfl) (by as_aux_lemma => kernel_rfl) (fun _ _ _ h => h) (Or.inl ⟨by rfl, fun w h => by have e0 := HF2.out w h; have e1 := HF5.out w h; clear h; go_simp; (try with_reducible rfl)⟩) (by assumption) ?_
                 simp only [Act.put, List.getElem_toArray, List.getElem_cons_succ, List.getElem_cons_zero, List.setIfInBounds_toArray, List.set_cons_succ, List.set_cons_zero]
                 refine wpAnyH_take (i := 9) (v := _) rfl (by as_aux_lemma => kernel_rfl) (by as_aux_lemma => kernel_rfl) (by as_aux_lemma => kernel_rfl) (fun _ _ _ h => h) (Or.inr ⟨by rfl, rfl⟩) (by assumption) ?_
                 simp only [Act.put, List.getElem_toArray, List.getElem_cons_succ, List.getElem_cons_zero, List.setIfInBounds_toArray, List.set_cons_succ, List.set_cons_zero]
                 refine wpAnyH_take (i := 10) (v := _) rfl (by as_aux_lemma => kernel_rfl) (by as_aux_lemma => kernel_rfl) (by as_aux_lemma => kernel_rfl) (fun _ _ _ h => h) (Or.inr ⟨by rfl, rfl⟩) (by assumption) ?_
                 simp only [Act.put, List.getElem_toArray, List.getElem_cons_succ, List.getElem_cons_zero, List.setIfInBounds_toArray, List.set_cons_succ, List.set_cons_zero]
                 refine wpAnyH_take (i := 11) (v := _) rfl (by as_aux_lemma => kernel_rfl) (by as_aux_lemma => kernel_rfl) (by as_aux_lemma => kernel_rfl) (fun _ _ _ h => h) (Or.inr ⟨by rfl, rfl⟩) (by assumption) ?_
                 simp only [Act.put, List.getElem_toArray, List.getElem_cons_succ, List.getElem_cons_zero, List.setIfInBounds_toArray, List.set_cons_succ, List.set_cons_zero]
                 refine wpAnyH_take (i := 12) (v := _) rfl (by as_aux_lemma => kernel_rfl) (by as_aux_lemma => kernel_rfl) (by as_aux_lemma => kernel_rfl) (fun _ _ _ h => h) (Or.inr ⟨by rfl, rfl⟩) (by assumption) ?_
                 simp only [Act.put, List.getElem_toArray, List.getElem_cons_succ, List.getElem_cons_zero, List.setIfInBounds_toArray, List.set_cons_succ, List.set_cons_zero]
                 refine wpAnyH_take (i := 13) (v := _) rfl (by as_aux_lemma => kernel_rfl) (by as_aux_lemma => kernel_rfl) (by as_aux_lemma => kernel_rfl) (fun _ _ _ h => h) (Or.inr ⟨by rfl, rfl⟩) (by assumption) ?_
                 simp only [Act.put, List.getElem_toArray, List.getElem_cons_succ, List.getElem_cons_zero, List.setIfInBounds_toArray, List.set_cons_succ, List.set_cons_zero]
                 refine wpAnyH_take (i := 14) (v := _) rfl (by as_aux_lemma => kernel_rfl) (by as_aux_lemma => kernel_rfl) (by as_aux_lemma => kernel_rfl) (fun _ _ _ h => h) (Or.inr ⟨by rfl, rfl⟩) (by assumption) ?_
                 simp only [Act.put, List.getElem_toArray, List.getElem_cons_succ, List.getElem_cons_zero, List.setIfInBounds_toArray, List.set_cons_succ, List.set_cons_zero]
                 refine wpAnyH_take (i := 15) (v := _) rfl (by as_aux_lemma => kernel_rfl) (by as_aux_lemma => kernel_rfl) (by as_aux_lemma => kernel_rfl) (fun _ _ _ h => h) (Or.inr ⟨by rfl, rfl⟩) (by assumption) ?_
                 simp only [Act.put, List.getElem_toArray, List.getElem_cons_succ, List.getElem_cons_zero, List.setIfInBounds_toArray, List.set_cons_succ, List.set_cons_zero]
                 refine wpAnyH_take (i := 16) (v := _) rfl (by as_aux_lemma => kernel_rfl) (by as_aux_lemma => kernel_rfl) (by as_aux_lemma => kernel_rfl) (fun _ _ _ h => h) (Or.inr ⟨by rfl, rfl⟩) (by assumption) ?_
                 simp only [Act.put, List.getElem_toArray, List.getElem_cons_succ, List.getElem_cons_zero, List.setIfInBounds_toArray, List.set_cons_succ, List.set_cons_zero]
                 refine wpAnyH_take (i := 17) (v := _) rfl (by as_aux_lemma => kernel_rfl) (by as_aux_lemma => kernel_rfl) (by as_aux_lemma => kernel_rfl) (fun _ _ _ h => h) (Or.inr ⟨by rfl, rfl⟩) (by assumption) ?_
                 simp only [Act.put, List.getElem_toArray, List.getElem_cons_succ, List.getElem_cons_zero, List.setIfInBounds_toArray, List.set_cons_succ, List.set_cons_zero]
                 refine wpAnyH_take (i := 18) (v := _) rfl (by as_aux_lemma => kernel_rfl) (by as_aux_lemma => kernel_rfl) (by as_aux_lemma => kernel_rfl) (fun _ _ _ h => h) (Or.inr ⟨by rfl, rfl⟩) (by assumption) ?_
                 simp only [Act.put, List.getElem_toArray, List.getElem_cons_succ, List.getElem_cons_zero, List.setIfInBounds_toArray, List.set_cons_succ, List.set_cons_zero]
                 refine wpAnyH_take (i := 19) (v := _) rfl (by as_aux_lemma => kernel_rfl) (by as_aux_lemma => kernel_rfl) (by as_aux_lemma => kernel_rfl) (fun _ _ _ h => h) (Or.inr ⟨by rfl, rfl⟩) (by assumption) ?_
                 simp only [Act.put, List.getElem_toArray, List.getElem_cons_succ, List.getElem_cons_zero, List.setIfInBounds_toArray, List.set_cons_succ, List.set_cons_zero]
                 refine wpAnyH_take (i := 20) (v := _) rfl (by as_aux_lemma => kernel_rfl) (by as_aux_lemma => kernel_rfl) (by as_aux_lemma => kernel_rfl) (fun _ _ _ h => h) (Or.inl ⟨by rfl, fun w h => by have e0 := HF2.out w h; have e1 := HF5.out w h; clear h; go_simp; (try with_reducible rfl)⟩) (by assumption) ?_
                 simp only [Act.put, List.getElem_toArray, List.getElem_cons_succ, List.getElem_cons_zero, List.setIfInBounds_toArray, List.set_cons_succ, List.set_cons_zero]
                 refine wpAnyH_done (by as_aux_lemma => kernel_rfl) ?_ _
                 go_wp2
                 go_ret
                 exact ⟨ret_bool HR.out, (HB0W.out _ (HFIN.out _ hHeld)).2⟩
               | true =>
                 obtain ⟨a, ha⟩ : ∃ a, ((B.take j).any fun y => tx y == tx x) = a := ⟨_, rfl⟩
                 have HI2 : Hid (∀ W, Below wr.heap.size wr W → Calls Tryz.prog 13 #[.slice (some ad) j cB, .string x] W fun e w' => ∃ i : Int, e = .returned (.int .i64 i) ∧ decide (0 ≤ i) = a ∧ Below W.heap.size W w') := Lib.hid fun W hW => by
                  have hb := (HB0W.out W (HFIN.out W hW)).2
                  have hv := Rows.take (k := j) (HVB.out.1.below hb) (by rw [HVB.out.2]; omega)
                  have hv : TextsV W W.heap.size (.slice (some ad) j cB) (B.take j) := TextsV.more hv (by have := hb.size; rw [HN.out] at this; exact this)
                  refine (rIn_any (some ad) j cB x (B.take j) W hv (by rw [List.length_take, HVB.out.2]; omega) (by omega)).mono fun e w' hh => ?_
                  obtain ⟨i, h1, h2, rfl⟩ := hh
                  exact ⟨i, h1, by rw [h2, ha], Below.refl _ _⟩
                 have HST := Lib.hid (unlike_step (f := tx) (q := (fun y => tx y == tx x)) HM.out.2.1 HS.out.2.2 (fun y => by rw [beq_iff_eq]))
                 rw [ha] at HST
                 clear ha
                 go_upto_region 14 with fail
                 refine wp_region_held_drew (S := fun W => Below wr.heap.size wr W) (by kernel_rfl) HDR.out (fun hHeld => ?_)
                 refine wpAnyH_take (i := 0) (v := _) rfl (by as_aux_lemma => kernel_rfl) (by as_aux_lemma => kernel_rfl) (by as_aux_lemma => kernel_rfl) (fun _ _ _ h => h) (Or.inl ⟨by rfl, fun w h => by have e0 := HF2.out w h; have e1 := HF5.out w h; clear h; go_simp; (try with_reducible rfl)⟩) (by assumption) ?_
                 simp only [Act.put, List.getElem_toArray, List.getElem_cons_succ, List.getElem_cons_zero, List.setIfInBounds_toArray, List.set_cons_succ, List.set_cons_zero]
                 refine wpAnyH_take (i := 1) (v := _) rfl (by as_aux_lemma => kernel_rfl) (by as_aux_lemma => kernel_rfl) (by as_aux_lemma => kernel_rfl) (fun _ _ _ h => h) (Or.inl ⟨by rfl, fun w h => by have e0 := HF2.out w h; have e1 := HF5.out w h; clear h; go_simp; (try with_reducible rfl)⟩) (by assumption) ?_
                 simp only [Act.put, List.getElem_toArray, List.getElem_cons_succ, List.getElem_cons_zero, List.setIfInBounds_toArray, List.set_cons_succ, List.set_cons_zero]
                 refine wpAnyH_take (i := 2) (v := _) rfl (by as_aux_lemma => kernel_rfl) (by as_aux_lemma => kernel_rfl) (by as_aux_lemma => kernel_rfl) (fun _ _ _ h => h) (Or.inl ⟨by rfl, fun w h => by have e0 := HF2.out w h; have e1 := HF5.out w h; clear h; go_simp; (try with_reducible rfl)⟩) (by assumption) ?_
                 simp only [Act.put, List.getElem_toArray, List.getElem_cons_succ, List.getElem_cons_zero, List.setIfInBounds_toArray, List.set_cons_succ, List.set_cons_zero]
                 refine wpAnyH_take (i := 3) (v := _) rfl (by as_aux_lemma => kernel_rfl) (by as_aux_lemma => kernel_rfl) (by as_aux_lemma => kernel_rfl) (fun _ _ _ h => h) (Or.inl ⟨by rfl, fun w h => by have e0 := HF2.out w h; have e1 := HF5.out w h; clear h; go_simp; (try with_reducible rfl)⟩) (by assumption) ?_
                 simp only [Act.put, List.getElem_toArray, List.getElem_cons_succ, List.getElem_cons_zero, List.setIfInBounds_toArray, List.set_cons_succ, List.set_cons_zero]
                 refine wpAnyH_take (i := 4) (v := _) rfl (by as_aux_lemma => kernel_rfl) (by as_aux_lemma => kernel_rfl) (by as_aux_lemma => kernel_rfl) (fun _ _ _ h => h) (Or.inl ⟨by rfl, fun w h => by have e0 := HF2.out w h; have e1 := HF5.out w h; clear h; go_simp; (try with_reducible rfl)⟩) (by assumption) ?_
                 simp only [Act.put, List.getElem_toArray, List.getElem_cons_succ, List.getElem_cons_zero, List.setIfInBounds_toArray, List.set_cons_succ, List.set_cons_zero]
                 refine wpAnyH_take (i := 5) (v := _) rfl (by as_aux_lemma => kernel_rfl) (by as_aux_lemma => kernel_rfl) (by as_aux_lemma => kernel_rfl) (fun _ _ _ h => h) (Or.inl ⟨by rfl, fun w h => by have e0 := HF2.out w h; have e1 := HF5.out w h; clear h; go_simp; (try with_reducible rfl)⟩) (by assumption) ?_
                 simp only [Act.put, List.getElem_toArray, List.getElem_cons_succ, List.getElem_cons_zero, List.setIfInBounds_toArray, List.set_cons_succ, List.set_cons_zero]
                 refine wpAnyH_ready (rs := [6]) (by as_aux_lemma => kernel_rfl) (by simp) ?_
                 refine AllReadyH.cons (i := 6) rfl (fun K hK => ?_) AllReadyH.nil
                 go_simp
                 refine (HI1.out _ hHeld).mono ?_
                 rintro e w4 ⟨i1, rfl, hi1, hb4⟩
                 refine hK.out _ _ (HKB.out _ _ hHeld hb4) (fun hHeld4 => ?_)
                 clear hK K hHeld
                 have hHeld := hHeld4
                 clear hHeld4
                 have hi1' : ¬ i1 < 0 := by have h := of_decide_eq_true hi1; omega
                 refine wpAnyH_take (i := 7) (v := _) rfl (by as_aux_lemma => kernel_rfl) (by as_aux_lemma => kernel_rfl) (by as_aux_lemma => kernel_rfl) (fun _ _ _ h => h) (Or.inl ⟨by rfl, fun w h => by have e0 := HF2.out w h; have e1 := HF5.out w h; clear h; go_simp; (try with_reducible rfl)⟩) (by assumption) ?_
                 simp only [Act.put, List.getElem_toArray, List.getElem_cons_succ, List.getElem_cons_zero, List.setIfInBounds_toArray, List.set_cons_succ, List.set_cons_zero]
                 refine wpAnyH_take (i := 8) (v := _) rfl (by as_aux_lemma => kernel_rfl) (by as_aux_lemma => kernel_rfl) (by as_aux_lemma => kernel_rfl) (fun _ _ _ h => h) (Or.inl ⟨by rfl, fun w h => by have e0 := HF2.out w h; have e1 := HF5.out w h; clear h; go_simp; (try with_reducible rfl)⟩) (by assumption) ?_
                 simp only [Act.put, List.getElem_toArray, List.getElem_cons_succ, List.getElem_cons_zero, List.setIfInBounds_toArray, List.set_cons_succ, List.set_cons_zero]
                 refine wpAnyH_take (i := 9) (v := _) rfl (by as_aux_lemma => kernel_rfl) (by as_aux_lemma => kernel_rfl) (by as_aux_lemma => kernel_rfl) (fun _ _ _ h => h) (Or.inl ⟨by rfl, fun w h => by have e0 := HF2.out w h; have e1 := HF5.out w h; clear h; go_simp; (try with_reducible rfl)⟩) (by assumption) ?_
                 simp only [Act.put, List.getElem_toArray, List.getElem_cons_succ, List.getElem_cons_zero, List.setIfInBounds_toArray, List.set_cons_succ, List.set_cons_zero]
                 refine wpAnyH_take (i := 10) (v := _) rfl (by as_aux_lemma => kernel_rfl) (by as_aux_lemma => kernel_rfl) (by as_aux_lemma => kernel_rfl) (fun _ _ _ h => h) (Or.inl ⟨by rfl, fun w h => by have e0 := HF2.out w h; have e1 := HF5.out w h; clear h; go_simp; (try with_reducible rfl)⟩) (by assumption) ?_
                 simp only [Act.put, List.getElem_toArray, List.getElem_cons_succ, List.getElem_cons_zero, List.setIfInBounds_toArray, List.set_cons_succ, List.set_cons_zero]
                 refine wpAnyH_take (i := 11) (v := _) rfl (by as_aux_lemma => kernel_rfl) (by as_aux_lemma => kernel_rfl) (by as_aux_lemma => kernel_rfl) (fun _ _ _ h => h) (Or.inl ⟨by rfl, fun w h => by have e0 := HF2.out w h; have e1 := HF5.out w h; clear h; go_simp; (try with_reducible rfl)⟩) (by assumption) ?_
                 simp only [Act.put, List.getElem_toArray, List.getElem_cons_succ, List.getElem_cons_zero, List.setIfInBounds_toArray, List.set_cons_succ, List.set_cons_zero]
                 refine wpAnyH_take (i := 12) (v := _) rfl (by as_aux_lemma => kernel_rfl) (by as_aux_lemma => kernel_rfl) (by as_aux_lemma => kernel_rfl) (fun _ _ _ h => h) (Or.inl ⟨by rfl, fun w h => by have e0 := HF2.out w h; have e1 := HF5.out w h; clear h; go_simp; (try with_reducible rfl)⟩) (by assumption) ?_
                 simp only [Act.put, List.getElem_toArray, List.getElem_cons_succ, List.getElem_cons_zero, List.setIfInBounds_toArray, List.set_cons_succ, List.set_cons_zero]
                 refine wpAnyH_take (i := 13) (v := _) rfl (by as_aux_lemma => kernel_rfl) (by as_aux_lemma => kernel_rfl) (by as_aux_lemma => kernel_rfl) (fun _ _ _ h => h) (Or.inl ⟨by rfl, fun w h => by have e0 := HF2.out w h; have e1 := HF5.out w h; clear h; go_simp; (try with_reducible rfl)⟩) (by assumption) ?_
                 simp only [Act.put, List.getElem_toArray, List.getElem_cons_succ, List.getElem_cons_zero, List.setIfInBounds_toArray, List.set_cons_succ, List.set_cons_zero]
                 refine wpAnyH_take (i := 14) (v := _) rfl (by as_aux_lemma => kernel_rfl) (by as_aux_lemma => kernel_rfl) (by as_aux_lemma => kernel_rfl) (fun _ _ _ h => h) (Or.inl ⟨by rfl, fun w h => by have e0 := HF2.out w h; have e1 := HF5.out w h; clear h; go_simp; (try with_reducible rfl)⟩) (by assumption) ?_
                 simp only [Act.put, List.getElem_toArray, List.getElem_cons_succ, List.getElem_cons_zero, List.setIfInBounds_toArray, List.set_cons_succ, List.set_cons_zero]
                 refine wpAnyH_take (i := 15) (v := _) rfl (by as_aux_lemma => kernel_rfl) (by as_aux_lemma => kernel_rfl) (by as_aux_lemma => kernel_rfl) (fun _ _ _ h => h) (Or.inl ⟨by rfl, fun w h => by have e0 := HF2.out w h; have e1 := HF5.out w h; clear h; go_simp; (try with_reducible rfl)⟩) (by assumption) ?_
                 simp only [Act.put, List.getElem_toArray, List.getElem_cons_succ, List.getElem_cons_zero, List.setIfInBounds_toArray, List.set_cons_succ, List.set_cons_zero]
                 refine wpAnyH_take (i := 16) (v := _) rfl (by as_aux_lemma => kernel_rfl) (by as_aux_lemma => kernel_rfl) (by as_aux_lemma => kernel_rfl) (fun _ _ _ h => h) (Or.inl ⟨by rfl, fun w h => by have e0 := HF2.out w h; have e1 := HF5.out w h; clear h; go_simp; (try with_reducible rfl)⟩) (by assumption) ?_
                 simp only [Act.put, List.getElem_toArray, List.getElem_cons_succ, List.getElem_cons_zero, List.setIfInBounds_toArray, List.set_cons_succ, List.set_cons_zero]
                 refine wpAnyH_take (i := 17) (v := _) rfl (by as_aux_lemma => kernel_rfl) (by as_aux_lemma => kernel_rfl) (by as_aux_lemma => kernel_rfl) (fun _ _ _ h => h) (Or.inl ⟨by rfl, fun w h => by have e0 := HF2.out w h; have e1 := HF5.out w h; clear h; go_simp; (try with_reducible rfl)⟩) (by assumption) ?_
                 simp only [Act.put, List.getElem_toArray, List.getElem_cons_succ, List.getElem_cons_zero, List.setIfInBounds_toArray, List.set_cons_succ, List.set_cons_zero]
                 refine wpAnyH_ready (rs := [18]) (by as_aux_lemma => kernel_rfl) (by simp) ?_
                 refine AllReadyH.cons (i := 18) rfl (fun K hK => ?_) AllReadyH.nil
                 go_simp
                 refine (HI2.out _ hHeld).mono ?_
                 rintro e w5 ⟨i2, rfl, hi2, hb5⟩
                 refine hK.out _ _ (HKB.out _ _ hHeld hb5) (fun hHeld4 => ?_)
                 clear hK K hHeld
                 have hHeld := hHeld4
                 clear hHeld4
                 refine wpAnyH_take (i := 19) (v := _) rfl (by as_aux_lemma => kernel_rfl) (by as_aux_lemma => kernel_rfl) (by as_aux_lemma => kernel_rfl) (fun _ _ _ h => h) (Or.inl ⟨by rfl, fun w h => by have e0 := HF2.out w h; have e1 := HF5.out w h; clear h; go_simp; (try with_reducible rfl)⟩) (by assumption) ?_
                 simp only [Act.put, List.getElem_toArray, List.getElem_cons_succ, List.getElem_cons_zero, List.setIfInBounds_toArray, List.set_cons_succ, List.set_cons_zero]
                 refine wpAnyH_take (i := 20) (v := _) rfl (by as_aux_lemma => kernel_rfl) (by as_aux_lemma => kernel_rfl) (by as_aux_lemma => kernel_rfl) (fun _ _ _ h => h) (Or.inl ⟨by rfl, fun w h => by have e0 := HF2.out w h; have e1 := HF5.out w h; clear h; go_simp; (try with_reducible rfl)⟩) (by assumption) ?_
                 simp only [Act.put, List.getElem_toArray, List.getElem_cons_succ, List.getElem_cons_zero, List.setIfInBounds_toArray, List.set_cons_succ, List.set_cons_zero]
                 refine wpAnyH_done (by as_aux_lemma => kernel_rfl) ?_ _
                 cases a with
                 | true =>
                   have HR : Hid (false = r) := Lib.hid (by rw [HG5.out, HST.out.1 rfl]; simp)
                   have hi2' : (0 : Int) ≤ i2 := of_decide_eq_true hi2
                   go_wp2
                   go_ret
                   exact ⟨ret_bool HR.out, (HB0W.out _ (HFIN.out _ hHeld)).2⟩
                 | false =>
                   have hi2' : ¬ (0 : Int) ≤ i2 := (fun h => by rw [decide_eq_true h] at hi2; cases hi2)
                   go_wp2
                   go_roundw
                   case rel =>
                    refine ⟨j + 1, by omega, by go_num, HFIN.out _ hHeld, fun i hi => ?_, HST.out.2 (by first | rfl | trivial)⟩
                    by_cases e : i = j
                    · subst e
                      rw [HM.out.2.2]
                      exact HBG.out
                    · exact HS.out.2.1 i (by omega)
                   case measure => simp [intOf]; omega
             · have e : j = nB := by omega
               subst e
               have HR : Hid (true = r) := Lib.hid (by
                rw [HG5.out, all_yesL HVB.out.2 HS.out.2.1]
                have := HS.out.2.2
                rw [List.take_of_length_le (by rw [HVB.out.2]; exact Nat.le_refl _)] at this
                rw [this]
                rfl)
               have HBW := Lib.hid (HB0W.out _ HS.out.1).2
               go_wp2
               go_ret
               exact ⟨ret_bool HR.out, HBW.out⟩
       · have h9' : (8 : Int) < (nB : Int) := by omega
         have HR : Hid (false = r) := Lib.hid (HG2.out (by omega)).symm
         clear HG HG2
         go_wp2_with (first | (go_at_call 15; (with_reducible refine (HW1.out _).mono ?_); rintro e w' ⟨rfl, rfl⟩) | (go_at_call 15; (with_reducible refine (HW2.out _).mono ?_); rintro e w' ⟨rfl, rfl⟩))
         go_ret
         exact ⟨ret_bool HR.out, H0.out.1⟩
     · have h8' : (8 : Int) < (nM : Int) := by omega
       have HR : Hid (false = r) := Lib.hid (by rw [HG.out]; simp [h8])
       clear HG HG2
       go_wp2_with (first | (go_at_call 15; (with_reducible refine (HW1.out _).mono ?_); rintro e w' ⟨rfl, rfl⟩) | (go_at_call 15; (with_reducible refine (HW2.out _).mono ?_); rintro e w' ⟨rfl, rfl⟩))
       go_ret
       exact ⟨ret_bool HR.out, H0.out.1⟩
end Go.Proofs.YtibpnjakimobmaaGreat
