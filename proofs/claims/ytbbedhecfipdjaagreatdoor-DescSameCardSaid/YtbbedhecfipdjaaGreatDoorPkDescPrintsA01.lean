import Derived.Test.YtbbedhecfipdjaaGreatDoorPkDescPrintsA00
namespace Go.Proofs.YtbbedhecfipdjaaGreatDoor
open Go.RowKit
set_option linter.unusedVariables false
set_option linter.unusedSimpArgs false
theorem Rows.take {α : Type} {w : World} {B sz : Nat} {R : (Nat → Option Value) → α → Prop} {A : Option Addr} {n c : Nat} {L : List α} (h : Rows w B sz R (.slice A n c) L) {k : Nat} (hk : k ≤ L.length) : Rows w B sz R (.slice A k c) (L.take k) := by
 obtain ⟨A', c', h1, h2, h3, h4, h5⟩ := h
 injection h1 with e1 e2 e3
 subst e1 e2 e3
 have hl : (L.take k).length = k := by rw [List.length_take]; omega
 refine ⟨A, c, by rw [hl], by omega, h3, h4, fun hn => ?_⟩
 obtain ⟨ad, e1, e2, e3⟩ := h5 (by omega)
 refine ⟨ad, e1, e2, fun i x hx => e3 i x ?_⟩
 rw [List.getElem?_take] at hx
 split at hx
 · exact hx
 · cases hx
theorem unlike_step {α κ : Type} [DecidableEq κ] {f : α → κ} {L : List α} {k : Nat} {x : α} {q : α → Bool} (hx : L[k]? = some x) (h : unlike f (L.take k) = true) (hq : ∀ y, q y = true ↔ f y = f x) :
 ((L.take k).any q = true → unlike f L = false) ∧ ((L.take k).any q = false → unlike f (L.take (k + 1)) = true) := by
 unfold unlike at h ⊢
 rw [decide_eq_true_eq] at h
 have hk : k < L.length := (List.getElem?_eq_some_iff.1 hx).1
 have e : L.take (k + 1) = L.take k ++ [x] := by rw [List.take_add_one, hx]; rfl
 constructor
 · intro ha
   rw [List.any_eq_true] at ha
   obtain ⟨y, hy, hqy⟩ := ha
   rw [decide_eq_false_iff_not]
   intro hn
   have hs : List.Sublist ((L.take (k + 1)).map f) (L.map f) := (List.take_sublist _ _).map f
   have hn := hs.nodup hn
   rw [e, List.map_append, List.nodup_append] at hn
   exact hn.2.2 (f y) (List.mem_map.2 ⟨y, hy, rfl⟩) (f x) (by simp) ((hq y).1 hqy)
 · intro ha
   rw [List.any_eq_false] at ha
   rw [decide_eq_true_eq, e, List.map_append, List.nodup_append]
   refine ⟨h, by simp, fun a ha' b hb => ?_⟩
   obtain ⟨y, hy, rfl⟩ := List.mem_map.1 ha'
   simp at hb
   subst hb
   intro he
   exact ha y hy ((hq y).2 he)
theorem all_no {α : Type} {L : List α} {q : α → Bool} {x : α} (hx : x ∈ L) (h : q x = false) : L.all q = false := by
 rw [Bool.eq_false_iff]
 intro ha
 rw [List.all_eq_true] at ha
 rw [ha x hx] at h
 cases h
theorem all_yesL {α : Type} [Inhabited α] {L : List α} {q : α → Bool} {n : Nat} (hn : L.length = n) (h : ∀ j, j < n → q (L.getD j default) = true) : L.all q = true := by
 rw [List.all_eq_true]
 intro a ha
 obtain ⟨j, hj, rfl⟩ := List.getElem_of_mem ha
 have := h j (by omega)
 simpa [List.getD, hj] using this
set_option maxHeartbeats 3200000 in
set_option maxRecDepth 100000 in
theorem goodListS_any (A : Option Addr) (n c : Nat) (L : List ByteArray) (good : ByteArray → Bool) (w : World) (h : TextsV w w.heap.size (.slice A n c) L) (hn : L.length = n) (hl : n ≤ 140737488355328)
 (hg : ∀ (W : World) (x : ByteArray), Below w.heap.size w W → x ∈ L → Calls Tryz.prog 92 #[.string x] W fun e w' => e = .returned (.bool (good x)) ∧ Below W.heap.size W w') :
 Calls Tryz.prog 90 #[.slice A n c, .int .i64 3, .func (.func 91) #[] #[], .func (.func 92) #[] #[]] w fun e w' => e = .returned (.bool (decide (n ≤ 3) && L.all good && unlike tx L)) ∧ Below w.heap.size w w' := by
 have hb0 : Below w.heap.size w (w.alloc (.cells #[.func (.func 91) #[] #[]] 102)) := (Below.refl _ w).alloc (Nat.le_refl _) _
 have hz := Whole.new w 102 #[.func (.func 91) #[] #[]]
 have hcap : n ≤ c ∧ c ≤ maxLen := by
  obtain ⟨A', c', e1, e2, e3, -⟩ := Rows.form h
  injection e1 with e1 e1n e1c
  subst e1c
  exact ⟨by omega, e3⟩
 have HV := Lib.hid h
 have HGD := Lib.hid hg
 have HE := Lib.hid hn
 have HB0 := Lib.hid (And.intro hb0 hz)
 obtain ⟨hc1, hc2⟩ := hcap
 unfold maxLen at hc2
 obtain ⟨r, hr⟩ : ∃ r, (decide (n ≤ 3) && L.all good && unlike tx L) = r := ⟨_, rfl⟩
 have HR := Lib.hid hr
 rw [hr]
 clear h hg hn hb0 hz hr
 by_cases hm : n ≤ 3
 · have hmi : (n : Int) ≤ 3 := by omega
   obtain ⟨N, hN⟩ : ∃ N, w.heap.size = N := ⟨_, rfl⟩
   rw [hN] at HB0 HV HGD ⊢
   go_enter Tryz.func90, Tryz.ntmps90
   go_upto_region 1 with fail
   generalize w.alloc (.cells #[.func (.func 91) #[] #[]] 102) = W0 at *
   have HN0 : Hid (N ≤ W0.heap.size) := Lib.hid (Nat.le_of_lt HB0.out.2.lt)
   clear hN
   have hmf : ∀ (fn : Fn) (first cap : Array Value) (w : World), (Instr.makeFunc fn first cap).run Tryz.prog w = .ok (.func fn first cap) w := fun _ _ _ _ => rfl
   go_wp2
   go_loopw [18] (fun s18 wr => ∃ k : Nat, k ≤ n ∧ s18 = .int .i64 k ∧ (Below W0.heap.size W0 wr ∧ (∀ j, j < k → good (L.getD j default) = true) ∧ unlike tx (L.take k) = true)) (fun s18 _ => n - (intOf s18).toNat)
   case atStart => exact ⟨0, by omega, rfl, Below.refl _ _, (fun j hj => by omega), rfl⟩
   case round =>
    obtain ⟨k, hk, rfl, hst⟩ := hrel
    have HS := Lib.hid hst
    clear hst
    by_cases hlt : k < n
    · have hlt' : k < L.length := by rw [HE.out]; exact hlt
      have HBW : Hid (Below N w wr) := Lib.hid (HB0.out.1.trans (HS.out.1.mono HN0.out))
      obtain ⟨ad, c', e1, had, c0⟩ := (HV.out.below HBW.out).at_ hlt'
      injection e1 with e1 e1n e1c
      clear e1n e1c
      subst e1
      obtain ⟨x, hx⟩ : ∃ x, L.getD k default = x := ⟨_, rfl⟩
      have HM : Hid (x ∈ L ∧ L[k]? = some x ∧ L.getD k default = x) := Lib.hid ⟨by rw [← hx]; exact getD_mem hlt', by rw [← hx]; exact getD_of hlt', hx⟩
      rw [hx] at c0
      have hk0 : (0 : Int) ≤ (k : Int) := by omega
      have hk1 : (k : Int) < (n : Int) := by omega
      have hk2 : (k : Int) ≤ (c : Int) := by omega
      have hN0 : W0.heap.size ≤ wr.heap.size := HS.out.1.size
      have HNEW : Hid (Whole (wr.alloc (.cells #[.string ⟨#[]⟩] 9)) wr.heap.size 9 #[.string ⟨#[]⟩]) := Lib.hid (Whole.new _ _ _)
      have HW : Hid (Below W0.heap.size W0 (wr.alloc (.cells #[.string x] 9)) ∧ Whole (wr.alloc (.cells #[.string x] 9)) wr.heap.size 9 #[.string x] ∧ Below N wr (wr.alloc (.cells #[.string x] 9))) := Lib.hid ⟨HS.out.1.alloc hN0 _, Whole.new wr 9 #[.string x], (Below.refl N wr).alloc (Nat.le_trans HN0.out hN0) _⟩
      clear hx had hlt' hN0
      go_upto_region 7 with fail
      generalize (wr.alloc (.cells #[.string x] 9)) = w2 at *
      generalize wr.heap.size = g at *
      clear c0 HNEW
      have HBW2 : Hid (Below N w w2) := Lib.hid (HB0.out.1.trans (HW.out.1.mono HN0.out))
      have HSZ : Hid (N ≤ w2.heap.size) := Lib.hid (Nat.le_trans HN0.out HW.out.1.size)
      have cg := HW.out.2.1
      have cg0 := cg.cell 0
      simp only [List.getElem?_toArray, List.getElem?_cons_zero, List.getElem?_cons_succ] at cg0
      clear cg
      obtain ⟨b, hb⟩ : ∃ b, good x = b := ⟨_, rfl⟩
      have HC := Lib.hid (HGD.out w2 x HBW2.out HM.out.1)
      rw [hb] at HC
      have HBG := Lib.hid hb
      clear hb
      cases b with
      | false =>
        have HQ : Hid (r = false) := Lib.hid (by rw [← HR.out, all_no HM.out.1 HBG.out]; simp)
        go_wp2_with (go_at_call 92; (with_reducible refine HC.out.mono ?_); rintro e w3 ⟨rfl, hb3⟩)
        go_ret
        exact ⟨ret_bool HQ.out.symm, HBW2.out.trans (hb3.mono HSZ.out)⟩
      | true =>
        obtain ⟨a, ha⟩ : ∃ a, (L.take k).any (fun y => y.toList == x.toList) = a := ⟨_, rfl⟩
        have HCO : Hid (∀ w3, Below w2.heap.size w2 w3 → Calls Tryz.prog 138 #[.slice (some ad) k c, .func (.func 143) #[] #[.pointer (some ⟨N, 0, none⟩), .pointer (some ⟨g, 0, none⟩)]] w3 fun e w' => e = .returned (.bool a) ∧ Below w3.heap.size w3 w') := Lib.hid fun w3 hb3 => by
         have hkey : w3.cell? ⟨N, 0, none⟩ = some (.func (.func 91) #[] #[]) := ((HB0.out.2.under (HW.out.1.trans (hb3.mono HW.out.1.size))).cell 0)
         have hgx := HW.out.2.1.under hb3
         have hsz : N ≤ w2.heap.size := HSZ.out
         have hv3 := Rows.take (k := k) (HV.out.below (HBW2.out.trans (hb3.mono hsz))) (by rw [HE.out]; omega)
         have hv3 : TextsV w3 w3.heap.size (.slice (some ad) k c) (L.take k) := TextsV.more hv3 (Nat.le_trans hsz hb3.size)
         have := containsS_any (some ad) k c (L.take k) (fun y => y.toList == x.toList) (.pointer (some ⟨N, 0, none⟩)) (.pointer (some ⟨g, 0, none⟩)) w3 hv3 (by rw [List.length_take, HE.out]; omega) (by omega)
          (fun W y hW' _ => by
            have h1 : W.cell? ⟨N, 0, none⟩ = some (.func (.func 91) #[] #[]) := (hW'.cell (p := ⟨N, 0, none⟩) (block_lt_of_cell hkey)).trans hkey
            have h2 := hgx.under hW'
            exact (alikeS_any y x N g W h1 (h2.cell 0)))
         rw [ha] at this
         exact this
        have HST := Lib.hid (unlike_step (f := tx) (q := (fun y => y.toList == x.toList)) HM.out.2.1 HS.out.2.2 (fun y => by rw [beq_iff_eq, toList_tx, toList_tx]))
        rw [ha] at HST
        clear ha
        cases a with
        | true =>
          have HQ : Hid (r = false) := Lib.hid (by rw [← HR.out, HST.out.1 rfl]; simp)
          go_wp2_with (first
           | (go_at_call 92; (with_reducible refine HC.out.mono ?_); rintro e w3 ⟨rfl, hb3⟩; have HCC := Lib.hid (HCO.out w3 hb3))
           | (go_at_call 138; (with_reducible refine HCC.out.mono ?_); rintro e w4 ⟨rfl, hb4⟩))
          go_ret
          exact ⟨ret_bool HQ.out.symm, (HBW2.out.trans (hb3.mono HSZ.out)).trans (hb4.mono (Nat.le_trans HSZ.out hb3.size))⟩
        | false =>
          go_wp2_with (first
           | (go_at_call 92; (with_reducible refine HC.out.mono ?_); rintro e w3 ⟨rfl, hb3⟩; have HCC := Lib.hid (HCO.out w3 hb3))
           | (go_at_call 138; (with_reducible refine HCC.out.mono ?_); rintro e w4 ⟨rfl, hb4⟩))
          go_roundw
          case rel =>
           refine ⟨k + 1, by omega, by go_num, (HW.out.1.trans (hb3.mono HW.out.1.size)).trans (hb4.mono (Nat.le_trans HW.out.1.size hb3.size)), fun j hj => ?_, HST.out.2 (by first | rfl | trivial)⟩
           by_cases e : j = k
           · subst e
             rw [HM.out.2.2]
             exact HBG.out
           · exact HS.out.2.1 j (by omega)
          case measure => simp [intOf]; omega
    · have e : k = n := by omega
      subst e
      have HQ : Hid (r = true) := Lib.hid (by
       rw [← HR.out, all_yesL HE.out HS.out.2.1]
       have := HS.out.2.2
       rw [List.take_of_length_le (by rw [HE.out]; exact Nat.le_refl _)] at this
       rw [this]
       simp [hm])
      have HBW : Hid (Below N w wr) := Lib.hid (HB0.out.1.trans (HS.out.1.mono HN0.out))
      go_wp2
      go_ret
      exact ⟨ret_bool HQ.out.symm, HBW.out⟩
 · have hmi : 3 < (n : Int) := by omega
   have HQ : Hid (r = false) := Lib.hid (by rw [← HR.out]; simp [hm])
   go_enter Tryz.func90, Tryz.ntmps90
   go_wp2
   go_ret
   exact ⟨ret_bool HQ.out.symm, HB0.out.1⟩
set_option maxHeartbeats 3200000 in
set_option maxRecDepth 100000 in
theorem goodListU_any (A : Option Addr) (n c : Nat) (L : List Nat) (good : Nat → Bool) (w : World) (h : NumsV w w.heap.size (.slice A n c) L) (hn : L.length = n) (hl : n ≤ 140737488355328)
 (hg : ∀ (W : World) (x : Nat), Below w.heap.size w W → x ∈ L → Calls Tryz.prog 95 #[.int .u32 (x : Nat)] W fun e w' => e = .returned (.bool (good x)) ∧ Below W.heap.size W w') :
 Calls Tryz.prog 93 #[.slice A n c, .int .i64 16, .func (.func 94) #[] #[], .func (.func 95) #[] #[]] w fun e w' => e = .returned (.bool (decide (n ≤ 16) && L.all good && unlike id L)) ∧ Below w.heap.size w w' := by
 have hb0 : Below w.heap.size w (w.alloc (.cells #[.func (.func 94) #[] #[]] 143)) := (Below.refl _ w).alloc (Nat.le_refl _) _
 have hz := Whole.new w 143 #[.func (.func 94) #[] #[]]
 have hcap : n ≤ c ∧ c ≤ maxLen := by
  obtain ⟨A', c', e1, e2, e3, -⟩ := Rows.form h
  injection e1 with e1 e1n e1c
  subst e1c
  exact ⟨by omega, e3⟩
 have HV := Lib.hid h
 have HGD := Lib.hid hg
 have HE := Lib.hid hn
 have HB0 := Lib.hid (And.intro hb0 hz)
 obtain ⟨hc1, hc2⟩ := hcap
 unfold maxLen at hc2
 obtain ⟨r, hr⟩ : ∃ r, (decide (n ≤ 16) && L.all good && unlike id L) = r := ⟨_, rfl⟩
 have HR := Lib.hid hr
 rw [hr]
 clear h hg hn hb0 hz hr
 by_cases hm : n ≤ 16
 · have hmi : (n : Int) ≤ 16 := by omega
   obtain ⟨N, hN⟩ : ∃ N, w.heap.size = N := ⟨_, rfl⟩
   rw [hN] at HB0 HV HGD ⊢
   go_enter Tryz.func93, Tryz.ntmps93
   go_upto_region 1 with fail
   generalize w.alloc (.cells #[.func (.func 94) #[] #[]] 143) = W0 at *
   have HN0 : Hid (N ≤ W0.heap.size) := Lib.hid (Nat.le_of_lt HB0.out.2.lt)
   clear hN
   have hmf : ∀ (fn : Fn) (first cap : Array Value) (w : World), (Instr.makeFunc fn first cap).run Tryz.prog w = .ok (.func fn first cap) w := fun _ _ _ _ => rfl
   go_wp2
   go_loopw [18] (fun s18 wr => ∃ k : Nat, k ≤ n ∧ s18 = .int .i64 k ∧ (Below W0.heap.size W0 wr ∧ (∀ j, j < k → good (L.getD j default) = true) ∧ unlike id (L.take k) = true)) (fun s18 _ => n - (intOf s18).toNat)
   case atStart => exact ⟨0, by omega, rfl, Below.refl _ _, (fun j hj => by omega), rfl⟩
   case round =>
    obtain ⟨k, hk, rfl, hst⟩ := hrel
    have HS := Lib.hid hst
    clear hst
    by_cases hlt : k < n
    · have hlt' : k < L.length := by rw [HE.out]; exact hlt
      have HBW : Hid (Below N w wr) := Lib.hid (HB0.out.1.trans (HS.out.1.mono HN0.out))
      obtain ⟨ad, c', e1, had, c0⟩ := (HV.out.below HBW.out).at_ hlt'
      injection e1 with e1 e1n e1c
      clear e1n e1c
      subst e1
      obtain ⟨x, hx⟩ : ∃ x, L.getD k default = x := ⟨_, rfl⟩
      have HM : Hid (x ∈ L ∧ L[k]? = some x ∧ L.getD k default = x) := Lib.hid ⟨by rw [← hx]; exact getD_mem hlt', by rw [← hx]; exact getD_of hlt', hx⟩
      rw [hx] at c0
      have hk0 : (0 : Int) ≤ (k : Int) := by omega
      have hk1 : (k : Int) < (n : Int) := by omega
      have hk2 : (k : Int) ≤ (c : Int) := by omega
      have hN0 : W0.heap.size ≤ wr.heap.size := HS.out.1.size
      have HNEW : Hid (Whole (wr.alloc (.cells #[.int .u32 0] 85)) wr.heap.size 85 #[.int .u32 0]) := Lib.hid (Whole.new _ _ _)
      have HW : Hid (Below W0.heap.size W0 (wr.alloc (.cells #[.int .u32 (x : Nat)] 85)) ∧ Whole (wr.alloc (.cells #[.int .u32 (x : Nat)] 85)) wr.heap.size 85 #[.int .u32 (x : Nat)] ∧ Below N wr (wr.alloc (.cells #[.int .u32 (x : Nat)] 85))) := Lib.hid ⟨HS.out.1.alloc hN0 _, Whole.new wr 85 #[.int .u32 (x : Nat)], (Below.refl N wr).alloc (Nat.le_trans HN0.out hN0) _⟩
      clear hx had hlt' hN0
      go_upto_region 7 with fail
      generalize (wr.alloc (.cells #[.int .u32 (x : Nat)] 85)) = w2 at *
      generalize wr.heap.size = g at *
      clear c0 HNEW
      have HBW2 : Hid (Below N w w2) := Lib.hid (HB0.out.1.trans (HW.out.1.mono HN0.out))
      have HSZ : Hid (N ≤ w2.heap.size) := Lib.hid (Nat.le_trans HN0.out HW.out.1.size)
      have cg := HW.out.2.1
      have cg0 := cg.cell 0
      simp only [List.getElem?_toArray, List.getElem?_cons_zero, List.getElem?_cons_succ] at cg0
      clear cg
      obtain ⟨b, hb⟩ : ∃ b, good x = b := ⟨_, rfl⟩
      have HC := Lib.hid (HGD.out w2 x HBW2.out HM.out.1)
      rw [hb] at HC
      have HBG := Lib.hid hb
      clear hb
      cases b with
      | false =>
        have HQ : Hid (r = false) := Lib.hid (by rw [← HR.out, all_no HM.out.1 HBG.out]; simp)
        go_wp2_with (go_at_call 95; (with_reducible refine HC.out.mono ?_); rintro e w3 ⟨rfl, hb3⟩)
        go_ret
        exact ⟨ret_bool HQ.out.symm, HBW2.out.trans (hb3.mono HSZ.out)⟩
      | true =>
        obtain ⟨a, ha⟩ : ∃ a, (L.take k).any (fun y => ((y : Nat) : Int) == ((x : Nat) : Int)) = a := ⟨_, rfl⟩
        have HCO : Hid (∀ w3, Below w2.heap.size w2 w3 → Calls Tryz.prog 145 #[.slice (some ad) k c, .func (.func 144) #[] #[.pointer (some ⟨N, 0, none⟩), .pointer (some ⟨g, 0, none⟩)]] w3 fun e w' => e = .returned (.bool a) ∧ Below w3.heap.size w3 w') := Lib.hid fun w3 hb3 => by
         have hkey : w3.cell? ⟨N, 0, none⟩ = some (.func (.func 94) #[] #[]) := ((HB0.out.2.under (HW.out.1.trans (hb3.mono HW.out.1.size))).cell 0)
         have hgx := HW.out.2.1.under hb3
         have hsz : N ≤ w2.heap.size := HSZ.out
         have hv3 := Rows.take (k := k) (HV.out.below (HBW2.out.trans (hb3.mono hsz))) (by rw [HE.out]; omega)
         have hv3 : NumsV w3 w3.heap.size (.slice (some ad) k c) (L.take k) := NumsV.more hv3 (Nat.le_trans hsz hb3.size)
         have := containsU_any (some ad) k c (L.take k) (fun y => ((y : Nat) : Int) == ((x : Nat) : Int)) (.pointer (some ⟨N, 0, none⟩)) (.pointer (some ⟨g, 0, none⟩)) w3 hv3 (by rw [List.length_take, HE.out]; omega) (by omega)
          (fun W y hW' _ => by
            have h1 : W.cell? ⟨N, 0, none⟩ = some (.func (.func 94) #[] #[]) := (hW'.cell (p := ⟨N, 0, none⟩) (block_lt_of_cell hkey)).trans hkey
            have h2 := hgx.under hW'
            exact (alikeU_any y x N g W h1 (h2.cell 0)))
         rw [ha] at this
         exact this
        have HST := Lib.hid (unlike_step (f := id) (q := (fun y => ((y : Nat) : Int) == ((x : Nat) : Int))) HM.out.2.1 HS.out.2.2 (fun y => by rw [beq_iff_eq]; simp only [id]; omega))
        rw [ha] at HST
        clear ha
        cases a with
        | true =>
          have HQ : Hid (r = false) := Lib.hid (by rw [← HR.out, HST.out.1 rfl]; simp)
          go_wp2_with (first
           | (go_at_call 95; (with_reducible refine HC.out.mono ?_); rintro e w3 ⟨rfl, hb3⟩; have HCC := Lib.hid (HCO.out w3 hb3))
           | (go_at_call 145; (with_reducible refine HCC.out.mono ?_); rintro e w4 ⟨rfl, hb4⟩))
          go_ret
          exact ⟨ret_bool HQ.out.symm, (HBW2.out.trans (hb3.mono HSZ.out)).trans (hb4.mono (Nat.le_trans HSZ.out hb3.size))⟩
        | false =>
          go_wp2_with (first
           | (go_at_call 95; (with_reducible refine HC.out.mono ?_); rintro e w3 ⟨rfl, hb3⟩; have HCC := Lib.hid (HCO.out w3 hb3))
           | (go_at_call 145; (with_reducible refine HCC.out.mono ?_); rintro e w4 ⟨rfl, hb4⟩))
          go_roundw
          case rel =>
           refine ⟨k + 1, by omega, by go_num, (HW.out.1.trans (hb3.mono HW.out.1.size)).trans (hb4.mono (Nat.le_trans HW.out.1.size hb3.size)), fun j hj => ?_, HST.out.2 (by first | rfl | trivial)⟩
           by_cases e : j = k
           · subst e
             rw [HM.out.2.2]
             exact HBG.out
           · exact HS.out.2.1 j (by omega)
          case measure => simp [intOf]; omega
    · have e : k = n := by omega
      subst e
      have HQ : Hid (r = true) := Lib.hid (by
       rw [← HR.out, all_yesL HE.out HS.out.2.1]
       have := HS.out.2.2
       rw [List.take_of_length_le (by rw [HE.out]; exact Nat.le_refl _)] at this
       rw [this]
       simp [hm])
      have HBW : Hid (Below N w wr) := Lib.hid (HB0.out.1.trans (HS.out.1.mono HN0.out))
      go_wp2
      go_ret
      exact ⟨ret_bool HQ.out.symm, HBW.out⟩
 · have hmi : 16 < (n : Int) := by omega
   have HQ : Hid (r = false) := Lib.hid (by rw [← HR.out]; simp [hm])
   go_enter Tryz.func93, Tryz.ntmps93
   go_wp2
   go_ret
   exact ⟨ret_bool HQ.out.symm, HB0.out.1⟩
set_option maxHeartbeats 3200000 in
set_option maxRecDepth 100000 in
theorem goodListE_any (A : Option Addr) (n c : Nat) (L : List ExtS) (good : ExtS → Bool) (w : World) (h : ExtsV w w.heap.size (.slice A n c) L) (hn : L.length = n) (hl : n ≤ 140737488355328)
 (hg : ∀ (W : World) (x : ExtS), Below w.heap.size w W → x ∈ L → Calls Tryz.prog 89 #[.agg #[.int .i64 x.id, .string x.uri]] W fun e w' => e = .returned (.bool (good x)) ∧ Below W.heap.size W w') :
 Calls Tryz.prog 87 #[.slice A n c, .int .i64 14, .func (.func 88) #[] #[], .func (.func 89) #[] #[]] w fun e w' => e = .returned (.bool (decide (n ≤ 14) && L.all good && unlike ExtS.id L)) ∧ Below w.heap.size w w' := by
 have hb0 : Below w.heap.size w (w.alloc (.cells #[.func (.func 88) #[] #[]] 139)) := (Below.refl _ w).alloc (Nat.le_refl _) _
 have hz := Whole.new w 139 #[.func (.func 88) #[] #[]]
 have hcap : n ≤ c ∧ c ≤ maxLen := by
  obtain ⟨A', c', e1, e2, e3, -⟩ := Rows.form h
  injection e1 with e1 e1n e1c
  subst e1c
  exact ⟨by omega, e3⟩
 have HV := Lib.hid h
 have HGD := Lib.hid hg
 have HE := Lib.hid hn
 have HB0 := Lib.hid (And.intro hb0 hz)
 obtain ⟨hc1, hc2⟩ := hcap
 unfold maxLen at hc2
 obtain ⟨r, hr⟩ : ∃ r, (decide (n ≤ 14) && L.all good && unlike ExtS.id L) = r := ⟨_, rfl⟩
 have HR := Lib.hid hr
 rw [hr]
 clear h hg hn hb0 hz hr
 by_cases hm : n ≤ 14
 · have hmi : (n : Int) ≤ 14 := by omega
   obtain ⟨N, hN⟩ : ∃ N, w.heap.size = N := ⟨_, rfl⟩
   rw [hN] at HB0 HV HGD ⊢
   go_enter Tryz.func87, Tryz.ntmps87
   go_upto_region 1 with fail
   generalize w.alloc (.cells #[.func (.func 88) #[] #[]] 139) = W0 at *
   have HN0 : Hid (N ≤ W0.heap.size) := Lib.hid (Nat.le_of_lt HB0.out.2.lt)
   clear hN
   have hmf : ∀ (fn : Fn) (first cap : Array Value) (w : World), (Instr.makeFunc fn first cap).run Tryz.prog w = .ok (.func fn first cap) w := fun _ _ _ _ => rfl
   go_wp2
   go_loopw [18] (fun s18 wr => ∃ k : Nat, k ≤ n ∧ s18 = .int .i64 k ∧ (Below W0.heap.size W0 wr ∧ (∀ j, j < k → good (L.getD j default) = true) ∧ unlike ExtS.id (L.take k) = true)) (fun s18 _ => n - (intOf s18).toNat)
   case atStart => exact ⟨0, by omega, rfl, Below.refl _ _, (fun j hj => by omega), rfl⟩
   case round =>
    obtain ⟨k, hk, rfl, hst⟩ := hrel
    have HS := Lib.hid hst
    clear hst
    by_cases hlt : k < n
    · have hlt' : k < L.length := by rw [HE.out]; exact hlt
      have HBW : Hid (Below N w wr) := Lib.hid (HB0.out.1.trans (HS.out.1.mono HN0.out))
      obtain ⟨ad, c', e1, had, c0, c1⟩ := (HV.out.below HBW.out).at_ hlt'
      injection e1 with e1 e1n e1c
      clear e1n e1c
      subst e1
      obtain ⟨x, hx⟩ : ∃ x, L.getD k default = x := ⟨_, rfl⟩
      have HM : Hid (x ∈ L ∧ L[k]? = some x ∧ L.getD k default = x) := Lib.hid ⟨by rw [← hx]; exact getD_mem hlt', by rw [← hx]; exact getD_of hlt', hx⟩
      rw [hx] at c0 c1
      have hk0 : (0 : Int) ≤ (k : Int) := by omega
      have hk1 : (k : Int) < (n : Int) := by omega
      have hk2 : (k : Int) ≤ (c : Int) := by omega
      have hN0 : W0.heap.size ≤ wr.heap.size := HS.out.1.size
      have HNEW : Hid (Whole (wr.alloc (.cells #[.int .i64 0, .string ⟨#[]⟩] 84)) wr.heap.size 84 #[.int .i64 0, .string ⟨#[]⟩]) := Lib.hid (Whole.new _ _ _)
      have HW : Hid (Below W0.heap.size W0 ((wr.alloc (.cells #[.int .i64 0, .string ⟨#[]⟩] 84)).setRow wr.heap.size #[.int .i64 x.id, .string x.uri]) ∧ Whole ((wr.alloc (.cells #[.int .i64 0, .string ⟨#[]⟩] 84)).setRow wr.heap.size #[.int .i64 x.id, .string x.uri]) wr.heap.size 84 #[.int .i64 x.id, .string x.uri] ∧ Below N wr ((wr.alloc (.cells #[.int .i64 0, .string ⟨#[]⟩] 84)).setRow wr.heap.size #[.int .i64 x.id, .string x.uri])) := Lib.hid ⟨below_row (HS.out.1.alloc hN0 _) hN0 _, (Whole.new wr 84 #[.int .i64 0, .string ⟨#[]⟩]).row #[.int .i64 x.id, .string x.uri], below_row ((Below.refl N wr).alloc (Nat.le_trans HN0.out hN0) _) (Nat.le_trans HN0.out hN0) _⟩
      clear hx had hlt' hN0
      go_upto_region 7 with ((with_reducible refine wpList_storeS #[.int .i64 x.id, .string x.uri] ?_ 84 (.tmp 10) (.tmp 22) ?_ ?_ ?_ HNEW.out Tryz.sizeExt ?_ ?_ ?_ ?_); (with_reducible rfl); (with_reducible rfl); rfl; rfl; rfl; rfl; rfl)
      generalize ((wr.alloc (.cells #[.int .i64 0, .string ⟨#[]⟩] 84)).setRow wr.heap.size #[.int .i64 x.id, .string x.uri]) = w2 at *
      generalize wr.heap.size = g at *
      clear c0 c1 HNEW
      have HBW2 : Hid (Below N w w2) := Lib.hid (HB0.out.1.trans (HW.out.1.mono HN0.out))
      have HSZ : Hid (N ≤ w2.heap.size) := Lib.hid (Nat.le_trans HN0.out HW.out.1.size)
      have cg := HW.out.2.1
      have cg0 := cg.cell 0; have cg1 := cg.cell 1
      simp only [List.getElem?_toArray, List.getElem?_cons_zero, List.getElem?_cons_succ] at cg0 cg1
      clear cg
      obtain ⟨b, hb⟩ : ∃ b, good x = b := ⟨_, rfl⟩
      have HC := Lib.hid (HGD.out w2 x HBW2.out HM.out.1)
      rw [hb] at HC
      have HBG := Lib.hid hb
      clear hb
      cases b with
      | false =>
        have HQ : Hid (r = false) := Lib.hid (by rw [← HR.out, all_no HM.out.1 HBG.out]; simp)
        go_wp2_with (go_at_call 89; (with_reducible refine HC.out.mono ?_); rintro e w3 ⟨rfl, hb3⟩)
        go_ret
        exact ⟨ret_bool HQ.out.symm, HBW2.out.trans (hb3.mono HSZ.out)⟩
      | true =>
        obtain ⟨a, ha⟩ : ∃ a, (L.take k).any (fun y => y.id == x.id) = a := ⟨_, rfl⟩
        have HCO : Hid (∀ w3, Below w2.heap.size w2 w3 → Calls Tryz.prog 141 #[.slice (some ad) k c, .func (.func 140) #[] #[.pointer (some ⟨N, 0, none⟩), .pointer (some ⟨g, 0, none⟩)]] w3 fun e w' => e = .returned (.bool a) ∧ Below w3.heap.size w3 w') := Lib.hid fun w3 hb3 => by
         have hkey : w3.cell? ⟨N, 0, none⟩ = some (.func (.func 88) #[] #[]) := ((HB0.out.2.under (HW.out.1.trans (hb3.mono HW.out.1.size))).cell 0)
         have hgx := HW.out.2.1.under hb3
         have hsz : N ≤ w2.heap.size := HSZ.out
         have hv3 := Rows.take (k := k) (HV.out.below (HBW2.out.trans (hb3.mono hsz))) (by rw [HE.out]; omega)
         have hv3 : ExtsV w3 w3.heap.size (.slice (some ad) k c) (L.take k) := ExtsV.more hv3 (Nat.le_trans hsz hb3.size)
         have := containsE_any (some ad) k c (L.take k) (fun y => y.id == x.id) (.pointer (some ⟨N, 0, none⟩)) (.pointer (some ⟨g, 0, none⟩)) w3 hv3 (by rw [List.length_take, HE.out]; omega) (by omega)
          (fun W y hW' _ => by
            have h1 : W.cell? ⟨N, 0, none⟩ = some (.func (.func 88) #[] #[]) := (hW'.cell (p := ⟨N, 0, none⟩) (block_lt_of_cell hkey)).trans hkey
            have h2 := hgx.under hW'
            exact (alikeE_any y.id x.id _ _ N g W h1 h2))
         rw [ha] at this
         exact this
        have HST := Lib.hid (unlike_step (f := ExtS.id) (q := (fun y => y.id == x.id)) HM.out.2.1 HS.out.2.2 (fun y => by rw [beq_iff_eq]))
        rw [ha] at HST
        clear ha
        cases a with
        | true =>
          have HQ : Hid (r = false) := Lib.hid (by rw [← HR.out, HST.out.1 rfl]; simp)
          go_wp2_with (first
           | (go_at_call 89; (with_reducible refine HC.out.mono ?_); rintro e w3 ⟨rfl, hb3⟩; have HCC := Lib.hid (HCO.out w3 hb3))
           | (go_at_call 141; (with_reducible refine HCC.out.mono ?_); rintro e w4 ⟨rfl, hb4⟩))
          go_ret
          exact ⟨ret_bool HQ.out.symm, (HBW2.out.trans (hb3.mono HSZ.out)).trans (hb4.mono (Nat.le_trans HSZ.out hb3.size))⟩
        | false =>
          go_wp2_with (first
           | (go_at_call 89; (with_reducible refine HC.out.mono ?_); rintro e w3 ⟨rfl, hb3⟩; have HCC := Lib.hid (HCO.out w3 hb3))
           | (go_at_call 141; (with_reducible refine HCC.out.mono ?_); rintro e w4 ⟨rfl, hb4⟩))
          go_roundw
          case rel =>
           refine ⟨k + 1, by omega, by go_num, (HW.out.1.trans (hb3.mono HW.out.1.size)).trans (hb4.mono (Nat.le_trans HW.out.1.size hb3.size)), fun j hj => ?_, HST.out.2 (by first | rfl | trivial)⟩
           by_cases e : j = k
           · subst e
             rw [HM.out.2.2]
             exact HBG.out
           · exact HS.out.2.1 j (by omega)
          case measure => simp [intOf]; omega
    · have e : k = n := by omega
      subst e
      have HQ : Hid (r = true) := Lib.hid (by
       rw [← HR.out, all_yesL HE.out HS.out.2.1]
       have := HS.out.2.2
       rw [List.take_of_length_le (by rw [HE.out]; exact Nat.le_refl _)] at this
       rw [this]
       simp [hm])
      have HBW : Hid (Below N w wr) := Lib.hid (HB0.out.1.trans (HS.out.1.mono HN0.out))
      go_wp2
      go_ret
      exact ⟨ret_bool HQ.out.symm, HBW.out⟩
 · have hmi : 14 < (n : Int) := by omega
   have HQ : Hid (r = false) := Lib.hid (by rw [← HR.out]; simp [hm])
   go_enter Tryz.func87, Tryz.ntmps87
   go_wp2
   go_ret
   exact ⟨ret_bool HQ.out.symm, HB0.out.1⟩
set_option maxHeartbeats 3200000 in
set_option maxRecDepth 100000 in
theorem goodListC_any (A : Option Addr) (n c : Nat) (L : List CodecS) (good : CodecS → Bool) (w : World) (h : CodecsV w w.heap.size (.slice A n c) L) (hn : L.length = n) (hl : n ≤ 140737488355328)
 (hg : ∀ (W : World) (x : CodecS) (vf : Value), Below w.heap.size w W → x ∈ L → TextsV W w.heap.size vf x.feedback → Calls Tryz.prog 86 #[.agg #[.int .i64 x.type, .string x.name, .int .i64 x.clock, .int .i64 x.chans, .string x.format, vf]] W fun e w' => e = .returned (.bool (good x)) ∧ Below W.heap.size W w') :
 Calls Tryz.prog 84 #[.slice A n c, .int .i64 16, .func (.func 85) #[] #[], .func (.func 86) #[] #[]] w fun e w' => e = .returned (.bool (decide (n ≤ 16) && L.all good && unlike CodecS.type L)) ∧ Below w.heap.size w w' := by
 have hb0 : Below w.heap.size w (w.alloc (.cells #[.func (.func 85) #[] #[]] 137)) := (Below.refl _ w).alloc (Nat.le_refl _) _
 have hz := Whole.new w 137 #[.func (.func 85) #[] #[]]
 have hcap : n ≤ c ∧ c ≤ maxLen := by
  obtain ⟨A', c', e1, e2, e3, -⟩ := Rows.form h
  injection e1 with e1 e1n e1c
  subst e1c
  exact ⟨by omega, e3⟩
 have HV := Lib.hid h
 have HGD := Lib.hid hg
 have HE := Lib.hid hn
 have HB0 := Lib.hid (And.intro hb0 hz)
 obtain ⟨hc1, hc2⟩ := hcap
 unfold maxLen at hc2
 obtain ⟨r, hr⟩ : ∃ r, (decide (n ≤ 16) && L.all good && unlike CodecS.type L) = r := ⟨_, rfl⟩
 have HR := Lib.hid hr
 rw [hr]
 clear h hg hn hb0 hz hr
 by_cases hm : n ≤ 16
 · have hmi : (n : Int) ≤ 16 := by omega
   obtain ⟨N, hN⟩ : ∃ N, w.heap.size = N := ⟨_, rfl⟩
   rw [hN] at HB0 HV HGD ⊢
   go_enter Tryz.func84, Tryz.ntmps84
   go_upto_region 1 with fail
   generalize w.alloc (.cells #[.func (.func 85) #[] #[]] 137) = W0 at *
   have HN0 : Hid (N ≤ W0.heap.size) := Lib.hid (Nat.le_of_lt HB0.out.2.lt)
   clear hN
   have hmf : ∀ (fn : Fn) (first cap : Array Value) (w : World), (Instr.makeFunc fn first cap).run Tryz.prog w = .ok (.func fn first cap) w := fun _ _ _ _ => rfl
   go_wp2
   go_loopw [18] (fun s18 wr => ∃ k : Nat, k ≤ n ∧ s18 = .int .i64 k ∧ (Below W0.heap.size W0 wr ∧ (∀ j, j < k → good (L.getD j default) = true) ∧ unlike CodecS.type (L.take k) = true)) (fun s18 _ => n - (intOf s18).toNat)
   case atStart => exact ⟨0, by omega, rfl, Below.refl _ _, (fun j hj => by omega), rfl⟩
   case round =>
    obtain ⟨k, hk, rfl, hst⟩ := hrel
    have HS := Lib.hid hst
    clear hst
    by_cases hlt : k < n
    · have hlt' : k < L.length := by rw [HE.out]; exact hlt
      have HBW : Hid (Below N w wr) := Lib.hid (HB0.out.1.trans (HS.out.1.mono HN0.out))
      obtain ⟨ad, c', vf, e1, had, c0, c1, c2, c3, c4, c5, cf⟩ := (HV.out.below HBW.out).at_ hlt'
      injection e1 with e1 e1n e1c
      clear e1n e1c
      subst e1
      obtain ⟨Af, kf, hvf, -⟩ := Rows.form cf
      obtain ⟨lf, hlf⟩ : ∃ lf, (L.getD k default).feedback.length = lf := ⟨_, rfl⟩
      rw [hlf] at hvf
      subst hvf
      clear hlf
      obtain ⟨x, hx⟩ : ∃ x, L.getD k default = x := ⟨_, rfl⟩
      have HM : Hid (x ∈ L ∧ L[k]? = some x ∧ L.getD k default = x ∧ TextsV wr N (.slice Af lf kf) x.feedback) := Lib.hid ⟨by rw [← hx]; exact getD_mem hlt', by rw [← hx]; exact getD_of hlt', hx, by rw [← hx]; exact cf⟩
      rw [hx] at c0 c1 c2 c3 c4
      have hk0 : (0 : Int) ≤ (k : Int) := by omega
      have hk1 : (k : Int) < (n : Int) := by omega
      have hk2 : (k : Int) ≤ (c : Int) := by omega
      have hN0 : W0.heap.size ≤ wr.heap.size := HS.out.1.size
      have HNEW : Hid (Whole (wr.alloc (.cells #[.int .i64 0, .string ⟨#[]⟩, .int .i64 0, .int .i64 0, .string ⟨#[]⟩, .slice none 0 0] 58)) wr.heap.size 58 #[.int .i64 0, .string ⟨#[]⟩, .int .i64 0, .int .i64 0, .string ⟨#[]⟩, .slice none 0 0]) := Lib.hid (Whole.new _ _ _)
      have HW : Hid (Below W0.heap.size W0 ((wr.alloc (.cells #[.int .i64 0, .string ⟨#[]⟩, .int .i64 0, .int .i64 0, .string ⟨#[]⟩, .slice none 0 0] 58)).setRow wr.heap.size #[.int .i64 x.type, .string x.name, .int .i64 x.clock, .int .i64 x.chans, .string x.format, .slice Af lf kf]) ∧ Whole ((wr.alloc (.cells #[.int .i64 0, .string ⟨#[]⟩, .int .i64 0, .int .i64 0, .string ⟨#[]⟩, .slice none 0 0] 58)).setRow wr.heap.size #[.int .i64 x.type, .string x.name, .int .i64 x.clock, .int .i64 x.chans, .string x.format, .slice Af lf kf]) wr.heap.size 58 #[.int .i64 x.type, .string x.name, .int .i64 x.clock, .int .i64 x.chans, .string x.format, .slice Af lf kf] ∧ Below N wr ((wr.alloc (.cells #[.int .i64 0, .string ⟨#[]⟩, .int .i64 0, .int .i64 0, .string ⟨#[]⟩, .slice none 0 0] 58)).setRow wr.heap.size #[.int .i64 x.type, .string x.name, .int .i64 x.clock, .int .i64 x.chans, .string x.format, .slice Af lf kf])) := Lib.hid ⟨below_row (HS.out.1.alloc hN0 _) hN0 _, (Whole.new wr 58 #[.int .i64 0, .string ⟨#[]⟩, .int .i64 0, .int .i64 0, .string ⟨#[]⟩, .slice none 0 0]).row #[.int .i64 x.type, .string x.name, .int .i64 x.clock, .int .i64 x.chans, .string x.format, .slice Af lf kf], below_row ((Below.refl N wr).alloc (Nat.le_trans HN0.out hN0) _) (Nat.le_trans HN0.out hN0) _⟩
      clear hx had hlt' hN0 cf
      go_upto_region 7 with ((with_reducible refine wpList_storeS #[.int .i64 x.type, .string x.name, .int .i64 x.clock, .int .i64 x.chans, .string x.format, .slice Af lf kf] ?_ 58 (.tmp 10) (.tmp 22) ?_ ?_ ?_ HNEW.out Tryz.sizeCodec ?_ ?_ ?_ ?_); (with_reducible rfl); (with_reducible rfl); rfl; rfl; rfl; rfl; rfl)
      generalize ((wr.alloc (.cells #[.int .i64 0, .string ⟨#[]⟩, .int .i64 0, .int .i64 0, .string ⟨#[]⟩, .slice none 0 0] 58)).setRow wr.heap.size #[.int .i64 x.type, .string x.name, .int .i64 x.clock, .int .i64 x.chans, .string x.format, .slice Af lf kf]) = w2 at *
      generalize wr.heap.size = g at *
      clear c0 c1 c2 c3 c4 HNEW
      have HBW2 : Hid (Below N w w2) := Lib.hid (HB0.out.1.trans (HW.out.1.mono HN0.out))
      have HSZ : Hid (N ≤ w2.heap.size) := Lib.hid (Nat.le_trans HN0.out HW.out.1.size)
      have cg := HW.out.2.1
      have cg0 := cg.cell 0; have cg1 := cg.cell 1; have cg2 := cg.cell 2; have cg3 := cg.cell 3; have cg4 := cg.cell 4; have cg5 := cg.cell 5
      simp only [List.getElem?_toArray, List.getElem?_cons_zero, List.getElem?_cons_succ] at cg0 cg1 cg2 cg3 cg4 cg5
      clear cg
      obtain ⟨b, hb⟩ : ∃ b, good x = b := ⟨_, rfl⟩
      have HC := Lib.hid (HGD.out w2 x (.slice Af lf kf) HBW2.out HM.out.1 (HM.out.2.2.2.below HW.out.2.2))
      rw [hb] at HC
      have HBG := Lib.hid hb
      clear hb
      cases b with
      | false =>
        have HQ : Hid (r = false) := Lib.hid (by rw [← HR.out, all_no HM.out.1 HBG.out]; simp)
        go_wp2_with (go_at_call 86; (with_reducible refine HC.out.mono ?_); rintro e w3 ⟨rfl, hb3⟩)
        go_ret
        exact ⟨ret_bool HQ.out.symm, HBW2.out.trans (hb3.mono HSZ.out)⟩
      | true =>
        obtain ⟨a, ha⟩ : ∃ a, (L.take k).any (fun y => y.type == x.type) = a := ⟨_, rfl⟩
        have HCO : Hid (∀ w3, Below w2.heap.size w2 w3 → Calls Tryz.prog 136 #[.slice (some ad) k c, .func (.func 135) #[] #[.pointer (some ⟨N, 0, none⟩), .pointer (some ⟨g, 0, none⟩)]] w3 fun e w' => e = .returned (.bool a) ∧ Below w3.heap.size w3 w') := Lib.hid fun w3 hb3 => by
         have hkey : w3.cell? ⟨N, 0, none⟩ = some (.func (.func 85) #[] #[]) := ((HB0.out.2.under (HW.out.1.trans (hb3.mono HW.out.1.size))).cell 0)
         have hgx := HW.out.2.1.under hb3
         have hsz : N ≤ w2.heap.size := HSZ.out
         have hv3 := Rows.take (k := k) (HV.out.below (HBW2.out.trans (hb3.mono hsz))) (by rw [HE.out]; omega)
         have hv3 : CodecsV w3 w3.heap.size (.slice (some ad) k c) (L.take k) := CodecsV.more hv3 (Nat.le_trans hsz hb3.size)
         have := containsC_any (some ad) k c (L.take k) (fun y => y.type == x.type) (.pointer (some ⟨N, 0, none⟩)) (.pointer (some ⟨g, 0, none⟩)) w3 hv3 (by rw [List.length_take, HE.out]; omega) (by omega)
          (fun W y vf hW' _ => by
            have h1 : W.cell? ⟨N, 0, none⟩ = some (.func (.func 85) #[] #[]) := (hW'.cell (p := ⟨N, 0, none⟩) (block_lt_of_cell hkey)).trans hkey
            have h2 := hgx.under hW'
            exact (alikeC_any y.type x.type _ _ _ _ _ _ _ _ _ _ N g W h1 h2))
         rw [ha] at this
         exact this
        have HST := Lib.hid (unlike_step (f := CodecS.type) (q := (fun y => y.type == x.type)) HM.out.2.1 HS.out.2.2 (fun y => by rw [beq_iff_eq]))
        rw [ha] at HST
        clear ha
        cases a with
        | true =>
          have HQ : Hid (r = false) := Lib.hid (by rw [← HR.out, HST.out.1 rfl]; simp)
          go_wp2_with (first
           | (go_at_call 86; (with_reducible refine HC.out.mono ?_); rintro e w3 ⟨rfl, hb3⟩; have HCC := Lib.hid (HCO.out w3 hb3))
           | (go_at_call 136; (with_reducible refine HCC.out.mono ?_); rintro e w4 ⟨rfl, hb4⟩))
          go_ret
          exact ⟨ret_bool HQ.out.symm, (HBW2.out.trans (hb3.mono HSZ.out)).trans (hb4.mono (Nat.le_trans HSZ.out hb3.size))⟩
        | false =>
          go_wp2_with (first
           | (go_at_call 86; (with_reducible refine HC.out.mono ?_); rintro e w3 ⟨rfl, hb3⟩; have HCC := Lib.hid (HCO.out w3 hb3))
           | (go_at_call 136; (with_reducible refine HCC.out.mono ?_); rintro e w4 ⟨rfl, hb4⟩))
          go_roundw
          case rel =>
           refine ⟨k + 1, by omega, by go_num, (HW.out.1.trans (hb3.mono HW.out.1.size)).trans (hb4.mono (Nat.le_trans HW.out.1.size hb3.size)), fun j hj => ?_, HST.out.2 (by first | rfl | trivial)⟩
           by_cases e : j = k
           · subst e
             rw [HM.out.2.2.1]
             exact HBG.out
           · exact HS.out.2.1 j (by omega)
          case measure => simp [intOf]; omega
    · have e : k = n := by omega
      subst e
      have HQ : Hid (r = true) := Lib.hid (by
       rw [← HR.out, all_yesL HE.out HS.out.2.1]
       have := HS.out.2.2
       rw [List.take_of_length_le (by rw [HE.out]; exact Nat.le_refl _)] at this
       rw [this]
       simp [hm])
      have HBW : Hid (Below N w wr) := Lib.hid (HB0.out.1.trans (HS.out.1.mono HN0.out))
      go_wp2
      go_ret
      exact ⟨ret_bool HQ.out.symm, HBW.out⟩
 · have hmi : 16 < (n : Int) := by omega
   have HQ : Hid (r = false) := Lib.hid (by rw [← HR.out]; simp [hm])
   go_enter Tryz.func84, Tryz.ntmps84
   go_wp2
   go_ret
   exact ⟨ret_bool HQ.out.symm, HB0.out.1⟩
end Go.Proofs.YtbbedhecfipdjaaGreatDoor
