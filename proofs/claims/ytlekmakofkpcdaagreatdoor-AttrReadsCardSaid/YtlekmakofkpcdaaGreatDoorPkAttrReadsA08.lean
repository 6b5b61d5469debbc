import Derived.Test.YtlekmakofkpcdaaGreatDoorPkAttrReadsA07
import Derived.Deep.Slices
namespace Go.Proofs.YtlekmakofkpcdaaGreatDoor
open Go.RowKit
set_option linter.unusedVariables false
set_option linter.unusedSimpArgs false
theorem run_loadVar_at {P : Program} (w : World) (p : Addr) (ty : TypeId) (cs : List Value) (d : TypeDesc) (hc : ∀ j v, cs[j]? = some v → w.cell? (p.add j) = some v)
 (hu : P.underlying ty = some d) (hd : d.isRow = true) (hi : (P.info? ty).map (·.size) = some cs.length) : (loadVar ty p).run P w = .ok (.agg cs.toArray) w := by
 have hl : (loadCells p cs.length).run P w = .ok cs.toArray w := run_loadCells_list (P := P) w p cs hc
 cases hq : P.info? ty with
 | none => simp [hq] at hi
 | some i =>
   have hs : i.size = cs.length := by simpa [hq] using hi
   have hagg : (isAgg ty).run P w = .ok true w := by
    unfold isAgg
    rw [Sem.run_bind, run_underlying hu w]
    cases d <;> simp_all
   simp [loadVar, Sem.run_bind, hagg, sizeOf, typeInfo, hq, hs, hl]
theorem wp_load_at {op : Oper} {a : Act} {w : World} {K : Act → World → Prop} {Q : Exit → Act → World → Prop} (ty : TypeId) (x : Operand) (ho : op.op = .load ty x) (p : Addr) (hx : a.eval x = .pointer (some p)) (cs : List Value) (d : TypeDesc)
 (hc : ∀ j v, cs[j]? = some v → w.cell? (p.add j) = some v) (hu : Tryz.prog.underlying ty = some d) (hd : d.isRow = true) (hi : (Tryz.prog.info? ty).map (·.size) = some cs.length)
 (h : K (a.put op.dst (.agg cs.toArray)) w) : op.wp Tryz.prog a w K Q := by
 unfold Oper.wp execOp
 simp only [ho, hx, Instr.loadAt, Instr.sureAddr, Sem.run_bind, Sem.run_pure, Result.andThen_ok, run_loadVar_at w p ty cs d hc hu hd hi]
 exact h
theorem wpList_load_at {ops : Array Oper} {rest : List Oper} {op : Oper} {a : Act} {w : World} {Q : Exit → Act → World → Prop} (hgd : op.guard = none) (ty : TypeId) (x : Operand) (ho : op.op = .load ty x) (p : Addr) (hx : a.eval x = .pointer (some p)) (cs : List Value) (d : TypeDesc)
 (hc : ∀ j v, cs[j]? = some v → w.cell? (p.add j) = some v) (hu : Tryz.prog.underlying ty = some d) (hd : d.isRow = true) (hi : (Tryz.prog.info? ty).map (·.size) = some cs.length)
 (h : wpList Tryz.prog ops Q rest (a.put op.dst (.agg cs.toArray)) w) : wpList Tryz.prog ops Q (op :: rest) a w :=
 wpList_plain hgd fun _ hK => wp_load_at ty x ho p hx cs d hc hu hd hi (hK _ _ h)
theorem yieldsIf_load_at {ops : Array Oper} {S : World → Prop} {op : Oper} {a : Act} (hw : Region.wanted op (yielded ops a.tmps) = true) (ty : TypeId) (x : Operand) (ho : op.op = .load ty x) (p : Addr) (hx : a.eval x = .pointer (some p)) (cs : List Value) (d : TypeDesc)
 (hS : ∀ w, S w → ∀ j v, cs[j]? = some v → w.cell? (p.add j) = some v) (hu : Tryz.prog.underlying ty = some d) (hd : d.isRow = true) (hi : (Tryz.prog.info? ty).map (·.size) = some cs.length) : YieldsIf Tryz.prog ops S op (.agg cs.toArray) a :=
 .inl ⟨hw, fun w hw' => by
  unfold execOp
  simp only [ho, hx, Instr.loadAt, Instr.sureAddr, Sem.run_bind, Sem.run_pure, Result.andThen_ok, run_loadVar_at w p ty cs d (hS w hw') hu hd hi]⟩
theorem cryC_len {c : CryptoS} (h : c.key.length = 30) : (cryC c).length = 31 := by simp [cryC, keyC, h]
theorem cryC_one (c : CryptoS) : (cryC c).toArray.toList.all (·.oneCell') = true := by
 rw [List.all_eq_true]
 intro v hv
 simp only [cryC, keyC, List.mem_cons, List.mem_map] at hv
 rcases hv with rfl | ⟨_, _, rfl⟩ <;> rfl
theorem CrysV.at_ {w : World} {B : Nat} {v : Value} {L : List CryptoS} (h : CrysV w B v L) {i : Nat} (hi : i < L.length) : ∃ ad c, v = .slice (some ad) L.length c ∧ ad.block < B ∧ (L.getD i default).key.length = 30 ∧
 ∀ j u, (cryC (L.getD i default))[j]? = some u → w.cell? ((ad.add (i * 31)).add j) = some u := by
 obtain ⟨ad, c, h1, h2, _, _, h3, h4⟩ := Rows.at_ h (List.getElem?_eq_getElem hi)
 have e : L.getD i default = L[i] := by simp [List.getD, hi]
 rw [e]
 refine ⟨ad, c, h1, h2, h3, fun j u hu => ?_⟩
 have hj : j < 31 := by
  have := (List.getElem?_eq_some_iff.1 hu).1
  rw [cryC_len h3] at this
  exact this
 rw [Go.Deep.add_add]
 exact (h4 j hj).trans hu
set_option maxHeartbeats 6400000 in
set_option maxRecDepth 100000 in
theorem goodListY_any (A : Option Addr) (n c : Nat) (L : List CryptoS) (w : World) (h : CrysV w w.heap.size (.slice A n c) L) (hn : L.length = n) (hl : n ≤ 140737488355328) :
 Calls Tryz.prog 121 #[.slice A n c, .int .i64 1, .func (.func 122) #[] #[], .func (.func 123) #[] #[]] w fun e w' => e = .returned (.bool (decide (n ≤ 1) && L.all goodY)) ∧ Below w.heap.size w w' := by
 have hb0 : Below w.heap.size w (w.alloc (.cells #[.func (.func 122) #[] #[]] 176)) := (Below.refl _ w).alloc (Nat.le_refl _) _
 have hcap : n ≤ c ∧ c ≤ maxLen := by
  obtain ⟨A', c', e1, e2, e3, -⟩ := Rows.form h
  injection e1 with e1 e1n e1c
  subst e1c
  exact ⟨by omega, e3⟩
 have HV := Lib.hid h
 have HE := Lib.hid hn
 have HB0 := Lib.hid hb0
 have HN0 : Hid (w.heap.size ≤ (w.alloc (.cells #[.func (.func 122) #[] #[]] 176)).heap.size) := Lib.hid hb0.size
 obtain ⟨hc1, hc2⟩ := hcap
 unfold maxLen at hc2
 obtain ⟨r, hr⟩ : ∃ r, (decide (n ≤ 1) && L.all goodY) = r := ⟨_, rfl⟩
 have HR := Lib.hid hr
 rw [hr]
 clear h hn hb0 hr
 by_cases hm : n ≤ 1
 · have hmi : (n : Int) ≤ 1 := by omega
   obtain ⟨N, hN⟩ : ∃ N, w.heap.size = N := ⟨_, rfl⟩
   rw [hN] at HB0 HV HN0 ⊢
   go_enter Tryz.func121, Tryz.ntmps121
   go_upto_region 1 with fail
   generalize w.alloc (.cells #[.func (.func 122) #[] #[]] 176) = W0 at *
   clear hN
   have hmf : ∀ (fn : Fn) (first cap : Array Value) (w : World), (Instr.makeFunc fn first cap).run Tryz.prog w = .ok (.func fn first cap) w := fun _ _ _ _ => rfl
   go_wp2
   go_loopw [18] (fun s18 wr => ∃ k : Nat, k ≤ n ∧ s18 = .int .i64 k ∧ (Below W0.heap.size W0 wr ∧ (∀ j, j < k → goodY (L.getD j default) = true))) (fun s18 _ => n - (intOf s18).toNat)
   case atStart => exact ⟨0, by omega, rfl, Below.refl _ _, (fun j hj => by omega)⟩
   case round =>
    obtain ⟨k, hk, rfl, hst⟩ := hrel
    have HS := Lib.hid hst
    clear hst
    by_cases hlt : k < n
    · have hlt' : k < L.length := by rw [HE.out]; exact hlt
      have HBW : Hid (Below N w wr) := Lib.hid (HB0.out.trans (HS.out.1.mono HN0.out))
      obtain ⟨ad, c', e1, had, c30, cj⟩ := (HV.out.below HBW.out).at_ hlt'
      injection e1 with e1 e1n e1c
      clear e1n e1c
      subst e1
      obtain ⟨x, hx⟩ : ∃ x, L.getD k default = x := ⟨_, rfl⟩
      have HM : Hid (x ∈ L ∧ L.getD k default = x) := Lib.hid ⟨by rw [← hx]; exact getD_mem hlt', hx⟩
      rw [hx] at c30 cj
      have HJ := Lib.hid cj
      have H31 : Hid ((cryC x).length = 31) := Lib.hid (cryC_len c30)
      have HK0 : Hid (k = 0) := Lib.hid (by omega)
      have hk0 : (0 : Int) ≤ (k : Int) := by omega
      have hk1 : (k : Int) < (n : Int) := by omega
      have hk2 : (k : Int) ≤ (c : Int) := by omega
      have hN0 : W0.heap.size ≤ wr.heap.size := HS.out.1.size
      obtain ⟨X, hX⟩ : ∃ X, (cryC x).toArray = X := ⟨_, rfl⟩
      have HX : Hid ((cryC x).toArray = X ∧ X.size = 31 ∧ X.toList.all (·.oneCell') = true) := Lib.hid ⟨hX, by rw [← hX]; simpa using H31.out, by rw [← hX]; exact cryC_one x⟩
      have HNEW : Hid (Whole (wr.alloc (.cells #[.int .i64 0, .int .u8 0, .int .u8 0, .int .u8 0, .int .u8 0, .int .u8 0, .int .u8 0, .int .u8 0, .int .u8 0, .int .u8 0, .int .u8 0, .int .u8 0, .int .u8 0, .int .u8 0, .int .u8 0, .int .u8 0, .int .u8 0, .int .u8 0, .int .u8 0, .int .u8 0, .int .u8 0, .int .u8 0, .int .u8 0, .int .u8 0, .int .u8 0, .int .u8 0, .int .u8 0, .int .u8 0, .int .u8 0, .int .u8 0, .int .u8 0] 82)) wr.heap.size 82 #[.int .i64 0, .int .u8 0, .int .u8 0, .int .u8 0, .int .u8 0, .int .u8 0, .int .u8 0, .int .u8 0, .int .u8 0, .int .u8 0, .int .u8 0, .int .u8 0, .int .u8 0, .int .u8 0, .int .u8 0, .int .u8 0, .int .u8 0, .int .u8 0, .int .u8 0, .int .u8 0, .int .u8 0, .int .u8 0, .int .u8 0, .int .u8 0, .int .u8 0, .int .u8 0, .int .u8 0, .int .u8 0, .int .u8 0, .int .u8 0, .int .u8 0]) := Lib.hid (Whole.new _ _ _)
      have HW : Hid (Below W0.heap.size W0 ((wr.alloc (.cells #[.int .i64 0, .int .u8 0, .int .u8 0, .int .u8 0, .int .u8 0, .int .u8 0, .int .u8 0, .int .u8 0, .int .u8 0, .int .u8 0, .int .u8 0, .int .u8 0, .int .u8 0, .int .u8 0, .int .u8 0, .int .u8 0, .int .u8 0, .int .u8 0, .int .u8 0, .int .u8 0, .int .u8 0, .int .u8 0, .int .u8 0, .int .u8 0, .int .u8 0, .int .u8 0, .int .u8 0, .int .u8 0, .int .u8 0, .int .u8 0, .int .u8 0] 82)).setRow wr.heap.size X) ∧ Whole ((wr.alloc (.cells #[.int .i64 0, .int .u8 0, .int .u8 0, .int .u8 0, .int .u8 0, .int .u8 0, .int .u8 0, .int .u8 0, .int .u8 0, .int .u8 0, .int .u8 0, .int .u8 0, .int .u8 0, .int .u8 0, .int .u8 0, .int .u8 0, .int .u8 0, .int .u8 0, .int .u8 0, .int .u8 0, .int .u8 0, .int .u8 0, .int .u8 0, .int .u8 0, .int .u8 0, .int .u8 0, .int .u8 0, .int .u8 0, .int .u8 0, .int .u8 0, .int .u8 0] 82)).setRow wr.heap.size X) wr.heap.size 82 X) := Lib.hid ⟨below_row (HS.out.1.alloc hN0 _) hN0 _, (Whole.new wr 82 #[.int .i64 0, .int .u8 0, .int .u8 0, .int .u8 0, .int .u8 0, .int .u8 0, .int .u8 0, .int .u8 0, .int .u8 0, .int .u8 0, .int .u8 0, .int .u8 0, .int .u8 0, .int .u8 0, .int .u8 0, .int .u8 0, .int .u8 0, .int .u8 0, .int .u8 0, .int .u8 0, .int .u8 0, .int .u8 0, .int .u8 0, .int .u8 0, .int .u8 0, .int .u8 0, .int .u8 0, .int .u8 0, .int .u8 0, .int .u8 0, .int .u8 0]).row X⟩
      have HLD : Hid (∀ (ops : Array Oper) (rest : List Oper) (op : Oper) (a : Act) (Q : Exit → Act → World → Prop), op.guard = none → op.op = .load 82 (.tmp 21) → a.eval (.tmp 21) = .pointer (some (ad.add (k * 31))) → wpList Tryz.prog ops Q rest (a.put op.dst (.agg X)) wr → wpList Tryz.prog ops Q (op :: rest) a wr) :=
       Lib.hid fun ops rest op a Q h1 h2 h3 h4 => wpList_load_at h1 82 (.tmp 21) h2 _ h3 (cryC x) _ HJ.out Tryz.underlying82 rfl (by rw [H31.out]; exact Tryz.sizeCrypto) (by rw [HX.out.1]; exact h4)
      clear hx had hlt' hN0 cj c30 hX HJ H31
      go_upto_region 7 with (first
       | ((with_reducible refine HLD.out _ _ _ _ _ ?_ ?_ ?_ ?_); (with_reducible rfl); (with_reducible rfl); rfl)
       | ((with_reducible refine wpList_storeS X ?_ 82 (.tmp 10) (.tmp 22) ?_ ?_ ?_ HNEW.out Tryz.sizeCrypto HX.out.2.1 ?_ HX.out.2.2 ?_); (with_reducible rfl); (with_reducible rfl); rfl; rfl; rfl))
      generalize ((wr.alloc (.cells #[.int .i64 0, .int .u8 0, .int .u8 0, .int .u8 0, .int .u8 0, .int .u8 0, .int .u8 0, .int .u8 0, .int .u8 0, .int .u8 0, .int .u8 0, .int .u8 0, .int .u8 0, .int .u8 0, .int .u8 0, .int .u8 0, .int .u8 0, .int .u8 0, .int .u8 0, .int .u8 0, .int .u8 0, .int .u8 0, .int .u8 0, .int .u8 0, .int .u8 0, .int .u8 0, .int .u8 0, .int .u8 0, .int .u8 0, .int .u8 0, .int .u8 0] 82)).setRow wr.heap.size X) = w2 at *
      generalize wr.heap.size = g at *
      clear HNEW HLD
      have HBW2 : Hid (Below N w w2) := Lib.hid (HB0.out.trans (HW.out.1.mono HN0.out))
      have HSZ : Hid (N ≤ w2.heap.size) := Lib.hid (Nat.le_trans HN0.out HW.out.1.size)
      obtain ⟨b, hb⟩ : ∃ b, goodY x = b := ⟨_, rfl⟩
      have HC : Hid (Calls Tryz.prog 123 #[.agg X] w2 fun e w' => e = .returned (.bool b) ∧ Below w2.heap.size w2 w') := Lib.hid (by
       rw [← hb, ← HX.out.1]
       exact goodCrypto_any x.tag (keyC x.key) w2 (by have := HX.out.2.1; rw [← HX.out.1] at this; simpa [cryC] using this))
      have HBG := Lib.hid hb
      clear hb
      obtain rfl := HK0.out
      cases b with
      | false =>
        have HQ : Hid (r = false) := Lib.hid (by rw [← HR.out, all_no HM.out.1 HBG.out]; simp)
        go_wp2_with (first
         | ((with_reducible refine wpList_load_all ?_ 82 (.tmp 10) ?_ HW.out.2 ?_ Tryz.sizeCrypto HX.out.2.1 Tryz.underlying82 ?_ ?_); (with_reducible rfl); (with_reducible rfl); rfl; rfl)
         | (go_at_call 123; (with_reducible refine HC.out.mono ?_); rintro e w3 ⟨rfl, hb3⟩))
        go_ret
        exact ⟨ret_bool HQ.out.symm, HBW2.out.trans (hb3.mono HSZ.out)⟩
      | true =>
        have HCO : Hid (∀ f w3, Calls Tryz.prog 170 #[.slice (some ad) 0 c, f] w3 fun e w' => e = .returned (.bool false) ∧ w3 = w') := Lib.hid fun f w3 => containsY_none _ _ _ _
        go_wp2_with (first
         | ((with_reducible refine wpList_load_all ?_ 82 (.tmp 10) ?_ HW.out.2 ?_ Tryz.sizeCrypto HX.out.2.1 Tryz.underlying82 ?_ ?_); (with_reducible rfl); (with_reducible rfl); rfl; rfl)
         | (go_at_call 123; (with_reducible refine HC.out.mono ?_); rintro e w3 ⟨rfl, hb3⟩)
         | (go_at_call 170; (with_reducible refine (HCO.out _ _).mono ?_); rintro e w4 ⟨rfl, rfl⟩))
        go_roundw
        case rel =>
         refine ⟨1, by omega, by go_num, HW.out.1.trans (hb3.mono HW.out.1.size), fun j hj => ?_⟩
         obtain rfl : j = 0 := by omega
         rw [HM.out.2]
         exact HBG.out
        case measure => simp [intOf]; omega
    · have e : k = n := by omega
      subst e
      have HQ : Hid (r = true) := Lib.hid (by
       rw [← HR.out, all_yesL HE.out HS.out.2]
       simp [hm])
      have HBW : Hid (Below N w wr) := Lib.hid (HB0.out.trans (HS.out.1.mono HN0.out))
      go_wp2
      go_ret
      exact ⟨ret_bool HQ.out.symm, HBW.out⟩
 · have hmi : 1 < (n : Int) := by omega
   have HQ : Hid (r = false) := Lib.hid (by rw [← HR.out]; simp [hm])
   go_enter Tryz.func121, Tryz.ntmps121
   go_wp2
   go_ret
   exact ⟨ret_bool HQ.out.symm, HB0.out⟩
theorem any_not {α : Type} (L : List α) (q : α → Bool) : (!(L.any fun x => !q x)) = L.all q := by
 induction L with
 | nil => rfl
 | cons a r ih => rw [List.any_cons, List.all_cons, ← ih]; cases q a <;> simp
set_option maxHeartbeats 6400000 in
set_option maxRecDepth 100000 in
theorem goodCodec_any (x : CodecS) (Af : Option Addr) (lf kf : Nat) (w : World) (h : TextsV w w.heap.size (.slice Af lf kf) x.feedback) (hs : x.name.size ≤ 140737488355328 ∧ x.format.size ≤ 140737488355328 ∧ ∀ f ∈ x.feedback, f.size ≤ 140737488355328) (hl : x.feedback.length ≤ 140737488355328) :
 Calls Tryz.prog 111 #[.agg #[.int .i64 x.type, .string x.name, .int .i64 x.clock, .int .i64 x.chans, .string x.format, .slice Af lf kf]] w fun e w' => e = .returned (.bool (goodC x)) ∧ Below w.heap.size w w' := by
 obtain ⟨ty, nm, ck, ch, fm, fb⟩ := x
 have hs : nm.size ≤ 140737488355328 ∧ fm.size ≤ 140737488355328 ∧ ∀ f ∈ fb, f.size ≤ 140737488355328 := hs
 have hl : fb.length ≤ 140737488355328 := hl
 have h : TextsV w w.heap.size (.slice Af lf kf) fb := h
 have hlf : lf = fb.length := by
  obtain ⟨_, _, e, -⟩ := Rows.form h
  injection e
 have hb0 : Below w.heap.size w (w.alloc (.cells #[.int .i64 ty, .string nm, .int .i64 ck, .int .i64 ch, .string fm, .slice Af lf kf] 50)) := (Below.refl _ w).alloc (Nat.le_refl _) _
 have hz := Whole.new w 50 #[.int .i64 ty, .string nm, .int .i64 ck, .int .i64 ch, .string fm, .slice Af lf kf]
 have c0 := hz.cell 0
 have c1 := hz.cell 1
 have c2 := hz.cell 2
 have c3 := hz.cell 3
 have c4 := hz.cell 4
 have c5 := hz.cell 5
 simp only [List.getElem?_toArray, List.getElem?_cons_zero, List.getElem?_cons_succ] at c0 c1 c2 c3 c4 c5
 have HB := Lib.hid (And.intro hb0 (h.below hb0))
 have hx : goodC ⟨ty, nm, ck, ch, fm, fb⟩ = ((decide (0 ≤ ty) && decide (ty ≤ 127)) && (wordP 1 32 (tx nm) && ((decide (1 ≤ ck) && decide (ck ≤ 1000000)) && ((decide (1 ≤ ch) && decide (ch ≤ 2)) && (((tx fm).isEmpty || plainP (tx fm)) && (decide (lf ≤ 8) && !(fb.any fun f => !plainP (tx f)))))))) := by
  rw [any_not, hlf]
  unfold goodC
  simp only [Bool.and_assoc]
 show Calls _ _ _ _ fun e w' => e = .returned (.bool (goodC ⟨ty, nm, ck, ch, fm, fb⟩)) ∧ _
 have hmt : fm.toList.isEmpty = (tx fm).isEmpty := by rw [toList_tx]
 have HWI : Hid (∀ n a b W, Calls Tryz.prog 64 #[.int .i64 n, .int .i64 a, .int .i64 b] W fun e w' => e = .returned (.bool (decide (a ≤ n) && decide (n ≤ b))) ∧ W = w') := Lib.hid fun n a b W => within_any n a b W
 have HWO := Lib.hid (word_any nm (w.alloc (.cells #[.int .i64 ty, .string nm, .int .i64 ck, .int .i64 ch, .string fm, .slice Af lf kf] 50)) (by unfold maxLen; omega))
 have HFO := Lib.hid (goodFormat_any fm (w.alloc (.cells #[.int .i64 ty, .string nm, .int .i64 ck, .int .i64 ch, .string fm, .slice Af lf kf] 50)) (by unfold maxLen; omega))
 have HCO : Hid (∀ W, Below w.heap.size w W → TextsV W w.heap.size (.slice Af lf kf) fb → Calls Tryz.prog 161 #[.slice Af lf kf, .func (.func 162) #[] #[]] W fun e w' => e = .returned (.bool (fb.any fun f => !plainP (tx f))) ∧ Below W.heap.size W w') := Lib.hid fun W hW hv =>
  containsB_any Af lf kf fb (fun f => !plainP (tx f)) W (hv.more hW.size) hlf.symm (by omega) fun W' f _ hf => (badFormat_any f W' (by have := hs.2.2 f hf; unfold maxLen; omega)).mono fun e w' ⟨h1, h2⟩ => ⟨h1, h2 ▸ Below.refl _ _⟩
 have HT1 := Lib.hid (HWI.out ty 0 127 (w.alloc (.cells #[.int .i64 ty, .string nm, .int .i64 ck, .int .i64 ch, .string fm, .slice Af lf kf] 50)))
 have HT2 := Lib.hid (HWI.out ck 1 1000000 (w.alloc (.cells #[.int .i64 ty, .string nm, .int .i64 ck, .int .i64 ch, .string fm, .slice Af lf kf] 50)))
 have HT3 := Lib.hid (HWI.out ch 1 2 (w.alloc (.cells #[.int .i64 ty, .string nm, .int .i64 ck, .int .i64 ch, .string fm, .slice Af lf kf] 50)))
 have HC1 := Lib.hid (HCO.out _ HB.out.1 HB.out.2)
 have HX := Lib.hid hx
 have hlm : lf ≤ 140737488355328 := by omega
 clear hb0 hz h HWI hx hs hl HCO hlf
 generalize goodC ⟨ty, nm, ck, ch, fm, fb⟩ = r at *
 generalize (decide ((0 : Int) ≤ ty) && decide (ty ≤ 127)) = t1 at *
 generalize (decide ((1 : Int) ≤ ck) && decide (ck ≤ 1000000)) = t2 at *
 generalize (decide ((1 : Int) ≤ ch) && decide (ch ≤ 2)) = t3 at *
 generalize (fb.any fun f => !plainP (tx f)) = t4 at *
 generalize wordP 1 32 (tx nm) = q1 at *
 generalize plainP (tx fm) = q2 at *
 generalize (tx fm).isEmpty = q3 at *
 obtain ⟨N, hN⟩ : ∃ N, w.heap.size = N := ⟨_, rfl⟩
 rw [hN] at c0 c1 c2 c3 c4 c5 HB ⊢
 go_enter Tryz.func111, Tryz.ntmps111
 go_upto_region 1 with fail
 generalize w.alloc (.cells #[.int .i64 ty, .string nm, .int .i64 ck, .int .i64 ch, .string fm, .slice Af lf kf] 50) = W at *
 have HSZ : Hid (N ≤ W.heap.size) := Lib.hid (by have := HB.out.1.size; omega)
 clear hN
 cases t1 with
 | false =>
   have HQ : Hid (r = false) := Lib.hid (by rw [HX.out]; simp)
   go_wp2_with (first
    | (go_at_call 64; (with_reducible refine HT1.out.mono ?_); rintro e w' ⟨rfl, rfl⟩))
   go_ret
   exact ⟨ret_bool HQ.out.symm, HB.out.1⟩
 | true =>
   cases q1 with
   | false =>
     have HQ : Hid (r = false) := Lib.hid (by rw [HX.out]; simp)
     go_wp2_with (first
      | (go_at_call 64; (with_reducible refine HT1.out.mono ?_); rintro e w' ⟨rfl, rfl⟩)
      | (go_at_call 89; (with_reducible refine HWO.out.mono ?_); rintro e w' ⟨rfl, rfl⟩))
     go_ret
     exact ⟨ret_bool HQ.out.symm, HB.out.1⟩
   | true =>
     cases t2 with
     | false =>
       have HQ : Hid (r = false) := Lib.hid (by rw [HX.out]; simp)
       go_wp2_with (first
        | (go_at_call 64; (with_reducible refine HT1.out.mono ?_); rintro e w' ⟨rfl, rfl⟩)
        | (go_at_call 89; (with_reducible refine HWO.out.mono ?_); rintro e w' ⟨rfl, rfl⟩)
        | (go_at_call 64; (with_reducible refine HT2.out.mono ?_); rintro e w' ⟨rfl, rfl⟩))
       go_ret
       exact ⟨ret_bool HQ.out.symm, HB.out.1⟩
     | true =>
       cases t3 with
       | false =>
         have HQ : Hid (r = false) := Lib.hid (by rw [HX.out]; simp)
         go_wp2_with (first
          | (go_at_call 64; (with_reducible refine HT1.out.mono ?_); rintro e w' ⟨rfl, rfl⟩)
          | (go_at_call 89; (with_reducible refine HWO.out.mono ?_); rintro e w' ⟨rfl, rfl⟩)
          | (go_at_call 64; (with_reducible refine HT2.out.mono ?_); rintro e w' ⟨rfl, rfl⟩)
          | (go_at_call 64; (with_reducible refine HT3.out.mono ?_); rintro e w' ⟨rfl, rfl⟩))
         go_ret
         exact ⟨ret_bool HQ.out.symm, HB.out.1⟩
       | true =>
         cases q3 with
         | true =>
           by_cases hlt : lf ≤ 8
           · have hl8 : (lf : Int) ≤ 8 := by omega
             have HQ : Hid ((!t4) = r) := Lib.hid (by rw [HX.out]; simp [hlt])
             go_wp2_with (first
              | (go_at_call 64; (with_reducible refine HT1.out.mono ?_); rintro e w' ⟨rfl, rfl⟩)
              | (go_at_call 89; (with_reducible refine HWO.out.mono ?_); rintro e w' ⟨rfl, rfl⟩)
              | (go_at_call 64; (with_reducible refine HT2.out.mono ?_); rintro e w' ⟨rfl, rfl⟩)
              | (go_at_call 64; (with_reducible refine HT3.out.mono ?_); rintro e w' ⟨rfl, rfl⟩)
              | (go_at_call 161; (with_reducible refine HC1.out.mono ?_); rintro e w' ⟨rfl, hb4⟩))
             go_ret
             exact ⟨ret_bool HQ.out, HB.out.1.trans (hb4.mono HSZ.out)⟩
           · have hl8 : 8 < (lf : Int) := by omega
             have HQ : Hid (r = false) := Lib.hid (by rw [HX.out]; simp [hlt])
             go_wp2_with (first
              | (go_at_call 64; (with_reducible refine HT1.out.mono ?_); rintro e w' ⟨rfl, rfl⟩)
              | (go_at_call 89; (with_reducible refine HWO.out.mono ?_); rintro e w' ⟨rfl, rfl⟩)
              | (go_at_call 64; (with_reducible refine HT2.out.mono ?_); rintro e w' ⟨rfl, rfl⟩)
              | (go_at_call 64; (with_reducible refine HT3.out.mono ?_); rintro e w' ⟨rfl, rfl⟩))
             go_ret
             exact ⟨ret_bool HQ.out.symm, HB.out.1⟩
         | false =>
           cases q2 with
           | false =>
             have HQ : Hid (r = false) := Lib.hid (by rw [HX.out]; simp)
             go_wp2_with (first
              | (go_at_call 64; (with_reducible refine HT1.out.mono ?_); rintro e w' ⟨rfl, rfl⟩)
              | (go_at_call 89; (with_reducible refine HWO.out.mono ?_); rintro e w' ⟨rfl, rfl⟩)
              | (go_at_call 64; (with_reducible refine HT2.out.mono ?_); rintro e w' ⟨rfl, rfl⟩)
              | (go_at_call 64; (with_reducible refine HT3.out.mono ?_); rintro e w' ⟨rfl, rfl⟩)
              | (go_at_call 160; (with_reducible refine HFO.out.mono ?_); rintro e w' ⟨rfl, rfl⟩))
             go_ret
             exact ⟨ret_bool HQ.out.symm, HB.out.1⟩
           | true =>
             by_cases hlt : lf ≤ 8
             · have hl8 : (lf : Int) ≤ 8 := by omega
               have HQ : Hid ((!t4) = r) := Lib.hid (by rw [HX.out]; simp [hlt])
               go_wp2_with (first
                | (go_at_call 64; (with_reducible refine HT1.out.mono ?_); rintro e w' ⟨rfl, rfl⟩)
                | (go_at_call 89; (with_reducible refine HWO.out.mono ?_); rintro e w' ⟨rfl, rfl⟩)
                | (go_at_call 64; (with_reducible refine HT2.out.mono ?_); rintro e w' ⟨rfl, rfl⟩)
                | (go_at_call 64; (with_reducible refine HT3.out.mono ?_); rintro e w' ⟨rfl, rfl⟩)
                | (go_at_call 160; (with_reducible refine HFO.out.mono ?_); rintro e w' ⟨rfl, rfl⟩)
                | (go_at_call 161; (with_reducible refine HC1.out.mono ?_); rintro e w' ⟨rfl, hb4⟩))
               go_ret
               exact ⟨ret_bool HQ.out, HB.out.1.trans (hb4.mono HSZ.out)⟩
             · have hl8 : 8 < (lf : Int) := by omega
               have HQ : Hid (r = false) := Lib.hid (by rw [HX.out]; simp [hlt])
               go_wp2_with (first
                | (go_at_call 64; (with_reducible refine HT1.out.mono ?_); rintro e w' ⟨rfl, rfl⟩)
                | (go_at_call 89; (with_reducible refine HWO.out.mono ?_); rintro e w' ⟨rfl, rfl⟩)
                | (go_at_call 64; (with_reducible refine HT2.out.mono ?_); rintro e w' ⟨rfl, rfl⟩)
                | (go_at_call 64; (with_reducible refine HT3.out.mono ?_); rintro e w' ⟨rfl, rfl⟩)
                | (go_at_call 160; (with_reducible refine HFO.out.mono ?_); rintro e w' ⟨rfl, rfl⟩))
               go_ret
               exact ⟨ret_bool HQ.out.symm, HB.out.1⟩
end Go.Proofs.YtlekmakofkpcdaaGreatDoor
