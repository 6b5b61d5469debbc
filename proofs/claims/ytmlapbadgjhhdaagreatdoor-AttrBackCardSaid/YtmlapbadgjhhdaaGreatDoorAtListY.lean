/- Loads of whole structs at any address; goodList at keys: at most one. -/
import Derived.Test.YtmlapbadgjhhdaaGreatDoorAtList
import Derived.Deep.Slices
namespace Go.Proofs.YtmlapbadgjhhdaaGreatDoor
open Go.RowKit
set_option linter.unusedVariables false
set_option linter.unusedSimpArgs false

theorem run_loadVar_at {P : Program} (w : World) (p : Addr) (ty : TypeId) (cs : List Value) (d : TypeDesc) (hc : ∀ j v, cs[j]? = some v → w.cell? (p.add j) = some v)
    (hu : P.underlying ty = some d) (hd : d.isRow = true) (hi : (P.info? ty).map (·.size) = some cs.length) : (loadVar ty p).run P w = .ok (.agg cs.toArray) w := by
  have hl : (loadCells p cs.length).run P w = .ok cs.toArray w := run_loadCells_list (P := P) w p cs hc
  cases hq : P.info? ty with
  | none => simp [hq] at hi
  | some i =>
    have hs : i.size = cs.length := by simpa [hq] using hi
    have hagg : (isAgg ty).run P w = .ok true w := by
      unfold isAgg
      rw [Sem.run_bind, run_underlying hu w]
      cases d <;> simp_all
    simp [loadVar, Sem.run_bind, hagg, sizeOf, typeInfo, hq, hs, hl]
theorem wp_load_at {op : Oper} {a : Act} {w : World} {K : Act → World → Prop} {Q : Exit → Act → World → Prop} (ty : TypeId) (x : Operand) (ho : op.op = .load ty x) (p : Addr) (hx : a.eval x = .pointer (some p)) (cs : List Value) (d : TypeDesc)
    (hc : ∀ j v, cs[j]? = some v → w.cell? (p.add j) = some v) (hu : Tryz.prog.underlying ty = some d) (hd : d.isRow = true) (hi : (Tryz.prog.info? ty).map (·.size) = some cs.length)
    (h : K (a.put op.dst (.agg cs.toArray)) w) : op.wp Tryz.prog a w K Q := by
  unfold Oper.wp execOp
  simp only [ho, hx, Instr.loadAt, Instr.sureAddr, Sem.run_bind, Sem.run_pure, Result.andThen_ok, run_loadVar_at w p ty cs d hc hu hd hi]
  exact h
theorem wpList_load_at {ops : Array Oper} {rest : List Oper} {op : Oper} {a : Act} {w : World} {Q : Exit → Act → World → Prop} (hgd : op.guard = none) (ty : TypeId) (x : Operand) (ho : op.op = .load ty x) (p : Addr) (hx : a.eval x = .pointer (some p)) (cs : List Value) (d : TypeDesc)
    (hc : ∀ j v, cs[j]? = some v → w.cell? (p.add j) = some v) (hu : Tryz.prog.underlying ty = some d) (hd : d.isRow = true) (hi : (Tryz.prog.info? ty).map (·.size) = some cs.length)
    (h : wpList Tryz.prog ops Q rest (a.put op.dst (.agg cs.toArray)) w) : wpList Tryz.prog ops Q (op :: rest) a w :=
  wpList_plain hgd fun _ hK => wp_load_at ty x ho p hx cs d hc hu hd hi (hK _ _ h)
theorem yieldsIf_load_at {ops : Array Oper} {S : World → Prop} {op : Oper} {a : Act} (hw : Region.wanted op (yielded ops a.tmps) = true) (ty : TypeId) (x : Operand) (ho : op.op = .load ty x) (p : Addr) (hx : a.eval x = .pointer (some p)) (cs : List Value) (d : TypeDesc)
    (hS : ∀ w, S w → ∀ j v, cs[j]? = some v → w.cell? (p.add j) = some v) (hu : Tryz.prog.underlying ty = some d) (hd : d.isRow = true) (hi : (Tryz.prog.info? ty).map (·.size) = some cs.length) : YieldsIf Tryz.prog ops S op (.agg cs.toArray) a :=
  .inl ⟨hw, fun w hw' => by
    unfold execOp
    simp only [ho, hx, Instr.loadAt, Instr.sureAddr, Sem.run_bind, Sem.run_pure, Result.andThen_ok, run_loadVar_at w p ty cs d (hS w hw') hu hd hi]⟩

theorem cryC_len {c : CryptoS} (h : c.key.length = 30) : (cryC c).length = 31 := by simp [cryC, keyC, h]
theorem cryC_one (c : CryptoS) : (cryC c).toArray.toList.all (·.oneCell') = true := by
  rw [List.all_eq_true]
  intro v hv
  simp only [cryC, keyC, List.mem_cons, List.mem_map] at hv
  rcases hv with rfl | ⟨_, _, rfl⟩ <;> rfl
theorem CrysV.at_ {w : World} {B : Nat} {v : Value} {L : List CryptoS} (h : CrysV w B v L) {i : Nat} (hi : i < L.length) : ∃ ad c, v = .slice (some ad) L.length c ∧ ad.block < B ∧ (L.getD i default).key.length = 30 ∧
    ∀ j u, (cryC (L.getD i default))[j]? = some u → w.cell? ((ad.add (i * 31)).add j) = some u := by
  obtain ⟨ad, c, h1, h2, _, _, h3, h4⟩ := Rows.at_ h (List.getElem?_eq_getElem hi)
  have e : L.getD i default = L[i] := by simp [List.getD, hi]
  rw [e]
  refine ⟨ad, c, h1, h2, h3, fun j u hu => ?_⟩
  have hj : j < 31 := by
    have := (List.getElem?_eq_some_iff.1 hu).1
    rw [cryC_len h3] at this
    exact this
  rw [Go.Deep.add_add]
  exact (h4 j hj).trans hu

set_option maxHeartbeats 6400000 in
set_option maxRecDepth 100000 in
theorem goodListY_any (A : Option Addr) (n c : Nat) (L : List CryptoS) (w : World) (h : CrysV w w.heap.size (.slice A n c) L) (hn : L.length = n) (hl : n ≤ 140737488355328) :
    Calls Tryz.prog 65 #[.slice A n c, .int .i64 1, .func (.func 66) #[] #[], .func (.func 67) #[] #[]] w fun e w' => e = .returned (.bool (decide (n ≤ 1) && L.all goodY)) ∧ Below w.heap.size w w' := by
  have hb0 : Below w.heap.size w (w.alloc (.cells #[.func (.func 66) #[] #[]] 110)) := (Below.refl _ w).alloc (Nat.le_refl _) _
  have hcap : n ≤ c ∧ c ≤ maxLen := by
    obtain ⟨A', c', e1, e2, e3, -⟩ := Rows.form h
    injection e1 with e1 e1n e1c
    subst e1c
    exact ⟨by omega, e3⟩
  have HV := Lib.hid h
  have HE := Lib.hid hn
  have HB0 := Lib.hid hb0
  have HN0 : Hid (w.heap.size ≤ (w.alloc (.cells #[.func (.func 66) #[] #[]] 110)).heap.size) := Lib.hid hb0.size
  obtain ⟨hc1, hc2⟩ := hcap
  unfold maxLen at hc2
  obtain ⟨r, hr⟩ : ∃ r, (decide (n ≤ 1) && L.all goodY) = r := ⟨_, rfl⟩
  have HR := Lib.hid hr
  rw [hr]
  clear h hn hb0 hr
  by_cases hm : n ≤ 1
  · have hmi : (n : Int) ≤ 1 := by omega
    obtain ⟨N, hN⟩ : ∃ N, w.heap.size = N := ⟨_, rfl⟩
    rw [hN] at HB0 HV HN0 ⊢
    go_enter Tryz.func65, Tryz.ntmps65
    go_upto_region 1 with fail
    generalize w.alloc (.cells #[.func (.func 66) #[] #[]] 110) = W0 at *
    clear hN
    have hmf : ∀ (fn : Fn) (first cap : Array Value) (w : World), (Instr.makeFunc fn first cap).run Tryz.prog w = .ok (.func fn first cap) w := fun _ _ _ _ => rfl
    go_wp2
    go_loopw [18] (fun s18 wr => ∃ k : Nat, k ≤ n ∧ s18 = .int .i64 k ∧ (Below W0.heap.size W0 wr ∧ (∀ j, j < k → goodY (L.getD j default) = true))) (fun s18 _ => n - (intOf s18).toNat)
    case atStart => exact ⟨0, by omega, rfl, Below.refl _ _, (fun j hj => by omega)⟩
    case round =>
      obtain ⟨k, hk, rfl, hst⟩ := hrel
      have HS := Lib.hid hst
      clear hst
      by_cases hlt : k < n
      · have hlt' : k < L.length := by rw [HE.out]; exact hlt
        have HBW : Hid (Below N w wr) := Lib.hid (HB0.out.trans (HS.out.1.mono HN0.out))
        obtain ⟨ad, c', e1, had, c30, cj⟩ := (HV.out.below HBW.out).at_ hlt'
        injection e1 with e1 e1n e1c
        clear e1n e1c
        subst e1
        obtain ⟨x, hx⟩ : ∃ x, L.getD k default = x := ⟨_, rfl⟩
        have HM : Hid (x ∈ L ∧ L.getD k default = x) := Lib.hid ⟨by rw [← hx]; exact getD_mem hlt', hx⟩
        rw [hx] at c30 cj
        have HJ := Lib.hid cj
        have H31 : Hid ((cryC x).length = 31) := Lib.hid (cryC_len c30)
        have HK0 : Hid (k = 0) := Lib.hid (by omega)
        have hk0 : (0 : Int) ≤ (k : Int) := by omega
        have hk1 : (k : Int) < (n : Int) := by omega
        have hk2 : (k : Int) ≤ (c : Int) := by omega
        have hN0 : W0.heap.size ≤ wr.heap.size := HS.out.1.size
        obtain ⟨X, hX⟩ : ∃ X, (cryC x).toArray = X := ⟨_, rfl⟩
        have HX : Hid ((cryC x).toArray = X ∧ X.size = 31 ∧ X.toList.all (·.oneCell') = true) := Lib.hid ⟨hX, by rw [← hX]; simpa using H31.out, by rw [← hX]; exact cryC_one x⟩
        have HNEW : Hid (Whole (wr.alloc (.cells #[.int .i64 0, .int .u8 0, .int .u8 0, .int .u8 0, .int .u8 0, .int .u8 0, .int .u8 0, .int .u8 0, .int .u8 0, .int .u8 0, .int .u8 0, .int .u8 0, .int .u8 0, .int .u8 0, .int .u8 0, .int .u8 0, .int .u8 0, .int .u8 0, .int .u8 0, .int .u8 0, .int .u8 0, .int .u8 0, .int .u8 0, .int .u8 0, .int .u8 0, .int .u8 0, .int .u8 0, .int .u8 0, .int .u8 0, .int .u8 0, .int .u8 0] 73)) wr.heap.size 73 #[.int .i64 0, .int .u8 0, .int .u8 0, .int .u8 0, .int .u8 0, .int .u8 0, .int .u8 0, .int .u8 0, .int .u8 0, .int .u8 0, .int .u8 0, .int .u8 0, .int .u8 0, .int .u8 0, .int .u8 0, .int .u8 0, .int .u8 0, .int .u8 0, .int .u8 0, .int .u8 0, .int .u8 0, .int .u8 0, .int .u8 0, .int .u8 0, .int .u8 0, .int .u8 0, .int .u8 0, .int .u8 0, .int .u8 0, .int .u8 0, .int .u8 0]) := Lib.hid (Whole.new _ _ _)
        have HW : Hid (Below W0.heap.size W0 ((wr.alloc (.cells #[.int .i64 0, .int .u8 0, .int .u8 0, .int .u8 0, .int .u8 0, .int .u8 0, .int .u8 0, .int .u8 0, .int .u8 0, .int .u8 0, .int .u8 0, .int .u8 0, .int .u8 0, .int .u8 0, .int .u8 0, .int .u8 0, .int .u8 0, .int .u8 0, .int .u8 0, .int .u8 0, .int .u8 0, .int .u8 0, .int .u8 0, .int .u8 0, .int .u8 0, .int .u8 0, .int .u8 0, .int .u8 0, .int .u8 0, .int .u8 0, .int .u8 0] 73)).setRow wr.heap.size X) ∧ Whole ((wr.alloc (.cells #[.int .i64 0, .int .u8 0, .int .u8 0, .int .u8 0, .int .u8 0, .int .u8 0, .int .u8 0, .int .u8 0, .int .u8 0, .int .u8 0, .int .u8 0, .int .u8 0, .int .u8 0, .int .u8 0, .int .u8 0, .int .u8 0, .int .u8 0, .int .u8 0, .int .u8 0, .int .u8 0, .int .u8 0, .int .u8 0, .int .u8 0, .int .u8 0, .int .u8 0, .int .u8 0, .int .u8 0, .int .u8 0, .int .u8 0, .int .u8 0, .int .u8 0] 73)).setRow wr.heap.size X) wr.heap.size 73 X) := Lib.hid ⟨below_row (HS.out.1.alloc hN0 _) hN0 _, (Whole.new wr 73 #[.int .i64 0, .int .u8 0, .int .u8 0, .int .u8 0, .int .u8 0, .int .u8 0, .int .u8 0, .int .u8 0, .int .u8 0, .int .u8 0, .int .u8 0, .int .u8 0, .int .u8 0, .int .u8 0, .int .u8 0, .int .u8 0, .int .u8 0, .int .u8 0, .int .u8 0, .int .u8 0, .int .u8 0, .int .u8 0, .int .u8 0, .int .u8 0, .int .u8 0, .int .u8 0, .int .u8 0, .int .u8 0, .int .u8 0, .int .u8 0, .int .u8 0]).row X⟩
        have HLD : Hid (∀ (ops : Array Oper) (rest : List Oper) (op : Oper) (a : Act) (Q : Exit → Act → World → Prop), op.guard = none → op.op = .load 73 (.tmp 21) → a.eval (.tmp 21) = .pointer (some (ad.add (k * 31))) → wpList Tryz.prog ops Q rest (a.put op.dst (.agg X)) wr → wpList Tryz.prog ops Q (op :: rest) a wr) :=
          Lib.hid fun ops rest op a Q h1 h2 h3 h4 => wpList_load_at h1 73 (.tmp 21) h2 _ h3 (cryC x) _ HJ.out Tryz.underlying73 rfl (by rw [H31.out]; exact Tryz.sizeCrypto) (by rw [HX.out.1]; exact h4)
        clear hx had hlt' hN0 cj c30 hX HJ H31
        go_upto_region 7 with (first
          | ((with_reducible refine HLD.out _ _ _ _ _ ?_ ?_ ?_ ?_); (with_reducible rfl); (with_reducible rfl); rfl)
          | ((with_reducible refine wpList_storeS X ?_ 73 (.tmp 10) (.tmp 22) ?_ ?_ ?_ HNEW.out Tryz.sizeCrypto HX.out.2.1 ?_ HX.out.2.2 ?_); (with_reducible rfl); (with_reducible rfl); rfl; rfl; rfl))
        generalize ((wr.alloc (.cells #[.int .i64 0, .int .u8 0, .int .u8 0, .int .u8 0, .int .u8 0, .int .u8 0, .int .u8 0, .int .u8 0, .int .u8 0, .int .u8 0, .int .u8 0, .int .u8 0, .int .u8 0, .int .u8 0, .int .u8 0, .int .u8 0, .int .u8 0, .int .u8 0, .int .u8 0, .int .u8 0, .int .u8 0, .int .u8 0, .int .u8 0, .int .u8 0, .int .u8 0, .int .u8 0, .int .u8 0, .int .u8 0, .int .u8 0, .int .u8 0, .int .u8 0] 73)).setRow wr.heap.size X) = w2 at *
        generalize wr.heap.size = g at *
        clear HNEW HLD
        have HBW2 : Hid (Below N w w2) := Lib.hid (HB0.out.trans (HW.out.1.mono HN0.out))
        have HSZ : Hid (N ≤ w2.heap.size) := Lib.hid (Nat.le_trans HN0.out HW.out.1.size)
        obtain ⟨b, hb⟩ : ∃ b, goodY x = b := ⟨_, rfl⟩
        have HC : Hid (Calls Tryz.prog 67 #[.agg X] w2 fun e w' => e = .returned (.bool b) ∧ Below w2.heap.size w2 w') := Lib.hid (by
          rw [← hb, ← HX.out.1]
          exact goodCrypto_any x.tag (keyC x.key) w2 (by have := HX.out.2.1; rw [← HX.out.1] at this; simpa [cryC] using this))
        have HBG := Lib.hid hb
        clear hb
        obtain rfl := HK0.out
        cases b with
        | false =>
          have HQ : Hid (r = false) := Lib.hid (by rw [← HR.out, all_no HM.out.1 HBG.out]; simp)
          go_wp2_with (first
            | ((with_reducible refine wpList_load_all ?_ 73 (.tmp 10) ?_ HW.out.2 ?_ Tryz.sizeCrypto HX.out.2.1 Tryz.underlying73 ?_ ?_); (with_reducible rfl); (with_reducible rfl); rfl; rfl)
            | (go_at_call 67; (with_reducible refine HC.out.mono ?_); rintro e w3 ⟨rfl, hb3⟩))
          go_ret
          exact ⟨ret_bool HQ.out.symm, HBW2.out.trans (hb3.mono HSZ.out)⟩
        | true =>
          have HCO : Hid (∀ f w3, Calls Tryz.prog 96 #[.slice (some ad) 0 c, f] w3 fun e w' => e = .returned (.bool false) ∧ w3 = w') := Lib.hid fun f w3 => containsY_none _ _ _ _
          go_wp2_with (first
            | ((with_reducible refine wpList_load_all ?_ 73 (.tmp 10) ?_ HW.out.2 ?_ Tryz.sizeCrypto HX.out.2.1 Tryz.underlying73 ?_ ?_); (with_reducible rfl); (with_reducible rfl); rfl; rfl)
            | (go_at_call 67; (with_reducible refine HC.out.mono ?_); rintro e w3 ⟨rfl, hb3⟩)
            | (go_at_call 96; (with_reducible refine (HCO.out _ _).mono ?_); rintro e w4 ⟨rfl, rfl⟩))
          go_roundw
          case rel =>
            refine ⟨1, by omega, by go_num, HW.out.1.trans (hb3.mono HW.out.1.size), fun j hj => ?_⟩
            obtain rfl : j = 0 := by omega
            rw [HM.out.2]
            exact HBG.out
          case measure => simp [intOf]; omega
      · have e : k = n := by omega
        subst e
        have HQ : Hid (r = true) := Lib.hid (by
          rw [← HR.out, all_yes HE.out HS.out.2]
          simp [hm])
        have HBW : Hid (Below N w wr) := Lib.hid (HB0.out.trans (HS.out.1.mono HN0.out))
        go_wp2
        go_ret
        exact ⟨ret_bool HQ.out.symm, HBW.out⟩
  · have hmi : 1 < (n : Int) := by omega
    have HQ : Hid (r = false) := Lib.hid (by rw [← HR.out]; simp [hm])
    go_enter Tryz.func65, Tryz.ntmps65
    go_wp2
    go_ret
    exact ⟨ret_bool HQ.out.symm, HB0.out⟩
end Go.Proofs.YtmlapbadgjhhdaaGreatDoor
