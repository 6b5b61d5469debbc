/- The known attributes, each with its reader: what the program's iterator hands out. -/
import Derived.Test.YtmlapbadgjhhdaaGreatDoorAtRdO
import Derived.Test.YtmlapbadgjhhdaaGreatDoorAtRng
namespace Go.Proofs.YtmlapbadgjhhdaaGreatDoor
open Go.RowKit Go.Shelf
set_option linter.unusedVariables false
set_option linter.unusedSimpArgs false

set_option maxHeartbeats 800000 in
theorem known_mk (A : Option Addr) (n c : Nat) (w : World) : Calls Tryz.prog 38 #[.slice A n c] w fun e w' => e = .returned (.func (.func 72) #[] #[.pointer (some ⟨w.heap.size, 0, none⟩)]) ∧ w.alloc (.cells #[.slice A n c] 36) = w' := by
  have hmf : ∀ (fn : Fn) (first cap : Array Value) (w : World), (Instr.makeFunc fn first cap).run Tryz.prog w = .ok (.func fn first cap) w := fun _ _ _ _ => rfl
  go_enter Tryz.func38, Tryz.ntmps38
  go_wp2
  go_ret
  exact ⟨rfl, rfl⟩
def encA (x : AttrS × Value) : Array Value := #[.agg #[.string x.1.name, .string x.1.value], x.2]
theorem neq_func (f : Fn) (cap : Array Value) (W : World) : (Go.binOp .neq 88 (.func f #[] cap) .nilFunc).run Tryz.prog W = .ok (.bool true) W := by
  have h : (Op.equalIn (9999 + 1) 88 (.func f #[] cap) .nilFunc).run Tryz.prog W = .ok false W := by
    unfold Op.equalIn
    simp only [Sem.run_bind, run_underlying Tryz.underlying88, Result.andThen_ok]
    rfl
  simp only [Go.binOp]
  simp [Op.equal, Op.maxDepth, Sem.run_bind, h]
theorem neq_nil (W : World) : (Go.binOp .neq 88 .nilFunc .nilFunc).run Tryz.prog W = .ok (.bool false) W := by
  have h : (Op.equalIn (9999 + 1) 88 .nilFunc .nilFunc).run Tryz.prog W = .ok true W := by
    unfold Op.equalIn
    simp only [Sem.run_bind, run_underlying Tryz.underlying88, Result.andThen_ok]
    rfl
  simp only [Go.binOp]
  simp [Op.equal, Op.maxDepth, Sem.run_bind, h]
/-- What it tells: the attribute is known, v is its reader, it comes next. -/
structure KnG (L : List AttrS) (pre : List (AttrS × Value)) (x : AttrS × Value) (W : World) : Prop where
  is : known x.1 = true
  rdr : RdrV (tx x.1.name) x.2 W
  next : ∃ j, L[j]? = some x.1 ∧ pre.map (·.1) = (L.take j).filter known
theorem take_known {L : List AttrS} {j : Nat} {a : AttrS} (h : L[j]? = some a) : (L.take (j + 1)).filter known = (L.take j).filter known ++ (if known a then [a] else []) := by
  rw [List.take_add_one, h, List.filter_append]
  congr 1
  simp only [Option.toList_some, List.filter_cons, List.filter_nil]
attribute [local go_sem] Oper.semAt_some
set_option maxRecDepth 100000 in
set_option maxHeartbeats 3200000 in
theorem known_tells (n base gb : Nat) (hn : 1 ≤ n) (A : Option Addr) (k c : Nat) (L : List AttrS) (w : World) (h : AttrsV w base (.slice A k c) L) (hbase : base ≤ w.heap.size) (h7 : 7 ≤ base) (hE : Env w) (hgb : w.cell? ⟨gb, 0, none⟩ = some (.slice A k c)) (hbig : L.length ≤ 140737488355328) :
    Tells n 72 #[.pointer (some ⟨gb, 0, none⟩)] encA (KnG L) (fun A B => Below base A B) (fun xs => xs.map (·.1) = L.filter known) w := by
  intro l J Jx W hW hJ hY h0
  obtain ⟨A', c', e1, hcap, hmax, -⟩ := h.form
  injection e1 with e1 e2 e3
  subst e1 e2 e3
  have hc0 := (hW.cell (p := ⟨gb, 0, none⟩) (block_lt_of_cell hgb)).trans hgb
  have HV := Lib.hid h
  have HY := Lib.hid hY
  have HJ := Lib.hid (And.intro h0 hJ)
  have HB := Lib.hid (And.intro (hW.mono hbase) hbase)
  have HEN : Hid (∀ W', Below base w W' → Env W' ∧ 7 ≤ W'.heap.size) := Lib.hid fun W' hb => ⟨hE.low hb h7, Nat.le_trans h7 (Nat.le_trans hbase hb.size)⟩
  obtain ⟨m, hm⟩ : ∃ m, L.length = m := ⟨_, rfl⟩
  rw [hm] at hcap hc0 hbig
  have HL := Lib.hid hm
  clear h hE hgb h0 hJ hY hW hm hmax h7
  refine callsIn_of_wp Tryz.func72 rfl trivial ?_ rfl
  simp only [Tryz.ntmps72, List.size_toArray, List.length_cons, List.length_nil, Nat.reduceAdd, Nat.reduceSub, Array.replicate_succ, Array.replicate_zero, List.push_toArray, List.append_toArray, List.nil_append, List.cons_append]
  gi_wp2
  gi_loopw [8] (fun i wr => ∃ j : Nat, j ≤ m ∧ i = .int .i64 j ∧ (∃ pre : List (AttrS × Value), pre.map (·.1) = (L.take j).filter known ∧ J pre wr) ∧ Below base w wr) (fun i _ => m - (intOf i).toNat)
  case atStart => exact ⟨0, Nat.zero_le _, rfl, ⟨[], by simp, HJ.out.1⟩, HB.out.1⟩
  case round =>
    obtain ⟨j, hj, rfl, ⟨pre, hpre, hJs⟩, hbw⟩ := hrel
    by_cases hlt : j < m
    · have hlt' : j < L.length := by rw [HL.out]; exact hlt
      obtain ⟨ad, c2, e1, had, x0, x1⟩ := (HV.out.below hbw).at_ hlt'
      injection e1 with e1 e2 e3
      clear e2 e3
      subst e1
      have hLj := getD_of (L := L) (i := j) hlt'
      obtain ⟨a, ha⟩ : ∃ a, L.getD j default = a := ⟨_, rfl⟩
      rw [ha] at x0 x1 hLj
      obtain ⟨nm, vl⟩ := a
      have x0 : wr.cell? (ad.add (j * 2)) = some (.string nm) := x0
      have x1 : wr.cell? ⟨(ad.add (j * 2)).block, (ad.add (j * 2)).off + 1, none⟩ = some (.string vl) := x1
      have hba : Below wr.heap.size wr (wr.alloc (.cells #[.string nm, .string vl] 53)) := (Below.refl _ wr).alloc (Nat.le_refl _) _
      have hsz : base ≤ wr.heap.size := Nat.le_trans HB.out.2 hbw.size
      have HRO := Lib.hid (readerOf_any nm (wr.alloc (.cells #[.string nm, .string vl] 53)) ((HEN.out wr hbw).1.under hba) (Nat.le_trans (HEN.out wr hbw).2 hba.size))
      have HP := Lib.hid (And.intro hpre (And.intro hJs (And.intro hLj (And.intro hbw (And.intro hba hsz)))))
      have HNW : Hid (Whole (wr.alloc (.cells #[.string nm, .string vl] 53)) wr.heap.size 53 #[.string nm, .string vl]) := Lib.hid (Whole.new _ _ _)
      have hj0 : (0 : Int) ≤ (j : Int) := by omega
      have hj1 : (j : Int) < (m : Int) := by omega
      clear ha had hlt' hba hbw hJs hpre hLj hsz
      cases hkn : known ⟨nm, vl⟩ with
      | false =>
        have HK : Hid (knownN.contains (tx nm) = false) := Lib.hid hkn
        have HX0 : Hid (∀ w2, Below (wr.alloc (.cells #[.string nm, .string vl] 53)).heap.size (wr.alloc (.cells #[.string nm, .string vl] 53)) w2 → (∃ pre' : List (AttrS × Value), pre'.map (·.1) = (L.take (j + 1)).filter known ∧ J pre' w2) ∧ Below base w w2) := Lib.hid fun w2 hb2 =>
          ⟨⟨pre, by rw [take_known HP.out.2.2.1, hkn, HP.out.1]; simp, HJ.out.2 _ _ _ (HJ.out.2 _ _ _ HP.out.2.1 HP.out.2.2.2.2.1) hb2⟩, (HP.out.2.2.2.1.trans (HP.out.2.2.2.2.1.mono HP.out.2.2.2.2.2)).trans (hb2.mono (Nat.le_trans HP.out.2.2.2.2.2 HP.out.2.2.2.2.1.size))⟩
        clear hkn
        gi_wp2_with (refine ⟨trivial, ?_⟩; gi_at_call 73; go_must (refine (callsIn_wide.2 HRO.out).mono ?_); rintro e w2 ⟨rv, rfl, hrv, hb2⟩; obtain rfl : rv = .nilFunc := (by rcases hrv.nil with ⟨-, h⟩ | ⟨h, -⟩; exact h; rw [HK.out] at h; cases h); have HX := Lib.hid (HX0.out w2 hb2); clear hrv hb2; have hq := neq_nil)
        refine ⟨fun f h => (by cases h), ?_⟩
        gi_wp2
        go_roundw
        case rel => exact ⟨j + 1, by omega, by simp, HX.out.1, HX.out.2⟩
        case measure => simp [intOf]; omega
      | true =>
        have HK : Hid (knownN.contains (tx nm) = true) := Lib.hid hkn
        have HKN := Lib.hid hkn
        have HX0 : Hid (∀ w2, Below (wr.alloc (.cells #[.string nm, .string vl] 53)).heap.size (wr.alloc (.cells #[.string nm, .string vl] 53)) w2 → J pre w2 ∧ Below base w w2) := Lib.hid fun w2 hb2 =>
          ⟨HJ.out.2 _ _ _ (HJ.out.2 _ _ _ HP.out.2.1 HP.out.2.2.2.2.1) hb2, (HP.out.2.2.2.1.trans (HP.out.2.2.2.2.1.mono HP.out.2.2.2.2.2)).trans (hb2.mono (Nat.le_trans HP.out.2.2.2.2.2 HP.out.2.2.2.2.1.size))⟩
        clear hkn
        gi_wp2_with (first | (refine ⟨trivial, ?_⟩; gi_at_call 73; go_must (refine (callsIn_wide.2 HRO.out).mono ?_); rintro e w2 ⟨rv, rfl, hrv, hb2⟩; obtain ⟨f, cap, rfl⟩ : ∃ f cap, rv = .func f #[] cap := (by rcases hrv.nil with ⟨h, -⟩ | ⟨-, h⟩; rw [HK.out] at h; cases h; exact h); have HX := Lib.hid (HX0.out w2 hb2); have HN2 := Lib.hid (HNW.out.under hb2); have y0 : w2.cell? ⟨wr.heap.size, 0, none⟩ = some (.string nm) := HN2.out.cell 0; have y1 : w2.cell? ⟨wr.heap.size, 1, none⟩ = some (.string vl) := HN2.out.cell 1; have HG : Hid (KnG L pre (⟨nm, vl⟩, .func f #[] cap) w2) := Lib.hid ⟨HKN.out, hrv, j, HP.out.2.2.1, HP.out.1⟩; have HXX : Hid ((pre ++ [((⟨nm, vl⟩ : AttrS), Value.func f #[] cap)]).map (·.1) = (L.take (j + 1)).filter known) := Lib.hid (by rw [take_known HP.out.2.2.1, HKN.out, List.map_append, HP.out.1]; simp); obtain ⟨fn, tmps, assign, body, hy, hR⟩ := HY.out pre (⟨nm, vl⟩, .func f #[] cap) w2 HX.out.1 HG.out; simp only [encA] at hy; have hq := neq_func f cap; clear hrv hb2) | fail)
        refine hR.mono ?_
        rintro e W3 (⟨rfl, hJ3, hk3⟩ | ⟨rfl, hJx3⟩)
        · have HX3 : Hid (∃ pre' : List (AttrS × Value), pre'.map (·.1) = (L.take (j + 1)).filter known ∧ J pre' W3) := Lib.hid ⟨_, HXX.out, hJ3⟩
          have HB3 : Hid (Below base w W3) := Lib.hid (HX.out.2.trans hk3)
          clear hJ3 hk3
          gi_wp2
          go_roundw
          case rel => exact ⟨j + 1, by omega, by simp, HX3.out, HB3.out⟩
          case measure => simp [intOf]; omega
        · gi_wp2
          refine bodyPost_ret (results_none rfl _ _ _) rfl ?_
          exact ⟨⟨_, rfl⟩, .inr hJx3⟩
    · obtain rfl : j = m := by omega
      have HX : Hid (∃ xs : List (AttrS × Value), xs.map (·.1) = L.filter known ∧ J xs wr) := Lib.hid ⟨pre, by rw [hpre, List.take_of_length_le (by rw [HL.out]; exact Nat.le_refl _)], hJs⟩
      clear hpre hJs
      gi_wp2
      go_end0
      exact ⟨⟨_, rfl⟩, .inl HX.out⟩
end Go.Proofs.YtmlapbadgjhhdaaGreatDoor
