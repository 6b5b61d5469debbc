/- The document's Parse. -/
import Derived.Test.YteloaidnfcmadaaStBuiltV
import Derived.Test.YteloaidnfcmadaaStRParseP
namespace Go.Proofs.Yteloaidnfcmadaa
open Go.RowKit
set_option linter.unusedVariables false

theorem built_rzero : Try.prog.built 40 [] = some zM := by kernel_rfl
theorem build_rzero (w : World) : (Instr.build 40 #[]).run Try.prog w = .ok (.agg zM) w := run_build w 40 _ _ built_rzero
theorem built_rcm : ∀ cl me : Int, Try.prog.built 40 [(0, .int .i64 cl), (1, .int .i64 me)] = some (mv cl me [0, 0, 0, 0, 0, 0, 0, 0, 0, 0, 0, 0] (.slice none 0 0)) := by intros; kernel_rfl
theorem build_rcm (cl me : Int) (w : World) : (Instr.build 40 #[(0, .int .i64 cl), (1, .int .i64 me)]).run Try.prog w = .ok (.agg (mv cl me [0, 0, 0, 0, 0, 0, 0, 0, 0, 0, 0, 0] (.slice none 0 0))) w := run_build w 40 _ _ (built_rcm cl me)
theorem wpList_build2 {ops : Array Oper} {rest : List Oper} {o : Oper} {a : Act} {w : World} {Q : Exit → Act → World → Prop} (hgd : o.guard = none) (t : TypeId) (x y : Operand) (ho : o.op = .build t #[(0, x), (1, y)]) {u1 u2 v : Value} (hx : a.eval x = u1) (hy : a.eval y = u2)
    (hr : (Instr.build t #[(0, u1), (1, u2)]).run Try.prog w = .ok v w) (h : wpList Try.prog ops Q rest (a.put o.dst v) w) : wpList Try.prog ops Q (o :: rest) a w := by
  refine wpList_plain hgd fun K hK => ?_
  unfold Oper.wp execOp
  simp only [ho, Sem.run_bind, List.map_toArray, List.map_cons, List.map_nil, hx, hy, hr, Result.andThen_ok, Sem.run_pure]
  exact hK _ _ h

theorem strOfNums_inj {a b : List Int} (ha : In256 a) (hb : In256 b) (h : strOfNums a = strOfNums b) : a = b := by
  have h1 : (a.map fun n => UInt8.ofNat n.toNat) = b.map fun n => UInt8.ofNat n.toNat := by rw [← strOfNums_data, ← strOfNums_data, h]
  have hl : a.length = b.length := by have := congrArg List.length h1; simpa using this
  apply List.ext_getElem hl
  intro i hi hj
  have h2 : (a.map fun n => UInt8.ofNat n.toNat)[i]'(by simpa using hi) = (b.map fun n => UInt8.ofNat n.toNat)[i]'(by simpa using hj) := by simp only [h1]
  rw [List.getElem_map, List.getElem_map] at h2
  have a1 := ha i
  have b1 := hb i
  simp only [List.getD, List.getElem?_eq_getElem hi, List.getElem?_eq_getElem hj, Option.getD_some] at a1 b1
  have h3 := congrArg UInt8.toNat h2
  simp only [UInt8.toNat_ofNat'] at h3
  omega

theorem strs_ne {a b : ByteArray} (h : ¬ a = b) : (a.toList == b.toList) = false := by
  rw [beq_eq_false_iff_ne, ByteArray.toList_eq, ByteArray.toList_eq]
  intro e
  exact h (ByteArray.ext (Array.toList_inj.1 e))

set_option maxHeartbeats 3200000 in
set_option maxRecDepth 100000 in
theorem rparse_firm (v : Value) (xs : List Int) (w : World) (h : V8 w w.heap.size v xs) (hx : In256 xs) (hl : xs.length ≤ 140737488355328) :
    Calls Try.prog 19 #[v] w fun e w' => ∃ M x, e = .returned (.tuple #[.agg M, .int .i64 x]) ∧ ParsedF 57 w.heap.size w' xs M x ∧ Below w.heap.size w w' := by
  have hz := Try.zeroRMsg
  obtain ⟨Av, cv, hve, hv1, hv2, hv3, hv4⟩ := h
  subst hve
  have hV : V8 w w.heap.size (.slice Av xs.length cv) xs := ⟨Av, cv, rfl, hv1, hv2, hv3, hv4⟩
  have HV := Lib.hid hV
  clear hV hv1 hv2 hv3 hv4
  obtain ⟨n, hn⟩ : ∃ x, xs.length = x := ⟨_, rfl⟩
  rw [hn] at HV hl ⊢
  have HNN := Lib.hid hn
  have HX := Lib.hid hx
  clear hx hn
  have HZS : Hid (zM.size = 15 ∧ zM.all (·.oneCell') = true) := Lib.hid ⟨zM_size, mv_one rfl⟩
  have hbz := fun W => build_rzero W
  obtain ⟨Z, hZ⟩ : ∃ Z, zM = Z := ⟨_, rfl⟩
  have HZ := Lib.hid hZ
  simp only [hZ] at hz HZS hbz
  have HBZ := Lib.hid hbz
  have g0 := Whole.new w 40 Z
  have b0 : Below w.heap.size w (w.alloc (.cells Z 40)) := (Below.refl _ w).alloc (Nat.le_refl _) _
  have hsz0 : (w.alloc (.cells Z 40)).heap.size = w.heap.size + 1 := by simp
  have H0 := Lib.hid (And.intro g0 (And.intro b0 hsz0))
  clear hZ g0 b0 hbz hsz0
  obtain ⟨N, hN⟩ : ∃ N, w.heap.size = N := ⟨_, rfl⟩
  have HN := Lib.hid hN
  rw [hN] at H0 HV
  go_enter Try.func19, Try.ntmps19
  go_upto_region 1 with fail
  generalize w.alloc (.cells Z 40) = W0 at *
  clear hN
  by_cases hsm : n < 20 ∨ 1500 < n
  · have hno : IsNone xs := by
      rcases hsm with h | h
      · intro m hm
        have h1 := msgBytes_length m hm.2.1.id12
        rw [hm.2.2, HNN.out] at h1
        unfold szN at h1
        omega
      · exact long_none (by rw [HNN.out]; exact h)
    have HNO := Lib.hid hno
    clear hno
    have f1 : Whole (W0.setRow N Z) N 40 Z := H0.out.1.row Z
    by_cases hs2 : n < 20
    · have hs3 : (n : Int) < 20 := by omega
      go_wp2_with (first
        | (refine wpList_build0 rfl 40 rfl (v := .agg Z) (HBZ.out _) ?_)
        | (refine wpList_store_whole rfl 40 (.tmp 2) (.tmp 18) rfl rfl rfl H0.out.1 Try.sizeRMsg HZS.out.1 HZS.out.1 HZS.out.2 ?_))
      refine bodyPost_ret (v := .tuple #[.agg Z, .int .i64 2]) ?_ rfl ?_
      · exact ret_struct2 (p := 2) (s := 3) rfl rfl f1 Try.underlying40 rfl Try.sizeRMsg HZS.out.1
      · exact ⟨Z, 2, rfl, .inr ⟨HNO.out, rfl, HZ.out.symm⟩, by rw [HN.out]; exact below_row H0.out.2.1 (Nat.le_refl _) _⟩
    · have hs3 : ¬ (n : Int) < 20 := by omega
      have hs4 : (n : Int) > 1500 := by omega
      go_wp2_with (first
        | (refine wpList_build0 rfl 40 rfl (v := .agg Z) (HBZ.out _) ?_)
        | (refine wpList_store_whole rfl 40 (.tmp 2) (.tmp 18) rfl rfl rfl H0.out.1 Try.sizeRMsg HZS.out.1 HZS.out.1 HZS.out.2 ?_))
      refine bodyPost_ret (v := .tuple #[.agg Z, .int .i64 2]) ?_ rfl ?_
      · exact ret_struct2 (p := 2) (s := 3) rfl rfl f1 Try.underlying40 rfl Try.sizeRMsg HZS.out.1
      · exact ⟨Z, 2, rfl, .inr ⟨HNO.out, rfl, HZ.out.symm⟩, by rw [HN.out]; exact below_row H0.out.2.1 (Nat.le_refl _) _⟩
  · have hs3 : ¬ (n : Int) < 20 := by omega
    have hs4 : ¬ (n : Int) > 1500 := by omega
    obtain ⟨ad, rfl, -, hnc, hcm, had, hcell⟩ := v8_at HV.out H0.out.2.1 (by omega)
    have HC := Lib.hid hcell
    have c0 := hcell 0 (by omega)
    have c1 := hcell 1 (by omega)
    have hb0 := HX.out 0
    have hb1 := HX.out 1
    obtain ⟨k0, hk0⟩ : ∃ x, xs.getD 0 0 = x := ⟨_, rfl⟩
    obtain ⟨k1, hk1⟩ : ∃ x, xs.getD 1 0 = x := ⟨_, rfl⟩
    rw [hk0] at c0 hb0
    rw [hk1] at c1 hb1
    have HK01 := Lib.hid (And.intro hk0 hk1)
    clear hk0 hk1 hcell
    rw [show ad.add 0 = ad from if_pos rfl] at c0
    rw [show ad.add 1 = ⟨ad.block, ad.off + 1, none⟩ from if_neg (by decide)] at c1
    go_upto_region 3 with fail
    have hw0 : IntKind.i64.wrap k0 = k0 := by rw [IntKind.wrap_i64]; omega
    have hw1 : IntKind.i64.wrap (k0 * 256) = k0 * 256 := by rw [IntKind.wrap_i64]; omega
    have hw2 : IntKind.i64.wrap k1 = k1 := by rw [IntKind.wrap_i64]; omega
    have hor := kind_i64 k0 k1 hb0 hb1
    have hn1 : (1 : Int) < (n : Int) := by omega
    have hn0 : 0 < n := by omega
    have hn2 : 1 < n := by omega
    go_quiet (fail)
    obtain ⟨K, hK⟩ : ∃ K, k0 * 256 + k1 = K := ⟨_, rfl⟩
    have hst := kind_steps K (by omega) (by omega)
    rw [hK]
    have HKK := Lib.hid hK
    clear hw0 hw1 hw2 hor hn1 hn2 c0 c1 hK
    obtain ⟨W1, hW1⟩ : ∃ W1, W0.drewN nq = W1 := ⟨_, rfl⟩
    have g1 : Whole W1 N 40 Z := by rw [← hW1]; exact H0.out.1.drewN nq
    have b1 : Below N w W1 := by rw [← hW1]; exact below_drewN' H0.out.2.1 nq
    have s1 : W1.heap.size = N + 1 := by rw [← hW1]; exact H0.out.2.2
    rw [hW1]
    have H1 := Lib.hid (And.intro g1 (And.intro b1 s1))
    clear hW1 g1 b1
    have s_a1 := hst.a1
    have s_a2 := hst.a2
    have s_a3 := hst.a3
    have s_a4 := hst.a4
    have s_b1 := hst.b1
    have s_b2 := hst.b2
    have s_b3 := hst.b3
    have s_b4 := hst.b4
    have s_b5 := hst.b5
    have s_b6 := hst.b6
    have s_b7 := hst.b7
    clear hst
    go_upto_region 5 with (first
      | (refine wpList_build2 rfl 40 (.tmp 36) (.tmp 48) rfl (u1 := .int .i64 (clOf K)) (u2 := .int .i64 (meOf K)) rfl rfl (build_rcm _ _ _) ?_)
      | (refine wpList_store_whole rfl 40 (.tmp 5) (.tmp 49) rfl rfl rfl (by have := Whole.new W1 40 Z; rw [H1.out.2.2] at this; exact this) Try.sizeRMsg (mv_size rfl) HZS.out.1 (mv_one rfl) ?_))
    obtain ⟨ids, hids⟩ : ∃ x, (xs.drop 8).take 12 = x := ⟨_, rfl⟩
    have hidl : ids.length = 12 := by rw [← hids, List.length_take, List.length_drop, HNN.out]; omega
    have b5w : Below N w ((W1.alloc (.cells Z 40)).setRow (N + 1) (mv (clOf K) (meOf K) [0, 0, 0, 0, 0, 0, 0, 0, 0, 0, 0, 0] (.slice none 0 0))) := below_row (H1.out.2.1.alloc (by rw [H1.out.2.2]; omega) _) (by omega) _
    have g5r : Whole ((W1.alloc (.cells Z 40)).setRow (N + 1) (mv (clOf K) (meOf K) [0, 0, 0, 0, 0, 0, 0, 0, 0, 0, 0, 0] (.slice none 0 0))) N 40 Z := (H1.out.1.alloc _).farRow (by omega) _
    have g5b : Whole ((W1.alloc (.cells Z 40)).setRow (N + 1) (mv (clOf K) (meOf K) [0, 0, 0, 0, 0, 0, 0, 0, 0, 0, 0, 0] (.slice none 0 0))) (N + 1) 40 (ml (clOf K) (meOf K) [0, 0, 0, 0, 0, 0, 0, 0, 0, 0, 0, 0]).toArray := by
      have hn2 : Whole (W1.alloc (.cells Z 40)) (N + 1) 40 Z := by have := Whole.new W1 40 Z; rw [H1.out.2.2] at this; exact this
      exact hn2.row _
    generalize (W1.alloc (.cells Z 40)).setRow (N + 1) (mv (clOf K) (meOf K) [0, 0, 0, 0, 0, 0, 0, 0, 0, 0, 0, 0] (.slice none 0 0)) = W5 at *
    have HIL := Lib.hid (And.intro hids hidl)
    have H5 := Lib.hid (And.intro b5w (And.intro g5r g5b))
    clear s1 s_a1 s_a2 s_a3 s_a4 s_b1 s_b2 s_b3 s_b4 s_b5 s_b6 s_b7 hids hidl b5w g5r g5b
    have hsl : ∀ W, (Instr.slice 22 (.slice (some ad) n cv) (some (.int .i64 8)) (some (.int .i64 20)) none).run Try.prog W = .ok (.slice (some ⟨ad.block, ad.off + 8, none⟩) 12 (cv - 8)) W := fun W => by
      have := cut_run (A := ad) (n := n) (c := cv) (lo := 8) (hi := 20) (x := 8) (y := 20) rfl rfl (by omega) (by omega) W
      rw [if_neg (by omega)] at this
      exact this
    refine wp_region_held_drew (S := fun _ => True) (by kernel_rfl) trivial (fun hHeld => ?_)
    refine wpAnyH_take (i := 0) (v := .pointer (some ⟨N + 1, 2, none⟩)) rfl (by kernel_rfl) (by kernel_rfl) (by kernel_rfl) (fun _ _ _ h => h) (Or.inl ⟨by rfl, fun w h => by go_simp⟩) (by assumption) ?_
    simp only [Act.put, List.setIfInBounds_toArray]
    refine wpAnyH_take (i := 1) (v := .slice (some ⟨N + 1, 2, none⟩) 12 12) rfl (by kernel_rfl) (by kernel_rfl) (by kernel_rfl) (fun _ _ _ h => h) (Or.inl ⟨by rfl, fun w h => by go_simp⟩) (by assumption) ?_
    simp only [Act.put]
    refine wpAnyH_take (i := 2) (v := .slice (some ad) n cv) rfl (by kernel_rfl) (by kernel_rfl) (by kernel_rfl) (fun _ _ _ h => h) (Or.inl ⟨by rfl, fun w h => by go_simp⟩) (by assumption) ?_
    simp only [Act.put]
    refine wpAnyH_take (i := 3) (v := .slice (some ⟨ad.block, ad.off + 8, none⟩) 12 (cv - 8)) rfl (by kernel_rfl) (by kernel_rfl) (by kernel_rfl) (fun _ _ _ h => h) (Or.inl ⟨by rfl, fun w h => by go_simp⟩) (by assumption) ?_
    simp only [Act.put]
    refine wpAnyH_ready (rs := [4]) (by kernel_rfl) (by simp) ?_
    refine AllReadyH.cons (i := 4) rfl (fun K' hK' => ?_) AllReadyH.nil
    have hcl : (ids.map (Value.int .u8)).length = 12 := by rw [List.length_map]; exact HIL.out.2
    refine step_copy_splice rfl (.tmp 51) (.tmp 53) 22 22 rfl 5 Try.underlying22 Try.sizeByte (some ⟨N + 1, 2, none⟩) (some ⟨ad.block, ad.off + 8, none⟩) 12 12 12 (cv - 8) rfl rfl (N + 1) 2 (ml (clOf K) (meOf K) [0, 0, 0, 0, 0, 0, 0, 0, 0, 0, 0, 0]) 40 H5.out.2.2.drew (ids.map (Value.int .u8)) hcl ?_ ?_ ?_ (N + 1) W5.drew (Below.refl _ _) (Nat.le_refl _) ?_
    · intro _
      refine ⟨rfl, ⟨ad.block, ad.off + 8, none⟩, rfl, fun j v hj => ?_⟩
      have hjl : j < 12 := by have := (List.getElem?_eq_some_iff.1 hj).1; rw [hcl] at this; exact this
      obtain ⟨ad2, e2, -, -, -, -, hc2⟩ := v8_at HV.out H5.out.1 (by omega)
      cases e2
      have := hc2 (8 + j) (by omega)
      rw [show ad.add (8 + j) = (⟨ad.block, ad.off + 8, none⟩ : Addr).add j by rw [Addr.add_lit]; unfold Addr.add; rw [if_neg (by omega), Nat.add_assoc]] at this
      refine this.trans ?_
      rw [← hj, ← HIL.out.1]
      simp [List.getD, hjl, show 8 + j < xs.length by rw [HNN.out]; omega]
    · rw [hcl]
      show 2 + 12 ≤ 15
      omega
    · intro v hv
      obtain ⟨x, _, rfl⟩ := List.mem_map.1 hv
      rfl
    intro w5 hw5 hb5
    have hw5' := hw5.out
    rw [ml_splice _ _ _ ids rfl (.inl HIL.out.2), if_neg (by intro e; have := HIL.out.2; rw [e] at this; cases this)] at hw5'
    have hb5' : Below (N + 1) W5 w5 := (Below.refl (N + 1) W5).drew.trans hb5
    have hst : Rp w N (clOf K) (meOf K) ids w5 (.slice none 0 0) [] [] := ⟨by rw [HZ.out]; exact H5.out.2.1.below hb5' (by omega), hw5', Row2.nil _ _ _, ElsO.nil _ _, H5.out.1.trans (hb5'.mono (by omega))⟩
    have HST := Lib.hid hst
    refine hK'.out _ _ trivial (fun hHeld => ?_)
    clear hK' K'
    refine wpAnyH_done (by kernel_rfl) ?_ _
    simp only [Act.put]
    clear hsl hw5 hw5' hb5 hb5' hst hcl hHeld
    have hst0 : Rp w N (clOf K) (meOf K) ids w5 (.slice none 0 0) [] [] ∧ RSo xs [] 20 := ⟨HST.out, RSo.start xs⟩
    have HS0 := Lib.hid hst0
    clear hst0
    go_upto_region 7 with fail
    obtain ⟨A12c, hHCN⟩ : ∃ x : Nat, x = n := ⟨n, rfl⟩
    go_loopw [6] (fun s6 wr => ∃ (p : Nat) (v : Value) (ps : List (Int × Value)) (L : List At), s6 = .int .i64 p ∧ Rp w N (clOf K) (meOf K) ids wr v ps L ∧ RSo xs L p) (fun s6 _ => n + 4 - (intOf s6).toNat)
    case atStart => exact ⟨20, _, [], [], rfl, HS0.out⟩
    case round =>
      obtain ⟨p, v, ps, L, rfl, hrp, hso⟩ := hrel
      by_cases hlt : p < n
      · have hlt' : (p : Int) < (n : Int) := by omega
        by_cases h4 : n < p + 4
        · have h4' : (p : Int) + 4 > (n : Int) := by omega
          have HNO := Lib.hid (hso.short HX.out (by rw [HNN.out]; exact hlt) (.inl (by rw [HNN.out]; exact h4)))
          have hres := hrp.res
          rw [HZ.out] at hres
          have HE := Lib.hid (And.intro hres hrp.below)
          clear hrp hso hres
          go_wp2_with (first
            | (refine wpList_build0 rfl 40 rfl (v := .agg Z) (HBZ.out _) ?_)
            | (refine wpList_store_whole rfl 40 (.tmp 2) (.tmp 64) rfl rfl rfl HE.out.1 Try.sizeRMsg HZS.out.1 HZS.out.1 HZS.out.2 ?_))
          have f1 : Whole (wr.setRow N Z) N 40 Z := HE.out.1.row Z
          refine bodyPost_ret (v := .tuple #[.agg Z, .int .i64 2]) ?_ rfl ?_
          · exact ret_struct2 (p := 2) (s := 3) rfl rfl f1 Try.underlying40 rfl Try.sizeRMsg HZS.out.1
          · exact ⟨Z, 2, rfl, .inr ⟨HNO.out, rfl, HZ.out.symm⟩, by rw [HN.out]; exact below_row HE.out.2 (Nat.le_refl _) _⟩
        · have h4' : ¬ (p : Int) + 4 > (n : Int) := by omega
          obtain ⟨ad2, e2, -, -, -, -, hc2⟩ := v8_at HV.out hrp.below (by omega)
          cases e2
          obtain ⟨p2, hp2⟩ : ∃ x, p + 2 = x := ⟨_, rfl⟩
          obtain ⟨p3, hp3⟩ : ∃ x, p + 3 = x := ⟨_, rfl⟩
          have d2 := hc2 (p + 2) (by omega)
          have d3 := hc2 (p + 3) (by omega)
          have hb2 := HX.out (p + 2)
          have hb3 := HX.out (p + 3)
          rw [hp2] at d2 hb2
          rw [hp3] at d3 hb3
          obtain ⟨y2, hy2⟩ : ∃ x, xs.getD p2 0 = x := ⟨_, rfl⟩
          obtain ⟨y3, hy3⟩ : ∃ x, xs.getD p3 0 = x := ⟨_, rfl⟩
          have hln := rLen_int HX.out p
          have hll := rLen_lt HX.out p
          rw [hp2, hp3, hy2, hy3] at hln
          rw [hy2] at d2 hb2
          rw [hy3] at d3 hb3
          obtain ⟨ln, hlne⟩ : ∃ x, rLen xs p = x := ⟨_, rfl⟩
          rw [hlne] at hln hll
          have HLN := Lib.hid hlne
          have HP := Lib.hid (And.intro hrp hso)
          clear hc2 hlne hy2 hy3 hrp hso
          have hq2 : IntKind.i64.wrap ((p : Int) + 2) = (p2 : Int) := by rw [IntKind.wrap_i64]; omega
          have hq3 : IntKind.i64.wrap ((p : Int) + 3) = (p3 : Int) := by rw [IntKind.wrap_i64]; omega
          have hr2 : IntKind.i64.wrap y2 = y2 := by rw [IntKind.wrap_i64]; omega
          have hr3 : IntKind.i64.wrap y3 = y3 := by rw [IntKind.wrap_i64]; omega
          have hr4 : IntKind.i64.wrap (y2 * 256) = y2 * 256 := by rw [IntKind.wrap_i64]; omega
          have hor := kind_i64 y2 y3 hb2 hb3
          rw [← hln] at hor
          have hl2 : (p2 : Int) < (n : Int) := by omega
          have hl3 : (p3 : Int) < (n : Int) := by omega
          have hl0 : (0 : Int) ≤ (p2 : Int) := by omega
          have hl1 : (0 : Int) ≤ (p3 : Int) := by omega
          clear hln hp2 hp3
          go_upto_region 10 with fail
          go_quiet (fail)
          obtain ⟨WA, hWA⟩ : ∃ x, wr.drewN nq = x := ⟨_, rfl⟩
          have hrpA : Rp w N (clOf K) (meOf K) ids WA v ps L := by rw [← hWA]; exact HP.out.1.under (below_drewN' (Below.refl _ wr) nq)
          rw [hWA]
          clear hWA d2 d3 hq2 hq3 hr2 hr3 hr4 hor hl2 hl3 hl0 hl1 hb2 hb3
          by_cases hov : n < p + 4 + ln
          · have hov' : (p : Int) + 4 + (ln : Int) > (n : Int) := by omega
            have HNO := Lib.hid (HP.out.2.short HX.out (by rw [HNN.out]; exact hlt) (.inr (by rw [HNN.out, HLN.out]; exact hov)))
            have hres := hrpA.res
            rw [HZ.out] at hres
            have HE := Lib.hid (And.intro hres hrpA.below)
            clear hres hrpA
            go_wp2_with (first
              | (refine wpList_build0 rfl 40 rfl (v := .agg Z) (HBZ.out _) ?_)
              | (refine wpList_store_whole rfl 40 (.tmp 2) (.tmp 86) rfl rfl rfl HE.out.1 Try.sizeRMsg HZS.out.1 HZS.out.1 HZS.out.2 ?_))
            have f1 : Whole (WA.setRow N Z) N 40 Z := HE.out.1.row Z
            refine bodyPost_ret (v := .tuple #[.agg Z, .int .i64 2]) ?_ rfl ?_
            · exact ret_struct2 (p := 2) (s := 3) rfl rfl f1 Try.underlying40 rfl Try.sizeRMsg HZS.out.1
            · exact ⟨Z, 2, rfl, .inr ⟨HNO.out, rfl, HZ.out.symm⟩, by rw [HN.out]; exact below_row HE.out.2 (Nat.le_refl _) _⟩
          · have hov' : ¬ (p : Int) + 4 + (ln : Int) > (n : Int) := by omega
            obtain ⟨ad2, e2, -, -, -, -, hc2⟩ := v8_at HV.out hrpA.below (by omega)
            cases e2
            obtain ⟨Av, cA, rfl, -⟩ := hrpA.row.form
            obtain ⟨k, hk⟩ : ∃ x, ps.length = x := ⟨_, rfl⟩
            rw [hk] at hrpA HP
            have hkl : k * 4 ≤ n := by have h1 := hrpA.els.1; have h2 := HP.out.2.few; omega
            obtain ⟨p1, hp1⟩ : ∃ x, p + 1 = x := ⟨_, rfl⟩
            obtain ⟨p4, hp4⟩ : ∃ x, p + 4 = x := ⟨_, rfl⟩
            obtain ⟨pe, hpe⟩ : ∃ x, p4 + ln = x := ⟨_, rfl⟩
            have d0 := hc2 p (by omega)
            have d1 := hc2 p1 (by omega)
            have hb0' := HX.out p
            have hb1' := HX.out p1
            have hty : rTy xs p = xs.getD p 0 * 256 + xs.getD p1 0 := by rw [← hp1]; rfl
            obtain ⟨y0, hy0⟩ : ∃ x, xs.getD p 0 = x := ⟨_, rfl⟩
            obtain ⟨y1, hy1⟩ : ∃ x, xs.getD p1 0 = x := ⟨_, rfl⟩
            rw [hy0] at d0 hb0' hty
            rw [hy1] at d1 hb1' hty
            have hbs0 : ∃ E cE, (∀ W, (Instr.slice 22 (.slice (some ad) n cv) (some (.int .i64 p4)) (some (.int .i64 pe)) none).run Try.prog W = .ok (.slice E ln cE) W) ∧ (∀ W, Below N w W → Bs W N E ln (rVal xs p)) ∧ (E = none → cE = 0) := by
              have e3 : pe - p4 = ln := by omega
              refine ⟨if cv = p4 then some ad else some (ad.add p4), cv - p4, fun W => ?_, fun W hb => ?_, fun e => by split at e <;> cases e⟩
              · have := cut_run (A := ad) (n := n) (c := cv) (lo := p4) (hi := pe) rfl rfl (by omega) (by omega) W
                rw [e3] at this
                exact this
              · obtain ⟨A', c', e, -, -, -, hbs⟩ := HV.out.below hb
                cases e
                rw [HNN.out] at hbs
                have := cut_bs (c := cv) (lo := p4) (hi := pe) hbs (by omega) (by omega) hnc
                rw [e3] at this
                unfold rVal
                rw [HLN.out, hp4]
                exact this
            obtain ⟨E, cE, hsl, hbs, hEn⟩ := hbs0
            obtain ⟨T, hT⟩ : ∃ x, rTy xs p = x := ⟨_, rfl⟩
            rw [hT] at hty
            have hlv := rVal_length (xs := xs) (p := p) (by rw [HLN.out, HNN.out]; omega)
            rw [HLN.out] at hlv
            have c14 := hrpA.c14 HIL.out.2
            have HA := Lib.hid (And.intro hrpA (And.intro hbs (And.intro hEn (And.intro hT (And.intro hk (And.intro hlv hkl))))))
            have HS0 : Hid (∀ W, Below N w W → W.cell? (ad.add p) = some (.int .u8 y0) ∧ W.cell? (ad.add p1) = some (.int .u8 y1)) := Lib.hid fun W hb => by
              obtain ⟨ad2, e2, -, -, -, -, hc⟩ := v8_at HV.out hb (by omega)
              cases e2
              exact ⟨by rw [← hy0]; exact hc p (by omega), by rw [← hy1]; exact hc p1 (by omega)⟩
            have hq1 : IntKind.i64.wrap ((p : Int) + 1) = (p1 : Int) := by rw [IntKind.wrap_i64]; omega
            have hq4 : IntKind.i64.wrap ((p : Int) + 4) = (p4 : Int) := by rw [IntKind.wrap_i64]; omega
            have hqe : IntKind.i64.wrap ((p4 : Int) + (ln : Int)) = (pe : Int) := by rw [IntKind.wrap_i64]; omega
            have hr0 : IntKind.u16.wrap y0 = y0 := by rw [IntKind.wrap_u16]; omega
            have hr1 : IntKind.u16.wrap y1 = y1 := by rw [IntKind.wrap_u16]; omega
            have hr4 : IntKind.u16.wrap (y0 * 256) = y0 * 256 := by rw [IntKind.wrap_u16]; omega
            have hor := kind_u16 y0 y1 hb0' hb1'
            rw [← hty] at hor
            have hl0 : (0 : Int) ≤ (p : Int) := by omega
            have hl1 : (0 : Int) ≤ (p1 : Int) := by omega
            have hl3 : (p1 : Int) < (n : Int) := by omega
            have HPP := Lib.hid (And.intro hp1 (And.intro hp4 hpe))
            go_upto_region 13 with fail
            clear hc2 hbs hEn hT hk hlv hkl hrpA hty hy0 hy1 hp1 hp4 hpe d0 d1 hb0' hb1' hlt hsm hov h4 hll HC HST H0 H1 H5 HK01 HKK hb0 hb1
            have hd0 : WA.drew.cell? ⟨N + 1, 14, none⟩ = some (.slice Av k cA) := c14
            have HTL : Hid (∀ W L, Below N w W → W.cell? ⟨N + 1, 14, none⟩ = some (.slice Av k cA) → TillOne (fun W => W.cell? (ad.add p) = some (.int .u8 y0) ∧ W.cell? (ad.add p1) = some (.int .u8 y1)) (fun W => W.cell? ⟨N + 1, 14, none⟩ = some (.slice Av k cA)) 29 L W) := Lib.hid fun W L hb h => TillOne.mk (HS0.out W hb) h
            have HTS : Hid (∀ L, TillOne (fun W => W.cell? (ad.add p) = some (.int .u8 y0) ∧ W.cell? (ad.add p1) = some (.int .u8 y1)) (fun W => W.cell? ⟨N + 1, 14, none⟩ = some (.slice Av k cA)) 29 L WA.drew) := Lib.hid fun L => HTL.out _ L HA.out.1.below.drew hd0
            have HG1 : Hid (∀ W, Ahead (TillOne (fun W => W.cell? (ad.add p) = some (.int .u8 y0) ∧ W.cell? (ad.add p1) = some (.int .u8 y1)) (fun W => W.cell? ⟨N + 1, 14, none⟩ = some (.slice Av k cA)) 29) 29 W → W.cell? (ad.add p) = some (.int .u8 y0)) := Lib.hid fun W h => (TillOne.get h).1.1
            have HG2 : Hid (∀ W, Ahead (TillOne (fun W => W.cell? (ad.add p) = some (.int .u8 y0) ∧ W.cell? (ad.add p1) = some (.int .u8 y1)) (fun W => W.cell? ⟨N + 1, 14, none⟩ = some (.slice Av k cA)) 29) 29 W → W.cell? (ad.add p1) = some (.int .u8 y1)) := Lib.hid fun W h => (TillOne.get h).1.2
            have HG3 : Hid (∀ W, Ahead (TillOne (fun W => W.cell? (ad.add p) = some (.int .u8 y0) ∧ W.cell? (ad.add p1) = some (.int .u8 y1)) (fun W => W.cell? ⟨N + 1, 14, none⟩ = some (.slice Av k cA)) 29) 29 W → W.cell? ⟨N + 1, 14, none⟩ = some (.slice Av k cA)) := Lib.hid fun W h => (TillOne.get h).2
            clear c14 hd0
            refine wp_region_late (TillOne (fun W => W.cell? (ad.add p) = some (.int .u8 y0) ∧ W.cell? (ad.add p1) = some (.int .u8 y1)) (fun W => W.cell? ⟨N + 1, 14, none⟩ = some (.slice Av k cA)) 29) (by as_aux_lemma => kernel_rfl) ?_
            change wpLate Try.prog .any _ _ _ 30 #[false, false, false, false, false, false, false, false, false, false, false, false, false, false, false, false, false, false, false, false, false, false, false, false, false, false, false, false, false, false] _ _
            refine wpLate.take (i := 0) (q := 29) (oi := _) (v := ?_) rfl (by as_aux_lemma => kernel_rfl) (by as_aux_lemma => kernel_rfl) (by as_aux_lemma => kernel_rfl) (by as_aux_lemma => kernel_rfl) (by rfl) (fun _ _ _ h => h) (TillOne.set (by decide)) (HTS.out _) (Or.inl ⟨by rfl, ?_⟩) ?_
            case refine_2 => intro W hw; have e1 := HG1.out W hw; have e2 := HG2.out W hw; have e3 := HG3.out W hw; clear hw; go_simp; (try with_reducible rfl)
            simp only [Act.put, List.setIfInBounds_toArray, List.set_cons_zero]
            refine wpLate.take (i := 1) (q := 29) (oi := _) (v := ?_) rfl (by as_aux_lemma => kernel_rfl) (by as_aux_lemma => kernel_rfl) (by as_aux_lemma => kernel_rfl) (by as_aux_lemma => kernel_rfl) (by rfl) (fun _ _ _ h => h) (TillOne.set (by decide)) (HTS.out _) (Or.inl ⟨by rfl, ?_⟩) ?_
            case refine_2 => intro W hw; have e1 := HG1.out W hw; have e2 := HG2.out W hw; have e3 := HG3.out W hw; clear hw; go_simp; (try with_reducible rfl)
            simp only [Act.put, List.setIfInBounds_toArray, List.set_cons_succ, List.set_cons_zero]
            refine wpLate.take (i := 2) (q := 29) (oi := _) (v := ?_) rfl (by as_aux_lemma => kernel_rfl) (by as_aux_lemma => kernel_rfl) (by as_aux_lemma => kernel_rfl) (by as_aux_lemma => kernel_rfl) (by rfl) (fun _ _ _ h => h) (TillOne.set (by decide)) (HTS.out _) (Or.inl ⟨by rfl, ?_⟩) ?_
            case refine_2 => intro W hw; have e1 := HG1.out W hw; have e2 := HG2.out W hw; have e3 := HG3.out W hw; clear hw; go_simp; (try with_reducible rfl)
            simp only [Act.put, List.setIfInBounds_toArray, List.set_cons_succ, List.set_cons_zero]
            refine wpLate.take (i := 3) (q := 29) (oi := _) (v := ?_) rfl (by as_aux_lemma => kernel_rfl) (by as_aux_lemma => kernel_rfl) (by as_aux_lemma => kernel_rfl) (by as_aux_lemma => kernel_rfl) (by rfl) (fun _ _ _ h => h) (TillOne.set (by decide)) (HTS.out _) (Or.inl ⟨by rfl, ?_⟩) ?_
            case refine_2 => intro W hw; have e1 := HG1.out W hw; have e2 := HG2.out W hw; have e3 := HG3.out W hw; clear hw; go_simp; (try with_reducible rfl)
            simp only [Act.put, List.setIfInBounds_toArray, List.set_cons_succ, List.set_cons_zero]
            refine wpLate.take (i := 4) (q := 29) (oi := _) (v := ?_) rfl (by as_aux_lemma => kernel_rfl) (by as_aux_lemma => kernel_rfl) (by as_aux_lemma => kernel_rfl) (by as_aux_lemma => kernel_rfl) (by rfl) (fun _ _ _ h => h) (TillOne.set (by decide)) (HTS.out _) (Or.inl ⟨by rfl, ?_⟩) ?_
            case refine_2 => intro W hw; have e1 := HG1.out W hw; have e2 := HG2.out W hw; have e3 := HG3.out W hw; clear hw; go_simp; (try with_reducible rfl)
            simp only [Act.put, List.setIfInBounds_toArray, List.set_cons_succ, List.set_cons_zero]
            refine wpLate.take (i := 5) (q := 29) (oi := _) (v := ?_) rfl (by as_aux_lemma => kernel_rfl) (by as_aux_lemma => kernel_rfl) (by as_aux_lemma => kernel_rfl) (by as_aux_lemma => kernel_rfl) (by rfl) (fun _ _ _ h => h) (TillOne.set (by decide)) (HTS.out _) (Or.inl ⟨by rfl, ?_⟩) ?_
            case refine_2 => intro W hw; have e1 := HG1.out W hw; have e2 := HG2.out W hw; have e3 := HG3.out W hw; clear hw; go_simp; (try with_reducible rfl)
            simp only [Act.put, List.setIfInBounds_toArray, List.set_cons_succ, List.set_cons_zero]
            refine wpLate.take (i := 6) (q := 29) (oi := _) (v := ?_) rfl (by as_aux_lemma => kernel_rfl) (by as_aux_lemma => kernel_rfl) (by as_aux_lemma => kernel_rfl) (by as_aux_lemma => kernel_rfl) (by rfl) (fun _ _ _ h => h) (TillOne.set (by decide)) (HTS.out _) (Or.inl ⟨by rfl, ?_⟩) ?_
            case refine_2 => intro W hw; have e1 := HG1.out W hw; have e2 := HG2.out W hw; have e3 := HG3.out W hw; clear hw; go_simp; (try with_reducible rfl)
            simp only [Act.put, List.setIfInBounds_toArray, List.set_cons_succ, List.set_cons_zero]
            refine wpLate.take (i := 7) (q := 29) (oi := _) (v := ?_) rfl (by as_aux_lemma => kernel_rfl) (by as_aux_lemma => kernel_rfl) (by as_aux_lemma => kernel_rfl) (by as_aux_lemma => kernel_rfl) (by rfl) (fun _ _ _ h => h) (TillOne.set (by decide)) (HTS.out _) (Or.inl ⟨by rfl, ?_⟩) ?_
            case refine_2 => intro W hw; have e1 := HG1.out W hw; have e2 := HG2.out W hw; have e3 := HG3.out W hw; clear hw; go_simp; (try with_reducible rfl)
            simp only [Act.put, List.setIfInBounds_toArray, List.set_cons_succ, List.set_cons_zero]
            refine wpLate.take (i := 8) (q := 29) (oi := _) (v := ?_) rfl (by as_aux_lemma => kernel_rfl) (by as_aux_lemma => kernel_rfl) (by as_aux_lemma => kernel_rfl) (by as_aux_lemma => kernel_rfl) (by rfl) (fun _ _ _ h => h) (TillOne.set (by decide)) (HTS.out _) (Or.inl ⟨by rfl, ?_⟩) ?_
            case refine_2 => intro W hw; have e1 := HG1.out W hw; have e2 := HG2.out W hw; have e3 := HG3.out W hw; clear hw; go_simp; (try with_reducible rfl)
            simp only [Act.put, List.setIfInBounds_toArray, List.set_cons_succ, List.set_cons_zero]
            refine wpLate.take (i := 9) (q := 29) (oi := _) (v := ?_) rfl (by as_aux_lemma => kernel_rfl) (by as_aux_lemma => kernel_rfl) (by as_aux_lemma => kernel_rfl) (by as_aux_lemma => kernel_rfl) (by rfl) (fun _ _ _ h => h) (TillOne.set (by decide)) (HTS.out _) (Or.inl ⟨by rfl, ?_⟩) ?_
            case refine_2 => intro W hw; have e1 := HG1.out W hw; have e2 := HG2.out W hw; have e3 := HG3.out W hw; clear hw; go_simp; (try with_reducible rfl)
            simp only [Act.put, List.setIfInBounds_toArray, List.set_cons_succ, List.set_cons_zero]
            refine wpLate.take (i := 10) (q := 29) (oi := _) (v := ?_) rfl (by as_aux_lemma => kernel_rfl) (by as_aux_lemma => kernel_rfl) (by as_aux_lemma => kernel_rfl) (by as_aux_lemma => kernel_rfl) (by rfl) (fun _ _ _ h => h) (TillOne.set (by decide)) (HTS.out _) (Or.inl ⟨by rfl, ?_⟩) ?_
            case refine_2 => intro W hw; have e1 := HG1.out W hw; have e2 := HG2.out W hw; have e3 := HG3.out W hw; clear hw; go_simp; (try with_reducible rfl)
            simp only [Act.put, List.setIfInBounds_toArray, List.set_cons_succ, List.set_cons_zero]
            refine wpLate.take (i := 11) (q := 29) (oi := _) (v := ?_) rfl (by as_aux_lemma => kernel_rfl) (by as_aux_lemma => kernel_rfl) (by as_aux_lemma => kernel_rfl) (by as_aux_lemma => kernel_rfl) (by rfl) (fun _ _ _ h => h) (TillOne.set (by decide)) (HTS.out _) (Or.inl ⟨by rfl, ?_⟩) ?_
            case refine_2 => intro W hw; have e1 := HG1.out W hw; have e2 := HG2.out W hw; have e3 := HG3.out W hw; clear hw; go_simp; (try with_reducible rfl)
            simp only [Act.put, List.setIfInBounds_toArray, List.set_cons_succ, List.set_cons_zero]
            refine wpLate.take (i := 12) (q := 29) (oi := _) (v := ?_) rfl (by as_aux_lemma => kernel_rfl) (by as_aux_lemma => kernel_rfl) (by as_aux_lemma => kernel_rfl) (by as_aux_lemma => kernel_rfl) (by rfl) (fun _ _ _ h => h) (TillOne.set (by decide)) (HTS.out _) (Or.inl ⟨by rfl, ?_⟩) ?_
            case refine_2 => intro W hw; have e1 := HG1.out W hw; have e2 := HG2.out W hw; have e3 := HG3.out W hw; clear hw; go_simp; (try with_reducible rfl)
            simp only [Act.put, List.setIfInBounds_toArray, List.set_cons_succ, List.set_cons_zero]
            refine wpLate.take (i := 13) (q := 29) (oi := _) (v := ?_) rfl (by as_aux_lemma => kernel_rfl) (by as_aux_lemma => kernel_rfl) (by as_aux_lemma => kernel_rfl) (by as_aux_lemma => kernel_rfl) (by rfl) (fun _ _ _ h => h) (TillOne.set (by decide)) (HTS.out _) (Or.inl ⟨by rfl, ?_⟩) ?_
            case refine_2 => intro W hw; have e1 := HG1.out W hw; have e2 := HG2.out W hw; have e3 := HG3.out W hw; clear hw; go_simp; (try with_reducible rfl)
            simp only [Act.put, List.setIfInBounds_toArray, List.set_cons_succ, List.set_cons_zero]
            refine wpLate.take (i := 14) (q := 29) (oi := _) (v := ?_) rfl (by as_aux_lemma => kernel_rfl) (by as_aux_lemma => kernel_rfl) (by as_aux_lemma => kernel_rfl) (by as_aux_lemma => kernel_rfl) (by rfl) (fun _ _ _ h => h) (TillOne.set (by decide)) (HTS.out _) (Or.inl ⟨by rfl, ?_⟩) ?_
            case refine_2 => intro W hw; have e1 := HG1.out W hw; have e2 := HG2.out W hw; have e3 := HG3.out W hw; clear hw; go_simp; (try with_reducible rfl)
            simp only [Act.put, List.setIfInBounds_toArray, List.set_cons_succ, List.set_cons_zero]
            refine wpLate.take (i := 16) (q := 29) (oi := _) (v := ?_) rfl (by as_aux_lemma => kernel_rfl) (by as_aux_lemma => kernel_rfl) (by as_aux_lemma => kernel_rfl) (by as_aux_lemma => kernel_rfl) (by rfl) (fun _ _ _ h => h) (TillOne.set (by decide)) (HTS.out _) (Or.inl ⟨by rfl, ?_⟩) ?_
            case refine_2 => intro W hw; have e1 := HG1.out W hw; have e2 := HG2.out W hw; have e3 := HG3.out W hw; clear hw; go_simp; (try with_reducible rfl)
            simp only [Act.put, List.setIfInBounds_toArray, List.set_cons_succ, List.set_cons_zero]
            refine wpLate.take (i := 17) (q := 29) (oi := _) (v := ?_) rfl (by as_aux_lemma => kernel_rfl) (by as_aux_lemma => kernel_rfl) (by as_aux_lemma => kernel_rfl) (by as_aux_lemma => kernel_rfl) (by rfl) (fun _ _ _ h => h) (TillOne.set (by decide)) (HTS.out _) (Or.inl ⟨by rfl, ?_⟩) ?_
            case refine_2 => intro W hw; have e1 := HG1.out W hw; have e2 := HG2.out W hw; have e3 := HG3.out W hw; clear hw; go_simp; (try with_reducible rfl)
            simp only [Act.put, List.setIfInBounds_toArray, List.set_cons_succ, List.set_cons_zero]
            refine wpLate.take (i := 18) (q := 29) (oi := _) (v := ?_) rfl (by as_aux_lemma => kernel_rfl) (by as_aux_lemma => kernel_rfl) (by as_aux_lemma => kernel_rfl) (by as_aux_lemma => kernel_rfl) (by rfl) (fun _ _ _ h => h) (TillOne.set (by decide)) (HTS.out _) (Or.inl ⟨by rfl, ?_⟩) ?_
            case refine_2 => intro W hw; have e1 := HG1.out W hw; have e2 := HG2.out W hw; have e3 := HG3.out W hw; clear hw; go_simp; (try with_reducible rfl)
            simp only [Act.put, List.setIfInBounds_toArray, List.set_cons_succ, List.set_cons_zero]
            refine wpLate.take (i := 19) (q := 29) (oi := _) (v := ?_) rfl (by as_aux_lemma => kernel_rfl) (by as_aux_lemma => kernel_rfl) (by as_aux_lemma => kernel_rfl) (by as_aux_lemma => kernel_rfl) (by rfl) (fun _ _ _ h => h) (TillOne.set (by decide)) (HTS.out _) (Or.inl ⟨by rfl, ?_⟩) ?_
            case refine_2 => intro W hw; have e1 := HG1.out W hw; have e2 := HG2.out W hw; have e3 := HG3.out W hw; clear hw; go_simp; (try with_reducible rfl)
            simp only [Act.put, List.setIfInBounds_toArray, List.set_cons_succ, List.set_cons_zero]
            refine wpLate.take (i := 20) (q := 29) (oi := _) (v := ?_) rfl (by as_aux_lemma => kernel_rfl) (by as_aux_lemma => kernel_rfl) (by as_aux_lemma => kernel_rfl) (by as_aux_lemma => kernel_rfl) (by rfl) (fun _ _ _ h => h) (TillOne.set (by decide)) (HTS.out _) (Or.inl ⟨by rfl, ?_⟩) ?_
            case refine_2 => intro W hw; have e1 := HG1.out W hw; have e2 := HG2.out W hw; have e3 := HG3.out W hw; clear hw; go_simp; (try with_reducible rfl)
            simp only [Act.put, List.setIfInBounds_toArray, List.set_cons_succ, List.set_cons_zero]
            refine wpLate.take (i := 21) (q := 29) (oi := _) (v := ?_) rfl (by as_aux_lemma => kernel_rfl) (by as_aux_lemma => kernel_rfl) (by as_aux_lemma => kernel_rfl) (by as_aux_lemma => kernel_rfl) (by rfl) (fun _ _ _ h => h) (TillOne.set (by decide)) (HTS.out _) (Or.inl ⟨by rfl, ?_⟩) ?_
            case refine_2 => intro W hw; have e1 := HG1.out W hw; have e2 := HG2.out W hw; have e3 := HG3.out W hw; clear hw; go_simp; (try with_reducible rfl)
            simp only [Act.put, List.setIfInBounds_toArray, List.set_cons_succ, List.set_cons_zero]
            refine wpLate.take (i := 22) (q := 29) (oi := _) (v := ?_) rfl (by as_aux_lemma => kernel_rfl) (by as_aux_lemma => kernel_rfl) (by as_aux_lemma => kernel_rfl) (by as_aux_lemma => kernel_rfl) (by rfl) (fun _ _ _ h => h) (TillOne.set (by decide)) (HTS.out _) (Or.inl ⟨by rfl, ?_⟩) ?_
            case refine_2 => intro W hw; have e1 := HG1.out W hw; have e2 := HG2.out W hw; have e3 := HG3.out W hw; clear hw; go_simp; (try with_reducible rfl)
            simp only [Act.put, List.setIfInBounds_toArray, List.set_cons_succ, List.set_cons_zero]
            refine wpLate.take (i := 23) (q := 29) (oi := _) (v := ?_) rfl (by as_aux_lemma => kernel_rfl) (by as_aux_lemma => kernel_rfl) (by as_aux_lemma => kernel_rfl) (by as_aux_lemma => kernel_rfl) (by rfl) (fun _ _ _ h => h) (TillOne.set (by decide)) (HTS.out _) (Or.inl ⟨by rfl, ?_⟩) ?_
            case refine_2 => intro W hw; have e1 := HG1.out W hw; have e2 := HG2.out W hw; have e3 := HG3.out W hw; clear hw; go_simp; (try with_reducible rfl)
            simp only [Act.put, List.setIfInBounds_toArray, List.set_cons_succ, List.set_cons_zero]
            have hmade := Own8.made WA.drew (Nat.le_refl _)
            have hal : Below WA.drew.heap.size WA.drew (WA.drew.alloc (.cells #[] 5)) := (Below.refl _ _).alloc (Nat.le_refl _) _
            have hrd := HA.out.1.drew
            have hcA := hrd.under hal
            have HB := Lib.hid (And.intro hmade (And.intro hal (And.intro hcA (HA.out.2.1 _ hcA.below))))
            clear hmade hal hcA hrd
            refine wpLate.ready (rs := [15]) (by as_aux_lemma => kernel_rfl) (by simp) (eachLate.cons rfl (fun K' hK' => ?_) eachLate.nil)
            go_simp
            refine hK'.out _ _ (HTL.out _ _ HB.out.2.2.1.below (HB.out.2.2.1.c14 HIL.out.2)) ?_
            clear hK' K'
            try simp only [Act.put]
            refine wpLate.ready (rs := [24]) (by as_aux_lemma => kernel_rfl) (by simp) (eachLate.cons rfl (fun K' hK' => ?_) eachLate.nil)
            refine step_of rfl (wp_append8 (.tmp 102) (.tmp 110) rfl rfl HB.out.1 rfl HB.out.2.2.2 HA.out.2.2.1 (by simp; omega) HB.out.2.1.size ?_)
            intro v33 w33 h33 hg33 hh33
            rw [List.nil_append] at h33
            have hb33 : Below WA.drew.heap.size WA.drew w33 := HB.out.2.1.grown hg33 HB.out.2.1.size (fun k hk => (HB.out.1.lt hk).1)
            have hc33 := HA.out.1.drew.under hb33
            have hev : Own8 w33 (N + 2) v33 (rVal xs p) := h33.low (by have := HA.out.1.drew.size; exact this)
            obtain ⟨A8, c8, hv8, -⟩ := h33.form
            rw [HA.out.2.2.2.2.2.1] at hv8
            subst hv8
            have H33 := Lib.hid (And.intro hc33 hev)
            clear h33 hg33 hh33 hb33 hc33 hev
            refine hK'.out _ _ (HTL.out _ _ H33.out.1.below (H33.out.1.c14 HIL.out.2)) ?_
            clear hK' K'
            try simp only [Act.put]
            refine wpLate.ready (rs := [25]) (by as_aux_lemma => kernel_rfl) (by simp) (eachLate.cons rfl (fun K' hK' => ?_) eachLate.nil)
            go_simp
            refine hK'.out _ _ (HTL.out _ _ H33.out.1.below (H33.out.1.c14 HIL.out.2)) ?_
            clear hK' K'
            try simp only [Act.put]
            refine wpLate.ready (rs := [26]) (by as_aux_lemma => kernel_rfl) (by simp) (eachLate.cons rfl (fun K' hK' => ?_) eachLate.nil)
            go_simp
            have hcA2 := H33.out.1.alloc (.cells #[.int .u16 T, .slice A8 ln c8] 57)
            refine hK'.out _ _ (HTL.out _ _ hcA2.below (hcA2.c14 HIL.out.2)) ?_
            clear hcA2
            clear hK' K'
            try simp only [Act.put]
            have hnw := Whole.new w33 57 #[.int .u16 T, .slice A8 ln c8]
            have hc35 := H33.out.1.alloc (.cells #[.int .u16 T, .slice A8 ln c8] 57)
            have hev35 := H33.out.2.alloc (.cells #[.int .u16 T, .slice A8 ln c8] 57)
            generalize w33.alloc (.cells #[.int .u16 T, .slice A8 ln c8] 57) = w35 at *
            generalize w33.heap.size = g35 at *
            have H35 := Lib.hid (And.intro hc35 (And.intro hev35 hnw))
            clear hc35 hev35 hnw
            refine wpLate.ready (rs := [27]) (by as_aux_lemma => kernel_rfl) (by simp) (eachLate.cons rfl (fun K' hK' => ?_) eachLate.nil)
            refine step_of rfl (wp_append2 (e := 57) (.tmp 88) (.tmp 113) rfl Try.underlying38 Try.infoRAttr rfl rfl H35.out.1.row rfl H35.out.2.2 rfl (by have := HA.out.2.2.2.2.1; have := HA.out.2.2.2.2.2.2; omega) H35.out.1.size ?_)
            intro v36 w36 h36 hg36 hh36
            have hfin := H35.out.1.grow (a := ⟨T, rVal xs p⟩) HIL.out.2 h36 hg36 H35.out.2.1
            have hr36 : Whole w36 (N + 1) 40 (mv (clOf K) (meOf K) ids (.slice Av k cA)) := H35.out.1.box.grown hg36 (fun e => H35.out.1.row.far H35.out.1.box (by decide) e.symm)
            have hbl36 : Below N w w36 := H35.out.1.below.grown hg36 (by have := H35.out.1.size; omega) (fun j hj => by have := (H35.out.1.row.lt hj).1; omega)
            obtain ⟨A9, c9, hv9, -⟩ := h36.form
            have hps : (ps ++ [(T, Value.slice A8 ln c8)]).length = k + 1 := by rw [List.length_append, HA.out.2.2.2.2.1]; rfl
            rw [hps] at hv9
            subst hv9
            have q1 : w36.cell? ⟨N + 1, 14, none⟩ = some (.slice Av k cA) := by rw [hr36.cell]; exact mv_14 _ _ _ _ HIL.out.2
            have q2 := hr36.frz 14
            have HQ1 := Lib.hid (And.intro hbl36 q1)
            have HFIN := Lib.hid hfin
            clear hfin hr36 hbl36 h36 hg36 hh36 hps
            refine hK'.out _ _ (HTL.out _ _ HQ1.out.1 HQ1.out.2) ?_
            clear hK' K'
            try simp only [Act.put]
            refine wpLate.ready (rs := [28]) (by as_aux_lemma => kernel_rfl) (by simp) (eachLate.cons rfl (fun K' hK' => ?_) eachLate.nil)
            go_simp
            refine hK'.out _ _ (HTL.out _ _ HQ1.out.1 HQ1.out.2) ?_
            clear hK' K'
            try simp only [Act.put]
            refine wpLate.ready (rs := [29]) (by as_aux_lemma => kernel_rfl) (by simp) (eachLate.cons rfl (fun K' hK' => ?_) eachLate.nil)
            go_simp
            refine hK'.out _ _ (TillOne.past (HS0.out _ HFIN.out.below) rfl) ?_
            clear hK' K'
            try simp only [Act.put]
            refine wpLate.done (by as_aux_lemma => kernel_rfl) ?_ _
            have hnx := HP.out.2.next HX.out (by rw [HLN.out, HNN.out]; have := HPP.out; omega)
            rw [HA.out.2.2.2.1, HLN.out] at hnx
            have HNX := Lib.hid hnx
            clear hnx
            have hz1 : IntKind.i64.wrap ((p : Int) + 4) = (p : Int) + 4 := by rw [IntKind.wrap_i64]; omega
            have hz2 : IntKind.i64.wrap ((ln : Int) + 3) = (ln : Int) + 3 := by rw [IntKind.wrap_i64]; omega
            clear hq1 hq4 hqe hr0 hr1 hr4 hor hsl
            go_wp2_with fail
            refine ⟨⟨p + 4 + (ln + 3) / 4 * 4, _, _, _, ?_, HFIN.out, HNX.out⟩, ?_⟩
            · go_num
            · simp [intOf]; omega
      · have hge : n ≤ p := by omega
        have hlt' : ¬ (p : Int) < (n : Int) := by omega
        have hfine := hso.fine HX.out (by rw [HNN.out]; omega) K
        rw [HIL.out.1] at hfine
        have hone : ∀ m, Is xs m → m = ⟨clOf K, meOf K, ids, L⟩ := fun m hm => by
          have := hso.only HX.out (by rw [HNN.out]; exact hge) hm
          rw [HK01.out.1, HK01.out.2, HKK.out, HIL.out.1] at this
          exact this
        obtain ⟨Av, cA, rfl, f1, f2, f3⟩ := hrp.row.form
        have hmsg : MsgV wr wr.heap.size (mv (clOf K) (meOf K) ids (.slice Av ps.length cA)) ⟨clOf K, meOf K, ids, L⟩ Av cA :=
          ⟨by show _ = mv _ _ _ (.slice Av L.length cA); rw [← hrp.els.1], HIL.out.2, by show L.length ≤ cA; rw [← hrp.els.1]; exact f1, f2, f3, hrp.row.ats hrp.els.els hrp.size⟩
        obtain ⟨m0, hm0⟩ : ∃ x : Msg, (⟨clOf K, meOf K, ids, L⟩ : Msg) = x := ⟨_, rfl⟩
        obtain ⟨M0, hM0⟩ : ∃ x, mv (clOf K) (meOf K) ids (.slice Av ps.length cA) = x := ⟨_, rfl⟩
        have hMs : M0.size = 15 ∧ M0.all (·.oneCell') = true := by rw [← hM0]; exact ⟨mv_size HIL.out.2, mv_one rfl⟩
        have hbx := hrp.box
        have hres := hrp.res
        rw [HZ.out] at hres
        rw [hM0] at hmsg hbx
        rw [hm0] at hmsg hfine
        simp only [hm0] at hone
        have HRB := Lib.hid (rbuild_v M0 m0 Av cA wr hmsg hfine)
        have HE := Lib.hid (And.intro hmsg (And.intro hbx (And.intro hres (And.intro hrp.below (And.intro hMs (And.intro hfine hone))))))
        have hat : ∀ w9, Below wr.heap.size wr w9 → MsgV (w9.setRow N M0) (w9.setRow N M0).heap.size M0 m0 Av cA ∧ Row2 57 (w9.setRow N M0) w.heap.size (.slice Av m0.at_.length cA) ps ∧ ElsO (w9.setRow N M0) w.heap.size ps m0.at_ := fun w9 hb9 => by
          have hres9 := hrp.res.under hb9
          have hrow := (hrp.row.under hb9).keep (w' := w9.setRow N M0) fun g cs hw => hw.farRow (fun e => hw.ne hres9 (by decide) e) M0
          have hels := (hrp.els.on (Kept8.under hb9)).on (Kept8.row hres9 (by decide) M0)
          have hs9 := hb9.size
          have hss := hrp.size
          have hsz : (w9.setRow N M0).heap.size = w9.heap.size := by simp [World.setRow]
          have hats := hrow.ats hels.els (by rw [hsz]; omega)
          have hm := HE.out.1
          have hl := hrp.els.1
          have hma : m0.at_ = L := by rw [← hm0]
          have hNn : w.heap.size ≤ N + 2 := by rw [HN.out]; omega
          have hrl := hrow.low hNn
          rw [show ps.length = m0.at_.length by rw [hma]; exact hl] at hrl
          exact ⟨⟨hm.form, hm.id12, hm.fits, hm.most, hm.nil, by rw [hma]; exact hats⟩, hrl, by rw [hma]; exact hels.low hNn⟩
        have HAT := Lib.hid hat
        clear hmsg hbx hres hMs hfine hone hrp hso f1 f2 f3 hm0 hM0 hat HST H0 H1 H5 HC
        go_upto_region 16 with (first
          | (refine wpList_load_all rfl 40 (.tmp 5) rfl HE.out.2.1 rfl Try.sizeRMsg HE.out.2.2.2.2.1.1 Try.underlying40 rfl ?_)
          | (go_at_call 18; (with_reducible refine HRB.out.mono ?_); rintro e w8 ⟨v8, x8, rfl, hb8, hbl8⟩))
        have HX8 : Hid (∀ W, Below wr.heap.size wr W → Whole W N 40 Z) := Lib.hid fun W hb => HE.out.2.2.1.under hb
        have hxb := HV.out.below (HE.out.2.2.2.1.trans (hbl8.mono (Nat.le_of_lt HE.out.2.2.1.lt)))
        obtain ⟨Ax, cx, ex, -, -, nx, bsx⟩ := hxb
        rw [HNN.out] at ex bsx
        cases ex
        have hcvx := conv_text bsx nx
        have HFN : Hid (∀ M, Below N w (w8.setRow N M)) := Lib.hid fun M => below_row (HE.out.2.2.2.1.trans (hbl8.mono (Nat.le_of_lt HE.out.2.2.1.lt))) (Nat.le_refl _) _
        rcases hb8 with ⟨hv, rfl, hob⟩ | ⟨hv, rfl, rfl⟩
        · obtain ⟨A8, c8, rfl, -, -, n8, bs8⟩ := hob.form
          have hcv8 := conv_text bs8 n8
          obtain ⟨l8, hl8⟩ : ∃ x, (msgBytes m0).length = x := ⟨_, rfl⟩
          rw [hl8] at hcv8 ⊢
          by_cases heq : msgBytes m0 = xs
          · rw [heq] at hcv8
            obtain ⟨s, hs⟩ : ∃ s, strOfNums xs = s := ⟨_, rfl⟩
            rw [hs] at hcv8 hcvx
            have HIS := Lib.hid (⟨hv, HE.out.2.2.2.2.2.1, heq⟩ : Is xs m0)
            have HB8 := Lib.hid hbl8
            clear hob bs8 bsx hs heq hl8 hbl8
            go_wp2_with (first
              | (refine wpList_load_all rfl 40 (.tmp 5) rfl (Whole.under HE.out.2.1 HB8.out) rfl Try.sizeRMsg HE.out.2.2.2.2.1.1 Try.underlying40 rfl ?_)
              | (refine wpList_store_whole rfl 40 (.tmp 2) (.tmp 138) rfl rfl rfl (HX8.out _ HB8.out) Try.sizeRMsg HE.out.2.2.2.2.1.1 HZS.out.1 HE.out.2.2.2.2.1.2 ?_))
            have f1 : Whole (w8.setRow N M0) N 40 M0 := (HX8.out _ HB8.out).row M0
            refine bodyPost_ret (v := .tuple #[.agg M0, .int .i64 0]) ?_ rfl ?_
            · exact ret_struct2 (p := 2) (s := 3) rfl rfl f1 Try.underlying40 rfl Try.sizeRMsg HE.out.2.2.2.2.1.1
            · exact ⟨M0, 0, rfl, .inl ⟨m0, Av, cA, ps, HIS.out, rfl, HAT.out _ HB8.out⟩, by rw [HN.out]; exact HFN.out _⟩
          · have hno : IsNone xs := fun m hm => by
              have := HE.out.2.2.2.2.2.2 m hm
              subst this
              exact heq hm.2.2
            have hsne : ¬ strOfNums (msgBytes m0) = strOfNums xs := fun e => heq (strOfNums_inj (in256_msg HE.out.2.2.2.2.2.1) HX.out e)
            obtain ⟨s, hs⟩ : ∃ s, strOfNums xs = s := ⟨_, rfl⟩
            obtain ⟨s8, hs8⟩ : ∃ s, strOfNums (msgBytes m0) = s := ⟨_, rfl⟩
            rw [hs] at hcvx hsne
            rw [hs8] at hcv8 hsne
            have hsne2 := strs_ne hsne
            have HNO := Lib.hid hno
            have HB8 := Lib.hid hbl8
            clear hob bs8 bsx hs hs8 heq hl8 hbl8 hno
            go_wp2_with (first
              | (refine wpList_build0 rfl 40 rfl (v := .agg Z) (HBZ.out _) ?_)
              | (refine wpList_store_whole rfl 40 (.tmp 2) (.tmp 137) rfl rfl rfl (HX8.out _ HB8.out) Try.sizeRMsg HZS.out.1 HZS.out.1 HZS.out.2 ?_))
            have f1 : Whole (w8.setRow N Z) N 40 Z := (HX8.out _ HB8.out).row Z
            refine bodyPost_ret (v := .tuple #[.agg Z, .int .i64 2]) ?_ rfl ?_
            · exact ret_struct2 (p := 2) (s := 3) rfl rfl f1 Try.underlying40 rfl Try.sizeRMsg HZS.out.1
            · exact ⟨Z, 2, rfl, .inr ⟨HNO.out, rfl, HZ.out.symm⟩, by rw [HN.out]; exact HFN.out _⟩
        · have hno : IsNone xs := fun m hm => by
            have := HE.out.2.2.2.2.2.2 m hm
            subst this
            exact hv hm.1
          have HNO := Lib.hid hno
          have HB8 := Lib.hid hbl8
          clear bsx hcvx hbl8 hno hv
          go_wp2_with (first
            | (refine wpList_build0 rfl 40 rfl (v := .agg Z) (HBZ.out _) ?_)
            | (refine wpList_store_whole rfl 40 (.tmp 2) (.tmp 137) rfl rfl rfl (HX8.out _ HB8.out) Try.sizeRMsg HZS.out.1 HZS.out.1 HZS.out.2 ?_))
          have f1 : Whole (w8.setRow N Z) N 40 Z := (HX8.out _ HB8.out).row Z
          refine bodyPost_ret (v := .tuple #[.agg Z, .int .i64 2]) ?_ rfl ?_
          · exact ret_struct2 (p := 2) (s := 3) rfl rfl f1 Try.underlying40 rfl Try.sizeRMsg HZS.out.1
          · exact ⟨Z, 2, rfl, .inr ⟨HNO.out, rfl, HZ.out.symm⟩, by rw [HN.out]; exact HFN.out _⟩
theorem rparse_any (v : Value) (xs : List Int) (w : World) (h : V8 w w.heap.size v xs) (hx : In256 xs) (hl : xs.length ≤ 140737488355328) :
    Calls Try.prog 19 #[v] w fun e w' => ∃ M x, e = .returned (.tuple #[.agg M, .int .i64 x]) ∧ ParsedV w' xs M x ∧ Below w.heap.size w w' :=
  (rparse_firm v xs w h hx hl).mono fun e w' ⟨M, x, he, hp, hb⟩ => ⟨M, x, he, hp.v, hb⟩
end Go.Proofs.Yteloaidnfcmadaa
