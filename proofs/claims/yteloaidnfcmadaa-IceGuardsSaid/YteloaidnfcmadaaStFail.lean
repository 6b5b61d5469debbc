/- Failure, of the program. -/
import Derived.Test.YteloaidnfcmadaaStReadM
namespace Go.Proofs.Yteloaidnfcmadaa
open Go.RowKit
set_option linter.unusedVariables false
/-- The message that refuses m. -/
def failV (c : Int) : List Int := [0, 0, max c 0 / 100 % 256, max c 0 % 100]
def failP (m : Msg) (c : Int) : Msg := ⟨3, m.me, m.id, [⟨9, failV c⟩]⟩
theorem built_fail : ∀ (a0 a1 a2 a3 a4 a5 a6 a7 a8 a9 a10 a11 me : Int) (g : Nat), Try.prog.built 69 [(0, .int .i64 3), (1, .int .i64 me), (2, .agg (arr .u8 [a0, a1, a2, a3, a4, a5, a6, a7, a8, a9, a10, a11])), (3, .slice (some ⟨g, 0, none⟩) 1 1)] = some (mv 3 me [a0, a1, a2, a3, a4, a5, a6, a7, a8, a9, a10, a11] (.slice (some ⟨g, 0, none⟩) 1 1)) := by intros; kernel_rfl
theorem built_rfail : ∀ (a0 a1 a2 a3 a4 a5 a6 a7 a8 a9 a10 a11 me : Int) (g : Nat), Try.prog.built 40 [(0, .int .i64 3), (1, .int .i64 me), (2, .agg (arr .u8 [a0, a1, a2, a3, a4, a5, a6, a7, a8, a9, a10, a11])), (3, .slice (some ⟨g, 0, none⟩) 1 1)] = some (mv 3 me [a0, a1, a2, a3, a4, a5, a6, a7, a8, a9, a10, a11] (.slice (some ⟨g, 0, none⟩) 1 1)) := by intros; kernel_rfl
theorem build_fail {T : TypeId} (hb : ∀ (a0 a1 a2 a3 a4 a5 a6 a7 a8 a9 a10 a11 me : Int) (g : Nat), Try.prog.built T [(0, .int .i64 3), (1, .int .i64 me), (2, .agg (arr .u8 [a0, a1, a2, a3, a4, a5, a6, a7, a8, a9, a10, a11])), (3, .slice (some ⟨g, 0, none⟩) 1 1)] = some (mv 3 me [a0, a1, a2, a3, a4, a5, a6, a7, a8, a9, a10, a11] (.slice (some ⟨g, 0, none⟩) 1 1))) (me : Int) (id : List Int) (h : id.length = 12) (g : Nat) (w : World) :
    (Instr.build T #[(0, .int .i64 3), (1, .int .i64 me), (2, .agg (id.map (Value.int .u8)).toArray), (3, .slice (some ⟨g, 0, none⟩) 1 1)]).run Try.prog w = .ok (.agg (mv 3 me id (.slice (some ⟨g, 0, none⟩) 1 1))) w := by
  match id, h with
  | [a0, a1, a2, a3, a4, a5, a6, a7, a8, a9, a10, a11], _ => exact run_build w T _ _ (hb _ _ _ _ _ _ _ _ _ _ _ _ _ _)
theorem wpList_build4 {ops : Array Oper} {rest : List Oper} {o : Oper} {a : Act} {w : World} {Q : Exit → Act → World → Prop} (hgd : o.guard = none) (t : TypeId) (x y z q : Operand) (ho : o.op = .build t #[(0, x), (1, y), (2, z), (3, q)]) {u1 u2 u3 u4 v : Value} (hx : a.eval x = u1) (hy : a.eval y = u2) (hz : a.eval z = u3) (hq : a.eval q = u4)
    (hr : (Instr.build t #[(0, u1), (1, u2), (2, u3), (3, u4)]).run Try.prog w = .ok v w) (h : wpList Try.prog ops Q rest (a.put o.dst v) w) : wpList Try.prog ops Q (o :: rest) a w := by
  refine wpList_plain hgd fun K hK => ?_
  unfold Oper.wp execOp
  simp only [ho, Sem.run_bind, List.map_toArray, List.map_cons, List.map_nil, hx, hy, hz, hq, hr, Result.andThen_ok, Sem.run_pure]
  exact hK _ _ h
theorem fail_ats {w : World} {g2 g3 : Nat} {t : TypeId} {L : List Int} (h3 : Whole w g3 t #[.int .u16 9, .slice (some ⟨g2, 0, none⟩) 4 4]) (h2 : Whole w g2 5 (arr .u8 L)) (hl : L.length = 4) : Ats w w.heap.size (some ⟨g3, 0, none⟩) [⟨9, L⟩] := by
  intro _
  refine ⟨_, rfl, h3.lt, fun i hi => ?_⟩
  obtain rfl : i = 0 := by simpa using hi
  refine ⟨h3.cell 0, .slice (some ⟨g2, 0, none⟩) 4 4, h3.cell 1, ?_⟩
  have h1 := Bs.row h2 0 (Nat.zero_le _)
  rw [Nat.sub_zero, List.drop_zero, hl] at h1
  exact ⟨_, 4, by show _ = Value.slice _ L.length 4; rw [hl], by show L.length ≤ 4; omega, by simp [maxLen], (fun e => by cases e), by show Bs _ _ _ L.length L; rw [hl]; exact h1.more h2.lt⟩

set_option maxHeartbeats 1600000 in
set_option maxRecDepth 100000 in
theorem failure_any (M : Array Value) (m : Msg) (A : Option Addr) (c : Nat) (cd : Int) (hcd : cd < 9223372036854775808) (w : World) (h : MsgV w w.heap.size M m A c) :
    Calls Try.prog 25 #[.agg M, .int .i64 cd] w fun e w' => ∃ M' A' c', e = .returned (.agg M') ∧ MsgV w' w'.heap.size M' (failP m cd) A' c' ∧ Below w.heap.size w w' := by
  have hz := Try.zeroMsg
  obtain ⟨Z, hZ⟩ : ∃ Z, zM = Z := ⟨_, rfl⟩
  have hZS : Z.size = 15 := by rw [← hZ]; rfl
  have HZS := Lib.hid hZS
  simp only [hZ] at hz
  clear hZ hZS
  have g0 := (Whole.new w 69 M).alloc (.cells Z 69)
  have g1 := Whole.new2 w (.cells M 69) 69 Z
  have hb := two_new (w := w) 69 69 M Z
  have s0 : ((w.alloc (.cells M 69)).alloc (.cells Z 69)).heap.size = w.heap.size + 2 := by simp
  have h1 := h.me g0
  have hid := h.id g0
  have hl12 := h.id12
  have H0 := Lib.hid (And.intro g0 (And.intro g1 (And.intro hb s0)))
  clear g0 g1 hb s0 h
  obtain ⟨N, hN⟩ : ∃ N, w.heap.size = N := ⟨_, rfl⟩
  have HN := Lib.hid hN
  rw [hN] at H0 h1 hid ⊢
  obtain ⟨ids, hids⟩ : ∃ x, m.id = x := ⟨_, rfl⟩
  have HIDS := Lib.hid hids
  rw [hids] at hid hl12
  obtain ⟨me, hme⟩ : ∃ x, m.me = x := ⟨_, rfl⟩
  have HME := Lib.hid hme
  rw [hme] at h1
  have HID := Lib.hid (And.intro hid hl12)
  clear hids hme hid hl12
  go_enter Try.func25, Try.ntmps25
  go_upto_region 1 with fail
  generalize (w.alloc (.cells M 69)).alloc (.cells Z 69) = W0 at *
  clear hN hz
  go_upto_region 2 with fail
  obtain ⟨k, hk⟩ : ∃ k, (if cd < 0 then 0 else cd) = k := ⟨_, rfl⟩
  have hk0 : 0 ≤ k := by rw [← hk]; split <;> omega
  have hk1 : k < 9223372036854775808 := by rw [← hk]; split <;> omega
  have hkm : max cd 0 = k := by rw [← hk]; split <;> omega
  rw [hk]
  have HK := Lib.hid hkm
  clear hk hkm hcd
  go_upto_region 3 with fail
  obtain ⟨F, hF⟩ : ∃ F, (#[.int .u8 0, .int .u8 0, .int .u8 (k / 100 % 256), .int .u8 (k % 100)] : Array Value) = F := ⟨_, rfl⟩
  have hFL : F = arr .u8 (failV cd) := by rw [← hF]; unfold failV; rw [HK.out]; rfl
  rw [hF]
  have hw2 := Whole.new W0 5 F
  have hbx := H0.out.1.alloc (.cells F 5)
  have hrs := H0.out.2.1.alloc (.cells F 5)
  have hb1 : Below N w (W0.alloc (.cells F 5)) := H0.out.2.2.1.alloc (by have := H0.out.2.2.2; omega) _
  have hs1 : (W0.alloc (.cells F 5)).heap.size = N + 3 := by simp [H0.out.2.2.2]
  have d1 : (W0.alloc (.cells F 5)).cell? ⟨N, 1, none⟩ = some (.int .i64 me) := (hbx.cell 1).trans ((H0.out.1.cell 1).symm.trans h1)
  have hid2 : (W0.alloc (.cells F 5)).rangeAt N 2 (ids.map (Value.int .u8)) := fun j v hj => (hbx.cell _).trans ((H0.out.1.cell _).symm.trans (HID.out.1 j v hj))
  rw [H0.out.2.2.2] at hw2 ⊢
  generalize W0.alloc (.cells F 5) = W1 at *
  have hbf := build_fail (T := 69) built_fail me ids HID.out.2 (N + 3) (W1.alloc (.cells #[.int .u16 9, .slice (some ⟨N + 2, 0, none⟩) 4 4] 92))
  obtain ⟨L12, hL12⟩ : ∃ l, ids.map (Value.int .u8) = l := ⟨_, rfl⟩
  have hll : L12.length = 12 := by rw [← hL12, List.length_map]; exact HID.out.2
  rw [hL12] at hid2 hbf
  obtain ⟨Y, hY⟩ : ∃ Y, mv 3 me ids (.slice (some ⟨N + 3, 0, none⟩) 1 1) = Y := ⟨_, rfl⟩
  have hYS : Y.size = 15 ∧ Y.all (·.oneCell') = true := by rw [← hY]; exact ⟨mv_size HID.out.2, mv_one rfl⟩
  rw [hY] at hbf
  have H1 := Lib.hid (And.intro hw2 (And.intro hrs (And.intro hb1 hs1)))
  have HBF := Lib.hid hbf
  have HR := Lib.hid (And.intro hid2 hll)
  have HY := Lib.hid (And.intro hY hYS)
  have HF := Lib.hid hFL
  clear hw2 hbx hrs hb1 hid2 hbf hL12 hll hY hYS hF hFL h1 hk0 hk1
  go_wp2_with (first
    | (refine wpList_load_mid rfl 37 (.tmp 17) rfl N 2 rfl L12 _ HR.out.1 Try.underlying37 rfl (by rw [HR.out.2]; exact Try.sizeA12) ?_)
    | (refine wpList_build4 rfl 69 _ (.tmp 16) (.tmp 18) (.tmp 21) rfl (u1 := .int .i64 3) (u2 := .int .i64 me) (u3 := .agg L12.toArray) (u4 := .slice (some ⟨N + 3, 0, none⟩) 1 1) rfl rfl rfl rfl (v := .agg Y) HBF.out ?_)
    | (refine wpList_store_whole rfl 69 (.tmp 4) (.tmp 22) rfl rfl rfl (H1.out.2.1.alloc _) Try.sizeMsg HY.out.2.1 HZS.out HY.out.2.2 ?_))
  have hw3 := (Whole.new W1 92 #[.int .u16 9, .slice (some ⟨N + 2, 0, none⟩) 4 4]).farRow (g' := N + 1) (by rw [H1.out.2.2.2]; omega) Y
  have hw2 := (H1.out.1.alloc (.cells #[.int .u16 9, .slice (some ⟨N + 2, 0, none⟩) 4 4] 92)).farRow (g' := N + 1) (by omega) Y
  have f1 := (H1.out.2.1.alloc (.cells #[.int .u16 9, .slice (some ⟨N + 2, 0, none⟩) 4 4] 92)).row Y
  have hbe := below_row (H1.out.2.2.1.alloc (by rw [H1.out.2.2.2]; omega) (.cells #[.int .u16 9, .slice (some ⟨N + 2, 0, none⟩) 4 4] 92)) (g := N + 1) (by omega) Y
  rw [H1.out.2.2.2] at hw3
  rw [HF.out] at hw2
  refine bodyPost_ret (v := .agg Y) ?_ rfl ?_
  · exact ret_struct rfl rfl f1 Try.underlying69 rfl Try.sizeMsg HY.out.2.1
  · exact ⟨Y, _, 1, rfl, ⟨by rw [← HY.out.1]; unfold failP; rw [HME.out, HIDS.out]; rfl, by unfold failP; rw [HIDS.out]; exact HID.out.2, Nat.le_refl _, by simp [maxLen], (fun e => by cases e), fail_ats hw3 hw2 rfl⟩, hbe⟩
end Go.Proofs.Yteloaidnfcmadaa
