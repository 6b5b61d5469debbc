/- success: the message that tells where a check came from. -/
import Derived.Test.YteloaidnfcmadaaIceLeaf
import Derived.Test.YteloaidnfcmadaaStFail
import Derived.Test.YteloaidnfcmadaaStMapped
namespace Go.Proofs.Yteloaidnfcmadaa
open Go.RowKit
set_option linter.unusedVariables false

/-- The message that tells the address. -/
def succP (m : Msg) (ip port : Int) : Msg := ⟨2, m.me, m.id, [⟨32, mapB ip port⟩]⟩
theorem built_succ : ∀ (a0 a1 a2 a3 a4 a5 a6 a7 a8 a9 a10 a11 me : Int) (g : Nat), Try.prog.built 69 [(0, .int .i64 2), (1, .int .i64 me), (2, .agg (arr .u8 [a0, a1, a2, a3, a4, a5, a6, a7, a8, a9, a10, a11])), (3, .slice (some ⟨g, 0, none⟩) 1 1)] = some (mv 2 me [a0, a1, a2, a3, a4, a5, a6, a7, a8, a9, a10, a11] (.slice (some ⟨g, 0, none⟩) 1 1)) := by intros; kernel_rfl
theorem build_succ (me : Int) (id : List Int) (h : id.length = 12) (g : Nat) (w : World) :
    (Instr.build 69 #[(0, .int .i64 2), (1, .int .i64 me), (2, .agg (id.map (Value.int .u8)).toArray), (3, .slice (some ⟨g, 0, none⟩) 1 1)]).run Try.prog w = .ok (.agg (mv 2 me id (.slice (some ⟨g, 0, none⟩) 1 1))) w := by
  match id, h with
  | [a0, a1, a2, a3, a4, a5, a6, a7, a8, a9, a10, a11], _ => exact run_build w 69 _ _ (built_succ _ _ _ _ _ _ _ _ _ _ _ _ _ _)
theorem wp_build4 {o : Oper} {a : Act} {w : World} {K : Act → World → Prop} {Q : Exit → Act → World → Prop} (t : TypeId) (x y z q : Operand) (ho : o.op = .build t #[(0, x), (1, y), (2, z), (3, q)]) {u1 u2 u3 u4 v : Value} (hx : a.eval x = u1) (hy : a.eval y = u2) (hz : a.eval z = u3) (hq : a.eval q = u4)
    (hr : (Instr.build t #[(0, u1), (1, u2), (2, u3), (3, u4)]).run Try.prog w = .ok v w) (h : K (a.put o.dst v) w) : o.wp Try.prog a w K Q := by
  unfold Oper.wp execOp
  simp only [ho, Sem.run_bind, List.map_toArray, List.map_cons, List.map_nil, hx, hy, hz, hq, hr, Result.andThen_ok, Sem.run_pure]
  exact h
/-- One attribute, of a row of the call's own. -/
theorem succ_ats {w : World} {g : Nat} {ty : Int} {v : Value} {xs : List Int} (h3 : Whole w g 92 #[.int .u16 ty, v]) (hv : V8 w w.heap.size v xs) : Ats w w.heap.size (some ⟨g, 0, none⟩) [⟨ty, xs⟩] := by
  intro _
  refine ⟨_, rfl, h3.lt, fun i hi => ?_⟩
  obtain rfl : i = 0 := by simpa using hi
  exact ⟨h3.cell 0, v, h3.cell 1, hv⟩

set_option maxHeartbeats 3200000 in
set_option maxRecDepth 100000 in
theorem success_any (M : Array Value) (m : Msg) (A : Option Addr) (c : Nat) (ip port : Int) (w : World) (h : MsgV w w.heap.size M m A c) :
    Calls Try.prog 31 #[.agg M, .agg #[.int .u32 ip, .int .u16 port]] w fun e w' => ∃ M' A' c', e = .returned (.agg M') ∧ MsgV w' w'.heap.size M' (succP m ip port) A' c' ∧ Below w.heap.size w w' := by
  have hz := Try.zeroMsg
  obtain ⟨Z, hZ⟩ : ∃ Z, zM = Z := ⟨_, rfl⟩
  have hZS : Z.size = 15 := by rw [← hZ]; rfl
  have HZS := Lib.hid hZS
  simp only [hZ] at hz
  clear hZ hZS
  have s0 : (((w.alloc (.cells M 69)).alloc (.cells #[.int .u32 ip, .int .u16 port] 33)).alloc (.cells Z 69)).heap.size = w.heap.size + 3 := by simp
  have g0 := ((Whole.new w 69 M).alloc (.cells #[.int .u32 ip, .int .u16 port] 33)).alloc (.cells Z 69)
  have g1 := (Whole.new2 w (.cells M 69) 33 #[.int .u32 ip, .int .u16 port]).alloc (.cells Z 69)
  have g2 : Whole (((w.alloc (.cells M 69)).alloc (.cells #[.int .u32 ip, .int .u16 port] 33)).alloc (.cells Z 69)) (w.heap.size + 2) 69 Z := by
    have := Whole.new ((w.alloc (.cells M 69)).alloc (.cells #[.int .u32 ip, .int .u16 port] 33)) 69 Z
    simpa using this
  have hb : Below w.heap.size w (((w.alloc (.cells M 69)).alloc (.cells #[.int .u32 ip, .int .u16 port] 33)).alloc (.cells Z 69)) := (two_new (w := w) 69 33 M #[.int .u32 ip, .int .u16 port]).alloc (by simp; omega) _
  have h1 := h.me g0
  have hid := h.id g0
  have hl12 := h.id12
  have H0 := Lib.hid (And.intro g0 (And.intro g1 (And.intro g2 (And.intro hb s0))))
  clear g0 g1 g2 hb s0 h
  obtain ⟨N, hN⟩ : ∃ N, w.heap.size = N := ⟨_, rfl⟩
  rw [hN] at H0 h1 hid ⊢
  obtain ⟨ids, hids⟩ : ∃ x, m.id = x := ⟨_, rfl⟩
  have HIDS := Lib.hid hids
  rw [hids] at hid hl12
  obtain ⟨me, hme⟩ : ∃ x, m.me = x := ⟨_, rfl⟩
  have HME := Lib.hid hme
  rw [hme] at h1
  have HBS := Lib.hid (build_succ me ids hl12)
  obtain ⟨L12, hL12⟩ : ∃ l, ids.map (Value.int .u8) = l := ⟨_, rfl⟩
  have hll : L12.length = 12 := by rw [← hL12, List.length_map]; exact hl12
  rw [hL12] at hid HBS
  have hi12 : (Try.prog.info? 37).map (·.size) = some L12.length := by rw [hll]; exact Try.sizeA12
  have HID := Lib.hid (And.intro hid (And.intro hl12 hL12))
  clear hids hme hid hl12 hL12 hll
  go_enter Try.func31, Try.ntmps31
  go_upto_region 1 with fail
  generalize ((w.alloc (.cells M 69)).alloc (.cells #[.int .u32 ip, .int .u16 port] 33)).alloc (.cells Z 69) = W0 at *
  clear hN hz
  have hu12 := Try.underlying37
  have hb0 : Below W0.heap.size W0 W0.drew := (Below.refl _ W0).drew
  have HL1 : Hid (∀ W, Below (N + 2) W0 W → W.cell? ⟨N, 1, none⟩ = some (.int .i64 me)) := Lib.hid fun W hW => (hW.cell (p := ⟨N, 1, none⟩) (by show N < N + 2; omega)).trans h1
  have HL2 : Hid (∀ W, Below (N + 2) W0 W → W.rangeAt N 2 L12) := Lib.hid fun W hW j v hv => (hW.cell (p := ⟨N, 2 + j, none⟩) (by show N < N + 2; omega)).trans (HID.out.1 j v hv)
  have HL3 : Hid (∀ W, Below (N + 2) W0 W → W.cell? ⟨N + 1, 0, none⟩ = some (.int .u32 ip) ∧ W.cell? ⟨N + 1, 1, none⟩ = some (.int .u16 port)) := Lib.hid fun W hW => ⟨(hW.cell (p := ⟨N + 1, 0, none⟩) (by show N + 1 < N + 2; omega)).trans (H0.out.2.1.cell 0), (hW.cell (p := ⟨N + 1, 1, none⟩) (by show N + 1 < N + 2; omega)).trans (H0.out.2.1.cell 1)⟩
  have HS0 := Lib.hid (show N + 2 ≤ W0.heap.size by have := H0.out.2.2.2.2; omega)
  clear h1
  refine wp_region_held_drew (S := fun W => Below (N + 2) W0 W) (by kernel_rfl) (hb0.mono HS0.out) (fun hHeld => ?_)
  refine wpAnyH_take (i := 0) (v := .pointer (some ⟨N, 1, none⟩)) rfl (by kernel_rfl) (by kernel_rfl) (by kernel_rfl) (fun _ _ _ h => h) (Or.inl ⟨by rfl, fun w h => by go_simp⟩) (by assumption) ?_
  simp only [Act.put, List.setIfInBounds_toArray]
  refine wpAnyH_take (i := 1) (v := .int .i64 me) rfl (by kernel_rfl) (by kernel_rfl) (by kernel_rfl) (fun _ _ _ h => h) (Or.inl ⟨by rfl, fun w h => by have e1 := HL1.out w h; clear h; go_simp⟩) (by assumption) ?_
  simp only [Act.put]
  refine wpAnyH_take (i := 2) (v := .pointer (some ⟨N, 2, none⟩)) rfl (by kernel_rfl) (by kernel_rfl) (by kernel_rfl) (fun _ _ _ h => h) (Or.inl ⟨by rfl, fun w h => by go_simp⟩) (by assumption) ?_
  simp only [Act.put]
  refine wpAnyH_take (i := 3) (v := .agg L12.toArray) rfl (by kernel_rfl) (by kernel_rfl) (by kernel_rfl) (fun _ _ _ h => h) (yieldsIf_load_mid (by rfl) 37 (.tmp 7) rfl N 2 rfl L12 _ (fun w h => HL2.out w h) hu12 rfl hi12) (by assumption) ?_
  simp only [Act.put]
  refine wpAnyH_take (i := 4) (v := .agg #[.int .u32 ip, .int .u16 port]) rfl (by kernel_rfl) (by kernel_rfl) (by kernel_rfl) (fun _ _ _ h => h) (Or.inl ⟨by rfl, fun w h => by have e1 := HL3.out w h; clear h; obtain ⟨e1, e2⟩ := e1; go_simp⟩) (by assumption) ?_
  simp only [Act.put]
  refine wpAnyH_ready (rs := [5]) (by kernel_rfl) (by simp) ?_
  refine AllReadyH.cons (i := 5) rfl (fun K hK => ?_) AllReadyH.nil
  go_simp
  refine (mapped_any ip port W0.drew).mono ?_
  rintro e w5 ⟨v5, rfl, hv5, hb5⟩
  have hc5 : Below W0.heap.size W0 w5 := hb0.trans hb5
  have hv8 := hv5.v8
  have HV8 := Lib.hid hv5
  obtain ⟨A5, c5, hve, -⟩ := hv8
  subst hve
  obtain ⟨l5, hl5⟩ : ∃ l, (mapB ip port).length = l := ⟨_, rfl⟩
  rw [hl5] at HV8 ⊢
  clear hl5 hv5
  refine hK.out _ _ (hc5.mono HS0.out) (fun hHeld => ?_)
  clear hK K
  refine wpAnyH_take (i := 6) (v := .agg #[.int .u16 32, .slice A5 l5 c5]) rfl (by kernel_rfl) (by kernel_rfl) (by kernel_rfl) (fun _ _ _ h => h) (Or.inl ⟨by rfl, fun w h => by go_simp⟩) (by assumption) ?_
  simp only [Act.put]
  refine wpAnyH_ready (rs := [7]) (by kernel_rfl) (by simp) ?_
  refine AllReadyH.cons (i := 7) rfl (fun K hK => ?_) AllReadyH.nil
  go_simp
  have hn5 : N + 2 ≤ w5.heap.size := Nat.le_trans HS0.out hc5.size
  have hb6 : Below (N + 2) W0 (w5.alloc (.cells #[.int .u16 32, .slice A5 l5 c5] 92)) := (hc5.mono HS0.out).alloc hn5 _
  have hw6 := Whole.new w5 92 #[.int .u16 32, .slice A5 l5 c5]
  have hv6 := HV8.out.alloc (.cells #[.int .u16 32, .slice A5 l5 c5] 92)
  have hg6 := (H0.out.2.2.1.under hc5).alloc (.cells #[.int .u16 32, .slice A5 l5 c5] 92)
  have H6 := Lib.hid (And.intro hb6 (And.intro hw6 (And.intro hv6 (And.intro hg6 hn5))))
  clear hn5 hb6 hw6 hv6 hg6 hb5 hc5 hb0
  refine hK.out _ _ H6.out.1 (fun hHeld => ?_)
  clear hK K
  generalize w5.alloc (.cells #[.int .u16 32, .slice A5 l5 c5] 92) = W6 at *
  generalize w5.heap.size = g6 at *
  obtain ⟨Y, hY⟩ : ∃ Y, mv 2 me ids (.slice (some ⟨g6, 0, none⟩) 1 1) = Y := ⟨_, rfl⟩
  have hYS : Y.size = 15 ∧ Y.all (·.oneCell') = true := by rw [← hY]; exact ⟨mv_size HID.out.2.1, mv_one rfl⟩
  have HBF := Lib.hid (HBS.out g6 W6)
  rw [hY] at HBF
  have HY := Lib.hid (And.intro hY hYS)
  clear hY hYS
  refine wpAnyH_ready (rs := [8]) (by kernel_rfl) (by simp) ?_
  refine AllReadyH.cons (i := 8) rfl (fun K hK => ?_) AllReadyH.nil
  rw [if_pos (by rfl)]
  refine wp_build4 69 _ (.tmp 6) (.tmp 8) (.tmp 12) rfl (u1 := .int .i64 2) (u2 := .int .i64 me) (u3 := .agg L12.toArray) (u4 := .slice (some ⟨g6, 0, none⟩) 1 1) rfl rfl rfl rfl (v := .agg Y) HBF.out ?_
  refine hK.out _ _ H6.out.1 (fun hHeld => ?_)
  clear hK K
  simp only [Act.put, List.getElem_toArray, List.getElem_cons_succ, List.getElem_cons_zero, List.setIfInBounds_toArray, List.set_cons_succ, List.set_cons_zero]
  refine wpAnyH_ready (rs := [9]) (by kernel_rfl) (by simp) ?_
  refine AllReadyH.cons (i := 9) rfl (fun K hK => ?_) AllReadyH.nil
  rw [if_pos (by rfl)]
  refine wp_store_whole 69 (.tmp 4) (.tmp 13) rfl rfl rfl H6.out.2.2.2.1 Try.sizeMsg HY.out.2.1 HZS.out HY.out.2.2 ?_
  have hbf : Below (N + 2) W0 (W6.setRow (N + 2) Y) := below_row H6.out.1 (Nat.le_refl _) Y
  refine hK.out _ _ hbf (fun hHeld => ?_)
  clear hK K
  refine wpAnyH_done (by kernel_rfl) ?_ _
  clear hHeld
  go_wp2_with fail
  have f1 := H6.out.2.2.2.1.row Y
  refine bodyPost_ret (v := .agg Y) ?_ rfl ?_
  · exact ret_struct rfl rfl f1 Try.underlying69 rfl Try.sizeMsg HY.out.2.1
  · have hne : g6 ≠ N + 2 := fun e => by
      have := H6.out.2.1
      rw [e] at this
      exact this.ne H6.out.2.2.2.1 (by decide) rfl
    have hw3 := H6.out.2.1.farRow hne Y
    have hsz : (W6.setRow (N + 2) Y).heap.size = W6.heap.size := by simp [World.setRow]
    have hb9 : Below (N + 2) W6 (W6.setRow (N + 2) Y) := below_row (Below.refl _ _) (Nat.le_refl _) Y
    have hv9 : V8 (W6.setRow (N + 2) Y) (W6.setRow (N + 2) Y).heap.size (.slice A5 l5 c5) (mapB ip port) := (H6.out.2.2.1.keep8 (Kept8.row H6.out.2.2.2.1 (by decide) Y)).v8
    exact ⟨Y, _, 1, rfl, ⟨by rw [← HY.out.1]; unfold succP; rw [HME.out, HIDS.out]; rfl, by unfold succP; rw [HIDS.out]; exact HID.out.2.1, Nat.le_refl _, by simp [maxLen], (fun e => by cases e), succ_ats hw3 hv9⟩, (H0.out.2.2.2.1.trans (hbf.mono (by omega)))⟩
end Go.Proofs.Yteloaidnfcmadaa
