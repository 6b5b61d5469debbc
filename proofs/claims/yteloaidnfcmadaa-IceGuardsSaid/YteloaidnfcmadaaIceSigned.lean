/- signed: a message's bytes, signed by the password. -/
import Derived.Test.YteloaidnfcmadaaIceSucc
import Derived.Test.YteloaidnfcmadaaIceFault
import Derived.Test.YteloaidnfcmadaaStSign
namespace Go.Proofs.Yteloaidnfcmadaa
open Go.RowKit
set_option linter.unusedVariables false

/-- What signed answers. -/
def SgV (w' : World) (m : Msg) (ks : List Int) (v : Value) : Prop := (CanSign m ∧ V8 w' w'.heap.size v (signB m ks)) ∨ (¬ CanSign m ∧ v = .slice none 0 0)
set_option maxHeartbeats 1600000 in
set_option maxRecDepth 100000 in
theorem signedI_any (base ga : Nat) (va : Value) (s : Ag) (M : Array Value) (m : Msg) (A : Option Addr) (c : Nat) (w : World) (ha : AgV w base ga va s) (h : MsgV w w.heap.size M m A c) (hf : Fine m) (hs : m.at_.length ≤ 4398046511102) :
    Calls Try.prog 27 #[.pointer (some ⟨ga, 0, none⟩), .agg M] w fun e w' => ∃ v, e = .returned v ∧ SgV w' m (nums s.pw) v ∧ Below w.heap.size w w' := by
  obtain ⟨b1, b2, b3, b4⟩ := box_msg h
  have HX := Lib.hid (Boxed.mk b1 b2 b3 b4)
  have HBX : Hid (∀ W, Below w.heap.size w W → Whole W ga 55 (agc s va)) := Lib.hid fun W hW => (ha.under hW).box
  have hws := ha.ws
  obtain ⟨pw, hpw⟩ : ∃ x, s.pw = x := ⟨_, rfl⟩
  rw [hpw] at hws ⊢
  simp only [agc, hpw] at HBX
  have HF := Lib.hid (And.intro hf (And.intro hs hws))
  clear b1 b2 b3 b4 h hf hs hpw hws ha
  obtain ⟨N, hN⟩ : ∃ N, w.heap.size = N := ⟨_, rfl⟩
  rw [hN] at HX HBX ⊢
  obtain ⟨L, hL⟩ : ∃ l, M.toList = l := ⟨_, rfl⟩
  have eL : L.toArray = M := by rw [← hL]
  have hLl : L.length = 15 := by rw [← hL, Array.length_toList]; exact HX.out.size
  have hi15 : (Try.prog.info? 69).map (·.size) = some L.length := by rw [hLl]; exact Try.sizeMsg
  go_enter Try.func27, Try.ntmps27
  go_upto_region 1 with fail
  generalize w.alloc (.cells M 69) = W0 at *
  clear hN
  have hu := Try.underlying69
  have hS0 : N ≤ W0.heap.size := Nat.le_of_lt HX.out.box.lt
  have HS0 := Lib.hid hS0
  have hb0 : Below W0.heap.size W0 W0.drew := (Below.refl _ W0).drew
  have HRL : Hid (∀ W, Below W0.heap.size W0 W → W.rangeAt N 0 L) := Lib.hid fun W hW => by
    rw [← hL]
    exact (HX.out.box.under hW).rangeA
  have HCW : Hid (∀ W, Below W0.heap.size W0 W → W.cell? ⟨ga, 1, none⟩ = some (.string pw)) := Lib.hid fun W hW => (HBX.out W (HX.out.under hW).below).cell 1
  have HSG : Hid (∀ W vk, Below W0.heap.size W0 W → V8 W W.heap.size vk (nums pw) → Calls Try.prog 48 #[.agg L.toArray, vk] W fun e w' => ∃ v x, e = .returned (.tuple #[v, .int .i64 x]) ∧ SignV W w' m (nums pw) v x ∧ Below W.heap.size W w') := Lib.hid fun W vk hW hk => by
    rw [eL]
    exact sign_any M m A c vk (nums pw) W (HX.out.under hW).msg HF.out.1 HF.out.2.1 hk (nums_in pw) (by rw [nums_length]; have := HF.out.2.2; omega)
  have HCV : Hid (∀ W, ∃ c W', (convert 9 22 (.string pw)).run Try.prog W = .ok (.slice (some ⟨W.heap.size, 0, none⟩) pw.size c) W' ∧ W'.heap.size = W.heap.size + 1 ∧ V8 W' W'.heap.size (.slice (some ⟨W.heap.size, 0, none⟩) pw.size c) (nums pw) ∧ Below W.heap.size W W') := Lib.hid fun W => conv_bytes pw W (by have := HF.out.2.2; unfold maxLen; omega)
  clear hL eL hLl hS0
  generalize pw.size = npw at *
  refine wp_region_held_drew (S := fun W => Below W0.heap.size W0 W) (by kernel_rfl) hb0 (fun hHeld => ?_)
  refine wpAnyH_take (i := 0) (v := .agg L.toArray) rfl (by kernel_rfl) (by kernel_rfl) (by kernel_rfl) (fun _ _ _ h => h) (yieldsIf_load_mid (by rfl) 69 (.tmp 3) rfl N 0 rfl L _ (fun w h => HRL.out w h) hu rfl hi15) (by assumption) ?_
  simp only [Act.put, List.setIfInBounds_toArray]
  refine wpAnyH_take (i := 1) (v := .pointer (some ⟨ga, 0, none⟩)) rfl (by kernel_rfl) (by kernel_rfl) (by kernel_rfl) (fun _ _ _ h => h) (Or.inl ⟨by rfl, fun w h => by go_simp⟩) (by assumption) ?_
  simp only [Act.put]
  refine wpAnyH_take (i := 2) (v := .pointer (some ⟨ga, 0, none⟩)) rfl (by kernel_rfl) (by kernel_rfl) (by kernel_rfl) (fun _ _ _ h => h) (Or.inl ⟨by rfl, fun w h => by go_simp⟩) (by assumption) ?_
  simp only [Act.put]
  refine wpAnyH_take (i := 3) (v := .pointer (some ⟨ga, 1, none⟩)) rfl (by kernel_rfl) (by kernel_rfl) (by kernel_rfl) (fun _ _ _ h => h) (Or.inl ⟨by rfl, fun w h => by go_simp⟩) (by assumption) ?_
  simp only [Act.put]
  refine wpAnyH_take (i := 4) (v := .string pw) rfl (by kernel_rfl) (by kernel_rfl) (by kernel_rfl) (fun _ _ _ h => h) (Or.inl ⟨by rfl, fun w h => by have e1 := HCW.out w h; clear h; go_simp⟩) (by assumption) ?_
  simp only [Act.put]
  refine wpAnyH_ready (rs := [5]) (by kernel_rfl) (by simp) ?_
  refine AllReadyH.cons (i := 5) rfl (fun K hK => ?_) AllReadyH.nil
  obtain ⟨cp, W5, hcv, hs5, hv5, hb5⟩ := HCV.out W0.drew
  go_simp
  have hb5' : Below W0.heap.size W0 W5 := hb0.trans hb5
  refine hK.out _ _ hb5' (fun hHeld => ?_)
  clear hK K
  refine wpAnyH_ready (rs := [6]) (by kernel_rfl) (by simp) ?_
  refine AllReadyH.cons (i := 6) rfl (fun K hK => ?_) AllReadyH.nil
  clear hcv
  go_simp
  refine (HSG.out W5 _ hb5' hv5).mono ?_
  rintro e w6 ⟨v6, x6, rfl, hsg, hb6⟩
  have hb6' : Below W0.heap.size W0 w6 := hb5'.trans (hb6.mono hb5'.size)
  have HSV : Hid (SgV w6 m (nums pw) v6) := Lib.hid (by
    rcases hsg with ⟨h1, -, h2⟩ | ⟨h1, -, h2⟩
    · exact .inl ⟨h1, h2.v8⟩
    · exact .inr ⟨h1, h2⟩)
  have HBF : Hid (Below N w w6) := Lib.hid (HX.out.under hb6').below
  refine hK.out _ _ hb6' (fun hHeld => ?_)
  clear hK K hsg hv5 hb6 hb5
  refine wpAnyH_take (i := 7) (v := .tuple #[v6, .int .i64 x6]) rfl (by kernel_rfl) (by kernel_rfl) (by kernel_rfl) (fun _ _ _ h => h) (Or.inl ⟨by rfl, fun w h => by go_simp⟩) (by assumption) ?_
  simp only [Act.put]
  refine wpAnyH_take (i := 8) (v := v6) rfl (by kernel_rfl) (by kernel_rfl) (by kernel_rfl) (fun _ _ _ h => h) (Or.inl ⟨by rfl, fun w h => by go_simp⟩) (by assumption) ?_
  simp only [Act.put]
  refine wpAnyH_take (i := 9) (v := .int .i64 x6) rfl (by kernel_rfl) (by kernel_rfl) (by kernel_rfl) (fun _ _ _ h => h) (Or.inl ⟨by rfl, fun w h => by go_simp⟩) (by assumption) ?_
  simp only [Act.put]
  refine wpAnyH_ready (rs := [10]) (by kernel_rfl) (by simp) ?_
  refine AllReadyH.cons (i := 10) rfl (fun K hK => ?_) AllReadyH.nil
  go_simp
  refine hK.out _ _ hb6' (fun hHeld => ?_)
  clear hK K
  refine wpAnyH_ready (rs := [11]) (by kernel_rfl) (by simp) ?_
  refine AllReadyH.cons (i := 11) rfl (fun K hK => ?_) AllReadyH.nil
  go_simp
  refine hK.out _ _ hb6' (fun hHeld => ?_)
  clear hK K
  refine wpAnyH_done (by kernel_rfl) ?_ _
  clear hHeld hb6' hb5' hb0
  go_wp2_with fail
  go_ret
  exact ⟨v6, rfl, HSV.out, HBF.out⟩
end Go.Proofs.Yteloaidnfcmadaa
