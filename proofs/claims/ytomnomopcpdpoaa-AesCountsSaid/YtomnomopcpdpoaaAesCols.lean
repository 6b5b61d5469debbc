/- The program's columns: from bytes, to bytes, through S, with keys. -/
import Derived.Test.YtomnomopcpdpoaaAesBox
namespace Go.Proofs.Ytomnomopcpdpoaa
open Go.RowKit
set_option linter.unusedVariables false

def ncf (f : Nat → B) (c : Nat) : Int := nc (f (4 * c)) (f (4 * c + 1)) (f (4 * c + 2)) (f (4 * c + 3))
/-- A block's four columns. -/
def cw (f : Nat → B) : List Int := [ncf f 0, ncf f 1, ncf f 2, ncf f 3]
@[simp] theorem cw_length (f : Nat → B) : (cw f).length = 4 := rfl
theorem ncf_in (f : Nat → B) (c : Nat) : 0 ≤ ncf f c ∧ ncf f c < 4294967296 := nc_in _ _ _ _
theorem cw_in (f : Nat → B) (i : Nat) : 0 ≤ (cw f).getD i 0 ∧ (cw f).getD i 0 < 4294967296 := by
  match i with
  | 0 => exact ncf_in f 0
  | 1 => exact ncf_in f 1
  | 2 => exact ncf_in f 2
  | 3 => exact ncf_in f 3
  | n + 4 => exact ⟨Int.le_refl 0, show (0 : Int) < 4294967296 by decide⟩
/-- A column behind r of its bytes. -/
def wq (f : Nat → B) (q : Nat) : Nat → Int
  | 0 => nc 0#8 0#8 0#8 0#8
  | 1 => nc 0#8 0#8 0#8 (f (4 * q))
  | 2 => nc 0#8 0#8 (f (4 * q)) (f (4 * q + 1))
  | 3 => nc 0#8 (f (4 * q)) (f (4 * q + 1)) (f (4 * q + 2))
  | _ + 4 => ncf f q
/-- The columns behind k bytes. -/
def colsTo (f : Nat → B) (k : Nat) : List Int := [wq f 0 k, wq f 1 (k - 4), wq f 2 (k - 8), wq f 3 (k - 12)]
@[simp] theorem colsTo_length (f : Nat → B) (k : Nat) : (colsTo f k).length = 4 := rfl
theorem wq_step (f : Nat → B) (q r : Nat) (hr : r < 4) : bits .or .u32 (wq f q r * 256 % 4294967296) (nb (f (4 * q + r))) = wq f q (r + 1) := by
  rcases (show r = 0 ∨ r = 1 ∨ r = 2 ∨ r = 3 by omega) with rfl | rfl | rfl | rfl
  · exact nc_more _ _ _ _ _
  · exact nc_more _ _ _ _ _
  · exact nc_more _ _ _ _ _
  · exact nc_more _ _ _ _ _
theorem wq_in (f : Nat → B) (q r : Nat) : 0 ≤ wq f q r ∧ wq f q r < 4294967296 := by
  match r with
  | 0 => exact nc_in _ _ _ _
  | 1 => exact nc_in _ _ _ _
  | 2 => exact nc_in _ _ _ _
  | 3 => exact nc_in _ _ _ _
  | n + 4 => exact nc_in _ _ _ _
theorem wq_full (f : Nat → B) (q r : Nat) (hr : 4 ≤ r) : wq f q r = ncf f q := by
  obtain ⟨n, rfl⟩ : ∃ n, r = n + 4 := ⟨r - 4, by omega⟩
  rfl
theorem colsTo_at (f : Nat → B) (k : Nat) (hk : k < 16) : (colsTo f k).getD (k / 4) 0 = wq f (k / 4) (k % 4) := by
  rcases (show k / 4 = 0 ∨ k / 4 = 1 ∨ k / 4 = 2 ∨ k / 4 = 3 by omega) with h | h | h | h <;> rw [h]
  · rw [show k % 4 = k by omega]; rfl
  · rw [show k % 4 = k - 4 by omega]; rfl
  · rw [show k % 4 = k - 8 by omega]; rfl
  · rw [show k % 4 = k - 12 by omega]; rfl
theorem colsTo_set (f : Nat → B) (k : Nat) (hk : k < 16) : (colsTo f k).set (k / 4) (wq f (k / 4) (k % 4 + 1)) = colsTo f (k + 1) := by
  rcases (show k / 4 = 0 ∨ k / 4 = 1 ∨ k / 4 = 2 ∨ k / 4 = 3 by omega) with h | h | h | h <;> rw [h]
  · show [wq f 0 (k % 4 + 1), wq f 1 (k - 4), wq f 2 (k - 8), wq f 3 (k - 12)] = [wq f 0 (k + 1), wq f 1 (k + 1 - 4), wq f 2 (k + 1 - 8), wq f 3 (k + 1 - 12)]
    rw [show k % 4 = k by omega, show k + 1 - 4 = k - 4 by omega, show k + 1 - 8 = k - 8 by omega, show k + 1 - 12 = k - 12 by omega]
  · show [wq f 0 k, wq f 1 (k % 4 + 1), wq f 2 (k - 8), wq f 3 (k - 12)] = [wq f 0 (k + 1), wq f 1 (k + 1 - 4), wq f 2 (k + 1 - 8), wq f 3 (k + 1 - 12)]
    rw [wq_full f 0 k (by omega), wq_full f 0 (k + 1) (by omega), show k % 4 + 1 = k + 1 - 4 by omega, show k + 1 - 8 = k - 8 by omega, show k + 1 - 12 = k - 12 by omega]
  · show [wq f 0 k, wq f 1 (k - 4), wq f 2 (k % 4 + 1), wq f 3 (k - 12)] = [wq f 0 (k + 1), wq f 1 (k + 1 - 4), wq f 2 (k + 1 - 8), wq f 3 (k + 1 - 12)]
    rw [wq_full f 0 k (by omega), wq_full f 0 (k + 1) (by omega), wq_full f 1 (k - 4) (by omega), wq_full f 1 (k + 1 - 4) (by omega), show k % 4 + 1 = k + 1 - 8 by omega, show k + 1 - 12 = k - 12 by omega]
  · show [wq f 0 k, wq f 1 (k - 4), wq f 2 (k - 8), wq f 3 (k % 4 + 1)] = [wq f 0 (k + 1), wq f 1 (k + 1 - 4), wq f 2 (k + 1 - 8), wq f 3 (k + 1 - 12)]
    rw [wq_full f 0 k (by omega), wq_full f 0 (k + 1) (by omega), wq_full f 1 (k - 4) (by omega), wq_full f 1 (k + 1 - 4) (by omega), wq_full f 2 (k - 8) (by omega), wq_full f 2 (k + 1 - 8) (by omega), show k % 4 + 1 = k + 1 - 12 by omega]
theorem colsTo_all (f : Nat → B) : colsTo f 16 = cw f := rfl

theorem Try.zero47 (w : World) : (zeroValue 47).run Try.prog w = .ok (.agg (arr .u32 [0, 0, 0, 0])) w := by kernel_rfl
theorem Try.info47 : (Try.prog.info? 47).map (·.size) = some 4 := by kernel_rfl
theorem Try.sizeU8 (w : World) : (sizeOf 5).run Try.prog w = .ok 1 w := by kernel_rfl

set_option maxHeartbeats 1600000 in
set_option maxRecDepth 100000 in
theorem columns_any (f : Nat → B) (w : World) : Calls Try.prog 19 #[.agg (arr .u8 (fl 16 f))] w fun e w' => e = .returned (.agg (arr .u32 (cw f))) ∧ Below w.heap.size w w' := by
  have hz := Try.zero47
  have HI : Hid (∀ (w : World) (i : Nat), i < 16 → (Instr.index 22 (.agg (arr .u8 (fl 16 f))) (.int .i64 i)).run Try.prog w = .ok (.int .u8 (nb (f i))) w) := Lib.hid fun w i hi => by
    have := run_index_arr (T := 22) (e := 5) Try.underlying22 Try.underlying5 Try.sizeU8 w .u8 (fl 16 f) i (by simpa using hi) (by simp)
    rwa [fl_get f hi] at this
  generalize hka : arr .u8 (fl 16 f) = ka at *
  have HKA := Lib.hid hka
  clear hka
  generalize hzl : arr .u32 [0, 0, 0, 0] = Z at *
  have HZ := Lib.hid hzl
  clear hzl
  go_enter Try.func19, Try.ntmps19
  have h0 : Whole (((w.alloc (Obj.cells ka 22)).alloc (Obj.cells Z 47)).alloc (Obj.cells Z 47)) w.heap.size 22 ka := ((Whole.new _ _ _).alloc _).alloc _
  have h1 : Whole (((w.alloc (Obj.cells ka 22)).alloc (Obj.cells Z 47)).alloc (Obj.cells Z 47)) (w.heap.size + 1) 47 Z := (Whole.new2 _ _ _ _).alloc _
  have h2 : Whole (((w.alloc (Obj.cells ka 22)).alloc (Obj.cells Z 47)).alloc (Obj.cells Z 47)) (w.heap.size + 1 + 1) 47 (arr .u32 (colsTo f 0)) := by
    have := Whole.new ((w.alloc (Obj.cells ka 22)).alloc (Obj.cells Z 47)) 47 Z
    rw [World.size_alloc, World.size_alloc] at this
    rw [← HZ.out] at this ⊢
    exact this
  have hb0 : Below w.heap.size w (((w.alloc (Obj.cells ka 22)).alloc (Obj.cells Z 47)).alloc (Obj.cells Z 47)) := (two_new _ _ _ _).alloc (by simp; omega) _
  have HK16 : Hid (ka.size = 16) := Lib.hid (by rw [← HKA.out]; simp)
  have HJ := Lib.hid (And.intro h0 (And.intro h1 (And.intro h2 hb0)))
  clear h0 h1 h2 hb0
  go_wp2_with (refine wpList_load_whole rfl 22 (.tmp 1) rfl rfl HJ.out.1 Try.underlying22 Try.info22 HK16.out ?_)
  obtain ⟨N, hN⟩ : ∃ N, w.heap.size = N := ⟨_, rfl⟩
  obtain ⟨g2, hg2⟩ : ∃ g, N + 1 = g := ⟨_, rfl⟩
  obtain ⟨g3, hg3⟩ : ∃ g, g2 + 1 = g := ⟨_, rfl⟩
  have HN := Lib.hid hN
  rw [hN] at HJ ⊢
  rw [hg2] at HJ ⊢
  rw [hg3] at HJ ⊢
  have l4 : N < g2 := by omega
  have l5 : g2 < g3 := by omega
  clear hN hg2 hg3
  go_loopw [7] (fun s7 wr => ∃ k : Nat, k ≤ 16 ∧ s7 = .int .i64 k ∧ Whole wr g2 47 Z ∧ Whole wr g3 47 (arr .u32 (colsTo f k)) ∧ Below N w wr) (fun s7 _ => 16 - (intOf s7).toNat)
  case atStart => exact ⟨0, by omega, rfl, HJ.out.2.1, HJ.out.2.2.1, HJ.out.2.2.2⟩
  case round =>
    clear HJ
    obtain ⟨k, hk, rfl, h1, h2, hb⟩ := hrel
    by_cases hlt : k < 16
    · have hi := fun w => HI.out w k hlt
      obtain ⟨q, hq⟩ : ∃ q, k / 4 = q := ⟨_, rfl⟩
      have hq4 : q < 4 := by omega
      have c1 := h2.at_ (i := q) (by simpa using hq4)
      have f1 := h2.frz q
      have hst := wq_step f (k / 4) (k % 4) (by omega)
      rw [show 4 * (k / 4) + k % 4 = k by omega] at hst
      have hput := h2.put q (wq f (k / 4) (k % 4 + 1))
      have hat := colsTo_at f k hlt
      rw [hq] at hat
      rw [hat] at c1
      have hse := colsTo_set f k hlt
      rw [hq] at hse hst hput
      rw [hse] at hput
      obtain ⟨x0, x1⟩ := nb_in (f k)
      obtain ⟨y0, y1⟩ := wq_in f q (k % 4)
      generalize wq f q (k % 4 + 1) = z at *
      generalize wq f q (k % 4) = y at *
      generalize nb (f k) = x at *
      have e1 : (k : Int) / 4 = (q : Int) := by omega
      have b1 : (q : Int) < 4 := by omega
      have H := Lib.hid (And.intro h1 (And.intro hput (And.intro hb hst)))
      clear h1 h2 hput hb hst hse hat hq
      go_wp2
      go_roundw
      case rel =>
        obtain ⟨q1, q2, q3, q4⟩ := H.out
        rw [q4]
        exact ⟨k + 1, by omega, by go_num, Whole.far q1 (by simp; omega) _, q2, Below.setCell q3 (by simp; omega) _⟩
      case measure => simp [intOf]; omega
    · obtain rfl : k = 16 := by omega
      rw [show ((16 : Nat) : Int) = 16 from rfl]
      rw [colsTo_all] at h2
      have H := Lib.hid (And.intro h1 (And.intro h2 hb))
      have HZn : Hid (Z.size = 4) := Lib.hid (by rw [← HZ.out]; simp)
      clear h1 h2 hb
      go_wp2_with (first
        | (refine wpList_load_whole rfl 47 (.tmp 3) rfl rfl H.out.2.1 Try.underlying47 Try.info47 (by simp) ?_)
        | (refine wpList_store_whole rfl 47 (.tmp 2) (.tmp 23) rfl rfl rfl H.out.1 Try.info47 (by simp) HZn.out (arr_one _ _) ?_))
      refine bodyPost_ret (v := .agg (arr .u32 (cw f))) (ret_whole (g := g2) rfl rfl (Whole.row H.out.1 _) Try.underlying47 Try.info47 (by simp)) rfl ⟨rfl, ?_⟩
      have := below_row H.out.2.2 (show N ≤ g2 by omega) (arr .u32 (cw f))
      rw [HN.out]
      exact this
end Go.Proofs.Ytomnomopcpdpoaa
