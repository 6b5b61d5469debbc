/- The counter behind a counter; the bytes of a stream. -/
import Derived.Test.YtomnomopcpdpoaaAesRows
import Derived.Test.YtomnomopcpdpoaaAesKeysR
namespace Go.Proofs.Ytomnomopcpdpoaa
open Go.RowKit
set_option linter.unusedVariables false

/-- One more, from place i - 1 on to the left. -/
def inc : Nat → (Nat → B) → Nat → B
  | 0, f => f
  | i + 1, f => if f i + 1#8 = 0#8 then inc i (up f i (f i + 1#8)) else up f i (f i + 1#8)
def nxtB (f : Nat → B) : Nat → B := inc 16 f
def ivs (iv : Nat → B) : Nat → Nat → B
  | 0 => iv
  | j + 1 => nxtB (ivs iv j)
/-- The bytes of the stream. -/
def strm (K iv : Nat → B) (p : Nat) : B := st K (ivs iv (p / 16)) 10 (p % 16)

theorem inc_int (a : B) : (nb a + (1 : Int)) % (256 : Int) = nb (a + 1#8) :=
  all_I (f := fun a => (nb a + (1 : Int)) % (256 : Int)) (g := fun a => nb (a + 1#8)) (by decide +kernel) a
theorem inc_last {i : Nat} {f : Nat → B} (h : f i + 1#8 ≠ 0#8) : inc (i + 1) f = up f i (f i + 1#8) := by
  rw [inc, if_neg h]
theorem inc_more {i : Nat} {f : Nat → B} (h : f i + 1#8 = 0#8) : inc (i + 1) f = inc i (up f i (f i + 1#8)) := by
  rw [inc, if_pos h]

set_option maxHeartbeats 1600000 in
set_option maxRecDepth 100000 in
theorem next_any (f : Nat → B) (w : World) : Calls Try.prog 17 #[.agg (arr .u8 (fl 16 f))] w fun e w' => e = .returned (.agg (arr .u8 (fl 16 (nxtB f)))) ∧ Below w.heap.size w w' := by
  have hz := Try.zero22
  generalize hzl : arr .u8 (fl 16 zB) = Z at *
  have HZ := Lib.hid hzl
  clear hzl
  obtain ⟨ka, hka⟩ : ∃ ka, arr .u8 (fl 16 f) = ka := ⟨_, rfl⟩
  rw [hka]
  have HKA := Lib.hid hka
  clear hka
  go_enter Try.func17, Try.ntmps17
  go_wp2
  have h1 : Whole ((w.alloc (Obj.cells ka 22)).alloc (Obj.cells Z 22)) w.heap.size 22 (arr .u8 (fl 16 f)) := by
    rw [HKA.out]
    exact (Whole.new _ _ _).alloc _
  have h2 : Whole ((w.alloc (Obj.cells ka 22)).alloc (Obj.cells Z 22)) (w.heap.size + 1) 22 Z := Whole.new2 _ _ _ _
  have hb0 : Below w.heap.size w ((w.alloc (Obj.cells ka 22)).alloc (Obj.cells Z 22)) := two_new _ _ _ _
  obtain ⟨N, hN⟩ : ∃ N, w.heap.size = N := ⟨_, rfl⟩
  obtain ⟨g2, hg2⟩ : ∃ g, N + 1 = g := ⟨_, rfl⟩
  have HN := Lib.hid hN
  rw [hN] at h1 h2 hb0 ⊢
  rw [hg2] at h2 ⊢
  have l2 : N < g2 := by omega
  have HI := Lib.hid (And.intro h1 (And.intro h2 hb0))
  have HZn : Hid (Z.size = 16) := Lib.hid (by rw [← HZ.out]; simp)
  clear h1 h2 hb0 hN hg2
  have HT : Hid (∀ (wr : World), Whole wr N 22 (arr .u8 (fl 16 (nxtB f))) → Whole wr g2 22 Z → Below N w wr → Whole (wr.setRow g2 (arr .u8 (fl 16 (nxtB f)))) g2 22 (arr .u8 (fl 16 (nxtB f))) ∧ Below w.heap.size w (wr.setRow g2 (arr .u8 (fl 16 (nxtB f))))) := Lib.hid fun wr a b c => by
    refine ⟨b.row _, ?_⟩
    rw [HN.out]
    exact below_row c (by omega) _
  go_loopw [3] (fun s3 wr => ∃ (i : Nat) (g : Nat → B), i ≤ 16 ∧ s3 = .int .i64 ((i : Int) - 1) ∧ inc i g = nxtB f ∧ Whole wr N 22 (arr .u8 (fl 16 g)) ∧ Whole wr g2 22 Z ∧ Below N w wr) (fun s3 _ => (intOf s3 + 1).toNat)
  case atStart => exact ⟨16, f, by omega, rfl, rfl, HI.out⟩
  case round =>
    clear HI
    obtain ⟨i, g, hi, rfl, hinc, h1, h2, hb⟩ := hrel
    by_cases hlt : 0 < i
    · obtain ⟨k, rfl⟩ : ∃ k, i = k + 1 := ⟨i - 1, by omega⟩
      have ek : ((k + 1 : Nat) : Int) - 1 = (k : Int) := by omega
      rw [ek]
      have c1 := h1.atf (i := k) (by omega)
      have f1 := h1.frz k
      have hput := h1.putf k (g k + 1#8)
      have hx := inc_int (g k)
      obtain ⟨x0, x1⟩ := nb_in (g k)
      have bk : (k : Int) < 16 := by omega
      by_cases hz : g k + 1#8 = 0#8
      · rw [inc_more hz] at hinc
        have hz0 : nb (g k + 1#8) = 0 := by rw [hz]; rfl
        rw [hz0] at hput hx
        generalize nb (g k) = x at *
        have H := Lib.hid (And.intro hinc (And.intro hput (And.intro h2 hb)))
        clear hinc hput h1 h2 hb ek hz hz0
        go_wp2
        go_roundw
        case rel =>
          obtain ⟨q1, q2, q3, q4⟩ := H.out
          exact ⟨k, _, by omega, rfl, q1, q2, q3.far (by simp; omega) _, q4.setCell (by simp) _⟩
        case measure => simp [intOf]
      · rw [inc_last hz] at hinc
        have hz0 : (nb (g k + 1#8) == 0) = false := by
          have : nb (g k + 1#8) ≠ nb 0#8 := fun e => hz (nb_inj e)
          exact beq_false_of_ne this
        have hz1 : (nb (g k + 1#8) != 0) = true := by rw [bne, hz0]; rfl
        rw [hinc] at hput
        generalize nb (g k + 1#8) = z at *
        generalize nb (g k) = x at *
        have H := Lib.hid (And.intro hput (And.intro (h2.far (p := ⟨N, k, none⟩) (by simp; omega) (.int .u8 z)) (hb.setCell (p := ⟨N, k, none⟩) (by simp) (.int .u8 z))))
        clear hinc hput h1 h2 hb ek hz
        go_wp2_with (first
          | (refine wpList_load_whole rfl 22 (.tmp 1) rfl rfl H.out.1 Try.underlying22 Try.info22 (by simp) ?_)
          | (refine wpList_store_whole rfl 22 (.tmp 2) (.tmp 17) rfl rfl rfl H.out.2.1 Try.info22 (by simp) HZn.out (arr_one _ _) ?_))
        obtain ⟨t1, t2⟩ := HT.out _ H.out.1 H.out.2.1 H.out.2.2
        exact bodyPost_ret (v := .agg (arr .u8 (fl 16 (nxtB f)))) (ret_whole (g := g2) rfl rfl t1 Try.underlying22 Try.info22 (by simp)) rfl ⟨rfl, t2⟩
    · obtain rfl : i = 0 := by omega
      rw [show (((0 : Nat) : Int) - 1) = -1 from rfl]
      have hg : g = nxtB f := hinc
      rw [hg] at h1
      have H := Lib.hid (And.intro h1 (And.intro h2 hb))
      clear h1 h2 hb hinc hg
      go_wp2_with (first
        | (refine wpList_load_whole rfl 22 (.tmp 1) rfl rfl H.out.1 Try.underlying22 Try.info22 (by simp) ?_)
        | (refine wpList_store_whole rfl 22 (.tmp 2) (.tmp 17) rfl rfl rfl H.out.2.1 Try.info22 (by simp) HZn.out (arr_one _ _) ?_))
      obtain ⟨t1, t2⟩ := HT.out _ H.out.1 H.out.2.1 H.out.2.2
      exact bodyPost_ret (v := .agg (arr .u8 (fl 16 (nxtB f)))) (ret_whole (g := g2) rfl rfl t1 Try.underlying22 Try.info22 (by simp)) rfl ⟨rfl, t2⟩
end Go.Proofs.Ytomnomopcpdpoaa
