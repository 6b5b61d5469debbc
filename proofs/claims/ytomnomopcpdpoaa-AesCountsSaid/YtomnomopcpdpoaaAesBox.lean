/- The program's box of S. -/
import Derived.Test.YtomnomopcpdpoaaAesArr
namespace Go.Proofs.Ytomnomopcpdpoaa
open Go.RowKit
set_option linter.unusedVariables false

theorem twice_small (p : B) (w : World) : Calls Try.prog 22 #[.int .u32 (nb p)] w fun e w' => e = .returned (.int .u32 (nb (tw p))) ∧ w = w' := by
  have h := twice_any 0#8 0#8 0#8 p w
  have e : ∀ q, nc 0#8 0#8 0#8 q = nb q := by
    intro q
    rw [nc_eq]
    show (0 : Int) * 16777216 + 0 * 65536 + 0 * 256 + nb q = nb q
    omega
  rw [e, show tw 0#8 = 0#8 from rfl, e] at h
  exact h

def pwTo (k : Nat) (j : Nat) : B := if j ≤ k then Pb j else 0#8
theorem pwTo_up (k : Nat) (hk : k < 255) : fl 256 (up (pwTo k) (k + 1) (Pb k ^^^ tw (Pb k))) = fl 256 (pwTo (k + 1)) := fl_congr fun i _ => by
  have h := eq_of_beq (all_of P_check hk)
  unfold up pwTo
  by_cases e : i = k + 1
  · subst e; simp [h]
  · rw [if_neg e]
    by_cases h2 : i ≤ k
    · rw [if_pos h2, if_pos (by omega)]
    · rw [if_neg h2, if_neg (by omega)]
def boxL (k : Nat) (j : Nat) : B := if j = 0 then 99#8 else if Lg j < k then Sb j else 0#8
theorem boxL_up (k : Nat) (hk : k < 255) : fl 256 (up (boxL k) (Pb k).toNat (spreadB (Pb (255 - k)))) = fl 256 (boxL (k + 1)) := fl_congr fun i hi => by
  have h := all_of L_check hk
  simp only [Bool.and_eq_true, beq_iff_eq, decide_eq_true_eq] at h
  obtain ⟨⟨h1, h2⟩, h3⟩ := h
  unfold up boxL
  by_cases e : i = (Pb k).toNat
  · have h0 : ¬ i = 0 := by
      intro h0
      apply h3
      apply BitVec.eq_of_toNat_eq
      rw [← e, h0]; rfl
    rw [if_pos e, if_neg h0, if_pos (by rw [e, h1]; omega), ← h2, e]
  · rw [if_neg e]
    by_cases h0 : i = 0
    · rw [if_pos h0, if_pos h0]
    · rw [if_neg h0, if_neg h0]
      have g := all_of L_check2 hi
      simp only [Bool.or_eq_true, Bool.and_eq_true, beq_iff_eq, decide_eq_true_eq] at g
      rcases g with g | ⟨g1, g2⟩
      · exact absurd g h0
      · have : Lg i ≠ k := fun e1 => e (by rw [← e1]; exact g2.symm)
        by_cases h4 : Lg i < k
        · rw [if_pos h4, if_pos (by omega)]
        · rw [if_neg h4, if_neg (by omega)]
theorem boxL_all : fl 256 (boxL 255) = fl 256 Sb := fl_congr fun i hi => by
  unfold boxL
  by_cases h0 : i = 0
  · subst h0; rfl
  · rw [if_neg h0]
    have g := all_of L_check2 hi
    simp only [Bool.or_eq_true, Bool.and_eq_true, beq_iff_eq, decide_eq_true_eq] at g
    rcases g with g | ⟨g1, g2⟩
    · exact absurd g h0
    · rw [if_pos g1]
theorem pw0 : fl 256 (up zB 0 1#8) = fl 256 (pwTo 0) := by decide +kernel
theorem box0 : fl 256 (up zB 0 99#8) = fl 256 (boxL 0) := by decide +kernel

theorem build_99 (w : World) : (Instr.build 34 #[(0, .int .u8 99)]).run Try.prog w = .ok (.agg (arr .u8 (fl 256 (up zB 0 99#8)))) w := by kernel_rfl
/-- A composite literal of one part whose value is known. -/
theorem wpList_build1 {ops : Array Oper} {rest : List Oper} {o : Oper} {a : Act} {w : World} {Q : Exit → Act → World → Prop} (hgd : o.guard = none) (t : TypeId) (i : Nat) (x : Operand) (ho : o.op = .build t #[(i, x)]) {u v : Value} (hx : a.eval x = u)
    (hr : (Instr.build t #[(i, u)]).run Try.prog w = .ok v w) (h : wpList Try.prog ops Q rest (a.put o.dst v) w) : wpList Try.prog ops Q (o :: rest) a w := by
  refine wpList_plain hgd fun K hK => ?_
  unfold Oper.wp execOp
  simp only [ho, Sem.run_bind, List.map_toArray, List.map_cons, List.map_nil, hx, hr, Result.andThen_ok, Sem.run_pure]
  exact hK _ _ h

set_option maxHeartbeats 1600000 in
set_option maxRecDepth 100000 in
theorem newBox_any (w : World) : Calls Try.prog 18 #[] w fun e w' => e = .returned (.agg (arr .u8 (fl 256 Sb))) ∧ Below w.heap.size w w' := by
  have hz := Try.zero34
  generalize hzl : arr .u8 (fl 256 zB) = Z at *
  have HZ := Lib.hid hzl
  clear hzl
  have hz1 : Z.setIfInBounds 0 (.int .u8 1) = arr .u8 (fl 256 (pwTo 0)) := by
    rw [← HZ.out, ← pw0]
    have := arr_set .u8 (fl 256 zB) 0 (nb 1#8)
    rwa [fl_set] at this
  have HZ1 := Lib.hid hz1
  clear hz1
  have hc0 : ((w.alloc (Obj.cells Z 34)).alloc (Obj.cells Z 34)).cell? ⟨w.heap.size + 1, 0, none⟩ = some (.int .u8 0) := by
    have g2 := Whole.new2 w (Obj.cells Z 34) 34 Z
    rw [← HZ.out] at g2 ⊢
    exact g2.atf (by omega)
  have hf0 := (Whole.new2 w (Obj.cells Z 34) 34 Z).frz 0
  go_enter Try.func18, Try.ntmps18
  go_wp2
  clear hc0 hf0
  rw [HZ1.out]
  go_loopw [2, 3] (fun s2 s3 wr => ∃ k : Nat, k ≤ 255 ∧ s2 = .int .i64 ((k + 1 : Nat) : Int) ∧ Whole wr w.heap.size 34 Z ∧ Whole wr (w.heap.size + 1) 34 (arr .u8 (fl 256 (pwTo k))) ∧ Below w.heap.size w wr ∧ w.heap.size + 2 = wr.heap.size) (fun s2 _ _ => 256 - (intOf s2).toNat)
  case atStart => exact ⟨0, by omega, rfl, (Whole.new _ _ _).alloc _, Whole.new2 _ _ _ _, two_new _ _ _ _, by simp⟩
  case round =>
    obtain ⟨k, hk, rfl, h1, h2, hb, hsz⟩ := hrel
    by_cases hlt : k < 255
    · have hcell := h2.atf (i := k) (by omega)
      rw [show pwTo k k = Pb k by unfold pwTo; rw [if_pos (Nat.le_refl k)]] at hcell
      have hcell2 := h2.atf (i := k + 1) (by omega)
      have hf := h2.frz (k + 1)
      have hput := h2.putf (k + 1) (Pb k ^^^ tw (Pb k))
      rw [pwTo_up k hlt] at hput
      have hx := bxor8 (Pb k) (tw (Pb k))
      obtain ⟨t0, t1⟩ := nb_in (tw (Pb k))
      have ht := twice_small (Pb k)
      obtain ⟨x0, x1⟩ := nb_in (Pb k)
      generalize nb (Pb k ^^^ tw (Pb k)) = z at *
      generalize nb (tw (Pb k)) = u at *
      generalize nb (Pb k) = x at *
      generalize nb (pwTo k (k + 1)) = y at *
      obtain ⟨j, hj⟩ : ∃ j, k + 1 = j := ⟨_, rfl⟩
      have hj1 : ((j : Int) - 1) = (k : Int) := by omega
      have hj2 : (j : Int) ≤ 255 := by omega
      have hj0 : 0 ≤ (j : Int) := by omega
      rw [hj] at hcell2 hf hput ⊢
      have H := Lib.hid (And.intro h1 (And.intro hput (And.intro hb (And.intro hj (And.intro hx (And.intro ht hsz))))))
      have hk0 : (k : Int) < 256 := by omega
      clear h1 h2 hb hput hj hx ht hsz
      go_wp2_with (go_at_call 22; (with_reducible refine (H.out.2.2.2.2.2.1 _).mono ?_); rintro e w' ⟨rfl, rfl⟩)
      go_roundw
      case rel =>
        obtain ⟨q1, q2, q3, rfl, q5, q6, q7⟩ := H.out
        rw [q5]
        exact ⟨k + 1, by omega, by go_num, q1.far (by simp) _, q2, q3.setCell (by simp) _, by simpa [World.setCell] using q7⟩
      case measure => have := H.out.2.2.2.1; simp [intOf]; omega
    · obtain rfl : k = 255 := by omega
      rw [show ((255 + 1 : Nat) : Int) = 256 from rfl]
      have H := Lib.hid (And.intro h1 (And.intro h2 (And.intro hb hsz)))
      clear h1 h2 hb
      have hG := H.out.2.1.lt
      have HZn : Hid (Z.size = 256) := Lib.hid (by rw [← HZ.out]; simp)
      have HB9 : Hid (∀ w : World, (Instr.build 34 #[(0, .int .u8 99)]).run Try.prog w = .ok (.agg (arr .u8 (fl 256 (boxL 0)))) w) := Lib.hid fun w => by rw [build_99, box0]
      go_wp2_with (first
        | (refine wpList_build1 rfl 34 0 (.const (.int .u8 99)) rfl rfl (HB9.out _) ?_)
        | (refine wpList_store_whole rfl 34 (.tmp 4) (.tmp 23) rfl rfl rfl (Whole.new wr 34 Z) Try.info34 (by simp) HZn.out (arr_one _ _) ?_))
      obtain ⟨G, hGe⟩ : ∃ G, wr.heap.size = G := ⟨_, rfl⟩
      have a1 : Whole ((wr.alloc (Obj.cells Z 34)).setRow G (arr .u8 (fl 256 (boxL 0)))) w.heap.size 34 Z := (H.out.1.alloc _).farRow (by omega) _
      have a2 : Whole ((wr.alloc (Obj.cells Z 34)).setRow G (arr .u8 (fl 256 (boxL 0)))) (w.heap.size + 1) 34 (arr .u8 (fl 256 (pwTo 255))) := (H.out.2.1.alloc _).farRow (by omega) _
      have a3 : Whole ((wr.alloc (Obj.cells Z 34)).setRow G (arr .u8 (fl 256 (boxL 0)))) G 34 (arr .u8 (fl 256 (boxL 0))) := by
        rw [← hGe]
        exact (Whole.new wr 34 Z).row _
      have a4 : Below w.heap.size w ((wr.alloc (Obj.cells Z 34)).setRow G (arr .u8 (fl 256 (boxL 0)))) := below_row (H.out.2.2.1.alloc (by omega) _) (by omega) _
      have HA := Lib.hid (And.intro a1 (And.intro a2 (And.intro a3 a4)))
      rw [hGe] at hG ⊢
      generalize (wr.alloc (Obj.cells Z 34)).setRow G (arr .u8 (fl 256 (boxL 0))) = W1 at *
      clear a1 a2 a3 a4 H hGe
      clear hsz wr
      go_loopw [5, 24] (fun s5 s24 wr => ∃ k : Nat, k ≤ 255 ∧ s24 = .int .i64 k ∧ Whole wr w.heap.size 34 Z ∧ Whole wr (w.heap.size + 1) 34 (arr .u8 (fl 256 (pwTo 255))) ∧ Whole wr G 34 (arr .u8 (fl 256 (boxL k))) ∧ Below w.heap.size w wr) (fun _ s24 _ => 255 - (intOf s24).toNat)
      case atStart => exact ⟨0, by omega, rfl, HA.out⟩
      case round =>
        clear HA
        obtain ⟨k, hk, rfl, h1, h2, h3, hb⟩ := hrel
        by_cases hlt : k < 255
        · have pw : ∀ j, j ≤ 255 → pwTo 255 j = Pb j := fun j hj => by unfold pwTo; rw [if_pos hj]
          have c1 := h2.atf (i := k) (by omega)
          have c2 := h2.atf (i := 255 - k) (by omega)
          have hpn := (Pb k).isLt
          have c3 := h3.atf (i := (Pb k).toNat) hpn
          have f3 := h3.frz (Pb k).toNat
          have hput := h3.putf (Pb k).toNat (spreadB (Pb (255 - k)))
          rw [boxL_up k hlt] at hput
          rw [pw k (by omega)] at c1
          rw [pw (255 - k) (by omega)] at c2
          have hs := spread_any (Pb (255 - k))
          unfold nb at c1
          generalize nb (spreadB (Pb (255 - k))) = z at *
          generalize nb (Pb (255 - k)) = y at *
          generalize nb (boxL k (Pb k).toNat) = u at *
          generalize (Pb k).toNat = p at *
          obtain ⟨j, hj⟩ : ∃ j, 255 - k = j := ⟨_, rfl⟩
          rw [hj] at c2
          have s1 : IntKind.i64.wrap (255 - (k : Int)) = (j : Int) := by rw [IntWalk.i64_in _ (by omega)]; omega
          have b1 : (j : Int) < 256 := by omega
          have b2 : (k : Int) < 256 := by omega
          have b3 : (p : Int) < 256 := by omega
          have H := Lib.hid (And.intro h1 (And.intro h2 (And.intro hput (And.intro hb hs))))
          have HJ := Lib.hid hj
          clear h1 h2 h3 hb hput hj hs pw
          go_upto_region 12 with fail
          refine wp_region_still_tail 9 (by kernel_rfl) (by kernel_rfl) ?_
          simp only [List.take_succ_cons, List.take_zero, List.drop_succ_cons, List.drop_zero]
          repeat still_step
          still_call (same_flip (H.out.2.2.2.2 _))
          repeat still_step
          refine wpStill_nil ?_
          clear s1
          change wpList _ _ _ _ _ wr.drew
          go_wp2
          go_roundw
          case rel =>
            obtain ⟨q1, q2, q3, q4, q5⟩ := H.out
            exact ⟨k + 1, by omega, by go_num, Whole.far q1.drew (by simp; omega) _, Whole.far q2.drew (by simp; omega) _, q3, Below.setCell q4.drew (by simp; omega) _⟩
          case measure => simp [intOf]; omega
        · obtain rfl : k = 255 := by omega
          rw [show ((255 : Nat) : Int) = 255 from rfl]
          rw [boxL_all] at h3
          have H := Lib.hid (And.intro h1 (And.intro h3 hb))
          clear h1 h2 h3 hb
          go_wp2_with (first
            | (refine wpList_load_whole rfl 34 (.tmp 4) rfl rfl H.out.2.1 Try.underlying34 Try.info34 (by simp) ?_)
            | (refine wpList_store_whole rfl 34 (.tmp 0) (.tmp 37) rfl rfl rfl H.out.1 Try.info34 (by simp) HZn.out (arr_one _ _) ?_))
          exact bodyPost_ret (v := .agg (arr .u8 (fl 256 Sb))) (ret_whole (g := w.heap.size) rfl rfl (Whole.row H.out.1 _) Try.underlying34 Try.info34 (by simp)) rfl ⟨rfl, below_row H.out.2.2 (Nat.le_refl _) _⟩
end Go.Proofs.Ytomnomopcpdpoaa
