/- The document's base64. -/
import Derived.Test.YtmlapbadgjhhdaaGreatDoorAtRW1
namespace Go.Proofs.YtmlapbadgjhhdaaGreatDoor
open Go.RowKit Go.Shelf
set_option linter.unusedVariables false
set_option linter.unusedSimpArgs false

theorem and63_i64 (x y : Nat) (hx : x < 9223372036854775808) (hy : y = x % 64) : bits BinOp.and IntKind.i64 (x : Int) 63 = (y : Int) := by
  have := i64_and_nat x 63 hx (by decide)
  rw [and63] at this
  rw [hy]
  exact this
theorem w64 {x : Int} (h0 : 0 ≤ x) (h1 : x < 9223372036854775808) : wrap64 x = x := by unfold wrap64; omega
theorem or3_w64 (a b c : UInt8) : bits BinOp.or IntKind.i64 (bits BinOp.or IntKind.i64 (wrap64 (wrap64 (a.toNat : Int) * 65536)) (wrap64 (wrap64 (b.toNat : Int) * 256))) (wrap64 (c.toNat : Int)) = ((num3 a b c : Nat) : Int) := by
  have h1 := a.toNat_lt
  have h2 := b.toNat_lt
  have h3 := c.toNat_lt
  rw [w64 (x := (a.toNat : Int)) (by omega) (by omega), w64 (x := (b.toNat : Int)) (by omega) (by omega), w64 (x := (c.toNat : Int)) (by omega) (by omega), w64 (x := (a.toNat : Int) * 65536) (by omega) (by omega), w64 (x := (b.toNat : Int) * 256) (by omega) (by omega)]
  have := or3_i64 a b c
  rw [show ((a.toNat * 65536 : Nat) : Int) = (a.toNat : Int) * 65536 by omega, show ((b.toNat * 256 : Nat) : Int) = (b.toNat : Int) * 256 by omega] at this
  exact this
theorem wp_append8 {w : World} {o : Oper} {a : Act} {K : Act → World → Prop} {Q : Exit → Act → World → Prop} (s x : Operand)
    (ho : o.op = .call { callee := .builtin .append, args := #[s, x], argTypes := #[116, 116] }) {base : Nat} {v : Value} {xs : List Int} (hs : a.eval s = v) (hown : Own8 w base v xs) {B : Nat} {A : Option Addr} {m c : Nat} {ys : List Int} (hx : a.eval x = .slice A m c) (hr : Bs w B A m ys) (hA : A = none → c = 0)
    (h63 : xs.length + m ≤ 140737488355328) (hbase : base ≤ w.heap.size)
    (h : ∀ v' w', Own8 w' base v' (xs ++ ys) → w.grownBy w' v.ownBlock → (v'.ownBlock = v.ownBlock ∨ v'.ownBlock = some w.heap.size) → K (a.put o.dst v') w') : o.wp Tryz.prog a w K Q := by
  obtain ⟨v', w', hrun, h2, h3, h4⟩ := run_append8 o.type hown hr hA h63 hbase
  unfold Oper.wp execOp
  simp only [ho, resolve, invoke, builtin, Sem.run_bind, Sem.run_pure, Result.andThen_ok, List.map_toArray, List.map_cons, List.map_nil, hs, hx, hrun]
  exact h v' w' h2 h3 h4
theorem Own8.apart {w : World} {base : Nat} {v : Value} {xs : List Int} (h : Own8 w base v xs) {g : Nat} {t : TypeId} {cs : Array Value} (hg : Whole w g t cs) (he : 5 ≠ t) : v.ownBlock ≠ some g := fun e2 => by
  rcases h.2 with ⟨rfl, _⟩ | ⟨g', cap, cur, rfl, _, h3, _⟩
  · cases e2
  · have e3 : g' = g := by simpa [Value.ownBlock] using e2
    subst e3
    have e4 : some (Obj.cells cur 5 (0, 0)) = some (Obj.cells cs t (0, 0)) := Eq.trans (Eq.symm h3) hg
    injection e4 with e5
    injection e5 with _ e6
    exact he e6
theorem Own8.below {w w' : World} {base : Nat} {v : Value} {xs : List Int} (h : Own8 w base v xs) {w0 : World} (hb : Below base w0 w) (hB : base ≤ w.heap.size) (hg : w.grownBy w' v.ownBlock) : Below base w0 w' :=
  hb.grown hg hB (fun j hj => (h.lt hj).1)
set_option maxHeartbeats 6400000 in
set_option maxRecDepth 100000 in
theorem rbase64_any (k : Tx) (w : World) (hk : k.length = 30) :
    Calls Tryz.prog 46 #[.agg (keyC k).toArray] w fun e w' => e = .returned (.string (bs (encK k))) ∧ Below w.heap.size w w' := by
  obtain ⟨N, hN⟩ : ∃ N, w.heap.size = N := ⟨_, rfl⟩
  have HKX : Hid (Whole (w.alloc (.cells (keyC k).toArray 71)) N 71 (keyC k).toArray) := Lib.hid (by rw [← hN]; exact (Whole.new w _ _))
  have HB : Hid (Below N w (w.alloc (.cells (keyC k).toArray 71))) := Lib.hid (by rw [← hN]; exact (Below.refl _ w).alloc (Nat.le_refl _) _)
  have HNW : Hid (w.heap.size = N) := Lib.hid hN
  rw [hN]
  go_enter Tryz.func46, Tryz.ntmps46
  go_upto_region 1 with fail
  generalize (w.alloc (.cells (keyC k).toArray 71)) = W0 at *
  clear hN
  go_wp2
  go_loopw [4, 3] (fun s4 s3 wr => ∃ t : Nat, t ≤ 10 ∧ s4 = .int .i64 ((3 * t : Nat) : Int) ∧ (Own8 wr N s3 (ni (encK (k.take (3 * t)))) ∧ Whole wr N 71 (keyC k).toArray ∧ Below N w wr)) (fun s4 _ _ => 30 - (intOf s4).toNat)
  case atStart => exact ⟨0, by omega, rfl, Own8.nil _ _, HKX.out, HB.out⟩
  case round =>
    obtain ⟨t, ht, rfl, hst⟩ := hrel
    have HS := Lib.hid hst
    clear hst
    obtain ⟨A3, c3, hv3, -⟩ := HS.out.1.form
    obtain ⟨n3, hn3⟩ : ∃ n, (ni (encK (k.take (3 * t)))).length = n := ⟨_, rfl⟩
    rw [hn3] at hv3
    subst hv3
    clear hn3
    by_cases hlt : t < 10
    · obtain ⟨a, b, c, hA, hBB, hC, hTK⟩ : ∃ a b c : UInt8, k[3 * t]? = some a ∧ k[3 * t + 1]? = some b ∧ k[3 * t + 2]? = some c ∧ encK (k.take (3 * (t + 1))) = encK (k.take (3 * t)) ++ enc3 a b c := encK_step hk hlt
      obtain ⟨i, hi⟩ : ∃ i, 3 * t = i := ⟨_, rfl⟩
      have HTI := Lib.hid hi
      have HSZ : Hid ((encK (k.take (3 * t))).length = 4 * t) := Lib.hid (encK_len t _ (by rw [List.length_take]; omega))
      rw [hi] at hA hBB hC
      simp only [hi]
      have hi1 : (i : Int) < 30 := by omega
      have hi0 : (0 : Int) ≤ (i : Int) := by omega
      have e1 : IntKind.i64.wrap ((i : Int) + 1) = ((i + 1 : Nat) : Int) := (IntWalk.i64_in _ (by omega)).trans (by omega)
      have e2 : IntKind.i64.wrap ((i : Int) + 2) = ((i + 2 : Nat) : Int) := (IntWalk.i64_in _ (by omega)).trans (by omega)
      have b1 : ((i + 1 : Nat) : Int) < 30 := by omega
      have b2 : ((i + 2 : Nat) : Int) < 30 := by omega
      have b3 : (0 : Int) ≤ ((i + 1 : Nat) : Int) := by omega
      have b4 : (0 : Int) ≤ ((i + 2 : Nat) : Int) := by omega
      have d0 : wr.cell? ⟨N, i, none⟩ = some (.int .u8 (a.toNat : Int)) := (HS.out.2.1.cell _).trans (by simp [keyC, hA])
      have d1 : wr.cell? ⟨N, i + 1, none⟩ = some (.int .u8 (b.toNat : Int)) := (HS.out.2.1.cell _).trans (by simp [keyC, hBB])
      have d2 : wr.cell? ⟨N, i + 2, none⟩ = some (.int .u8 (c.toNat : Int)) := (HS.out.2.1.cell _).trans (by simp [keyC, hC])
      clear hi
      go_upto_region 5 with fail
      go_quiet (fail)
      rw [or3_w64 a b c]
      have HNL : Hid (num3 a b c < 16777216) := Lib.hid (num3_lt a b c)
      have HEN : Hid (enc3 a b c = [letter (num3 a b c / 262144), letter (num3 a b c / 4096 % 64), letter (num3 a b c / 64 % 64), letter (num3 a b c % 64)]) := Lib.hid rfl
      have HBS : Hid (Own8 (wr.drewN nq) N (.slice A3 n3 c3) (ni (encK (k.take (3 * t)))) ∧ Whole (wr.drewN nq) N 71 (keyC k).toArray ∧ Below N w (wr.drewN nq)) := Lib.hid ⟨HS.out.1, HS.out.2.1, below_drewN' HS.out.2.2 _⟩
      obtain ⟨E, hE⟩ : ∃ E, encK (k.take (3 * t)) = E := ⟨_, rfl⟩
      rw [hE] at HBS HSZ hTK
      have HTK := Lib.hid hTK
      clear hTK hE d0 d1 d2 hA hBB hC e1 e2 b1 b2 b3 b4
      generalize wr.drewN nq = wx at *
      generalize num3 a b c = n at *
      have hn := HNL.out
      have g1 : ((n : Int) / 262144) = ((n / 262144 : Nat) : Int) := by omega
      have g2 : bits BinOp.and IntKind.i64 ((n : Int) / 4096) 63 = ((n / 4096 % 64 : Nat) : Int) := and63_i64 (n / 4096) _ (by omega) rfl
      have g3 : bits BinOp.and IntKind.i64 ((n : Int) / 64) 63 = ((n / 64 % 64 : Nat) : Int) := and63_i64 (n / 64) _ (by omega) rfl
      have g4 : bits BinOp.and IntKind.i64 (n : Int) 63 = ((n % 64 : Nat) : Int) := and63_i64 n _ (by omega) rfl
      have l1 : n / 262144 < 64 := by omega
      have l2 : n / 4096 % 64 < 64 := by omega
      have l3 : n / 64 % 64 < 64 := by omega
      have l4 : n % 64 < 64 := by omega
      obtain ⟨v1, x1⟩ : ∃ v : Nat, n / 262144 = v := ⟨_, rfl⟩
      obtain ⟨v2, x2⟩ : ∃ v : Nat, n / 4096 % 64 = v := ⟨_, rfl⟩
      obtain ⟨v3, x3⟩ : ∃ v : Nat, n / 64 % 64 = v := ⟨_, rfl⟩
      obtain ⟨v4, x4⟩ : ∃ v : Nat, n % 64 = v := ⟨_, rfl⟩
      rw [x1] at g1 l1 HEN
      rw [x2] at g2 l2 HEN
      rw [x3] at g3 l3 HEN
      rw [x4] at g4 l4 HEN
      clear x1 x2 x3 x4 hn
      have hv1 : v1 < letS.size := by rw [letS_size]; exact l1
      have hv2 : v2 < letS.size := by rw [letS_size]; exact l2
      have hv3 : v3 < letS.size := by rw [letS_size]; exact l3
      have hv4 : v4 < letS.size := by rw [letS_size]; exact l4
      have y1 : (v1 : Int) < 64 := by omega
      have y2 : (v2 : Int) < 64 := by omega
      have y3 : (v3 : Int) < 64 := by omega
      have y4 : (v4 : Int) < 64 := by omega
      have z1 : (0 : Int) ≤ (v1 : Int) := by omega
      have z2 : (0 : Int) ≤ (v2 : Int) := by omega
      have z3 : (0 : Int) ≤ (v3 : Int) := by omega
      have z4 : (0 : Int) ≤ (v4 : Int) := by omega
      have HBN : Hid (N ≤ wx.heap.size) := Lib.hid (by have := HBS.out.2.2.size; rw [HNW.out] at this; exact this)
      have HSA : Hid (∀ (W : World) (o : Obj), Below N w W ∧ Whole W N 71 (keyC k).toArray → Below N w (W.alloc o) ∧ Whole (W.alloc o) N 71 (keyC k).toArray) := Lib.hid fun W o h => ⟨h.1.alloc (by have := h.1.size; rw [HNW.out] at this; exact this) o, h.2.alloc o⟩
      have HAG : Hid (∀ (W : World) (v : Value) (xs : List Int) (W' : World), Below N w W ∧ Whole W N 71 (keyC k).toArray → Own8 W N v xs → W.grownBy W' v.ownBlock → Below N w W' ∧ Whole W' N 71 (keyC k).toArray) := Lib.hid fun W v xs W' h ho hg => ⟨ho.below h.1 (by have := h.1.size; rw [HNW.out] at this; exact this) hg, h.2.grown hg (fun e => ho.apart h.2 (by decide) e.symm)⟩
      have HO : Hid (Own8 wx.drew N (.slice A3 n3 c3) (ni E)) := Lib.hid HBS.out.1
      have HR0 : Hid (Below N w wx.drew ∧ Whole wx.drew N 71 (keyC k).toArray) := Lib.hid ⟨HBS.out.2.2.drew, HBS.out.2.1⟩
      go_upto_region 6 with fail
      refine wp_region_held_drew (S := fun W => Below N w W ∧ Whole W N 71 (keyC k).toArray) (by kernel_rfl) HR0.out (fun hHeld => ?_)
      refine wpAnyH_take (i := 0) (v := _) rfl (by as_aux_lemma => kernel_rfl) (by as_aux_lemma => kernel_rfl) (by as_aux_lemma => kernel_rfl) (fun _ _ _ h => h) (Or.inl ⟨by rfl, fun w h => by clear h; go_simp; (try with_reducible rfl)⟩) (by assumption) ?_
      simp only [Act.put, List.getElem_toArray, List.getElem_cons_succ, List.getElem_cons_zero, List.setIfInBounds_toArray, List.set_cons_succ, List.set_cons_zero]
      refine wpAnyH_take (i := 1) (v := _) rfl (by as_aux_lemma => kernel_rfl) (by as_aux_lemma => kernel_rfl) (by as_aux_lemma => kernel_rfl) (fun _ _ _ h => h) (Or.inl ⟨by rfl, fun w h => by clear h; go_simp; (try with_reducible rfl)⟩) (by assumption) ?_
      simp only [Act.put, List.getElem_toArray, List.getElem_cons_succ, List.getElem_cons_zero, List.setIfInBounds_toArray, List.set_cons_succ, List.set_cons_zero]
      refine wpAnyH_take (i := 2) (v := _) rfl (by as_aux_lemma => kernel_rfl) (by as_aux_lemma => kernel_rfl) (by as_aux_lemma => kernel_rfl) (fun _ _ _ h => h) (Or.inl ⟨by rfl, fun w h => by clear h; go_simp; (try with_reducible rfl)⟩) (by assumption) ?_
      simp only [Act.put, List.getElem_toArray, List.getElem_cons_succ, List.getElem_cons_zero, List.setIfInBounds_toArray, List.set_cons_succ, List.set_cons_zero]
      refine wpAnyH_take (i := 3) (v := _) rfl (by as_aux_lemma => kernel_rfl) (by as_aux_lemma => kernel_rfl) (by as_aux_lemma => kernel_rfl) (fun _ _ _ h => h) (Or.inl ⟨by rfl, fun w h => by clear h; go_simp; (try with_reducible rfl)⟩) (by assumption) ?_
      simp only [Act.put, List.getElem_toArray, List.getElem_cons_succ, List.getElem_cons_zero, List.setIfInBounds_toArray, List.set_cons_succ, List.set_cons_zero]
      refine wpAnyH_take (i := 4) (v := _) rfl (by as_aux_lemma => kernel_rfl) (by as_aux_lemma => kernel_rfl) (by as_aux_lemma => kernel_rfl) (fun _ _ _ h => h) (Or.inl ⟨by rfl, fun w h => by clear h; go_simp; (try with_reducible rfl)⟩) (by assumption) ?_
      simp only [Act.put, List.getElem_toArray, List.getElem_cons_succ, List.getElem_cons_zero, List.setIfInBounds_toArray, List.set_cons_succ, List.set_cons_zero]
      refine wpAnyH_take (i := 5) (v := _) rfl (by as_aux_lemma => kernel_rfl) (by as_aux_lemma => kernel_rfl) (by as_aux_lemma => kernel_rfl) (fun _ _ _ h => h) (Or.inl ⟨by rfl, fun w h => by clear h; go_simp; (try with_reducible rfl)⟩) (by assumption) ?_
      simp only [Act.put, List.getElem_toArray, List.getElem_cons_succ, List.getElem_cons_zero, List.setIfInBounds_toArray, List.set_cons_succ, List.set_cons_zero]
      refine wpAnyH_take (i := 6) (v := _) rfl (by as_aux_lemma => kernel_rfl) (by as_aux_lemma => kernel_rfl) (by as_aux_lemma => kernel_rfl) (fun _ _ _ h => h) (Or.inl ⟨by rfl, fun w h => by clear h; go_simp; (try with_reducible rfl)⟩) (by assumption) ?_
      simp only [Act.put, List.getElem_toArray, List.getElem_cons_succ, List.getElem_cons_zero, List.setIfInBounds_toArray, List.set_cons_succ, List.set_cons_zero]
      refine wpAnyH_take (i := 7) (v := _) rfl (by as_aux_lemma => kernel_rfl) (by as_aux_lemma => kernel_rfl) (by as_aux_lemma => kernel_rfl) (fun _ _ _ h => h) (Or.inl ⟨by rfl, fun w h => by clear h; go_simp; (try with_reducible rfl)⟩) (by assumption) ?_
      simp only [Act.put, List.getElem_toArray, List.getElem_cons_succ, List.getElem_cons_zero, List.setIfInBounds_toArray, List.set_cons_succ, List.set_cons_zero]
      refine wpAnyH_take (i := 8) (v := _) rfl (by as_aux_lemma => kernel_rfl) (by as_aux_lemma => kernel_rfl) (by as_aux_lemma => kernel_rfl) (fun _ _ _ h => h) (Or.inl ⟨by rfl, fun w h => by clear h; go_simp; (try with_reducible rfl)⟩) (by assumption) ?_
      simp only [Act.put, List.getElem_toArray, List.getElem_cons_succ, List.getElem_cons_zero, List.setIfInBounds_toArray, List.set_cons_succ, List.set_cons_zero]
      refine wpAnyH_take (i := 9) (v := _) rfl (by as_aux_lemma => kernel_rfl) (by as_aux_lemma => kernel_rfl) (by as_aux_lemma => kernel_rfl) (fun _ _ _ h => h) (Or.inl ⟨by rfl, fun w h => by clear h; go_simp; (try with_reducible rfl)⟩) (by assumption) ?_
      simp only [Act.put, List.getElem_toArray, List.getElem_cons_succ, List.getElem_cons_zero, List.setIfInBounds_toArray, List.set_cons_succ, List.set_cons_zero]
      refine wpAnyH_take (i := 10) (v := _) rfl (by as_aux_lemma => kernel_rfl) (by as_aux_lemma => kernel_rfl) (by as_aux_lemma => kernel_rfl) (fun _ _ _ h => h) (Or.inl ⟨by rfl, fun w h => by clear h; go_simp; (try with_reducible rfl)⟩) (by assumption) ?_
      simp only [Act.put, List.getElem_toArray, List.getElem_cons_succ, List.getElem_cons_zero, List.setIfInBounds_toArray, List.set_cons_succ, List.set_cons_zero]
      refine wpAnyH_take (i := 11) (v := _) rfl (by as_aux_lemma => kernel_rfl) (by as_aux_lemma => kernel_rfl) (by as_aux_lemma => kernel_rfl) (fun _ _ _ h => h) (Or.inl ⟨by rfl, fun w h => by clear h; go_simp; (try with_reducible rfl)⟩) (by assumption) ?_
      simp only [Act.put, List.getElem_toArray, List.getElem_cons_succ, List.getElem_cons_zero, List.setIfInBounds_toArray, List.set_cons_succ, List.set_cons_zero]
      refine wpAnyH_take (i := 12) (v := _) rfl (by as_aux_lemma => kernel_rfl) (by as_aux_lemma => kernel_rfl) (by as_aux_lemma => kernel_rfl) (fun _ _ _ h => h) (Or.inl ⟨by rfl, fun w h => by clear h; go_simp; (try with_reducible rfl)⟩) (by assumption) ?_
      simp only [Act.put, List.getElem_toArray, List.getElem_cons_succ, List.getElem_cons_zero, List.setIfInBounds_toArray, List.set_cons_succ, List.set_cons_zero]
      refine wpAnyH_take (i := 13) (v := _) rfl (by as_aux_lemma => kernel_rfl) (by as_aux_lemma => kernel_rfl) (by as_aux_lemma => kernel_rfl) (fun _ _ _ h => h) (Or.inl ⟨by rfl, fun w h => by clear h; go_simp; (try with_reducible rfl)⟩) (by assumption) ?_
      simp only [Act.put, List.getElem_toArray, List.getElem_cons_succ, List.getElem_cons_zero, List.setIfInBounds_toArray, List.set_cons_succ, List.set_cons_zero]
      refine wpAnyH_take (i := 14) (v := _) rfl (by as_aux_lemma => kernel_rfl) (by as_aux_lemma => kernel_rfl) (by as_aux_lemma => kernel_rfl) (fun _ _ _ h => h) (Or.inl ⟨by rfl, fun w h => by clear h; go_simp; (try with_reducible rfl)⟩) (by assumption) ?_
      simp only [Act.put, List.getElem_toArray, List.getElem_cons_succ, List.getElem_cons_zero, List.setIfInBounds_toArray, List.set_cons_succ, List.set_cons_zero]
      refine wpAnyH_ready (rs := [15]) (by as_aux_lemma => kernel_rfl) (by simp) ?_
      refine AllReadyH.cons (i := 15) rfl (fun K hK => ?_) AllReadyH.nil
      go_simp
      have HOA := Lib.hid (HO.out.alloc (.cells (u8s [((letS[v1]'hv1).toNat : Int), ((letS[v2]'hv2).toNat : Int), ((letS[v3]'hv3).toNat : Int), ((letS[v4]'hv4).toNat : Int)]).toArray 5))
      have HLA := Lib.hid (Bs.laid wx.drew [((letS[v1]'hv1).toNat : Int), ((letS[v2]'hv2).toNat : Int), ((letS[v3]'hv3).toNat : Int), ((letS[v4]'hv4).toNat : Int)] 5)
      refine hK.out _ _ (HSA.out _ _ hHeld) (fun hHeld4 => ?_)
      clear hK K hHeld
      have hHeld := hHeld4
      clear hHeld4
      refine wpAnyH_ready (rs := [16]) (by as_aux_lemma => kernel_rfl) (by simp) ?_
      refine AllReadyH.cons (i := 16) rfl (fun K hK => ?_) AllReadyH.nil
      refine step_of rfl (wp_append8 (.tmp 28) (.tmp 43) rfl rfl HOA.out rfl HLA.out (fun e => by cases e) (by rw [ni_len, HSZ.out]; omega) (Nat.le_trans HBN.out (by show _ ≤ (World.alloc _ _).heap.size; rw [World.size_alloc]; omega)) ?_)
      intro v9 w9 ho9 hg9 hn9
      have HB9 := Lib.hid (HAG.out _ _ _ _ hHeld HOA.out hg9)
      refine hK.out _ _ HB9.out (fun hHeld4 => ?_)
      have HO9 : Hid (Own8 w9 N v9 (ni (encK (k.take (3 * (t + 1)))))) := Lib.hid (by
        rw [HTK.out, ni_append, HEN.out]
        show Own8 _ _ _ (ni E ++ [((letter v1).toNat : Int), ((letter v2).toNat : Int), ((letter v3).toNat : Int), ((letter v4).toNat : Int)])
        rw [← letS_at v1 hv1, ← letS_at v2 hv2, ← letS_at v3 hv3, ← letS_at v4 hv4]
        exact ho9)
      clear ho9 hg9 hn9
      clear hK K hHeld
      have hHeld := hHeld4
      clear hHeld4
      refine wpAnyH_take (i := 17) (v := _) rfl (by as_aux_lemma => kernel_rfl) (by as_aux_lemma => kernel_rfl) (by as_aux_lemma => kernel_rfl) (fun _ _ _ h => h) (Or.inl ⟨by rfl, fun w h => by clear h; go_simp; (try with_reducible rfl)⟩) (by assumption) ?_
      simp only [Act.put, List.getElem_toArray, List.getElem_cons_succ, List.getElem_cons_zero, List.setIfInBounds_toArray, List.set_cons_succ, List.set_cons_zero]
      refine wpAnyH_done (by as_aux_lemma => kernel_rfl) ?_ _
      clear hHeld
      go_wp2
      go_roundw
      case rel =>
        have hti := HTI.out
        exact ⟨t + 1, by omega, by go_num, HO9.out, HB9.out.2, HB9.out.1⟩
      case measure => simp [intOf]; omega
    · have e : t = 10 := by omega
      subst e
      have HFE : Hid (encK (k.take (3 * 10)) = encK k) := Lib.hid (by rw [List.take_of_length_le (by omega)])
      obtain ⟨A', c', hv', hcc, _, hA', hBs⟩ := HS.out.1.form
      injection hv' with e1 e2 e3
      subst e1
      subst e3
      have hcv := conv_text hBs hA'
      rw [← e2, HFE.out, str_ni] at hcv
      clear hBs hA' e2
      go_wp2
      go_ret
      exact ⟨rfl, HS.out.2.2⟩
end Go.Proofs.YtmlapbadgjhhdaaGreatDoor
