/- readHead: the first 20 bytes are read. -/
import Derived.Test.YteloaidnfcmadaaStAttr
import Derived.Test.YteloaidnfcmadaaStHeadP
namespace Go.Proofs.Yteloaidnfcmadaa
open Go.RowKit
set_option linter.unusedVariables false

/-- What is known while a head is read. -/
structure Hd (w : World) (N b : Nat) (cs : List Value) (xs : List Int) (bad : Bool) (wr : World) : Prop where
  res : Whole wr N 69 zM
  cur : Whole wr (N + 1) 69 cs.toArray
  rd : ∃ v, RdV wr b v xs bad
  only : Only (fun k => k = b) w wr
  bN : b < N
  wN : w.heap.size = N
section
variable {w wr w' : World} {N b : Nat} {cs cs' : List Value} {xs ys : List Int} {bad bad' : Bool}
theorem Hd.step (h : Hd w N b cs xs bad wr) (hr : ∃ v, RdV w' b v ys bad') (ho : Only (fun k => k = b) wr w') : Hd w N b cs ys bad' w' :=
  ⟨h.res.only ho (by have := h.bN; omega), h.cur.only ho (by have := h.bN; omega), hr, h.only.next ho (fun j hj => .inl hj), h.bN, h.wN⟩
theorem Hd.size (h : Hd w N b cs xs bad wr) : N + 2 ≤ wr.heap.size := h.cur.lt
theorem Hd.alter (h : Hd w N b cs xs bad wr) (hg : Whole w' (N + 1) 69 cs'.toArray) (hb : Below (N + 1) wr w') : Hd w N b cs' xs bad w' := by
  have h1 := h.bN
  have h3 := h.wN
  have h4 := h.size
  obtain ⟨v, hr⟩ := h.rd
  exact ⟨h.res.below hb (Nat.lt_succ_self _), hg, ⟨v, hr.next (hb.mono (by omega))⟩, h.only.next (T := fun k => N + 1 ≤ k) ⟨hb.os, hb.tape, hb.output, hb.size, fun k hk hn => hb.block k (by omega)⟩ (fun j hj => .inr (by omega)), h1, h3⟩
theorem Hd.drewN (h : Hd w N b cs xs bad wr) (n : Nat) : Hd w N b cs xs bad (wr.drewN n) :=
  ⟨h.res.drewN n, h.cur.drewN n, h.rd.elim fun v hr => ⟨v, hr.block.drewN n, hr.rest.below (below_drewN' (Below.refl _ _) n)⟩, h.only.drewN n, h.bN, h.wN⟩
end
theorem Hd.done {w wr : World} {N b : Nat} {cs : List Value} {xs : List Int} {bad : Bool} (h : Hd w N b cs xs bad wr) (cs2 : Array Value) : Whole (wr.setRow N cs2) N 69 cs2 ∧ (∃ v, RdV (wr.setRow N cs2) b v xs bad) ∧ Only (fun k => k = b) w (wr.setRow N cs2) := by
  have h1 := h.bN
  have h3 := h.wN
  obtain ⟨v, hr⟩ := h.rd
  have hb : Below N wr (wr.setRow N cs2) := below_row (Below.refl _ wr) (Nat.le_refl _) cs2
  refine ⟨h.res.row cs2, ⟨v, hr.next (hb.mono (by omega))⟩, h.only.next (T := fun k => k = N) ⟨hb.os, hb.tape, hb.output, hb.size, fun k hk hn => setRow_other wr N k cs2 hn⟩ (fun j hj => .inr (by omega))⟩
/-- A message's cells, as a list. -/
def ml (cl me : Int) (id : List Int) : List Value := .int .i64 cl :: .int .i64 me :: (id.map (Value.int .u8) ++ [.slice none 0 0])
theorem ml_mv (cl me : Int) (id : List Int) : (ml cl me id).toArray = mv cl me id (.slice none 0 0) := rfl
theorem ml_len (cl me : Int) (id : List Int) (h : id.length = 12) : (ml cl me id).length = 15 := by simp [ml, h]
theorem ml_one (cl me : Int) (id : List Int) : ∀ v ∈ ml cl me id, v.oneCell' = true := by
  intro v hv
  simp only [ml, List.mem_cons, List.mem_append, List.mem_map, List.not_mem_nil, or_false] at hv
  rcases hv with rfl | rfl | ⟨x, _, rfl⟩ | rfl <;> rfl
theorem ml_splice (cl me : Int) (id id' : List Int) (h : id.length = 12) (h' : id'.length = 12 ∨ id' = []) : splice (ml cl me id) 2 (id'.map (Value.int .u8)) = ml cl me (if id' = [] then id else id') := by
  rcases h' with h' | rfl
  · match id, h with
    | [a0, a1, a2, a3, a4, a5, a6, a7, a8, a9, a10, a11], _ =>
      match id', h' with
      | [b0, b1, b2, b3, b4, b5, b6, b7, b8, b9, b10, b11], _ => rfl
  · simp [splice, List.take_append_drop]

set_option maxHeartbeats 3200000 in
set_option maxRecDepth 100000 in
theorem readHead_any (b : Nat) (v : Value) (xs : List Int) (w : World) (h : RdV w b v xs false) (hx : In256 xs) :
    Calls Try.prog 38 #[.pointer (some ⟨b, 0, none⟩)] w fun e w' => ∃ cs : List Value, e = .returned (.tuple #[.agg cs.toArray, .bool (hOk xs)]) ∧ (cs.length = 15 ∧ ∀ v ∈ cs, v.oneCell' = true) ∧ (hOk xs = true → cs = ml (clOf (hK xs)) (meOf (hK xs)) (hI xs)) ∧ (∃ v2, RdV w' b v2 (h4 xs) (b4 xs)) ∧ Only (fun k => k = b) w w' := by
  have hbl := h.block.lt
  have hz := Try.zeroMsg
  have HU : Hid (∀ W v xs bad, RdV W b v xs bad → In256 xs → Calls Try.prog 54 #[.pointer (some ⟨b, 0, none⟩)] W fun e w' => e = .returned (.int .u16 (u16P xs bad : Nat)) ∧ (∃ v2, RdV w' b v2 (leftP 2 xs bad) (badP 2 xs bad)) ∧ Only (fun k => k = b) W w') := Lib.hid fun W v xs bad h1 h2 => u16_nat b v xs bad W h1 h2
  have HU4 : Hid (∀ W v xs bad, RdV W b v xs bad → In256 xs → Calls Try.prog 55 #[.pointer (some ⟨b, 0, none⟩)] W fun e w' => e = .returned (.int .u32 (numOf (takeP 4 xs bad))) ∧ (∃ v2, RdV w' b v2 (leftP 4 xs bad) (badP 4 xs bad)) ∧ Only (fun k => k = b) W w') := Lib.hid fun W v xs bad h1 h2 => u32_any b v xs bad W h1 h2
  have HTK : Hid (∀ W v xs bad, RdV W b v xs bad → Calls Try.prog 56 #[.pointer (some ⟨b, 0, none⟩), .int .i64 12] W fun e w' => ∃ v1, e = .returned v1 ∧ Own8 w' W.heap.size v1 (takeP 12 xs bad) ∧ (∃ v2, RdV w' b v2 (leftP 12 xs bad) (badP 12 xs bad)) ∧ Only (fun k => k = b) W w') := Lib.hid fun W v xs bad h1 => take_any b v xs bad 12 W h1 (by decide)
  have HZ : Hid (zM = (ml 0 0 [0, 0, 0, 0, 0, 0, 0, 0, 0, 0, 0, 0]).toArray) := Lib.hid rfl
  obtain ⟨Z, hZ⟩ : ∃ Z, zM = Z := ⟨_, rfl⟩
  have HZE := Lib.hid hZ
  simp only [hZ] at hz
  have HI2 : Hid (In256 (h2 xs)) := Lib.hid ((hx.leftP 2 false).leftP 2 _)
  have HI1 : Hid (In256 (leftP 2 xs false)) := Lib.hid (hx.leftP 2 false)
  have a0 : Whole ((w.alloc (.cells Z 69)).alloc (.cells Z 69)) w.heap.size 69 Z := (Whole.new w _ _).alloc _
  have a1 : Whole ((w.alloc (.cells Z 69)).alloc (.cells Z 69)) (w.heap.size + 1) 69 Z := Whole.new2 w _ _ _
  have hb2 : Below w.heap.size w ((w.alloc (.cells Z 69)).alloc (.cells Z 69)) := two_new _ _ _ _
  have hd0 : Hd w w.heap.size b (ml 0 0 [0, 0, 0, 0, 0, 0, 0, 0, 0, 0, 0, 0]) xs false ((w.alloc (.cells Z 69)).alloc (.cells Z 69)) :=
    ⟨by rw [hZ]; exact a0, by rw [← HZ.out, hZ]; exact a1, ⟨v, h.under hb2⟩, ((Only.refl _ w).alloc _).alloc _, hbl, rfl⟩
  have H0 := Lib.hid hd0
  have HX := Lib.hid hx
  clear h hx hZ a0 a1 hb2 hd0
  obtain ⟨N, hN⟩ : ∃ N, w.heap.size = N := ⟨_, rfl⟩
  have HN := Lib.hid hN
  rw [hN] at H0 hbl
  go_enter Try.func38, Try.ntmps38
  go_upto_region 2 with fail
  generalize (w.alloc (.cells Z 69)).alloc (.cells Z 69) = W0 at *
  clear hN
  obtain ⟨vr0, hvr0⟩ := H0.out.rd
  have HUK := Lib.hid (HU.out _ _ _ _ hvr0 HX.out)
  obtain ⟨K, hKe⟩ : ∃ K, hK xs = K := ⟨_, rfl⟩
  obtain ⟨L, hLe⟩ : ∃ L, hL xs = L := ⟨_, rfl⟩
  obtain ⟨G, hGe⟩ : ∃ G, hM xs = G := ⟨_, rfl⟩
  have hK2 : u16P xs false = K := hKe
  have hL2 : u16P (leftP 2 xs false) (badP 2 xs false) = L := hLe
  have hG2 : numOf (takeP 4 (h2 xs) (b2 xs)) = G := hGe
  have hKl : K < 65536 := by rw [← hKe]; exact u16P_lt _ _
  have hLl : L < 65536 := by rw [← hLe]; exact u16P_lt _ _
  rw [hK2] at HUK
  clear hvr0
  go_upto_region 3 with (first
    | (go_at_call 54; (with_reducible refine HUK.out.mono ?_); rintro e w1 ⟨rfl, hr1, ho1⟩; have hd1 := H0.out.step hr1 ho1; obtain ⟨vr1, hvr1⟩ := hr1; have HUL := HU.out _ _ _ _ hvr1 HI1.out; rw [hL2] at HUL)
    | (go_at_call 54; (with_reducible refine HUL.mono ?_); rintro e w2 ⟨rfl, hr2, ho2⟩; have hd2 : Hd w N b (ml 0 0 [0, 0, 0, 0, 0, 0, 0, 0, 0, 0, 0, 0]) (h2 xs) (b2 xs) w2 := hd1.step hr2 ho2; obtain ⟨vr2, hvr2⟩ := hd2.rd; have HUG := HU4.out _ _ _ _ hvr2 HI2.out; rw [hG2] at HUG)
    | (go_at_call 55; (with_reducible refine HUG.mono ?_); rintro e w3 ⟨rfl, hr3, ho3⟩; have hd3 : Hd w N b (ml 0 0 [0, 0, 0, 0, 0, 0, 0, 0, 0, 0, 0, 0]) (h3 xs) (b3 xs) w3 := hd2.step hr3 ho3))
  obtain ⟨vr3, hvr3⟩ := hd3.rd
  have hvd : RdV w3.drew b vr3 (h3 xs) (b3 xs) := ⟨hvr3.block.drew, hvr3.rest.below (Below.refl _ w3).drew⟩
  have HT := Lib.hid (HTK.out _ _ _ _ hvd)
  have hd3d : Hd w N b (ml 0 0 [0, 0, 0, 0, 0, 0, 0, 0, 0, 0, 0, 0]) (h3 xs) (b3 xs) w3.drew := hd3.drewN 1
  have H3 := Lib.hid hd3d
  have hIl : (hI xs).length = 12 ∨ hI xs = [] := by
    unfold hI takeP
    split
    · exact .inr rfl
    · next hc =>
      simp only [Bool.or_eq_true, decide_eq_true_eq, not_or] at hc
      exact .inl (by rw [List.length_take]; omega)
  obtain ⟨ids, hids⟩ : ∃ x, (if hI xs = [] then [0, 0, 0, 0, 0, 0, 0, 0, 0, 0, 0, 0] else hI xs) = x := ⟨_, rfl⟩
  have hidl : ids.length = 12 := by
    rw [← hids]
    split
    · rfl
    · next hc => exact hIl.resolve_right hc
  have HIL := Lib.hid (And.intro hIl (And.intro hids hidl))
  clear hd1 hd2 hd3 hvr1 hvr2 hvr3 hvd hd3d HUL HUG HUK hr2 hr3 ho1 ho2 ho3 hIl hids hidl
  refine wp_region_held_drew (S := fun _ => True) (by kernel_rfl) trivial (fun hHeld => ?_)
  refine wpAnyH_take (i := 0) (v := .pointer (some ⟨N + 1, 2, none⟩)) rfl (by kernel_rfl) (by kernel_rfl) (by kernel_rfl) (fun _ _ _ h => h) (Or.inl ⟨by rfl, fun w h => by go_simp⟩) (by assumption) ?_
  simp only [Act.put, List.setIfInBounds_toArray]
  refine wpAnyH_take (i := 1) (v := .slice (some ⟨N + 1, 2, none⟩) 12 12) rfl (by kernel_rfl) (by kernel_rfl) (by kernel_rfl) (fun _ _ _ h => h) (Or.inl ⟨by rfl, fun w h => by go_simp⟩) (by assumption) ?_
  simp only [Act.put]
  refine wpAnyH_take (i := 2) (v := .pointer (some ⟨b, 0, none⟩)) rfl (by kernel_rfl) (by kernel_rfl) (by kernel_rfl) (fun _ _ _ h => h) (Or.inl ⟨by rfl, fun w h => by go_simp⟩) (by assumption) ?_
  simp only [Act.put]
  refine wpAnyH_ready (rs := [3]) (by kernel_rfl) (by simp) ?_
  refine AllReadyH.cons (i := 3) rfl (fun K hK => ?_) AllReadyH.nil
  go_simp
  refine HT.out.mono ?_
  rintro e w4 ⟨v4, rfl, hv4, hr4, ho4⟩
  have hd4 : Hd w N b (ml 0 0 [0, 0, 0, 0, 0, 0, 0, 0, 0, 0, 0, 0]) (h4 xs) (b4 xs) w4 := H3.out.step hr4 ho4
  have hv4' : Own8 w4 w3.drew.heap.size v4 (hI xs) := hv4
  obtain ⟨A4, c4, rfl, -, -, -, hbs4⟩ := hv4'.form
  refine hK.out _ _ trivial (fun hHeld => ?_)
  clear hK K
  refine wpAnyH_ready (rs := [4]) (by kernel_rfl) (by simp) ?_
  refine AllReadyH.cons (i := 4) rfl (fun K hK => ?_) AllReadyH.nil
  have hmin : ((hI xs).map (Value.int .u8)).length = Nat.min (hI xs).length 12 := by
    rw [List.length_map]
    rcases HIL.out.1 with e | e
    · rw [e]; rfl
    · rw [e]; rfl
  refine step_copy_splice rfl (.tmp 15) (.tmp 17) 22 22 rfl 5 Try.underlying22 Try.sizeByte (some ⟨N + 1, 2, none⟩) A4 12 12 (hI xs).length c4 rfl rfl (N + 1) 2 (ml 0 0 [0, 0, 0, 0, 0, 0, 0, 0, 0, 0, 0, 0]) 69 hd4.cur ((hI xs).map (Value.int .u8)) hmin ?_ ?_ ?_ (N + 1) w4 (Below.refl _ _) (Nat.le_refl _) ?_
  · intro h0
    rw [List.length_map] at h0
    obtain ⟨ad, e1, _, hc⟩ := hbs4.2 h0
    refine ⟨rfl, ad, e1, fun j v hj => ?_⟩
    have hjl : j < (hI xs).length := by have := (List.getElem?_eq_some_iff.1 hj).1; simpa using this
    rw [hc j hjl, ← hj]
    simp [List.getD, hjl]
  · rw [hmin]
    have : Nat.min (hI xs).length 12 ≤ 12 := Nat.min_le_right _ _
    show 2 + Nat.min (hI xs).length 12 ≤ 15
    omega
  · intro v hv
    obtain ⟨x, _, rfl⟩ := List.mem_map.1 hv
    rfl
  · intro w5 hw5 hb5
    have hw5' := hw5.out
    rw [ml_splice 0 0 _ (hI xs) rfl HIL.out.1, HIL.out.2.1] at hw5'
    have hd5 := hd4.alter hw5' hb5
    refine hK.out _ _ trivial (fun hHeld => ?_)
    clear hK K
    refine wpAnyH_done (by kernel_rfl) ?_ _
    have H5 := Lib.hid hd5
    clear hd5 hd4 hv4 hv4' hbs4 hr4 ho4 hw5 hw5' hb5 hmin
    obtain ⟨vr5, hvr5⟩ := H5.out.rd
    have HB := Lib.hid (fun W (e : w5 = W) => bad_at b vr5 (h4 xs) (b4 xs) W (e ▸ hvr5))
    have HL5 := Lib.hid (fun W (e : w5 = W) => left_at b vr5 (h4 xs) (b4 xs) W (e ▸ hvr5))
    have HKD : Hid (∀ W, Calls Try.prog 58 #[.int .i64 3, .int .i64 4095] W fun e w' => e = .returned (.int .u16 16383) ∧ W = w') := Lib.hid fun W => headKind_any 3 4095 (by decide) (by decide) (by decide) (by decide) W
    clear hvr5
    have hokdef : hOk xs = (!b4 xs && decide (K ≤ 16383) && decide (G = 554869826) && decide (L = (h4 xs).length)) := by
      unfold hOk
      rw [hKe, hGe, hLe]
    have HOK := Lib.hid hokdef
    clear hokdef
    obtain ⟨bd, hbd⟩ : ∃ x, b4 xs = x := ⟨_, rfl⟩
    have HBD := Lib.hid hbd
    rw [hbd] at HB HOK H5
    clear hbd
    have HMS := Lib.hid (And.intro (ml_len 0 0 ids HIL.out.2.2) (ml_one 0 0 ids))
    have HZS : Hid (zM.size = 15) := Lib.hid zM_size
    simp only [Act.put]
    by_cases hearly : bd = true ∨ 16383 < K ∨ ¬ G = 554869826
    · have hno : hOk xs = false := by
        rw [HOK.out]
        rcases hearly with e | e | e
        · rw [e]; rfl
        · rw [decide_eq_false (show ¬ K ≤ 16383 by omega)]; simp
        · rw [decide_eq_false e]; simp
      have HNO := Lib.hid hno
      clear hno
      by_cases hbt : bd = true
      · subst hbt
        clear hearly
        go_wp2_with (first
          | (go_at_call 57; (with_reducible refine (HB.out _ rfl).mono ?_); rintro e w' ⟨rfl, rfl⟩)
          | (go_at_call 58; (with_reducible refine (HKD.out _).mono ?_); rintro e w' ⟨rfl, rfl⟩)
          | (refine wpList_load_all rfl 69 (.tmp 4) rfl H5.out.cur rfl Try.sizeMsg HMS.out.1 Try.underlying69 rfl ?_)
          | (refine wpList_store_whole rfl 69 (.tmp 2) (.tmp 30) rfl rfl rfl H5.out.res Try.sizeMsg HMS.out.1 HZS.out (all_oneCell_toArray HMS.out.2) ?_))
        obtain ⟨f1, f2, f3⟩ := H5.out.done (ml 0 0 ids).toArray
        refine bodyPost_ret (v := .tuple #[.agg (ml 0 0 ids).toArray, .bool false]) ?_ rfl ?_
        · exact ret_struct2 (p := 2) (s := 3) rfl rfl f1 Try.underlying69 rfl Try.sizeMsg HMS.out.1
        · exact ⟨ml 0 0 ids, by rw [HNO.out], HMS.out, (fun e => by rw [HNO.out] at e; cases e), by rw [HBD.out]; exact f2, f3⟩
      obtain rfl : bd = false := by cases bd <;> simp_all
      by_cases hk : 16383 < K
      · have hk' : (16383 : Int) < (K : Int) := by omega
        clear hearly
        go_wp2_with (first
          | (go_at_call 57; (with_reducible refine (HB.out _ rfl).mono ?_); rintro e w' ⟨rfl, rfl⟩)
          | (go_at_call 58; (with_reducible refine (HKD.out _).mono ?_); rintro e w' ⟨rfl, rfl⟩)
          | (refine wpList_load_all rfl 69 (.tmp 4) rfl H5.out.cur rfl Try.sizeMsg HMS.out.1 Try.underlying69 rfl ?_)
          | (refine wpList_store_whole rfl 69 (.tmp 2) (.tmp 30) rfl rfl rfl H5.out.res Try.sizeMsg HMS.out.1 HZS.out (all_oneCell_toArray HMS.out.2) ?_))
        obtain ⟨f1, f2, f3⟩ := H5.out.done (ml 0 0 ids).toArray
        refine bodyPost_ret (v := .tuple #[.agg (ml 0 0 ids).toArray, .bool false]) ?_ rfl ?_
        · exact ret_struct2 (p := 2) (s := 3) rfl rfl f1 Try.underlying69 rfl Try.sizeMsg HMS.out.1
        · exact ⟨ml 0 0 ids, by rw [HNO.out], HMS.out, (fun e => by rw [HNO.out] at e; cases e), by rw [HBD.out]; exact f2, f3⟩
      · have hk' : ¬ (16383 : Int) < (K : Int) := by omega
        have hg : ¬ G = 554869826 := by
          rcases hearly with e | e | e
          · cases e
          · exact absurd e hk
          · exact e
        have hgb : (G != 554869826) = true := by rw [bne_iff_ne]; exact hg
        clear hearly
        go_wp2_with (first
          | (go_at_call 57; (with_reducible refine (HB.out _ rfl).mono ?_); rintro e w' ⟨rfl, rfl⟩)
          | (go_at_call 58; (with_reducible refine (HKD.out _).mono ?_); rintro e w' ⟨rfl, rfl⟩)
          | (refine wpList_load_all rfl 69 (.tmp 4) rfl H5.out.cur rfl Try.sizeMsg HMS.out.1 Try.underlying69 rfl ?_)
          | (refine wpList_store_whole rfl 69 (.tmp 2) (.tmp 30) rfl rfl rfl H5.out.res Try.sizeMsg HMS.out.1 HZS.out (all_oneCell_toArray HMS.out.2) ?_))
        obtain ⟨f1, f2, f3⟩ := H5.out.done (ml 0 0 ids).toArray
        refine bodyPost_ret (v := .tuple #[.agg (ml 0 0 ids).toArray, .bool false]) ?_ rfl ?_
        · exact ret_struct2 (p := 2) (s := 3) rfl rfl f1 Try.underlying69 rfl Try.sizeMsg HMS.out.1
        · exact ⟨ml 0 0 ids, by rw [HNO.out], HMS.out, (fun e => by rw [HNO.out] at e; cases e), by rw [HBD.out]; exact f2, f3⟩
    · have hbf : bd = false := by
        cases bd
        · rfl
        · exact absurd (.inl rfl) hearly
      subst hbf
      have hk : K ≤ 16383 := by
        have := fun e => hearly (.inr (.inl e))
        omega
      have hg : G = 554869826 := Decidable.byContradiction fun e => hearly (.inr (.inr e))
      have hk' : ¬ (16383 : Int) < (K : Int) := by omega
      have HCL : Hid (∀ W, Calls Try.prog 59 #[.int .u16 (K : Int)] W fun e w' => e = .returned (.int .i64 (clOf K)) ∧ W = w') := Lib.hid fun W => classOf_any K (by omega) (by omega) W
      have HME : Hid (∀ W, Calls Try.prog 60 #[.int .u16 (K : Int)] W fun e w' => e = .returned (.int .i64 (meOf K)) ∧ W = w') := Lib.hid fun W => methodOf_any K (by omega) (by omega) W
      have c0 : w5.cell? ⟨N + 1, 0, none⟩ = some (.int .i64 0) := H5.out.cur.cell 0
      have c1 : w5.cell? ⟨N + 1, 1, none⟩ = some (.int .i64 0) := H5.out.cur.cell 1
      have p0 := H5.out.cur.frz 0
      have p1 := H5.out.cur.frz 1
      have HG := Lib.hid hg
      clear hearly
      go_upto_region 7 with (first
        | (go_at_call 57; (with_reducible refine (HB.out _ rfl).mono ?_); rintro e w' ⟨rfl, rfl⟩)
        | (go_at_call 58; (with_reducible refine (HKD.out _).mono ?_); rintro e w' ⟨rfl, rfl⟩)
        | (go_at_call 59; (with_reducible refine (HCL.out _).mono ?_); rintro e w' ⟨rfl, rfl⟩)
        | (go_at_call 60; (with_reducible refine (HME.out _).mono ?_); rintro e w' ⟨rfl, rfl⟩))
      have hd7 : Hd w N b (ml (clOf K) (meOf K) ids) (h4 xs) false ((w5.setCell ⟨N + 1, 0, none⟩ (.int .i64 (clOf K))).setCell ⟨N + 1, 1, none⟩ (.int .i64 (meOf K))) := by
        refine H5.out.alter ((H5.out.cur.set 0 (.int .i64 (clOf K))).set 1 (.int .i64 (meOf K))) ?_
        exact ((Below.refl (N + 1) w5).setCell (p := ⟨N + 1, 0, none⟩) (Nat.le_refl _) _).setCell (p := ⟨N + 1, 1, none⟩) (Nat.le_refl _) _
      generalize (w5.setCell ⟨N + 1, 0, none⟩ (.int .i64 (clOf K))).setCell ⟨N + 1, 1, none⟩ (.int .i64 (meOf K)) = w7 at *
      have hd7d : Hd w N b (ml (clOf K) (meOf K) ids) (h4 xs) false w7.drew := hd7.drewN 1
      obtain ⟨cs, hcs⟩ : ∃ cs, ml (clOf K) (meOf K) ids = cs := ⟨_, rfl⟩
      have hcl : cs.length = 15 := by rw [← hcs]; exact ml_len _ _ _ HIL.out.2.2
      have hone : ∀ v ∈ cs, v.oneCell' = true := by rw [← hcs]; exact ml_one _ _ _
      rw [hcs] at hd7 hd7d
      have hu := Try.underlying69
      have hi : (Try.prog.info? 69).map (·.size) = some cs.length := by rw [Try.sizeMsg, hcl]
      have hr0 : w7.drew.rangeAt (N + 1) 0 cs := by
        have := hd7d.cur.rangeA
        exact this
      have ht0 : w7.drew.there N 0 15 := hd7d.res.there zM_size
      obtain ⟨vr7, hvr7⟩ := hd7d.rd
      obtain ⟨lf, hlf⟩ : ∃ x, (h4 xs).length = x := ⟨_, rfl⟩
      have HLF := left_at b vr7 (h4 xs) false w7.drew hvr7
      rw [hlf] at HLF
      have HVD := Lib.hid HLF
      have hLw : IntKind.i64.wrap (L : Int) = (L : Int) := by rw [IntKind.wrap_i64]; omega
      have HC := Lib.hid (And.intro hcs (And.intro hcl (And.intro hlf hd7d)))
      have HS := Lib.hid (And.intro hr0 ht0)
      clear hr0 ht0 hd7 hd7d hcs hlf hvr7 HLF c0 c1 p0 p1
      refine wp_region_held_drew (S := fun w' => w'.rangeAt (N + 1) 0 cs ∧ w'.there N 0 15) (by kernel_rfl) HS.out (fun hHeld => ?_)
      refine wpAnyH_take (i := 0) (v := .agg cs.toArray) rfl (by kernel_rfl) (by kernel_rfl) (by kernel_rfl) (fun _ _ _ h => h) (yieldsIf_load_mid (by rfl) 69 (.tmp 4) rfl (N + 1) 0 rfl cs _ (fun w h => h.1) hu rfl hi) (by assumption) ?_
      simp only [Act.put, List.setIfInBounds_toArray]
      refine wpAnyH_take (i := 1) (v := .int .u16 (L : Int)) rfl (by kernel_rfl) (by kernel_rfl) (by kernel_rfl) (fun _ _ _ h => h) (Or.inl ⟨by rfl, fun w h => by go_simp⟩) (by assumption) ?_
      simp only [Act.put]
      refine wpAnyH_take (i := 2) (v := .int .i64 (L : Int)) rfl (by kernel_rfl) (by kernel_rfl) (by kernel_rfl) (fun _ _ _ h => h) (Or.inl ⟨by rfl, fun w h => by go_simp⟩) (by assumption) ?_
      simp only [Act.put]
      refine wpAnyH_take (i := 3) (v := .pointer (some ⟨b, 0, none⟩)) rfl (by kernel_rfl) (by kernel_rfl) (by kernel_rfl) (fun _ _ _ h => h) (Or.inl ⟨by rfl, fun w h => by go_simp⟩) (by assumption) ?_
      simp only [Act.put]
      refine wpAnyH_ready (rs := [4]) (by kernel_rfl) (by simp) ?_
      refine AllReadyH.cons (i := 4) rfl (fun K' hK => ?_) AllReadyH.nil
      go_simp
      refine HVD.out.mono ?_
      rintro e w8 ⟨rfl, rfl⟩
      refine hK.out _ _ HS.out (fun hHeld => ?_)
      clear hK K'
      refine wpAnyH_take (i := 5) (v := .bool (decide (L = lf))) rfl (by kernel_rfl) (by kernel_rfl) (by kernel_rfl) (fun _ _ _ h => h) (Or.inl ⟨by rfl, fun w h => by go_simp; try (congr 3; exact decide_eq_decide.2 (by omega))⟩) (by assumption) ?_
      simp only [Act.put]
      refine wpAnyH_ready (rs := [6]) (by kernel_rfl) (by simp) ?_
      refine AllReadyH.cons (i := 6) rfl (fun K' hK => ?_) AllReadyH.nil
      rw [if_pos (by rfl)]
      refine wp_store_mid 69 (.tmp 2) (.tmp 37) rfl N 0 cs.toArray rfl rfl (by rw [List.size_toArray, HC.out.2.1]; exact HS.out.2) (by rw [List.size_toArray]; exact hi) (all_oneCell_toArray hone) ?_
      refine hK.out _ _ ⟨World.rangeAt_setCells_apart HS.out.1 _ _ _ (.inl (by omega)), World.there_setCells HS.out.2 _ _ _⟩ (fun hHeld => ?_)
      clear hK K'
      refine wpAnyH_ready (rs := [7]) (by kernel_rfl) (by simp) ?_
      refine AllReadyH.cons (i := 7) rfl (fun K' hK => ?_) AllReadyH.nil
      go_simp
      refine hK.out _ _ ⟨World.rangeAt_setCells_apart HS.out.1 _ _ _ (.inl (by omega)), World.there_setCells HS.out.2 _ _ _⟩ (fun hHeld => ?_)
      clear hK K'
      refine wpAnyH_done (by kernel_rfl) ?_ _
      go_wp2_with fail
      have hfin := HC.out.2.2.2
      have hW : Whole (w7.drew.setCells N 0 cs) N 69 cs.toArray := hfin.res.cellsAll cs (by rw [HC.out.2.1]; exact zM_size.symm)
      have hbb : Below N w7.drew (w7.drew.setCells N 0 cs) := below_cells (Nat.le_refl _) cs 0 _ (Below.refl _ _)
      have hone' : Only (fun k => k = N) w7.drew (w7.drew.setCells N 0 cs) := ⟨hbb.os, hbb.tape, hbb.output, hbb.size, fun k hk hn => (below_cells_at (Ne.symm hn) cs 0 _)⟩
      have hokv : hOk xs = decide (L = lf) := by
        rw [HOK.out, decide_eq_true hk, decide_eq_true HG.out, HC.out.2.2.1]
        rfl
      refine bodyPost_ret (v := .tuple #[.agg cs.toArray, .bool (decide (L = lf))]) ?_ rfl ?_
      · exact ret_struct2 (p := 2) (s := 3) rfl rfl hW Try.underlying69 rfl Try.sizeMsg (by rw [List.size_toArray]; exact HC.out.2.1)
      refine ⟨cs, by rw [hokv], ⟨HC.out.2.1, hone⟩, fun e => ?_, ?_, hfin.only.next hone' (fun j hj => .inr (by rw [HN.out]; omega))⟩
      · rw [← HC.out.1]
        congr 1
        have hb4 : b4 xs = false := HBD.out
        have hnn : ¬ hI xs = [] := fun e2 => by
          unfold hI takeP at e2
          unfold b4 badP at hb4
          rw [hb4] at e2
          rw [Bool.or_eq_false_iff] at hb4
          have := of_decide_eq_false hb4.2
          have h12 : ((h3 xs).take 12).length = 0 := by
            rw [if_neg (by simp)] at e2
            rw [e2]; rfl
          rw [List.length_take] at h12
          omega
        rw [← HIL.out.2.1, if_neg hnn]
      · obtain ⟨vv, hvv⟩ := hfin.rd
        exact ⟨vv, by rw [HBD.out]; exact hvv.next (hbb.mono hfin.bN)⟩
end Go.Proofs.Yteloaidnfcmadaa
