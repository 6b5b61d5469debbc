/- What signing writes into bytes of its own: a length, the HMAC, the CRC. -/
import Derived.Test.YteloaidnfcmadaaStSignP
import Derived.Test.YteloaidnfcmadaaStReadM
namespace Go.Proofs.Yteloaidnfcmadaa
open Go.RowKit
set_option linter.unusedVariables false
set_option linter.unusedSimpArgs false

theorem splice_mid {α : Type} (a b c b' : List α) (h : b'.length = b.length) : splice (a ++ (b ++ c)) a.length b' = a ++ (b' ++ c) := by
  unfold splice
  rw [List.take_left, List.drop_append, List.drop_of_length_le (by omega), h]
  simp
theorem splice_at {α : Type} {l a b c b' : List α} {k : Nat} (hl : l = a ++ (b ++ c)) (hk : k = a.length) (h : b'.length = b.length) : splice l k b' = a ++ (b' ++ c) := by
  subst hl hk
  exact splice_mid a b c b' h
theorem take_splice {α : Type} (cur : List α) (n off : Nat) (cs : List α) (h : off + cs.length ≤ n) (hl : n ≤ cur.length) : (splice cur off cs).take n = splice (cur.take n) off cs := by
  unfold splice
  have l1 : (cur.take off).length = off := by rw [List.length_take]; omega
  rw [List.take_append, List.take_append, l1, List.take_take, List.take_take, List.drop_take, Nat.min_eq_right (by omega : off ≤ n), Nat.min_eq_left (by omega : off ≤ n), List.take_of_length_le (by omega : cs.length ≤ n - off)]
  rw [show n - off - cs.length = n - (off + cs.length) by omega]
theorem splice_mapV (xs ys : List Int) (off : Nat) : splice (u8s xs) off (ys.map (Value.int .u8)) = u8s (splice xs off ys) := by
  unfold splice u8s
  simp
/-- A row of the call's own, as a block: cells that are written into it. -/
theorem own8_block {w : World} {base g n cap : Nat} {xs : List Int} (h : Own8 w base (.slice (some ⟨g, 0, none⟩) n cap) xs) : n = xs.length ∧ base ≤ g ∧ ∃ cur : List Value, Whole w g 5 cur.toArray ∧ n ≤ cap ∧ cap ≤ maxLen ∧ cur.length = cap ∧
    ∀ (w' : World) (off : Nat) (ys : List Int), off + ys.length ≤ n → Whole w' g 5 (splice cur off (ys.map (Value.int .u8))).toArray → Own8 w' base (.slice (some ⟨g, 0, none⟩) n cap) (splice xs off ys) := by
  have hn : n = xs.length := by
    obtain ⟨A, c, e, _⟩ := h.form
    cases e
    rfl
  have h1 := h.1
  rcases h.2 with ⟨e, _⟩ | ⟨g', cap', cur, e, hg, hw, hc, hm, hsz, ht⟩
  · cases e
  simp only [Value.slice.injEq, Option.some.injEq, Addr.mk.injEq] at e
  obtain ⟨⟨rfl, -, -⟩, -, rfl⟩ := e
  obtain ⟨cur⟩ := cur
  have hsz' : cur.length = cap := by simpa using hsz
  refine ⟨hn, hg, cur, hw, by omega, hm, hsz', fun w' off ys hoff hw' => ?_⟩
  have ht' : cur.take n = u8s xs := by rw [hn]; simpa using ht
  have hlen : (splice xs off ys).length = xs.length := length_splice _ _ _ (by omega)
  have hone : (splice cur off (ys.map (Value.int .u8))).take n = u8s (splice xs off ys) := by
    rw [take_splice _ _ _ _ (by simpa using hoff) (by omega), ht', splice_mapV]
  unfold Own8
  rw [hlen]
  refine ⟨by simp [hlen], .inr ⟨g, cap, (splice cur off (ys.map (Value.int .u8))).toArray, by rw [← hn], hg, hw', by omega, hm, ?_, ?_⟩⟩
  · have := length_splice cur off (ys.map (Value.int .u8)) (by simp; omega)
    simp [this, hsz']
  · rw [← hn]
    simpa using hone

/-- copy of bytes into a row of the call's own. -/
theorem wp_copy8 {w : World} {o : Oper} {a : Act} {K : Act → World → Prop} {Q : Exit → Act → World → Prop} (d s : Operand) (ho : o.op = .call { callee := .builtin .copy, args := #[d, s], argTypes := #[22, 22] }) {g off dLen dCap sLen sCap : Nat} {sp : Option Addr}
    (hd : a.eval d = .slice (some ⟨g, off, none⟩) dLen dCap) (hs : a.eval s = .slice sp sLen sCap) {base n cap : Nat} {xs ys : List Int} (hown : Own8 w base (.slice (some ⟨g, 0, none⟩) n cap) xs) {B' : Nat} (hsrc : Bs w B' sp sLen ys) (hpos : 0 < sLen) (hle : sLen ≤ dLen) (hfit : off + sLen ≤ n)
    (hK : ∀ w', Own8 w' base (.slice (some ⟨g, 0, none⟩) n cap) (splice xs off ys) → Only (fun j => j = g) w w' → K (a.put o.dst (goInt sLen)) w') : o.wp Try.prog a w K Q := by
  obtain ⟨hn, hgb, cur, hw, hnc, hcm, hcl, hback⟩ := own8_block hown
  obtain ⟨ad, rfl, -, hc⟩ := hsrc.2 hpos
  have hl : (ys.map (Value.int .u8)).length = sLen := by rw [List.length_map]; exact hsrc.1
  have hrun := run_copy_row (P := Try.prog) w 22 22 o.type 5 g off dLen dCap ad sLen sCap cur.toArray 5 (ys.map (Value.int .u8)) Try.underlying22 Try.sizeByte hw (by rw [hl]; exact (Nat.min_eq_left hle).symm) (fun j v hj => by
    have hjl : j < sLen := by have := (List.getElem?_eq_some_iff.1 hj).1; omega
    obtain ⟨x, hx⟩ : ∃ x, ys[j]? = some x := ⟨_, List.getElem?_eq_getElem (by have := hsrc.1; omega)⟩
    rw [hc j hjl, ← hj]
    simp [List.getD, hx]) (by rw [hl, List.size_toArray]; omega) (fun v hv => by obtain ⟨x, _, rfl⟩ := List.mem_map.1 hv; rfl)
  have hset : Whole (w.setRow g (splice cur off (ys.map (Value.int .u8))).toArray) g 5 (splice cur off (ys.map (Value.int .u8))).toArray := Whole.row hw _
  have ho2 : Only (fun j => j = g) w (w.setRow g (splice cur off (ys.map (Value.int .u8))).toArray) := ⟨rfl, rfl, rfl, by simp [World.setRow], fun k hk hne => setRow_other w g k _ (fun e => hne e)⟩
  have hfin := hK _ (hback _ off ys (by have := hsrc.1; omega) hset) ho2
  have el : cur.toArray.toList = cur := rfl
  rw [el] at hrun
  unfold Oper.wp execOp
  simp only [ho, resolve, invoke, builtin, Sem.run_bind, Sem.run_pure, Result.andThen_ok, List.map_toArray, List.map_cons, List.map_nil, hd, hs, hrun, hl]
  unfold splice at hfin
  rw [hl, ← List.append_assoc] at hfin
  exact hfin
theorem wpList_copy8 {w : World} {ops : Array Oper} {rest : List Oper} {o : Oper} {a : Act} {Q : Exit → Act → World → Prop} (hgd : o.guard = none) (d s : Operand) (ho : o.op = .call { callee := .builtin .copy, args := #[d, s], argTypes := #[22, 22] }) {g off dLen dCap sLen sCap : Nat} {sp : Option Addr}
    (hd : a.eval d = .slice (some ⟨g, off, none⟩) dLen dCap) (hs : a.eval s = .slice sp sLen sCap) {base n cap : Nat} {xs ys : List Int} (hown : Own8 w base (.slice (some ⟨g, 0, none⟩) n cap) xs) {B' : Nat} (hsrc : Bs w B' sp sLen ys) (hpos : 0 < sLen) (hle : sLen ≤ dLen) (hfit : off + sLen ≤ n)
    (h : ∀ w', Own8 w' base (.slice (some ⟨g, 0, none⟩) n cap) (splice xs off ys) → Only (fun j => j = g) w w' → wpList Try.prog ops Q rest (a.put o.dst (goInt sLen)) w') : wpList Try.prog ops Q (o :: rest) a w :=
  wpList_plain hgd fun _ hK => wp_copy8 d s ho hd hs hown hsrc hpos hle hfit fun w' h1 h2 => hK _ _ (h w' h1 h2)

/-- A length is written into the head. -/
structure Filled (w w' : World) (base g n cap : Nat) (xs : List Int) : Prop where
  own : Own8 w' base (.slice (some ⟨g, 0, none⟩) n cap) xs
  only : Only (fun j => j = g) w w'

set_option maxHeartbeats 1600000 in
set_option maxRecDepth 100000 in
theorem setLength_any (g n cap k base : Nat) (xs : List Int) (w : World) (h : Own8 w base (.slice (some ⟨g, 0, none⟩) n cap) xs) (h20 : 20 ≤ k) (hk : k ≤ n) (hm : k ≤ 2000) :
    Calls Try.prog 76 #[.slice (some ⟨g, 0, none⟩) k cap] w fun e w' => e = .returned (.tuple #[]) ∧ Filled w w' base g n cap (splice xs 2 (be2 ((k : Int) - 20))) := by
  obtain ⟨hn, hgb, cur, hw, hnc, hcm, hcl, hback⟩ := own8_block h
  have hgl := hw.lt
  have hs1 : ∀ W, (Instr.slice 22 (.slice (some ⟨g, 0, none⟩) k cap) (some (.int .i64 2)) none none).run Try.prog W = .ok (.slice (some ⟨g, 2, none⟩) (k - 2) (cap - 2)) W := fun W => by
    have := cut_tail (A := ⟨g, 0, none⟩) (n := k) (c := cap) (lo := 2) (x := 2) rfl (by omega) (by omega) W
    rw [if_neg (by omega), Addr.add_lit] at this
    exact this
  have hw1 : IntKind.i64.wrap ((k : Int) - 20) = (k : Int) - 20 := by rw [IntKind.wrap_i64]; omega
  have hw2 : IntKind.u16.wrap ((k : Int) - 20) = (k : Int) - 20 := by rw [IntKind.wrap_u16]; omega
  have HB := Lib.hid hback
  have HW := Lib.hid (And.intro hw (And.intro hgl (And.intro hn (And.intro hnc (And.intro hcl (And.intro hgb hcm))))))
  have HP : Hid (∀ W, Calls Try.prog 65 #[.slice none 0 0, .int .u16 ((k : Int) - 20)] W fun e w' => ∃ v', e = .returned v' ∧ Grew W.heap.size W w' (.slice none 0 0) v' ([] ++ be2 ((k : Int) - 20))) := Lib.hid fun W => put16_any _ _ _ _ W (Own8.nil W _) (Nat.le_refl _) (by simp)
  have HOWN := Lib.hid h
  clear hback hw hgl hn hnc hcl hcm hgb h
  obtain ⟨d, hd⟩ : ∃ d, (k : Int) - 20 = d := ⟨_, rfl⟩
  rw [hd] at HP hw1 hw2 ⊢
  have HH := Lib.hid (And.intro h20 (And.intro hk (And.intro hm hd)))
  have hd2 : (k : Int) - 20 = d := hd
  clear h20 hk hm hd
  go_enter Try.func76, Try.ntmps76
  refine wp_region_held_drew (S := fun _ => True) (by kernel_rfl) trivial (fun hHeld => ?_)
  refine wpAnyH_take (i := 0) (v := .slice (some ⟨g, 0, none⟩) k cap) rfl (by kernel_rfl) (by kernel_rfl) (by kernel_rfl) (fun _ _ _ h => h) (Or.inl ⟨by rfl, fun w h => by go_simp⟩) (by assumption) ?_
  simp only [Act.put, List.getElem_toArray, List.getElem_cons_succ, List.getElem_cons_zero, List.setIfInBounds_toArray, List.set_cons_succ, List.set_cons_zero]
  refine wpAnyH_take (i := 1) (v := .slice (some ⟨g, 2, none⟩) (k - 2) (cap - 2)) rfl (by kernel_rfl) (by kernel_rfl) (by kernel_rfl) (fun _ _ _ h => h) (Or.inl ⟨by rfl, fun w h => by go_simp⟩) (by assumption) ?_
  simp only [Act.put, List.getElem_toArray, List.getElem_cons_succ, List.getElem_cons_zero, List.setIfInBounds_toArray, List.set_cons_succ, List.set_cons_zero]
  refine wpAnyH_take (i := 2) (v := .slice (some ⟨g, 0, none⟩) k cap) rfl (by kernel_rfl) (by kernel_rfl) (by kernel_rfl) (fun _ _ _ h => h) (Or.inl ⟨by rfl, fun w h => by go_simp⟩) (by assumption) ?_
  simp only [Act.put, List.getElem_toArray, List.getElem_cons_succ, List.getElem_cons_zero, List.setIfInBounds_toArray, List.set_cons_succ, List.set_cons_zero]
  refine wpAnyH_take (i := 3) (v := .int .i64 k) rfl (by kernel_rfl) (by kernel_rfl) (by kernel_rfl) (fun _ _ _ h => h) (Or.inl ⟨by rfl, fun w h => by go_simp⟩) (by assumption) ?_
  simp only [Act.put, List.getElem_toArray, List.getElem_cons_succ, List.getElem_cons_zero, List.setIfInBounds_toArray, List.set_cons_succ, List.set_cons_zero]
  refine wpAnyH_take (i := 4) (v := .int .i64 d) rfl (by kernel_rfl) (by kernel_rfl) (by kernel_rfl) (fun _ _ _ h => h) (Or.inl ⟨by rfl, fun w h => by go_simp⟩) (by assumption) ?_
  simp only [Act.put, List.getElem_toArray, List.getElem_cons_succ, List.getElem_cons_zero, List.setIfInBounds_toArray, List.set_cons_succ, List.set_cons_zero]
  refine wpAnyH_take (i := 5) (v := .int .u16 d) rfl (by kernel_rfl) (by kernel_rfl) (by kernel_rfl) (fun _ _ _ h => h) (Or.inl ⟨by rfl, fun w h => by go_simp⟩) (by assumption) ?_
  simp only [Act.put, List.getElem_toArray, List.getElem_cons_succ, List.getElem_cons_zero, List.setIfInBounds_toArray, List.set_cons_succ, List.set_cons_zero]
  clear hs1 hw1 hw2 hd2
  refine wpAnyH_ready (rs := [6]) (by kernel_rfl) (by simp) ?_
  refine AllReadyH.cons (i := 6) rfl (fun K hK => ?_) AllReadyH.nil
  go_simp
  refine (HP.out _).mono ?_
  rintro e w1 ⟨v1, rfl, h1⟩
  have hb1 := h1.below (Own8.nil _ _) (Nat.le_refl _)
  obtain ⟨A1, c1, rfl, -, -, -, hbs⟩ := h1.own.form
  refine hK.out _ _ (trivial) (fun hHeld => ?_)
  clear hK K
  rw [List.nil_append] at hbs h1
  have hw1 := HOWN.out.drew.under hb1
  refine wpAnyH_ready (rs := [7]) (by kernel_rfl) (by simp) ?_
  refine AllReadyH.cons (i := 7) rfl (fun K hK => ?_) AllReadyH.nil
  refine step_of rfl (wp_copy8 (.tmp 3) (.tmp 8) rfl rfl rfl hw1 hbs (by simp) (by have := HH.out.1; simp; omega) (by have := HH.out.1; have := HH.out.2.1; simp; omega) ?_)
  intro w2 hw2 ho2
  refine hK.out _ _ trivial (fun hHeld => ?_)
  clear hK K
  refine wpAnyH_done (by kernel_rfl) ?_ _
  have HF := Lib.hid (And.intro hw2 (((Only.refl (fun j => j = g) w).drew.under hb1).next ho2 (fun j hj => .inl hj)))
  clear hw2 ho2 hw1 h1 hb1 hbs hHeld
  simp only [Act.put, List.getElem_toArray, List.getElem_cons_succ, List.getElem_cons_zero, List.setIfInBounds_toArray, List.set_cons_succ, List.set_cons_zero]
  go_end0
  exact ⟨rfl, HF.out.1, HF.out.2⟩

theorem cut_head {A : Addr} {n c hi : Nat} {x : Int} (hx : x = hi) (h : hi ≤ c) (w : World) :
    (Instr.slice 22 (.slice (some A) n c) none (some (.int .i64 x)) none).run Try.prog w = .ok (.slice (some A) hi c) w := by
  subst hx
  have ht := Try.underlying22
  have ht' : Try.prog.underlying 22 = some (.slice (Try.prog.elem 22)) := by simp [Program.elem, ht]
  have he : Try.prog.elem 22 = 5 := by simp [Program.elem, ht]
  rw [run_slice_h w 22 _ _ _ ht' .i64 _ (by omega) (by omega), he, Try.sizeU8]
  by_cases h0 : c = 0
  · simp [Result.andThen, sliced, h0]
  · simp [Result.andThen, sliced, h0, Addr.add]
theorem In256.splice {xs ys : List Int} {k : Nat} (hx : In256 xs) (hy : In256 ys) : In256 (splice xs k ys) := (hx.take _).append (hy.append (hx.drop _))
theorem Own8.four {w : World} {base : Nat} {v : Value} {x : Int} (h : Own8 w base v (be4 x)) : ∃ A c, v = .slice A 4 c ∧ Bs w w.heap.size A 4 (be4 x) := by
  obtain ⟨A, c, e, -, -, -, hb⟩ := h.form
  exact ⟨A, c, e, hb⟩
theorem Filled.below {w w' : World} {base g n cap : Nat} {xs : List Int} (h : Filled w w' base g n cap xs) (hg : base ≤ g) (hb : base ≤ w.heap.size) : Below base w w' := h.only.below (fun k hk => by omega) hb

/-- What fillMAC makes of xs; what fillCRC does. -/
def macP (xs ks : List Int) (k : Nat) : List Int := splice (splice xs 2 (be2 ((k : Int) - 20))) (k - 20) (mac ks ((splice xs 2 (be2 ((k : Int) - 20))).take (k - 24)))
def crcP (xs : List Int) (n : Nat) : List Int := splice (splice xs 2 (be2 ((n : Int) - 20))) (n - 4) (be4 (bits .xor .u32 (crc ((splice xs 2 (be2 ((n : Int) - 20))).take (n - 8))) 1398035790))

set_option maxHeartbeats 1600000 in
set_option maxRecDepth 100000 in
theorem fillMAC_any (g n cap k base : Nat) (xs ks : List Int) (vk : Value) (w : World) (h : Own8 w base (.slice (some ⟨g, 0, none⟩) n cap) xs) (hbase : base ≤ w.heap.size) (h44 : 44 ≤ k) (hk : k ≤ n) (hm : k ≤ 2000) (hx : In256 xs) (hv : V8 w base vk ks) (hkx : In256 ks) (hkl : ks.length ≤ 140737488355328) :
    Calls Try.prog 70 #[.slice (some ⟨g, 0, none⟩) k cap, vk] w fun e w' => e = .returned (.tuple #[]) ∧ Filled w w' base g n cap (macP xs ks k) := by
  have hz := Try.zero81
  have HS := Lib.hid (setLength_any g n cap k base xs w h (by omega) hk hm)
  have hob := own8_block h
  have hgb := hob.2.1
  have hnc : n ≤ cap := by obtain ⟨cur, _, h1, _⟩ := hob.2.2; exact h1
  have hcm : cap ≤ maxLen := by obtain ⟨cur, _, _, h1, _⟩ := hob.2.2; exact h1
  have hnl := hob.1
  obtain ⟨Ak, ck, rfl, hk1, hk2, hk3, hk4⟩ := hv
  have HK := Lib.hid (And.intro hk1 (And.intro hk2 (And.intro hk3 (And.intro hk4 (And.intro hkx hkl)))))
  have HO := Lib.hid (And.intro hgb (And.intro hbase (And.intro hnl (And.intro hnc (And.intro hcm (And.intro hk hx))))))
  clear hob hk1 hk2 hk3 hk4 hkx hkl hgb hbase hnl h
  obtain ⟨nk, hnk⟩ : ∃ x, ks.length = x := ⟨_, rfl⟩
  rw [hnk] at HK ⊢
  have HNK := Lib.hid hnk
  clear hnk
  obtain ⟨ys, hys⟩ : ∃ ys, splice xs 2 (be2 ((k : Int) - 20)) = ys := ⟨_, rfl⟩
  have hyl : ys.length = n := by rw [← hys, length_splice _ _ _ (by have := HO.out.2.2.1; simp; omega)]; exact HO.out.2.2.1.symm
  have hyx : In256 ys := by rw [← hys]; exact hx.splice (in256_be2 _)
  rw [hys] at HS
  have hmp : macP xs ks k = splice ys (k - 20) (mac ks (ys.take (k - 24))) := by unfold macP; rw [hys]
  have HY := Lib.hid (And.intro hyl (And.intro hyx hmp))
  clear hys hyl hyx hmp hx
  have hs1 : ∀ W, (Instr.slice 22 (.slice (some ⟨g, 0, none⟩) k cap) none (some (.int .i64 ((k : Int) - 24))) none).run Try.prog W = .ok (.slice (some ⟨g, 0, none⟩) (k - 24) cap) W := fun W => cut_head (by omega) (by omega) W
  have hs2 : ∀ W, (Instr.slice 22 (.slice (some ⟨g, 0, none⟩) k cap) (some (.int .i64 ((k : Int) - 20))) none none).run Try.prog W = .ok (.slice (some ⟨g, k - 20, none⟩) 20 (cap - (k - 20))) W := fun W => by
    have := cut_tail (A := ⟨g, 0, none⟩) (n := k) (c := cap) (lo := k - 20) (x := (k : Int) - 20) (by omega) (by omega) (by omega) W
    rw [if_neg (by omega), Addr.add_lit, Nat.zero_add, show k - (k - 20) = 20 by omega] at this
    exact this
  have HSL := Lib.hid hs2
  have hwr : IntKind.i64.wrap ((k : Int) - 20) = (k : Int) - 20 := by rw [IntKind.wrap_i64]; omega
  have HWR := Lib.hid hwr
  clear hs2 hwr hnc hcm hk
  go_enter Try.func70, Try.ntmps70
  go_upto_region 1 with (go_at_call 76; (with_reducible refine HS.out.mono ?_); rintro e w1 ⟨rfl, hf1⟩)
  have hb1 := hf1.below HO.out.1 HO.out.2.1
  have hs1' : base ≤ w1.heap.size := Nat.le_trans HO.out.2.1 hf1.only.size
  have hbs := hf1.own.form
  obtain ⟨A', c', e', -, -, -, hbs⟩ := hbs
  rw [HY.out.1] at e' hbs
  cases e'
  have HM := Lib.hid (mac_walk Ak (some ⟨g, 0, none⟩) nk ck (k - 24) cap ks (ys.take (k - 24)) w1.heap.size w1 ((HK.out.2.2.2.1.below hb1).more hs1') (hbs.head (by have := HO.out.2.2.2.2.2.1; omega)) (Nat.le_refl _) HK.out.1 HK.out.2.1 (by have := HO.out.2.2.2.1; have := HO.out.2.2.2.2.2.1; omega) HO.out.2.2.2.2.1 HK.out.2.2.2.2.1 (HY.out.2.1.take _) (by have := HK.out.2.2.2.2.2; omega) (by omega))
  have H1 := Lib.hid (And.intro hf1 (And.intro hb1 hs1'))
  clear hf1 hb1 hs1' hbs
  obtain ⟨T, hT⟩ : ∃ T, mac ks (ys.take (k - 24)) = T := ⟨_, rfl⟩
  have hTL : T.length = 20 := by rw [← hT]; have := (fit20_mac ks (ys.take (k - 24))).1; simpa [arr] using this
  rw [hT] at HM
  obtain ⟨R, hR⟩ : ∃ R, arr .u8 T = R := ⟨_, rfl⟩
  have hRS : R.size = 20 ∧ R.all (·.oneCell') = true := by rw [← hR]; exact ⟨by rw [arr_size]; exact hTL, arr_one _ _⟩
  rw [hR] at HM
  have HR := Lib.hid (And.intro hR (And.intro hRS (And.intro hT hTL)))
  clear hT hTL hR hRS
  obtain ⟨Z, hZ⟩ : ∃ Z, arr .u8 z20 = Z := ⟨_, rfl⟩
  have HZS : Hid (Z.size = 20) := Lib.hid (by rw [← hZ]; rfl)
  simp only [hZ] at hz
  clear hZ
  go_upto_region 2 with (first
    | (go_at_call 77; (with_reducible refine HM.out.mono ?_); rintro e w2 ⟨rfl, hb2⟩)
    | (refine wpList_store_whole rfl 81 (.tmp 4) (.tmp 13) rfl rfl rfl (Whole.new w2 81 Z) Try.info81 HR.out.2.1.1 HZS.out HR.out.2.1.2 ?_))
  have hbw : Below w2.heap.size w2 ((w2.alloc (.cells Z 81)).setRow w2.heap.size R) := below_row ((Below.refl _ w2).alloc (Nat.le_refl _) _) (Nat.le_refl _) _
  have hg3 : Whole ((w2.alloc (.cells Z 81)).setRow w2.heap.size R) w2.heap.size 81 R := (Whole.new w2 81 Z).row _
  have hb3 := hb2.trans (hbw.mono hb2.size)
  have H3 := Lib.hid (And.intro (H1.out.1.own.under hb3) (And.intro (H1.out.1.only.under hb3) hg3))
  clear hb2 hbw hg3 hb3 hs1
  generalize (w2.alloc (.cells Z 81)).setRow w2.heap.size R = W3 at *
  generalize w2.heap.size = g3 at *
  have hs2 := HSL.out
  have hwr := HWR.out
  have hbr : Bs W3 (g3 + 1) (some ⟨g3, 0, none⟩) 20 T := by
    have h1 := H3.out.2.2
    rw [← HR.out.1] at h1
    have := Bs.row h1 0 (Nat.zero_le _)
    rw [Nat.sub_zero, List.drop_zero, HR.out.2.2.2] at this
    exact this
  have HBR := Lib.hid hbr
  clear hbr
  refine wp_region_held_drew (S := fun _ => True) (by kernel_rfl) trivial (fun hHeld => ?_)
  refine wpAnyH_take (i := 0) (v := .slice (some ⟨g, 0, none⟩) k cap) rfl (by kernel_rfl) (by kernel_rfl) (by kernel_rfl) (fun _ _ _ h => h) (Or.inl ⟨by rfl, fun w h => by go_simp⟩) (by assumption) ?_
  simp only [Act.put, List.getElem_toArray, List.getElem_cons_succ, List.getElem_cons_zero, List.setIfInBounds_toArray, List.set_cons_succ, List.set_cons_zero]
  refine wpAnyH_take (i := 1) (v := .slice (some ⟨g, 0, none⟩) k cap) rfl (by kernel_rfl) (by kernel_rfl) (by kernel_rfl) (fun _ _ _ h => h) (Or.inl ⟨by rfl, fun w h => by go_simp⟩) (by assumption) ?_
  simp only [Act.put, List.getElem_toArray, List.getElem_cons_succ, List.getElem_cons_zero, List.setIfInBounds_toArray, List.set_cons_succ, List.set_cons_zero]
  refine wpAnyH_take (i := 2) (v := .int .i64 k) rfl (by kernel_rfl) (by kernel_rfl) (by kernel_rfl) (fun _ _ _ h => h) (Or.inl ⟨by rfl, fun w h => by go_simp⟩) (by assumption) ?_
  simp only [Act.put, List.getElem_toArray, List.getElem_cons_succ, List.getElem_cons_zero, List.setIfInBounds_toArray, List.set_cons_succ, List.set_cons_zero]
  refine wpAnyH_take (i := 3) (v := .int .i64 ((k : Int) - 20)) rfl (by kernel_rfl) (by kernel_rfl) (by kernel_rfl) (fun _ _ _ h => h) (Or.inl ⟨by rfl, fun w h => by go_simp⟩) (by assumption) ?_
  simp only [Act.put, List.getElem_toArray, List.getElem_cons_succ, List.getElem_cons_zero, List.setIfInBounds_toArray, List.set_cons_succ, List.set_cons_zero]
  refine wpAnyH_take (i := 4) (v := .slice (some ⟨g, k - 20, none⟩) 20 (cap - (k - 20))) rfl (by kernel_rfl) (by kernel_rfl) (by kernel_rfl) (fun _ _ _ h => h) (Or.inl ⟨by rfl, fun w h => by go_simp⟩) (by assumption) ?_
  simp only [Act.put, List.getElem_toArray, List.getElem_cons_succ, List.getElem_cons_zero, List.setIfInBounds_toArray, List.set_cons_succ, List.set_cons_zero]
  refine wpAnyH_take (i := 5) (v := .slice (some ⟨g3, 0, none⟩) 20 20) rfl (by kernel_rfl) (by kernel_rfl) (by kernel_rfl) (fun _ _ _ h => h) (Or.inl ⟨by rfl, fun w h => by go_simp⟩) (by assumption) ?_
  simp only [Act.put, List.getElem_toArray, List.getElem_cons_succ, List.getElem_cons_zero, List.setIfInBounds_toArray, List.set_cons_succ, List.set_cons_zero]
  clear hs2 hwr
  refine wpAnyH_ready (rs := [6]) (by kernel_rfl) (by simp) ?_
  refine AllReadyH.cons (i := 6) rfl (fun K hK => ?_) AllReadyH.nil
  refine step_of rfl (wp_copy8 (.tmp 18) (.tmp 19) rfl rfl rfl H3.out.1.drew HBR.out (by decide) (Nat.le_refl _) (by have := HO.out.2.2.2.2.2.1; omega) ?_)
  intro w4 hw4 ho4
  refine hK.out _ _ trivial (fun hHeld => ?_)
  clear hK K
  refine wpAnyH_done (by kernel_rfl) ?_ _
  have HF := Lib.hid (And.intro hw4 (H3.out.2.1.drew.next ho4 (fun j hj => .inl hj)))
  clear hw4 ho4 hHeld
  simp only [Act.put, List.getElem_toArray, List.getElem_cons_succ, List.getElem_cons_zero, List.setIfInBounds_toArray, List.set_cons_succ, List.set_cons_zero]
  go_end0
  refine ⟨rfl, ?_, HF.out.2⟩
  rw [HY.out.2.2, HR.out.2.2.1]
  exact HF.out.1

set_option maxHeartbeats 1600000 in
set_option maxRecDepth 100000 in
theorem fillCRC_any (g n cap base : Nat) (xs : List Int) (w : World) (h : Own8 w base (.slice (some ⟨g, 0, none⟩) n cap) xs) (hbase : base ≤ w.heap.size) (h28 : 28 ≤ n) (hm : n ≤ 2000) (hx : In256 xs) :
    Calls Try.prog 71 #[.slice (some ⟨g, 0, none⟩) n cap] w fun e w' => e = .returned (.tuple #[]) ∧ Filled w w' base g n cap (crcP xs n) := by
  have HS := Lib.hid (setLength_any g n cap n base xs w h (by omega) (Nat.le_refl _) hm)
  have hob := own8_block h
  have hgb := hob.2.1
  have hnc : n ≤ cap := by obtain ⟨cur, _, h1, _⟩ := hob.2.2; exact h1
  have hcm : cap ≤ maxLen := by obtain ⟨cur, _, _, h1, _⟩ := hob.2.2; exact h1
  have hnl := hob.1
  have HO := Lib.hid (And.intro hgb (And.intro hbase (And.intro hnl (And.intro hnc (And.intro hcm hx)))))
  clear hob hgb hbase hnl h
  obtain ⟨ys, hys⟩ : ∃ ys, splice xs 2 (be2 ((n : Int) - 20)) = ys := ⟨_, rfl⟩
  have hyl : ys.length = n := by rw [← hys, length_splice _ _ _ (by have := HO.out.2.2.1; simp; omega)]; exact HO.out.2.2.1.symm
  have hyx : In256 ys := by rw [← hys]; exact hx.splice (in256_be2 _)
  rw [hys] at HS
  have hmp : crcP xs n = splice ys (n - 4) (be4 (bits .xor .u32 (crc (ys.take (n - 8))) 1398035790)) := by unfold crcP; rw [hys]
  have HY := Lib.hid (And.intro hyl (And.intro hyx hmp))
  clear hys hyl hyx hmp hx
  have hs1 : ∀ W, (Instr.slice 22 (.slice (some ⟨g, 0, none⟩) n cap) none (some (.int .i64 ((n : Int) - 8))) none).run Try.prog W = .ok (.slice (some ⟨g, 0, none⟩) (n - 8) cap) W := fun W => cut_head (by omega) (by omega) W
  have hs2 : ∀ W, (Instr.slice 22 (.slice (some ⟨g, 0, none⟩) n cap) (some (.int .i64 ((n : Int) - 4))) none none).run Try.prog W = .ok (.slice (some ⟨g, n - 4, none⟩) 4 (cap - (n - 4))) W := fun W => by
    have := cut_tail (A := ⟨g, 0, none⟩) (n := n) (c := cap) (lo := n - 4) (x := (n : Int) - 4) (by omega) (by omega) (by omega) W
    rw [if_neg (by omega), Addr.add_lit, Nat.zero_add, show n - (n - 4) = 4 by omega] at this
    exact this
  have HSL := Lib.hid hs2
  clear hs2 hnc hcm
  go_enter Try.func71, Try.ntmps71
  go_upto_region 1 with (go_at_call 76; (with_reducible refine HS.out.mono ?_); rintro e w1 ⟨rfl, hf1⟩)
  have hs1' : base ≤ w1.heap.size := Nat.le_trans HO.out.2.1 hf1.only.size
  have hbs := hf1.own.form
  obtain ⟨A', c', e', -, -, -, hbs⟩ := hbs
  rw [HY.out.1] at e' hbs
  cases e'
  have HC := Lib.hid (crc_any (some ⟨g, 0, none⟩) (n - 8) cap (ys.take (n - 8)) w1.heap.size w1 (hbs.head (by omega)) (HY.out.2.1.take _) (by omega))
  have HP : Hid (∀ x W, Calls Try.prog 66 #[.slice none 0 0, .int .u32 x] W fun e w' => ∃ v', e = .returned v' ∧ Grew W.heap.size W w' (.slice none 0 0) v' ([] ++ be4 x)) := Lib.hid fun x W => put32_any x _ _ _ W (Own8.nil W _) (Nat.le_refl _) (by simp)
  have H1 := Lib.hid (And.intro hf1 hs1')
  clear hf1 hs1' hbs
  obtain ⟨q, hq⟩ : ∃ q, crc (ys.take (n - 8)) = q := ⟨_, rfl⟩
  rw [hq] at HC
  have HQ := Lib.hid hq
  clear hq
  go_upto_region 2 with (first
    | (go_at_call 78; (with_reducible refine HC.out.mono ?_); rintro e w2 ⟨rfl, rfl⟩)
    | (go_at_call 66; (with_reducible refine (HP.out _ _).mono ?_); rintro e w3 ⟨v3, rfl, h3⟩))
  have hb3 := h3.below (Own8.nil _ _) (Nat.le_refl _)
  have h3o := h3.own
  rw [List.nil_append] at h3o
  obtain ⟨A3, c3, rfl, hbs3⟩ := h3o.four
  have H3 := Lib.hid (And.intro (H1.out.1.own.under hb3) (And.intro (H1.out.1.only.under hb3) hbs3))
  clear h3 hb3 h3o hbs3 hs1
  have hs2 := HSL.out
  go_wp2_with (refine wpList_copy8 rfl (.tmp 19) (.tmp 20) rfl rfl rfl H3.out.1 H3.out.2.2 (by decide) (Nat.le_refl _) (by omega) ?_)
  intro w4 hw4 ho4
  have HF := Lib.hid (And.intro hw4 (H3.out.2.1.next ho4 (fun j hj => .inl hj)))
  clear hw4 ho4 hs2
  go_wp2
  go_end0
  refine ⟨rfl, ?_, HF.out.2⟩
  rw [HY.out.2.2, HQ.out]
  exact HF.out.1
end Go.Proofs.Yteloaidnfcmadaa
