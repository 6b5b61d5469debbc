/- What the document's HMAC leans on: its two messages hashed, copy at a step of a region. -/
import Derived.Test.YteloaidnfcmadaaRSumA
import Derived.Test.YteloaidnfcmadaaRSum
namespace Go.Proofs.Yteloaidnfcmadaa
open Go.RowKit
set_option linter.unusedVariables false

theorem step_copy_arr {w : World} {ops : Array Oper} {o : Oper} {a : Act} {K : Act → World → Prop} {Q : Exit → Act → World → Prop} {E : Prop} (hgd : o.guard = none) (d s : Operand)
    (ho : o.op = .call { callee := .builtin .copy, args := #[d, s], argTypes := #[22, 22] }) {g off dLen dCap sLen sCap : Nat} {sp : Option Addr} (hd : a.eval d = .slice (some ⟨g, off, none⟩) dLen dCap) (hs : a.eval s = .slice sp sLen sCap)
    {t : TypeId} {ys xs : List Int} (hg : Whole w g t (arr .u8 ys)) {B' : Nat} (hsrc : Bs w B' sp sLen xs) (hfit : off + dLen ≤ ys.length) {B : Nat} {w0 : World} (hb : Below B w0 w) (hBg : B ≤ g) {m : Nat} (hm : m = Nat.min sLen dLen)
    (h : ∀ w', Hid (Whole w' g t (arr .u8 (splice ys off (xs.take m)))) → Below B w0 w' → K (a.put o.dst (goInt m)) w') :
    if Region.wanted o (yielded ops a.tmps) = true then Oper.wp Try.prog o a w K Q else E := by
  have m1 : m ≤ sLen := by rw [hm]; exact Nat.min_le_left _ _
  have m2 : m ≤ dLen := by rw [hm]; exact Nat.min_le_right _ _
  have hx := hsrc.1
  have hl : ((xs.take m).map (Value.int .u8)).length = m := by
    simp only [List.length_map, List.length_take]
    omega
  refine step_copy_splice hgd d s 22 22 ho 5 Try.underlying22 Try.sizeByte (some ⟨g, off, none⟩) sp dLen dCap sLen sCap hd hs g off (ys.map (Value.int .u8)) t hg ((xs.take m).map (Value.int .u8)) (hl.trans hm) ?_ ?_ ?_ B w0 hb hBg ?_
  · intro h0
    rw [hl] at h0
    obtain ⟨ad, h2, _, h3⟩ := hsrc.2 (by omega)
    refine ⟨rfl, ad, h2, fun j v hj => ?_⟩
    have hjl : j < m := by
      have := (List.getElem?_eq_some_iff.1 hj).1
      rwa [hl] at this
    rw [h3 j (by omega), ← hj]
    simp [List.getD, hjl, show j < xs.length by omega]
  · rw [hl, List.length_map]
    omega
  · intro v hv
    obtain ⟨x, _, rfl⟩ := List.mem_map.1 hv
    rfl
  · intro w' h1 h2
    have h1' := h1.out
    rw [splice_map] at h1'
    rw [hl]
    exact h w' (Lib.hid h1') h2

theorem blks_more (s : S5) (K r : List Int) (hK : K.length = 64) (j : Nat) : blks s (K ++ r) (j + 1) = blks (blk s K) r j := by
  induction j with
  | zero =>
    rw [blks, blks, blks]
    refine blk_congr _ _ _ fun i hi => ?_
    rw [getD_drop, getD_append, if_pos (by omega)]
    congr 1
    omega
  | succ j ih =>
    rw [blks, ih, blks]
    congr 1
    have e : 64 * (j + 1) = K.length + 64 * j := by omega
    rw [e, List.drop_append]
    simp

theorem padT_64 (n T : Nat) : padT (64 + n) T = padT n T := by
  have e : (64 + n) % 64 = n % 64 := by omega
  rw [padT, padT, e]

/-- A block ahead of a message, hashed. -/
theorem sha_ahead (K msg : List Int) (hK : K.length = 64) : sha (K ++ msg) = shaFrom (blk s0 K) 64 msg := by
  unfold sha shaFrom
  have hl : (K ++ msg).length = 64 + msg.length := by rw [List.length_append, hK]
  rw [hl, padT_64, Nat.zero_add, List.append_assoc]
  have e : (64 + msg.length + 9 + (119 - (64 + msg.length) % 64) % 64) / 64 = (msg.length + 9 + (119 - msg.length % 64) % 64) / 64 + 1 := by omega
  rw [e, blks_more s0 K _ hK]

/-- The key's block under a mask, j of its bytes. -/
def maskN (K : List Int) (mask : Int) (j : Nat) : List Int := (List.range j).map fun i => bits .xor .u8 (K.getD i 0) mask
@[simp] theorem maskN_length (K : List Int) (mask : Int) (j : Nat) : (maskN K mask j).length = j := by simp [maskN]
theorem maskN_succ (K : List Int) (mask : Int) (j : Nat) : maskN K mask (j + 1) = maskN K mask j ++ [bits .xor .u8 (K.getD j 0) mask] := by
  simp [maskN, List.range_succ]
theorem keyB_getD (ks : List Int) (mask : Int) (h : ks.length ≤ 64) {K0 : List Int} (hK : keyB ks mask 0 = K0) (j i : Nat) (hi : i < 64) : (keyB ks mask j).getD i 0 = if i < j then bits .xor .u8 (K0.getD i 0) mask else K0.getD i 0 := by
  induction j with
  | zero => rw [if_neg (by omega), hK]
  | succ j ih =>
    have e0 : keyB ks mask (j + 1) = (keyB ks mask j).set j (bits .xor .u8 ((keyB ks mask j).getD j 0) mask) := rfl
    rw [e0, getD_set, keyB_length ks mask j h]
    by_cases e : j = i
    · subst e
      rw [if_pos ⟨rfl, hi⟩, ih, if_neg (by omega), if_pos (by omega)]
    · rw [if_neg (by omega), ih]
      by_cases h2 : i < j
      · rw [if_pos h2, if_pos (by omega)]
      · rw [if_neg h2, if_neg (by omega)]
theorem maskN_key (ks : List Int) (mask : Int) (h : ks.length ≤ 64) : maskN (ks ++ List.replicate (64 - ks.length) 0) mask 64 = keyB ks mask 64 := by
  apply ext_getD
  · rw [maskN_length, keyB_length ks mask 64 h]
  · intro i hi
    rw [maskN_length] at hi
    rw [keyB_getD ks mask h rfl 64 i hi, if_pos hi]
    simp [maskN, List.getD, hi, keyB]
theorem macOf_sha (ks msg : List Int) (h : ks.length ≤ 64) :
    macOf ks msg = sha (keyB ks 92 64 ++ sha (keyB ks 54 64 ++ msg)) := by
  rw [sha_ahead _ _ (keyB_length ks 54 64 h), sha_ahead _ _ (keyB_length ks 92 64 h)]
  rfl

/-- The two messages so far. -/
structure MAt (w : World) (K I O : List Int) (vi vo : Value) (wr : World) : Prop where
  own1 : Own8 wr w.heap.size vi I
  own2 : Own8 wr w.heap.size vo O
  apart : ∀ k, vi.ownBlock = some k → vo.ownBlock ≠ some k
  key : Whole wr (w.heap.size + 1) 106 (arr .u8 K)
  new : New20 wr w.heap.size
  below : Below w.heap.size w wr
theorem MAt.alloc {w : World} {K I O : List Int} {vi vo : Value} {wr : World} (h : MAt w K I O vi vo wr) (o : Obj) : MAt w K I O vi vo (wr.alloc o) :=
  ⟨h.own1.alloc o, h.own2.alloc o, h.apart, h.key.alloc o, Whole.alloc h.new o, h.below.alloc h.below.size o⟩
theorem MAt.under {w : World} {K I O : List Int} {vi vo : Value} {wr w' : World} (h : MAt w K I O vi vo wr) (hb : Below wr.heap.size wr w') : MAt w K I O vi vo w' :=
  ⟨h.own1.under hb, h.own2.under hb, h.apart, h.key.under hb, Whole.under h.new hb, h.below.trans (hb.mono h.below.size)⟩
theorem MAt.inner {w : World} {K I O I' : List Int} {vi vo vi' : Value} {wr w' : World} (h : MAt w K I O vi vo wr) (ho : Own8 w' w.heap.size vi' I') (hg : wr.grownBy w' vi.ownBlock) (hat : vi'.ownBlock = vi.ownBlock ∨ vi'.ownBlock = some wr.heap.size) : MAt w K I' O vi' vo w' := by
  have hne : vo.ownBlock = none ∨ vo.ownBlock ≠ vi.ownBlock := by
    cases e : vi.ownBlock with
    | none =>
      cases e2 : vo.ownBlock with
      | none => exact .inl rfl
      | some k => exact .inr (fun q => by cases q)
    | some k => exact .inr (h.apart k e)
  refine ⟨ho, h.own2.grown hg hne, fun k hk e => ?_, h.key.grown hg (Ne.symm (own8_neR h.own1 h.key (by decide))), Whole.grown h.new hg (Ne.symm (own8_neR h.own1 h.new (by decide))), h.below.grown hg h.below.size (fun k hk => (h.own1.lt hk).1)⟩
  rcases hat with q | q
  · exact h.apart k (q.symm.trans hk) e
  · rw [q] at hk
    cases hk
    have := (h.own2.lt e).2
    omega
theorem MAt.outer {w : World} {K I O O' : List Int} {vi vo vo' : Value} {wr w' : World} (h : MAt w K I O vi vo wr) (ho : Own8 w' w.heap.size vo' O') (hg : wr.grownBy w' vo.ownBlock) (hat : vo'.ownBlock = vo.ownBlock ∨ vo'.ownBlock = some wr.heap.size) : MAt w K I O' vi vo' w' := by
  have hne : vi.ownBlock = none ∨ vi.ownBlock ≠ vo.ownBlock := by
    cases e : vi.ownBlock with
    | none => exact .inl rfl
    | some k => exact .inr (Ne.symm (h.apart k e))
  refine ⟨h.own1.grown hg hne, ho, fun k hk e => ?_, h.key.grown hg (Ne.symm (own8_neR h.own2 h.key (by decide))), Whole.grown h.new hg (Ne.symm (own8_neR h.own2 h.new (by decide))), h.below.grown hg h.below.size (fun k hk => (h.own2.lt hk).1)⟩
  rcases hat with q | q
  · exact h.apart k hk (q.symm.trans e)
  · rw [q] at e
    cases e
    have := (h.own1.lt hk).2
    omega

end Go.Proofs.Yteloaidnfcmadaa

namespace Go.Proofs.Yteloaidnfcmadaa
open Go.RowKit
set_option linter.unusedVariables false

/-- The key is short, and lies in its block. -/
structure RKey (w : World) (ks ms ks' : List Int) (R : Array Value) (wc : World) : Prop where
  key : Whole wc (w.heap.size + 1) 106 (arr .u8 (ks' ++ List.replicate (64 - ks'.length) 0))
  short : ks'.length ≤ 64
  in8 : ∀ i, 0 ≤ ks'.getD i 0 ∧ ks'.getD i 0 < 256
  res : R = arr .u8 (macOf ks' ms)
  new : New20 wc w.heap.size
  below : Below w.heap.size w wc

theorem splice_key (ks : List Int) (n : Nat) (hl : ks.length = n) (hn : n ≤ 64) : splice z64 0 (ks.take n) = ks ++ List.replicate (64 - ks.length) 0 := by
  rw [List.take_of_length_le (by omega)]
  have hd : List.drop ks.length z64 = List.replicate (64 - ks.length) 0 := by rw [z64, List.drop_replicate]
  simp only [splice, List.take_zero, List.nil_append, Nat.zero_add, hd]

set_option maxHeartbeats 3200000 in
set_option maxRecDepth 100000 in
theorem rmac_any (Ak Am : Option Addr) (nk ck nm cm : Nat) (ks ms : List Int) (w : World) (hk : In8 w Ak nk ck ks) (hm : In8 w Am nm cm ms) (rk : nk ≤ 140737488351232) (rm : nm ≤ 140737488351232) :
    Calls Try.prog 32 #[.slice Ak nk ck, .slice Am nm cm] w fun e w' => e = .returned (.agg (arr .u8 (mac ks ms))) ∧ Below w.heap.size w w' := by
  have hz := Try.zero81
  have hz6 := Try.zero106
  have hF : Fit20 (arr .u8 (mac ks ms)) := fit20_mac _ _
  obtain ⟨R, hR⟩ : ∃ R, arr .u8 (mac ks ms) = R := ⟨_, rfl⟩
  rw [hR] at hF ⊢
  have HR := Lib.hid (And.intro hR hF)
  have HK := Lib.hid hk
  have HM := Lib.hid hm
  clear hk hm hR hF
  go_enter Try.func32, Try.ntmps32
  go_upto_if 13 with fail
  obtain ⟨W, hW⟩ : ∃ W, (w.alloc (.cells (arr .u8 z20) 81)).alloc (.cells (arr .u8 z64) 106) = W := ⟨_, rfl⟩
  have hb0 : Below w.heap.size w W := by rw [← hW]; exact two_new _ _ _ _
  have hn0 : New20 W w.heap.size := by rw [← hW]; exact (Whole.new _ _ _).alloc _
  have hk0 : Whole W (w.heap.size + 1) 106 (arr .u8 z64) := by rw [← hW]; exact Whole.new2 _ _ _ _
  have H0 := Lib.hid (And.intro hb0 (And.intro hn0 hk0))
  rw [hW]
  clear hb0 hn0 hk0 hW
  go_cut [6, 13] from 14 to 21 (fun s6 s13 wc => ∃ ks', RKey w ks ms ks' R wc)
  case first =>
    by_cases h64 : 64 < nk
    · have h64' : (64 : Int) < (nk : Int) := by omega
      have HS := Lib.hid (rsum_any Ak nk ck ks W ⟨HK.out.bytes.below H0.out.1 |>.more H0.out.1.size, HK.out.fits, HK.out.most, HK.out.none, HK.out.in8⟩ (by omega))
      have hF2 : Fit20 (arr .u8 (sha ks)) := fit20_sha _
      obtain ⟨R2, hR2⟩ : ∃ R2, arr .u8 (sha ks) = R2 := ⟨_, rfl⟩
      rw [hR2] at HS hF2
      have HR2 := Lib.hid (And.intro hR2 hF2)
      clear hR2 hF2
      go_upto_region 4 with (first
        | (go_at_call 52; (with_reducible refine HS.out.mono ?_); rintro e w1 ⟨rfl, hb1⟩)
        | (refine wpList_store_whole rfl 81 (.tmp 6) (.tmp 15) rfl rfl rfl (Whole.new _ _ _) Try.info81 HR2.out.2.1 (by rfl) HR2.out.2.2 ?_))
      have hB2 : Below W.heap.size W ((w1.alloc (.cells (arr .u8 z20) 81)).setRow w1.heap.size R2) := hb1.trans ((below_row ((Below.refl _ w1).alloc (Nat.le_refl _) _) (Nat.le_refl _) _ : Below w1.heap.size w1 _).mono hb1.size)
      have hsrc : Bs ((w1.alloc (.cells (arr .u8 z20) 81)).setRow w1.heap.size R2) (w1.heap.size + 1) (some ⟨w1.heap.size, 0, none⟩) 20 (sha ks) := by
        have hl : (sha ks).length = 20 := by have := (fit20_sha ks).1; rwa [arr_size] at this
        have hW2 : Whole ((w1.alloc (.cells (arr .u8 z20) 81)).setRow w1.heap.size R2) w1.heap.size 81 (arr .u8 (sha ks)) := by rw [HR2.out.1]; exact Whole.row (Whole.new _ _ _) _
        have hB := Bs.row hW2 0 (Nat.zero_le _)
        rwa [Nat.sub_zero, List.drop_zero, hl] at hB
      obtain ⟨V, hV⟩ : ∃ V, (w1.alloc (.cells (arr .u8 z20) 81)).setRow w1.heap.size R2 = V := ⟨_, rfl⟩
      rw [hV] at hB2 hsrc ⊢
      have HV := Lib.hid (And.intro hB2 hsrc)
      clear hV hB2 hsrc hb1 HS
      go_region_law ((refine step_copy_arr rfl (.tmp 16) (.tmp 17) rfl rfl rfl (ys := z64) (xs := sha ks) (Whole.drew (H0.out.2.2.under HV.out.1)) (w := V.drew) HV.out.2 (by decide) (Below.refl (w.heap.size + 1) _) (Nat.le_refl _) (m := 20) rfl ?_; intro w3 H1 hb3))
      all_goals (go_wp2; go_meet)
      all_goals
        have h1 := H1.out
        have hl : (sha ks).length = 20 := by have := (fit20_sha ks).1; rwa [arr_size] at this
        rw [splice_key (sha ks) 20 hl (by omega)] at h1
        have hbV : Below w.heap.size w V := H0.out.1.trans (HV.out.1.mono H0.out.1.size)
        refine ⟨sha ks, h1, by omega, sha_in8 _, ?_, Whole.below (Whole.drew (Whole.under H0.out.2.1 HV.out.1)) hb3 (Nat.lt_succ_self _), hbV.drew.trans (hb3.mono (Nat.le_succ _))⟩
        rw [← HR.out.1, mac, if_pos (by rw [HK.out.bytes.1]; exact h64)]
    · have h64' : ¬ (64 : Int) < (nk : Int) := by omega
      have HL := Lib.hid (HK.out.bytes.1)
      have HQ : Hid (nk = Nat.min nk 64) := Lib.hid (Nat.min_eq_left (by omega)).symm
      go_wp2_with (refine wpList_copy_arr rfl (.tmp 19) (.tmp 20) rfl rfl rfl (ys := z64) (xs := ks) H0.out.2.2 (HK.out.bytes.below H0.out.1) (by decide) (Below.refl (w.heap.size + 1) _) (Nat.le_refl _) HQ.out ?_; intro w1 H1 hb1)
      go_meet
      have h1 := H1.out
      rw [splice_key ks nk HL.out (by omega)] at h1
      refine ⟨ks, h1, by have := HL.out; omega, HK.out.in8, ?_, Whole.below H0.out.2.1 hb1 (Nat.lt_succ_self _), H0.out.1.trans (hb1.mono (Nat.le_succ _))⟩
      rw [← HR.out.1, mac, if_neg (by rw [HL.out]; omega)]
  case rest =>
    obtain ⟨ks', hK⟩ := hcut
    obtain ⟨K, hKe⟩ : ∃ K, ks' ++ List.replicate (64 - ks'.length) 0 = K := ⟨_, rfl⟩
    have hkey := hK.key
    rw [hKe] at hkey
    have hKl : K.length = 64 := by rw [← hKe]; have := hK.short; simp; omega
    have h0 : MAt w K (maskN K 54 0) (maskN K 92 0) (.slice none 0 0) (.slice none 0 0) wc := ⟨Own8.nil _ _, Own8.nil _ _, (fun k e => by cases e), hkey, hK.new, hK.below⟩
    have H1 := Lib.hid h0
    have H2 := Lib.hid (And.intro hKe (And.intro hK.short (And.intro hK.in8 (And.intro hK.res hKl))))
    clear h0 hkey hKl hKe hK H0
    go_wp2_with fail
    go_loopw [7, 8, 22] (fun s7 s8 s22 wr => ∃ i A1 c1 A2 c2, i ≤ 64 ∧ s22 = .int .i64 (i : Nat) ∧ s7 = .slice A1 i c1 ∧ s8 = .slice A2 i c2 ∧ MAt w K (maskN K 54 i) (maskN K 92 i) s7 s8 wr) (fun _ _ s22 _ => 64 - (intOf s22).toNat)
    case atStart => exact ⟨0, _, _, _, _, by omega, rfl, rfl, rfl, H1.out⟩
    case round =>
      clear H1
      obtain ⟨i, A1, c1, A2, c2, hi, rfl, rfl, rfl, hT⟩ := hrel
      by_cases hi64 : i < 64
      · have e1 := hT.key.at_ (i := i) (by rw [H2.out.2.2.2.2]; exact hi64)
        obtain ⟨y, hy⟩ : ∃ y, K.getD i 0 = y := ⟨_, rfl⟩
        rw [hy] at e1
        have bi : (i : Int) < 64 := by omega
        have hs1 : maskN K 54 i ++ [bits .xor .u8 y 54] = maskN K 54 (i + 1) := by rw [maskN_succ, hy]
        have hs2 : maskN K 92 i ++ [bits .xor .u8 y 92] = maskN K 92 (i + 1) := by rw [maskN_succ, hy]
        have HT := Lib.hid hT
        have HS := Lib.hid (And.intro hs1 (And.intro hs2 hy))
        clear hT hs1 hs2 hy
        go_wp2_with (at_builtin; go_must (refine wpList_append8 rfl (.tmp 25) (.tmp 30) rfl rfl (HT.out.own1.alloc _) rfl (Bs.one wr (bits .xor .u8 y 54)) (fun e => by cases e) (by rw [maskN_length]; omega) (by have := HT.out.below.size; simp; omega) ?_))
        intro v2 w2 hO2 hg2 hat2
        rw [HS.out.1] at hO2
        have hT2 := (HT.out.alloc _).inner hO2 hg2 (by rw [World.size_alloc]; exact hat2)
        obtain ⟨A3, c3, hv, _⟩ := hT2.own1.form
        rw [maskN_length] at hv
        subst hv
        have e2 := hT2.key.at_ (i := i) (by rw [H2.out.2.2.2.2]; exact hi64)
        rw [HS.out.2.2] at e2
        have HT2 := Lib.hid hT2
        clear hT2 hO2 hg2 hat2 e1 HT
        go_wp2_with (at_builtin; go_must (refine wpList_append8 rfl (.tmp 32) (.tmp 37) rfl rfl (HT2.out.own2.alloc _) rfl (Bs.one w2 (bits .xor .u8 y 92)) (fun e => by cases e) (by rw [maskN_length]; omega) (by have := HT2.out.below.size; simp; omega) ?_))
        intro v3 w3 hO3 hg3 hat3
        rw [HS.out.2.1] at hO3
        have hT3 := (HT2.out.alloc _).outer hO3 hg3 (by rw [World.size_alloc]; exact hat3)
        obtain ⟨A4, c4, hv, _⟩ := hT3.own2.form
        rw [maskN_length] at hv
        subst hv
        have HT3 := Lib.hid hT3
        clear hT3 hO3 hg3 hat3 HT2
        go_wp2
        go_roundw
        case rel => exact ⟨i + 1, _, _, _, _, by omega, by go_num, rfl, rfl, HT3.out⟩
        case measure => simp [intOf]; omega
      · obtain rfl : i = 64 := by omega
        rw [show ((64 : Nat) : Int) = 64 from rfl]
        have hm54 : maskN K 54 64 = keyB ks' 54 64 := by rw [← H2.out.1]; exact maskN_key ks' 54 H2.out.2.1
        have hm92 : maskN K 92 64 = keyB ks' 92 64 := by rw [← H2.out.1]; exact maskN_key ks' 92 H2.out.2.1
        rw [hm54, hm92] at hT
        have HT := Lib.hid hT
        have HL := Lib.hid (And.intro HM.out.bytes.1 (And.intro (keyB_length ks' 54 64 H2.out.2.1) (keyB_length ks' 92 64 H2.out.2.1)))
        clear hT hm54 hm92
        go_wp2_with (at_builtin; go_must (refine wpList_append8 rfl (.tmp 40) (.tmp 41) rfl rfl HT.out.own1 rfl (HM.out.bytes.below HT.out.below) HM.out.none (by have := HL.out.2.1; omega) HT.out.below.size ?_))
        intro v2 w2 hO2 hg2 hat2
        have hT2 := HT.out.inner hO2 hg2 hat2
        obtain ⟨A3, c3, hv, f3, m3, n3, b3⟩ := hT2.own1.form
        have hl2 : (keyB ks' 54 64 ++ ms).length = 64 + nm := by rw [List.length_append, HL.out.2.1, HL.out.1]
        rw [hl2] at hv f3 b3
        subst hv
        have hin : ∀ i, 0 ≤ (keyB ks' 54 64 ++ ms).getD i 0 ∧ (keyB ks' 54 64 ++ ms).getD i 0 < 256 := append_in8 (keyB_in8 ks' 54 H2.out.2.2.1 (by omega) 64) HM.out.in8
        have HS1 := Lib.hid (rsum_any A3 (64 + nm) c3 (keyB ks' 54 64 ++ ms) w2 ⟨b3, f3, m3, n3, hin⟩ (by omega))
        have hf1 : Fit20 (arr .u8 (sha (keyB ks' 54 64 ++ ms))) := fit20_sha _
        obtain ⟨R1, hR1⟩ : ∃ R1, arr .u8 (sha (keyB ks' 54 64 ++ ms)) = R1 := ⟨_, rfl⟩
        rw [hR1] at HS1 hf1
        have HT2 := Lib.hid (And.intro hT2 (And.intro hR1 hf1))
        clear hT2 hO2 hg2 hat2 hR1 hf1 hin f3 m3 n3 b3 hl2 HT
        go_upto_region 14 with (first
          | (go_at_call 52; (with_reducible refine HS1.out.mono ?_); rintro e w3 ⟨rfl, hb3⟩)
          | (refine wpList_store_whole rfl 81 (.tmp 10) (.tmp 43) rfl rfl rfl (Whole.new _ _ _) Try.info81 HT2.out.2.2.1 (by rfl) HT2.out.2.2.2 ?_))
        have hb4 : Below w2.heap.size w2 ((w3.alloc (.cells (arr .u8 z20) 81)).setRow w3.heap.size R1) := hb3.trans ((below_row ((Below.refl _ w3).alloc (Nat.le_refl _) _) (Nat.le_refl _) _ : Below w3.heap.size w3 _).mono hb3.size)
        have hl : (sha (keyB ks' 54 64 ++ ms)).length = 20 := by have := (fit20_sha (keyB ks' 54 64 ++ ms)).1; rwa [arr_size] at this
        have hsrc : Bs ((w3.alloc (.cells (arr .u8 z20) 81)).setRow w3.heap.size R1) (w3.heap.size + 1) (some ⟨w3.heap.size, 0, none⟩) 20 (sha (keyB ks' 54 64 ++ ms)) := by
          have hW2 : Whole ((w3.alloc (.cells (arr .u8 z20) 81)).setRow w3.heap.size R1) w3.heap.size 81 (arr .u8 (sha (keyB ks' 54 64 ++ ms))) := by rw [HT2.out.2.1]; exact Whole.row (Whole.new _ _ _) _
          have hB := Bs.row hW2 0 (Nat.zero_le _)
          rwa [Nat.sub_zero, List.drop_zero, hl] at hB
        obtain ⟨V, hV⟩ : ∃ V, (w3.alloc (.cells (arr .u8 z20) 81)).setRow w3.heap.size R1 = V := ⟨_, rfl⟩
        rw [hV] at hb4 hsrc ⊢
        have hT4 := HT2.out.1.under hb4
        have HV := Lib.hid (And.intro hT4 (And.intro hsrc hl))
        clear hV hb4 hsrc hT4 hl hb3 HS1
        go_wp2_with (at_builtin; go_must (refine wpList_append8 rfl (.tmp 44) (.tmp 45) rfl rfl HV.out.1.own2 rfl HV.out.2.1 (fun e => by cases e) (by have := HL.out.2.2; omega) HV.out.1.below.size ?_))
        intro v5 w5 hO5 hg5 hat5
        have hT5 := HV.out.1.outer hO5 hg5 hat5
        obtain ⟨A5, c5, hv, f5, m5, n5, b5⟩ := hT5.own2.form
        have hl5 : (keyB ks' 92 64 ++ sha (keyB ks' 54 64 ++ ms)).length = 84 := by rw [List.length_append, HL.out.2.2, HV.out.2.2]
        rw [hl5] at hv f5 b5
        subst hv
        have hin : ∀ i, 0 ≤ (keyB ks' 92 64 ++ sha (keyB ks' 54 64 ++ ms)).getD i 0 ∧ (keyB ks' 92 64 ++ sha (keyB ks' 54 64 ++ ms)).getD i 0 < 256 := append_in8 (keyB_in8 ks' 92 H2.out.2.2.1 (by omega) 64) (sha_in8 _)
        have hS5 := rsum_any A5 84 c5 (keyB ks' 92 64 ++ sha (keyB ks' 54 64 ++ ms)) w5 ⟨b5, f5, m5, n5, hin⟩ (by omega)
        rw [← macOf_sha ks' ms H2.out.2.1, ← H2.out.2.2.2.1] at hS5
        have HS5 := Lib.hid hS5
        have HT5 := Lib.hid hT5
        clear hT5 hO5 hg5 hat5 hin f5 m5 n5 b5 hl5 hS5
        go_wp2_with (first
          | (go_at_call 52; (with_reducible refine HS5.out.mono ?_); rintro e w6 ⟨rfl, hb6⟩)
          | (refine wpList_store_whole rfl 81 (.tmp 4) (.tmp 47) rfl rfl rfl (Whole.under HT5.out.new hb6) Try.info81 HR.out.2.1 (by rfl) HR.out.2.2 ?_))
        refine bodyPost_ret (v := .agg R) ?_ rfl ?_
        · exact ret_whole (g := w.heap.size) rfl rfl (Whole.row (Whole.under HT5.out.new hb6) _) Try.underlying81 Try.info81 HR.out.2.1
        · exact ⟨rfl, below_row (HT5.out.below.trans (hb6.mono HT5.out.below.size)) (Nat.le_refl _) _⟩

end Go.Proofs.Yteloaidnfcmadaa
