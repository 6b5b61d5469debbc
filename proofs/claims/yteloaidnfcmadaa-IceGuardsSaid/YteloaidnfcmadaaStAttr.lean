/- readAttr: an attribute is read. -/
import Derived.Test.YteloaidnfcmadaaStAttrP
import Derived.Test.YteloaidnfcmadaaStCells
namespace Go.Proofs.Yteloaidnfcmadaa
open Go.RowKit
set_option linter.unusedVariables false

/-- An attribute's two cells. -/
def av (t : Int) (v : Value) : Array Value := #[.int .u16 t, v]
theorem Try.zeroAttr (w : World) : (zeroValue 92).run Try.prog w = .ok (.agg #[.int .u16 0, .slice none 0 0]) w := by kernel_rfl

theorem below_cells_at {g k : Nat} (hk : g ≠ k) : ∀ (vs : List Value) (o : Nat) (w : World), (w.setCells g o vs).heap[k]? = w.heap[k]?
  | [], _, _ => rfl
  | v :: r, o, w => (below_cells_at hk r (o + 1) _).trans (Below.heap_setCell w ⟨g, o, none⟩ v k (Ne.symm hk))
theorem Own8.only {w w' : World} {base : Nat} {v : Value} {xs : List Int} (h : Own8 w base v xs) {S : Nat → Prop} (k : Only S w w') (hS : ∀ j, S j → j < base) : Own8 w' base v xs := by
  refine ⟨h.1, ?_⟩
  rcases h.2 with h0 | ⟨g, cap, cur, h1, h2, h3, h4⟩
  · exact .inl h0
  · exact .inr ⟨g, cap, cur, h1, h2, k.same h3 (fun e => by have := hS g e; omega), h4⟩
/-- What is known while an attribute is read. -/
structure At2 (w : World) (N b g : Nat) (T : Int) (u : Value) (xs : List Int) (bad : Bool) (wr : World) : Prop where
  res : Whole wr N 92 #[.int .u16 0, .slice none 0 0]
  cur : Whole wr g 92 #[.int .u16 T, u]
  rd : ∃ v, RdV wr b v xs bad
  only : Only (fun k => k = b) w wr
  bN : b < N
  Ng : N < g
  wN : w.heap.size = N
section
variable {w wr w' : World} {N b g : Nat} {T : Int} {u u' : Value} {xs ys : List Int} {bad bad' : Bool}
theorem At2.step (h : At2 w N b g T u xs bad wr) (hr : ∃ v, RdV w' b v ys bad') (ho : Only (fun k => k = b) wr w') : At2 w N b g T u ys bad' w' :=
  ⟨h.res.only ho (by have := h.bN; omega), h.cur.only ho (by have := h.bN; have := h.Ng; omega), hr, h.only.next ho (fun j hj => .inl hj), h.bN, h.Ng, h.wN⟩
theorem At2.set (h : At2 w N b g T u xs bad wr) (u' : Value) : At2 w N b g T u' xs bad (wr.setCell ⟨g, 1, none⟩ u') := by
  have h1 := h.bN
  have h2 := h.Ng
  have h3 := h.wN
  obtain ⟨v, hr⟩ := h.rd
  refine ⟨h.res.far (p := ⟨g, 1, none⟩) (by show N ≠ g; omega) _, h.cur.set 1 u', ⟨v, ?_⟩, h.only.setCell (p := ⟨g, 1, none⟩) (.inr (by show w.heap.size ≤ g; omega)) _, h1, h2, h3⟩
  exact hr.next ((Below.refl _ wr).setCell (p := ⟨g, 1, none⟩) (by show b + 1 ≤ g; omega) _)
theorem At2.drewN (h : At2 w N b g T u xs bad wr) (n : Nat) : At2 w N b g T u xs bad (wr.drewN n) :=
  ⟨h.res.drewN n, h.cur.drewN n, h.rd.elim fun v hr => ⟨v, hr.block.drewN n, hr.rest.below (below_drewN' (Below.refl _ _) n)⟩, h.only.drewN n, h.bN, h.Ng, h.wN⟩
theorem At2.done (h : At2 w N b g T u xs bad wr) (cs : Array Value) : Whole (wr.setRow N cs) N 92 cs ∧ (∃ v, RdV (wr.setRow N cs) b v xs bad) ∧ Only (fun k => k = b) w (wr.setRow N cs) := by
  have h1 := h.bN
  have h3 := h.wN
  obtain ⟨v, hr⟩ := h.rd
  have hb : Below N wr (wr.setRow N cs) := below_row (Below.refl _ wr) (Nat.le_refl _) cs
  refine ⟨h.res.row cs, ⟨v, hr.next (hb.mono (by omega))⟩, h.only.next (T := fun k => k = N) ⟨hb.os, hb.tape, hb.output, hb.size, fun k hk hn => setRow_other wr N k cs hn⟩ (fun j hj => .inr (by omega))⟩
end

theorem attr_one (x : Int) (A : Option Addr) (n c : Nat) : (#[Value.int .u16 x, .slice A n c] : Array Value).all (·.oneCell') = true :=
  all_oneCell_toArray (cs := [.int .u16 x, .slice A n c]) (by
    intro v hv
    simp only [List.mem_cons, List.not_mem_nil, or_false] at hv
    rcases hv with rfl | rfl <;> rfl)
/-- The reader behind an attribute. -/
def After (w' : World) (b : Nat) (xs : List Int) : Prop := ∃ v2 r q, RdV w' b v2 r q ∧ In256 r ∧ (rOk xs = true → r = x4 xs ∧ q = false)

set_option maxHeartbeats 3200000 in
set_option maxRecDepth 100000 in
theorem readAttr_any (b : Nat) (v : Value) (xs : List Int) (w : World) (h : RdV w b v xs false) (hx : In256 xs) :
    Calls Try.prog 40 #[.pointer (some ⟨b, 0, none⟩)] w fun e w' => ∃ v1, e = .returned (.tuple #[.agg #[.int .u16 (rT xs : Nat), v1], .bool (rOk xs)]) ∧ Own8 w' w.heap.size v1 (rV xs) ∧ After w' b xs ∧ Only (fun k => k = b) w w' := by
  have hbl := h.block.lt
  have HU : Hid (∀ W v xs bad, RdV W b v xs bad → In256 xs → Calls Try.prog 54 #[.pointer (some ⟨b, 0, none⟩)] W fun e w' => e = .returned (.int .u16 (u16P xs bad : Nat)) ∧ (∃ v2, RdV w' b v2 (leftP 2 xs bad) (badP 2 xs bad)) ∧ Only (fun k => k = b) W w') := Lib.hid fun W v xs bad h1 h2 => u16_nat b v xs bad W h1 h2
  have HTK : Hid (∀ W v xs bad (n : Nat), RdV W b v xs bad → n ≤ 1000000 → Calls Try.prog 56 #[.pointer (some ⟨b, 0, none⟩), .int .i64 n] W fun e w' => ∃ v1, e = .returned v1 ∧ Own8 w' W.heap.size v1 (takeP n xs bad) ∧ (∃ v2, RdV w' b v2 (leftP n xs bad) (badP n xs bad)) ∧ Only (fun k => k = b) W w') := Lib.hid fun W v xs bad n h1 h2 => take_any b v xs bad n W h1 h2
  have HP : Hid (∀ W (n : Nat), n ≤ 140737488355328 → Calls Try.prog 61 #[.int .i64 n] W fun e w' => e = .returned (.int .i64 (padN n)) ∧ W = w') := Lib.hid fun W n hn => padding_any n hn W
  have hz := Try.zeroAttr
  have g0 := Whole.new w 92 #[.int .u16 0, .slice none 0 0]
  have r0 := h.under ((Below.refl _ w).alloc (Nat.le_refl _) (.cells #[.int .u16 0, .slice none 0 0] 92))
  have o0 : Only (fun k => k = b) w (w.alloc (.cells #[.int .u16 0, .slice none 0 0] 92)) := (Only.refl _ w).alloc _
  have H0 := Lib.hid (And.intro g0 (And.intro r0 o0))
  have HX := Lib.hid hx
  clear h g0 r0 o0 hx
  obtain ⟨N, hN⟩ : ∃ N, w.heap.size = N := ⟨_, rfl⟩
  have HN := Lib.hid hN
  rw [hN] at H0 hbl
  go_enter Try.func40, Try.ntmps40
  go_upto_region 1 with fail
  generalize w.alloc (.cells #[.int .u16 0, .slice none 0 0] 92) = W0 at *
  clear hN
  obtain ⟨T, hT⟩ : ∃ T, rT xs = T := ⟨_, rfl⟩
  have hT2 : u16P xs false = T := hT
  have HUT := Lib.hid (HU.out _ _ _ _ H0.out.2.1 HX.out)
  rw [hT2] at HUT
  go_upto_region 2 with (go_at_call 54; (with_reducible refine HUT.out.mono ?_); rintro e w1 ⟨rfl, ⟨v1, hr1⟩, ho1⟩)
  have s0 := H0.out.1.lt
  have s1 := ho1.size
  have hA1 : At2 w N b w1.heap.size T (.slice none 0 0) (x1 xs) (q1 xs) (w1.alloc (.cells #[.int .u16 T, .slice none 0 0] 92)) :=
    ⟨(H0.out.1.only ho1 (by omega)).alloc _, Whole.new _ _ _, ⟨v1, hr1.under ((Below.refl _ w1).alloc (Nat.le_refl _) _)⟩, (H0.out.2.2.next ho1 (fun j hj => .inl hj)).alloc _, hbl, by omega, HN.out⟩
  generalize w1.alloc (.cells #[.int .u16 T, .slice none 0 0] 92) = W1 at *
  generalize w1.heap.size = g at *
  have H1 := Lib.hid hA1
  clear hA1 hr1 ho1 s0 s1 HUT
  obtain ⟨n, hn⟩ : ∃ n, rN xs = n := ⟨_, rfl⟩
  have hn2 : u16P (x1 xs) (q1 xs) = n := hn
  have hnl : n < 65536 := by rw [← hn]; exact u16P_lt _ _
  have HI1 : Hid (In256 (x1 xs)) := Lib.hid (HX.out.leftP 2 false)
  have HI2 : Hid (In256 (x2 xs)) := Lib.hid (HI1.out.leftP 2 _)
  have HI3 : Hid (In256 (x3 xs)) := Lib.hid (HI2.out.leftP _ _)
  have HI4 : Hid (In256 (x4 xs)) := Lib.hid (HI3.out.leftP _ _)
  obtain ⟨vr1, hvr1⟩ := H1.out.rd
  have HUN := Lib.hid (HU.out _ _ _ _ hvr1 HI1.out)
  rw [hn2] at HUN
  clear hvr1
  go_upto_region 3 with (go_at_call 54; (with_reducible refine HUN.out.mono ?_); rintro e w2 ⟨rfl, hr2, ho2⟩)
  have hA2 : At2 w N b g T (.slice none 0 0) (x2 xs) (q2 xs) w2 := H1.out.step hr2 ho2
  obtain ⟨vr2, hvr2⟩ := hA2.rd
  have HTA := Lib.hid (HTK.out _ _ _ _ n hvr2 (by omega))
  have eV : takeP n (x2 xs) (q2 xs) = rV xs := by rw [← hn]; rfl
  have eX : leftP n (x2 xs) (q2 xs) = x3 xs := by rw [← hn]; rfl
  have eQ : badP n (x2 xs) (q2 xs) = q3 xs := by rw [← hn]; rfl
  rw [eV, eX, eQ] at HTA
  have H2 := Lib.hid hA2
  clear hA2 hr2 ho2 hvr2 HUN H1 eV eX eQ
  have d1 : ∀ (W : World) (u : Value), Whole W g 92 #[.int .u16 (T : Int), u] → (W.cell? ⟨g, 1, none⟩ = some u ∧ W.frozen? ⟨g, 1, none⟩ = false) := fun W u h => ⟨h.cell 1, h.frz 1⟩
  have HD := Lib.hid d1
  clear d1
  obtain ⟨l3, hl3⟩ : ∃ x, (rV xs).length = x := ⟨_, rfl⟩
  go_upto_region 4 with (go_at_call 56; (with_reducible refine HTA.out.mono ?_); rintro e w3 ⟨v3, rfl, hv3, hr3, ho3⟩; obtain ⟨A3, c3, rfl, -⟩ := hv3.form; rw [hl3] at hv3 ⊢; have hA3 := H2.out.step hr3 ho3; obtain ⟨c1, f1⟩ := HD.out _ _ hA3.cur)
  have hA4 := hA3.set (.slice A3 l3 c3)
  have hv4 := hv3.keep8 (Kept8.put hA3.cur (by decide) 1 (.slice A3 l3 c3))
  have hvb : N ≤ w2.heap.size := by have := H2.out.res.lt; omega
  have hv5 := hv4.low (b := N) hvb
  clear c1 f1
  generalize w3.setCell ⟨g, 1, none⟩ (.slice A3 l3 c3) = W4 at *
  have H4 := Lib.hid (And.intro hA4 hv5)
  clear hA4 hv5 hA3 hr3 ho3 hv3 hv4 hvb HTA H2 hl3
  obtain ⟨vr4, hvr4⟩ := H4.out.1.rd
  have hp4 := padN_lt n
  have HPD := Lib.hid (fun W => HP.out W n (by omega))
  obtain ⟨p, hp⟩ : ∃ p, padN n = p := ⟨_, rfl⟩
  simp only [hp] at HPD
  rw [hp] at hp4
  have HTB := Lib.hid (HTK.out _ _ _ _ p hvr4 (by omega))
  have eP : takeP p (x3 xs) (q3 xs) = rP xs := by rw [← hp, ← hn]; rfl
  have eX : leftP p (x3 xs) (q3 xs) = x4 xs := by rw [← hp, ← hn]; rfl
  have eQ : badP p (x3 xs) (q3 xs) = q4 xs := by rw [← hp, ← hn]; rfl
  rw [eP, eX, eQ] at HTB
  clear hvr4 eP eX eQ
  obtain ⟨lp, hlp⟩ : ∃ x, (rP xs).length = x := ⟨_, rfl⟩
  have hlp2 : lp ≤ 3 := by
    rw [← hlp]
    have : (rP xs).length ≤ padN (rN xs) := by unfold rP takeP; split <;> simp; omega
    have := padN_lt (rN xs)
    omega
  go_upto_region 5 with (first
    | (go_at_call 61; (with_reducible refine (HPD.out _).mono ?_); rintro e w' ⟨rfl, rfl⟩)
    | (go_at_call 56; (with_reducible refine HTB.out.mono ?_); rintro e w5 ⟨v5, rfl, hv5, hr5, ho5⟩; obtain ⟨A5, c5, rfl, -⟩ := hv5.form; rw [hlp] at hv5 ⊢))
  have hA5 := H4.out.1.step hr5 ho5
  have hv5' : Own8 w5 N (.slice A3 l3 c3) (rV xs) := H4.out.2.only ho5 (fun j hj => by omega)
  have hbs5 := hv5.form
  have hbs : Bs w5 w5.heap.size A5 lp (rP xs) := by
    obtain ⟨A', c', e, -, -, -, hb⟩ := hv5.form
    rw [hlp] at e hb
    cases e
    exact hb
  obtain ⟨g0, g1⟩ : w5.cell? ⟨g, 0, none⟩ = some (.int .u16 (T : Int)) ∧ w5.cell? ⟨g, 1, none⟩ = some (.slice A3 l3 c3) := ⟨hA5.cur.cell 0, hA5.cur.cell 1⟩
  have H5 := Lib.hid (And.intro hA5 (And.intro hv5' hbs))
  have HRES : Hid (∀ cs : Array Value, Own8 (w5.setRow N cs) N (.slice A3 l3 c3) (rV xs)) := Lib.hid fun cs => hv5'.keep8 (Kept8.row hA5.res (by decide) cs)
  clear hA5 hv5' hbs hbs5 hv5 hr5 ho5
  go_loop [23] (fun s23 => ∃ k : Nat, k ≤ lp ∧ s23 = .int .i64 k ∧ ∀ j, j < k → (rP xs).getD j 0 = 0) (fun s23 => lp - (intOf s23).toNat)
  case atStart => exact ⟨0, by omega, rfl, fun j hj => by omega⟩
  case round =>
    obtain ⟨k, hk, rfl, hz0⟩ := hrel
    by_cases hlt : k < lp
    · obtain ⟨ad, rfl, -, hc⟩ := H5.out.2.2.2 (by omega)
      have hcell := hc k hlt
      obtain ⟨y, hy⟩ : ∃ y, (rP xs).getD k 0 = y := ⟨_, rfl⟩
      rw [hy] at hcell
      have HY := Lib.hid (And.intro hy hz0)
      clear hc hy hz0
      by_cases hy0 : y = 0
      · subst hy0
        go_wp2
        go_round
        case rel =>
          refine ⟨k + 1, by omega, by go_num, fun j hj => ?_⟩
          by_cases hjk : j < k
          · exact HY.out.2 j hjk
          · obtain rfl : j = k := by omega
            exact HY.out.1
        case measure => simp [intOf]; omega
      · have hno : rOk xs = false := by
          unfold rOk
          have : (rP xs).all (fun v => v == 0) = false := by
            rw [List.all_eq_false]
            refine ⟨(rP xs).getD k 0, ?_, by rw [HY.out.1]; simpa using hy0⟩
            have : k < (rP xs).length := by rw [hlp]; exact hlt
            simp [List.getD, this]
          rw [this]
          rfl
        have HNO := Lib.hid hno
        clear hno
        go_wp2_with (refine wpList_store_whole rfl 92 (.tmp 2) (.tmp 29) rfl rfl rfl H5.out.1.res Try.sizeAttr rfl rfl (attr_one _ _ _ _) ?_)
        (try simp only [Exit.inBlock, Exit.then, Act.put])
        obtain ⟨f1, f2, f3⟩ := H5.out.1.done #[.int .u16 (T : Int), .slice A3 l3 c3]
        refine bodyPost_ret (v := .tuple #[.agg #[.int .u16 (T : Int), .slice A3 l3 c3], .bool false]) ?_ rfl ?_
        · exact ret_struct2 (p := 2) (s := 3) rfl rfl f1 Try.underlying92 rfl Try.sizeAttr rfl
        refine ⟨.slice A3 l3 c3, ?_, ?_, ?_, f3⟩
        · rw [HNO.out]
        · rw [HN.out]; exact HRES.out _
        · obtain ⟨vv, hvv⟩ := f2
          exact ⟨vv, _, _, hvv, HI4.out, fun e => by rw [HNO.out] at e; cases e⟩
    · obtain rfl : k = lp := by omega
      have hall : (rP xs).all (fun v => v == 0) = true := by
        rw [List.all_eq_true]
        intro x hx
        obtain ⟨i, hi, rfl⟩ := List.getElem_of_mem hx
        have := hz0 i (by omega)
        simp [List.getD, hi] at this
        simpa using this
      have hok : rOk xs = !q4 xs := by unfold rOk; rw [hall]; rfl
      have HOK := Lib.hid hok
      obtain ⟨bd, hbd⟩ : ∃ x, q4 xs = x := ⟨_, rfl⟩
      rw [hbd] at H5 HOK
      obtain ⟨vr5, hvr5⟩ := H5.out.1.rd
      have HBAD : Hid (∀ W, RdV W b vr5 (x4 xs) bd → Calls Try.prog 57 #[.pointer (some ⟨b, 0, none⟩)] W fun e w' => e = .returned (.bool bd) ∧ w' = W) := Lib.hid fun W h => (bad_at b vr5 (x4 xs) bd W h).mono fun e w' h => ⟨h.1, h.2.symm⟩
      have HVR := Lib.hid hvr5
      clear hvr5 hall hok hz0
      go_upto_region 10 with fail
      have hvd : RdV w5.drew b vr5 (x4 xs) bd := ⟨HVR.out.block.drew, HVR.out.rest.below (Below.refl _ w5).drew⟩
      have HVD := Lib.hid (HBAD.out _ hvd)
      have hNg : ¬ N = g := by have := H5.out.1.Ng; omega
      obtain ⟨cs, hcs⟩ : ∃ cs : List Value, [.int .u16 (T : Int), .slice A3 l3 c3] = cs := ⟨_, rfl⟩
      have hcl : cs.length = 2 := by rw [← hcs]; rfl
      have hone : ∀ v ∈ cs, v.oneCell' = true := by rw [← hcs]; intro v hv; simp only [List.mem_cons, List.not_mem_nil, or_false] at hv; rcases hv with rfl | rfl <;> rfl
      have hu := Try.underlying92
      have hi : (Try.prog.info? 92).map (·.size) = some cs.length := by rw [Try.sizeAttr, hcl]
      have hr0 : w5.rangeAt g 0 cs := by
        have := H5.out.1.cur.rangeA
        rw [← hcs]
        exact this
      have ht0 : w5.drew.there N 0 2 := fun j hj => by
        rw [Nat.zero_add]
        refine ⟨?_, H5.out.1.res.frz j⟩
        have := H5.out.1.res.cell j
        rw [show w5.drew.cell? ⟨N, j, none⟩ = w5.cell? ⟨N, j, none⟩ from rfl, this]
        match j, hj with
        | 0, _ => rfl
        | 1, _ => rfl
      have HC := Lib.hid (And.intro hcs hcl)
      clear hvd hcs g0 g1
      have hS : w5.drew.rangeAt g 0 cs ∧ w5.drew.there N 0 2 := ⟨hr0, ht0⟩
      have HS := Lib.hid hS
      clear hr0 ht0 hS
      refine wp_region_held_drew (S := fun w' => w'.rangeAt g 0 cs ∧ w'.there N 0 2) (by kernel_rfl) HS.out (fun hHeld => ?_)
      refine wpAnyH_take (i := 0) (v := .agg cs.toArray) rfl (by kernel_rfl) (by kernel_rfl) (by kernel_rfl) (fun _ _ _ h => h) (yieldsIf_load_mid (by rfl) 92 (.tmp 4) rfl g 0 rfl cs _ (fun w h => h.1) hu rfl hi) (by assumption) ?_
      simp only [Act.put, List.setIfInBounds_toArray]
      refine wpAnyH_take (i := 1) (v := .pointer (some ⟨b, 0, none⟩)) rfl (by kernel_rfl) (by kernel_rfl) (by kernel_rfl) (fun _ _ _ h => h) (Or.inl ⟨by rfl, fun w h => by go_simp⟩) (by assumption) ?_
      simp only [Act.put]
      refine wpAnyH_ready (rs := [2]) (by kernel_rfl) (by simp) ?_
      refine AllReadyH.cons (i := 2) rfl (fun K hK => ?_) AllReadyH.nil
      go_simp
      refine HVD.out.mono ?_
      rintro e w6 ⟨rfl, rfl⟩
      refine hK.out _ _ HS.out (fun hHeld => ?_)
      clear hK K
      refine wpAnyH_take (i := 3) (v := .bool (!bd)) rfl (by kernel_rfl) (by kernel_rfl) (by kernel_rfl) (fun _ _ _ h => h) (Or.inl ⟨by rfl, fun w h => by go_simp⟩) (by assumption) ?_
      simp only [Act.put]
      refine wpAnyH_ready (rs := [4]) (by kernel_rfl) (by simp) ?_
      refine AllReadyH.cons (i := 4) rfl (fun K hK => ?_) AllReadyH.nil
      rw [if_pos (by rfl)]
      refine wp_store_mid 92 (.tmp 2) (.tmp 31) rfl N 0 cs.toArray rfl rfl (by rw [List.size_toArray, HC.out.2]; exact HS.out.2) (by rw [List.size_toArray]; exact hi) (all_oneCell_toArray hone) ?_
      refine hK.out _ _ ⟨World.rangeAt_setCells_apart HS.out.1 _ _ _ (.inl (fun e => hNg e.symm)), World.there_setCells HS.out.2 _ _ _⟩ (fun hHeld => ?_)
      clear hK K
      refine wpAnyH_ready (rs := [5]) (by kernel_rfl) (by simp) ?_
      refine AllReadyH.cons (i := 5) rfl (fun K hK => ?_) AllReadyH.nil
      go_simp
      refine hK.out _ _ ⟨World.rangeAt_setCells_apart HS.out.1 _ _ _ (.inl (fun e => hNg e.symm)), World.there_setCells HS.out.2 _ _ _⟩ (fun hHeld => ?_)
      clear hK K
      refine wpAnyH_done (by kernel_rfl) ?_ _
      go_wp2_with fail
      have hfin : At2 w N b g T (.slice A3 l3 c3) (x4 xs) bd w5.drew := H5.out.1.drewN 1
      have hW : Whole (w5.drew.setCells N 0 cs) N 92 cs.toArray := hfin.res.cellsAll cs (by rw [HC.out.2]; rfl)
      have hbb : Below N w5.drew (w5.drew.setCells N 0 cs) := below_cells (Nat.le_refl _) cs 0 _ (Below.refl _ _)
      have hone' : Only (fun k => k = N) w5.drew (w5.drew.setCells N 0 cs) := ⟨hbb.os, hbb.tape, hbb.output, hbb.size, fun k hk hn => (below_cells_at (Ne.symm hn) cs 0 _)⟩
      refine bodyPost_ret (v := .tuple #[.agg cs.toArray, .bool (!bd)]) ?_ rfl ?_
      · exact ret_struct2 (p := 2) (s := 3) rfl rfl hW Try.underlying92 rfl Try.sizeAttr (by rw [List.size_toArray]; exact HC.out.2)
      refine ⟨.slice A3 l3 c3, ?_, ?_, ?_, ?_⟩
      · rw [HOK.out, ← HC.out.1]
      · rw [HN.out]
        refine (H5.out.2.1.keep8 (Kept8.refl _).drew).keep8 fun g' cs' hw' => ?_
        have hne : N ≠ g' := fun e => by
          subst e
          exact (hfin.res.ne hw' (by decide)) rfl
        exact (below_cells_at hne cs 0 _).trans hw'
      · obtain ⟨vv, hvv⟩ := hfin.rd
        exact ⟨vv, x4 xs, bd, hvv.next (hbb.mono hfin.bN), HI4.out, fun e => ⟨rfl, by rw [HOK.out] at e; simpa using e⟩⟩
      · exact hfin.only.next hone' (fun j hj => .inr (by rw [HN.out]; omega))
end Go.Proofs.Yteloaidnfcmadaa
