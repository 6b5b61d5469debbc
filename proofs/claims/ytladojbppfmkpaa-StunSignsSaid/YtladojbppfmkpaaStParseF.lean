/- What a Check answers; bytes.Equal; a message's first attributes. -/
import Derived.Test.YtladojbppfmkpaaStSign
namespace Go.Proofs.Ytladojbppfmkpaa
open Go.RowKit
set_option linter.unusedVariables false

/-- What a Check answers of the bytes xs under a key. -/
def CheckV (w' : World) (xs ks : List Int) (M : Array Value) (x : Int) : Prop :=
  (∃ m A c, Is xs m ∧ SignedBy m ks ∧ x = 0 ∧ MsgV w' w'.heap.size M m A c) ∨ (IsNone xs ∧ x = 2 ∧ M = zM) ∨ ((∃ m, Is xs m ∧ ¬ SignedBy m ks) ∧ x = 4 ∧ M = zM)
theorem strs_same {a b : ByteArray} (h : a = b) : (a.toList == b.toList) = true := by rw [h]; exact beq_self_eq_true _
theorem strOfNums_eq {a b : List Int} (ha : In256 a) (hb : In256 b) (h : strOfNums a = strOfNums b) : a = b := by
  have h1 : (a.map fun n => UInt8.ofNat n.toNat) = b.map fun n => UInt8.ofNat n.toNat := by rw [← strOfNums_data, ← strOfNums_data, h]
  have hl : a.length = b.length := by have := congrArg List.length h1; simpa using this
  apply List.ext_getElem hl
  intro i hi hj
  have h2 : (a.map fun n => UInt8.ofNat n.toNat)[i]'(by simpa using hi) = (b.map fun n => UInt8.ofNat n.toNat)[i]'(by simpa using hj) := by simp only [h1]
  rw [List.getElem_map, List.getElem_map] at h2
  have a1 := ha i
  have b1 := hb i
  simp only [List.getD, List.getElem?_eq_getElem hi, List.getElem?_eq_getElem hj, Option.getD_some] at a1 b1
  have h3 := congrArg UInt8.toNat h2
  simp only [UInt8.toNat_ofNat'] at h3
  omega
set_option maxHeartbeats 800000 in
theorem bEqual_any (va vb : Value) (xs ys : List Int) (B : Nat) (w : World) (ha : V8 w B va xs) (hb : V8 w B vb ys) (hx : In256 xs) (hy : In256 ys) :
    Calls Try.prog 45 #[va, vb] w fun e w' => e = .returned (.bool (decide (xs = ys))) ∧ w = w' := by
  obtain ⟨A, c, rfl, -, -, hn, hbs⟩ := ha
  obtain ⟨A', c', rfl, -, -, hn', hbs'⟩ := hb
  have c1 := conv_text hbs hn
  have c2 := conv_text hbs' hn'
  obtain ⟨n, hnl⟩ : ∃ x, xs.length = x := ⟨_, rfl⟩
  obtain ⟨n', hnl'⟩ : ∃ x, ys.length = x := ⟨_, rfl⟩
  rw [hnl] at c1 ⊢
  rw [hnl'] at c2 ⊢
  by_cases he : xs = ys
  · subst he
    have HD : Hid (decide (xs = xs) = true) := Lib.hid (decide_eq_true rfl)
    obtain ⟨s, hs⟩ : ∃ s, strOfNums xs = s := ⟨_, rfl⟩
    rw [hs] at c1 c2
    rw [HD.out]
    clear hs hbs hbs' hnl hnl' hn hn'
    go_enter Try.func45, Try.ntmps45
    go_wp2
    go_ret
    exact ⟨rfl, rfl⟩
  · have HD : Hid (decide (xs = ys) = false) := Lib.hid (decide_eq_false he)
    have hne : ¬ strOfNums xs = strOfNums ys := fun e => he (strOfNums_eq hx hy e)
    obtain ⟨s, hs⟩ : ∃ s, strOfNums xs = s := ⟨_, rfl⟩
    obtain ⟨s', hs'⟩ : ∃ s, strOfNums ys = s := ⟨_, rfl⟩
    rw [hs] at c1 hne
    rw [hs'] at c2 hne
    rw [HD.out]
    have hne3 : (s.toList == s'.toList) = false := by
      rw [beq_eq_false_iff_ne, ByteArray.toList_eq, ByteArray.toList_eq]
      intro e
      exact hne (ByteArray.ext (Array.toList_inj.1 e))
    clear hs hs' hbs hbs' hnl hnl' hn hn' he
    go_enter Try.func45, Try.ntmps45
    go_wp2
    go_ret
    exact ⟨rfl, rfl⟩
theorem Ats.take {w : World} {B : Nat} {A : Option Addr} {L : List At} (h : Ats w B A L) (k : Nat) : Ats w B A (L.take k) := fun hn => by
  have hp : 0 < L.length := by rw [List.length_take] at hn; omega
  obtain ⟨ad, h1, h2, h3⟩ := h hp
  refine ⟨ad, h1, h2, fun i hi => ?_⟩
  rw [List.length_take] at hi
  have e : (L.take k).getD i default = L.getD i default := by simp [List.getD, show i < k by omega]
  rw [e]
  exact h3 i (by omega)
/-- The message without its last two attributes, in a box of its own. -/
theorem bare_box {X X' : World} {g g' c : Nat} {t : TypeId} {A : Option Addr} {M : Array Value} {m : Msg} (ht : t ≠ 5) (hm : MsgV X g M m A c) (hb : Below g X X') (hg : g ≤ g') (hw : Whole X' g' t M) (k : Nat) (hk : k = m.at_.length - 2) :
    Whole (X'.setCell ⟨g', 14, none⟩ (.slice A k c)) g' t (mv m.cl m.me m.id (.slice A k c)) ∧ MsgV (X'.setCell ⟨g', 14, none⟩ (.slice A k c)) (X'.setCell ⟨g', 14, none⟩ (.slice A k c)).heap.size (mv m.cl m.me m.id (.slice A k c)) (bare m) A c ∧ Below g' X' (X'.setCell ⟨g', 14, none⟩ (.slice A k c)) := by
  have h14 := hw.set 14 (.slice A k c)
  rw [hm.form, mv_set _ _ _ _ _ hm.id12] at h14
  have hb' : Below g' X' (X'.setCell ⟨g', 14, none⟩ (.slice A k c)) := (Below.refl g' X').setCell (p := ⟨g', 14, none⟩) (Nat.le_refl _) _
  have hlt := hw.lt
  have hse : (X'.setCell ⟨g', 14, none⟩ (.slice A k c)).heap.size = X'.heap.size := by simp [World.setCell]
  have hkl : (m.at_.take (m.at_.length - 2)).length = k := by rw [List.length_take]; omega
  refine ⟨h14, ⟨?_, hm.id12, by show (m.at_.take (m.at_.length - 2)).length ≤ c; rw [hkl]; have := hm.fits; omega, hm.most, hm.nil, ?_⟩, hb'⟩
  · show _ = mv m.cl m.me m.id (.slice A (m.at_.take (m.at_.length - 2)).length c)
    rw [hkl]
  · exact (((hm.ats.below hb).below (hb'.mono hg)).more (by rw [hse]; omega)).take _
theorem cutA {T e : TypeId} (hT : Try.prog.underlying T = some (.slice e)) (hz : ∀ w, (sizeOf e).run Try.prog w = .ok 2 w) {A : Option Addr} {n c k : Nat} {x : Int} (hx : x = k) (h : k ≤ c) (hA : A = none → c = 0) (w : World) :
    (Instr.slice T (.slice A n c) none (some (.int .i64 x)) none).run Try.prog w = .ok (.slice A k c) w := by
  subst hx
  have ht' : Try.prog.underlying T = some (.slice (Try.prog.elem T)) := by simp [Program.elem, hT]
  have he : Try.prog.elem T = e := by simp [Program.elem, hT]
  rw [run_slice_h w T _ _ _ ht' .i64 _ (by omega) (by omega), he, hz]
  by_cases h0 : c = 0
  · subst h0
    obtain rfl : k = 0 := by omega
    simp [Result.andThen, sliced]
  · cases A with
    | none => exact absurd (hA rfl) h0
    | some ad => simp [Result.andThen, sliced, Addr.add]
end Go.Proofs.Ytladojbppfmkpaa

namespace Go.Proofs.Ytladojbppfmkpaa
open Go.RowKit
set_option linter.unusedVariables false

theorem Row2.low {e : TypeId} {w : World} {base base' : Nat} {v : Value} {ps : List (Int × Value)} (h : Row2 e w base v ps) (hb : base' ≤ base) : Row2 e w base' v ps := by
  refine ⟨h.1, ?_⟩
  rcases h.2 with h0 | ⟨g, cap, cur, h1, h2, h3⟩
  · exact .inl h0
  · exact .inr ⟨g, cap, cur, h1, Nat.le_trans hb h2, h3⟩
theorem ElsO.low {w : World} {base base' : Nat} {ps : List (Int × Value)} {L : List At} (h : ElsO w base ps L) (hb : base' ≤ base) : ElsO w base' ps L := ⟨h.1, fun i hi => ⟨(h.2 i hi).1, (h.2 i hi).2.low hb⟩⟩
/-- What a Parse answers, and that its attributes are rows of the call's own. -/
def ParsedF (e : TypeId) (base : Nat) (w' : World) (xs : List Int) (M : Array Value) (x : Int) : Prop :=
  (∃ m A c ps, Is xs m ∧ x = 0 ∧ MsgV w' w'.heap.size M m A c ∧ Row2 e w' base (.slice A m.at_.length c) ps ∧ ElsO w' base ps m.at_) ∨ (IsNone xs ∧ x = 2 ∧ M = zM)
theorem ParsedF.v {e : TypeId} {base : Nat} {w' : World} {xs : List Int} {M : Array Value} {x : Int} (h : ParsedF e base w' xs M x) : ParsedV w' xs M x := by
  rcases h with ⟨m, A, c, ps, h1, h2, h3, _⟩ | h
  · exact .inl ⟨m, A, c, h1, h2, h3⟩
  · exact .inr h
/-- Such a message is one in any later world in which no such row has turned. -/
theorem firm_keep {e : TypeId} {X X' : World} {base c : Nat} {A : Option Addr} {M : Array Value} {m : Msg} {ps : List (Int × Value)} (hm : MsgV X X.heap.size M m A c) (hr : Row2 e X base (.slice A m.at_.length c) ps) (he : ElsO X base ps m.at_) (hk : ∀ g cs, Whole X g e cs → Whole X' g e cs) (hk8 : Kept8 X X') (hs : X.heap.size ≤ X'.heap.size) (hbs : base ≤ X.heap.size) :
    MsgV X' X'.heap.size M m A c ∧ Row2 e X' base (.slice A m.at_.length c) ps ∧ ElsO X' base ps m.at_ := by
  have hr' := hr.keep hk
  have he' := he.on hk8
  exact ⟨⟨hm.form, hm.id12, hm.fits, hm.most, hm.nil, hr'.ats he'.els (Nat.le_trans hbs hs)⟩, hr', he'⟩

set_option maxHeartbeats 3200000 in
set_option maxRecDepth 100000 in
theorem parse_firm (v : Value) (xs : List Int) (w : World) (h : V8 w w.heap.size v xs) (hx : In256 xs) (hl : xs.length ≤ 140737488355328) :
    Calls Try.prog 14 #[v] w fun e w' => ∃ M x, e = .returned (.tuple #[.agg M, .int .i64 x]) ∧ ParsedF 71 w.heap.size w' xs M x ∧ Below w.heap.size w w' := by
  have hz := Try.zeroMsg
  obtain ⟨Av, cv, hve, hv1, hv2, hv3, hv4⟩ := h
  subst hve
  have hV : V8 w w.heap.size (.slice Av xs.length cv) xs := ⟨Av, cv, rfl, hv1, hv2, hv3, hv4⟩
  have HV := Lib.hid hV
  clear hV hv1 hv2 hv3 hv4
  obtain ⟨n, hn⟩ : ∃ x, xs.length = x := ⟨_, rfl⟩
  rw [hn] at HV hl ⊢
  have HNN := Lib.hid hn
  have HX := Lib.hid hx
  clear hx hn
  have HZS : Hid (zM.size = 15 ∧ zM.all (·.oneCell') = true) := Lib.hid ⟨zM_size, mv_one rfl⟩
  have hbz := fun W => build_zero W
  obtain ⟨Z, hZ⟩ : ∃ Z, zM = Z := ⟨_, rfl⟩
  have HZ := Lib.hid hZ
  simp only [hZ] at hz HZS hbz
  have HBZ := Lib.hid hbz
  have g0 := Whole.new w 34 Z
  have b0 : Below w.heap.size w (w.alloc (.cells Z 34)) := (Below.refl _ w).alloc (Nat.le_refl _) _
  have H0 := Lib.hid (And.intro g0 b0)
  clear hZ g0 b0 hbz
  obtain ⟨N, hN⟩ : ∃ N, w.heap.size = N := ⟨_, rfl⟩
  have HN := Lib.hid hN
  rw [hN] at H0 HV
  go_enter Try.func14, Try.ntmps14
  go_upto_region 1 with fail
  generalize w.alloc (.cells Z 34) = W0 at *
  clear hN
  by_cases hbig : 1500 < n
  · have hbig' : (n : Int) > 1500 := by omega
    have hno := Lib.hid (long_none (xs := xs) (by rw [HNN.out]; exact hbig))
    go_wp2_with (first
      | (refine wpList_build0 rfl 34 rfl (v := .agg Z) (HBZ.out _) ?_)
      | (refine wpList_store_whole rfl 34 (.tmp 2) (.tmp 11) rfl rfl rfl H0.out.1 Try.sizeMsg HZS.out.1 HZS.out.1 HZS.out.2 ?_))
    have f1 : Whole (W0.setRow N Z) N 34 Z := H0.out.1.row Z
    refine bodyPost_ret (v := .tuple #[.agg Z, .int .i64 2]) ?_ rfl ?_
    · exact ret_struct2 (p := 2) (s := 3) rfl rfl f1 Try.underlying34 rfl Try.sizeMsg HZS.out.1
    · exact ⟨Z, 2, rfl, .inr ⟨hno.out, rfl, HZ.out.symm⟩, by rw [HN.out]; exact below_row H0.out.2 (Nat.le_refl _) _⟩
  · have hbig' : ¬ (n : Int) > 1500 := by omega
    have HNR := Lib.hid (newReader_any (.slice Av n cv) xs W0.heap.size W0 ((HV.out.below H0.out.2).more (Nat.le_of_lt H0.out.1.lt)) (by rw [HNN.out]; exact hl))
    go_upto_region 4 with (go_at_call 34; (with_reducible refine HNR.out.mono ?_); rintro e w1 ⟨rb, v1, rfl, hr1, hrb, hb1⟩)
    have hNrb : N < rb := by have := H0.out.1.lt; omega
    have hg1 := H0.out.1.under hb1
    have hbl1 := H0.out.2.trans (hb1.mono (Nat.le_of_lt H0.out.1.lt))
    have HRH := Lib.hid (readHead_any rb v1 xs w1 hr1 HX.out)
    have hrbl := hr1.block.lt
    have H1 := Lib.hid (And.intro hg1 hbl1)
    clear hg1 hbl1 hb1 hr1 HNR hrb
    go_upto_region 5 with (first
      | (go_at_call 35; (with_reducible refine HRH.out.mono ?_); rintro e w2 ⟨cs, rfl, hcs, hck, hrd2, ho2⟩)
      | (refine wpList_store_whole rfl 34 (.tmp 5) (.tmp 17) rfl rfl rfl (Whole.new w2 34 Z) Try.sizeMsg hcs.1 HZS.out.1 (all_oneCell_toArray hcs.2) ?_))
    have n5l : rb < w2.heap.size := by have := ho2.size; omega
    have r3 : Whole ((w2.alloc (.cells Z 34)).setRow w2.heap.size cs.toArray) N 34 Z := ((H1.out.1.only ho2 (by omega)).alloc _).farRow (by omega) _
    have b3' : Whole ((w2.alloc (.cells Z 34)).setRow w2.heap.size cs.toArray) w2.heap.size 34 cs.toArray := (Whole.new w2 34 Z).row _
    have hbw : Below w2.heap.size w2 ((w2.alloc (.cells Z 34)).setRow w2.heap.size cs.toArray) := below_row ((Below.refl _ w2).alloc (Nat.le_refl _) _) (Nat.le_refl _) _
    have d3 : ∃ v2, RdV ((w2.alloc (.cells Z 34)).setRow w2.heap.size cs.toArray) rb v2 (h4 xs) (b4 xs) := hrd2.elim fun v2 h2 => ⟨v2, h2.under hbw⟩
    have bl3 : Below N w ((w2.alloc (.cells Z 34)).setRow w2.heap.size cs.toArray) := (H1.out.2.trans (ho2.below (B := N) (fun k hk => by omega) (by omega))).trans (hbw.mono (by omega))
    generalize (w2.alloc (.cells Z 34)).setRow w2.heap.size cs.toArray = w3 at *
    generalize w2.heap.size = n5 at *
    have hst : ∃ ok, hOk xs = ok ∧ ((ok = false ∧ IsNone xs ∧ Whole w3 N 34 Z ∧ Below N w w3) ∨ (ok = true ∧ ∃ v ps L rest, Ps w N rb n5 (clOf (hK xs)) (meOf (hK xs)) (hI xs) w3 v ps L rest false ∧ SoFar xs L rest)) := by
      cases hok : hOk xs with
      | false => exact ⟨false, rfl, .inl ⟨rfl, hOk_no HX.out hok, r3, bl3⟩⟩
      | true =>
        obtain ⟨q4, i12, ib, i4, hk, e2⟩ := hOk_yes HX.out hok
        rw [q4] at d3
        rw [hck hok, ml_mv] at b3'
        exact ⟨true, rfl, .inr ⟨rfl, _, [], [], h4 xs, ⟨by rw [HZ.out]; exact r3, b3', d3, Row2.nil _ _ _, ElsO.nil _ _, bl3, hNrb, n5l⟩, ⟨hok, rfl, (fun a ha => by cases ha), (fun a ha => by cases ha), i4⟩⟩⟩
    obtain ⟨ok0, hok0, hst0⟩ := hst
    have HST := Lib.hid hst0
    have HI12 : Hid (hOk xs = true → (hI xs).length = 12) := Lib.hid fun h => (hOk_yes HX.out h).2.1
    rw [hok0]
    clear hst0 r3 b3' hbw d3 bl3 hcs hck hrd2 ho2 HRH hok0 H1 hrbl
    have hza := Try.zeroAttr
    go_loopw [6] (fun s6 wr => ∃ ok, s6 = .bool ok ∧ ((ok = false ∧ IsNone xs ∧ Whole wr N 34 Z ∧ Below N w wr) ∨ (ok = true ∧ ∃ v ps L rest, Ps w N rb n5 (clOf (hK xs)) (meOf (hK xs)) (hI xs) wr v ps L rest false ∧ SoFar xs L rest))) (fun s6 wr => msr s6 wr rb)
    case atStart => exact ⟨ok0, rfl, HST.out⟩
    case round =>
      clear HST
      obtain ⟨ok, rfl, hcase⟩ := hrel
      rcases hcase with ⟨rfl, hno, hres, hbl⟩ | ⟨rfl, v, ps, L, rest, hps, hsf⟩
      · have HE := Lib.hid (And.intro hno (And.intro hres hbl))
        clear hno hres hbl
        go_wp2_with (first
          | (refine wpList_build0 rfl 34 rfl (v := .agg Z) (HBZ.out _) ?_)
          | (refine wpList_store_whole rfl 34 (.tmp 2) (.tmp 43) rfl rfl rfl HE.out.2.1 Try.sizeMsg HZS.out.1 HZS.out.1 HZS.out.2 ?_))
        have f1 : Whole (wr.setRow N Z) N 34 Z := HE.out.2.1.row Z
        refine bodyPost_ret (v := .tuple #[.agg Z, .int .i64 2]) ?_ rfl ?_
        · exact ret_struct2 (p := 2) (s := 3) rfl rfl f1 Try.underlying34 rfl Try.sizeMsg HZS.out.1
        · exact ⟨Z, 2, rfl, .inr ⟨HE.out.1, rfl, HZ.out.symm⟩, by rw [HN.out]; exact below_row HE.out.2.2 (Nat.le_refl _) _⟩
      · have hi12 := HI12.out hsf.ok
        obtain ⟨vr, hvr⟩ := hps.rd
        have HLF := Lib.hid (left_at rb vr rest false wr hvr)
        have hmsr : msr (.bool true) wr rb = 1 + rest.length := by unfold msr; rw [leftOf_rd hvr]
        obtain ⟨lr, hlr⟩ : ∃ x, rest.length = x := ⟨_, rfl⟩
        rw [hlr] at HLF hmsr
        have hfew := hsf.few (by rw [HNN.out]; omega) HX.out
        have hpl := hps.els.1
        obtain ⟨Av, cv, rfl, -⟩ := hps.row.form
        obtain ⟨k, hk⟩ : ∃ x, ps.length = x := ⟨_, rfl⟩
        rw [hk] at hps hpl
        have HP := Lib.hid (And.intro hps (And.intro hsf (And.intro hlr (And.intro hk hpl))))
        by_cases hz0 : lr = 0
        · subst hz0
          have hre : rest = [] := List.eq_nil_of_length_eq_zero hlr
          subst hre
          obtain ⟨hnice, hfine, hbytes⟩ := hsf.whole HX.out
          have hL : L.length = k := hpl.symm.trans rfl
          have hats := hps.row.ats hps.els.els hps.size
          have hform := hps.row.form
          have hmsg : MsgV wr wr.heap.size (mv (clOf (hK xs)) (meOf (hK xs)) (hI xs) (.slice Av k cv)) ⟨clOf (hK xs), meOf (hK xs), hI xs, L⟩ Av cv := by
            obtain ⟨A', c', e, f1, f2, f3⟩ := hps.row.form
            rw [hk] at e f1
            cases e
            exact ⟨by show _ = mv _ _ _ (.slice Av L.length cv); rw [hL], hi12, by show L.length ≤ cv; omega, f2, f3, hats⟩
          have hvi := valid_iff ⟨clOf (hK xs), meOf (hK xs), hI xs, L⟩
          have HVA := Lib.hid (valid_any _ _ _ _ wr hmsg)
          obtain ⟨M, hM⟩ : ∃ M, mv (clOf (hK xs)) (meOf (hK xs)) (hI xs) (.slice Av k cv) = M := ⟨_, rfl⟩
          have hMs : M.size = 15 ∧ M.all (·.oneCell') = true := by rw [← hM]; exact ⟨mv_size hi12, mv_one rfl⟩
          have hbx := hps.box
          rw [hM] at HVA hmsg hbx
          obtain ⟨m, hm⟩ : ∃ m : Msg, (⟨clOf (hK xs), meOf (hK xs), hI xs, L⟩ : Msg) = m := ⟨_, rfl⟩
          rw [hm] at HVA hmsg hvi hnice hfine hbytes
          obtain ⟨vb, hvb⟩ : ∃ x, valid? m = x := ⟨_, rfl⟩
          rw [hvb] at HVA hvi
          have hres := hps.res
          rw [HZ.out] at hres
          have o1 := hps.o1
          have o2 := hps.o2
          have HE := Lib.hid (And.intro hmsg (And.intro hbx (And.intro hres (And.intro hps.below (And.intro hMs (And.intro hvi (And.intro hnice (And.intro hfine hbytes))))))))
          have hform2 : k ≤ cv ∧ cv ≤ maxLen ∧ (Av = none → cv = 0) := by
            obtain ⟨A', c', e, f1, f2, f3⟩ := hps.row.form
            rw [hk] at e f1
            cases e
            exact ⟨f1, f2, f3⟩
          have HRO := Lib.hid (And.intro hps.row (And.intro hps.els (And.intro hm (And.intro hM (And.intro hL (And.intro hi12 hform2))))))
          clear hform2
          clear hmsg hbx hres hMs hvi hnice hfine hbytes hats hform hps hsf hvr hk hpl hfew hmsr hlr HP hM hm hvb hi12 hL
          have ho : N < n5 := by omega
          have s5 := HE.out.2.1.lt
          cases vb with
          | false =>
            have hno : IsNone xs := fun m' hm' => by
              have e := msg_inj (nice_of hm'.1 hm'.2.1) HE.out.2.2.2.2.2.2.1 (hm'.2.2.trans HE.out.2.2.2.2.2.2.2.2.symm)
              have := HE.out.2.2.2.2.2.1.2 (e ▸ hm'.1)
              cases this
            have HNO := Lib.hid hno
            clear hno
            go_wp2_with (first
              | (go_at_call 36; (with_reducible refine HLF.out.mono ?_); rintro e w' ⟨rfl, rfl⟩)
              | (refine wpList_load_allG (by rfl) 34 (.tmp 5) rfl HE.out.2.1 rfl Try.sizeMsg HE.out.2.2.2.2.1.1 Try.underlying34 rfl ?_)
              | (go_at_call 32; (with_reducible refine HVA.out.mono ?_); rintro e w9 ⟨rfl, hb9⟩)
              | (refine wpList_build0 rfl 34 rfl (v := .agg Z) (HBZ.out _) ?_)
              | (refine wpList_store_whole rfl 34 (.tmp 2) (.tmp 43) rfl rfl rfl (Whole.under HE.out.2.2.1 hb9) Try.sizeMsg HZS.out.1 HZS.out.1 HZS.out.2 ?_))
            have f1 : Whole (w9.setRow N Z) N 34 Z := (Whole.under HE.out.2.2.1 hb9).row Z
            refine bodyPost_ret (v := .tuple #[.agg Z, .int .i64 2]) ?_ rfl ?_
            · exact ret_struct2 (p := 2) (s := 3) rfl rfl f1 Try.underlying34 rfl Try.sizeMsg HZS.out.1
            · exact ⟨Z, 2, rfl, .inr ⟨HNO.out, rfl, HZ.out.symm⟩, by rw [HN.out]; exact below_row (HE.out.2.2.2.1.trans (hb9.mono (by omega))) (Nat.le_refl _) _⟩
          | true =>
            have HVL := Lib.hid (HE.out.2.2.2.2.2.1.1 rfl)
            go_wp2_with (first
              | (go_at_call 36; (with_reducible refine HLF.out.mono ?_); rintro e w' ⟨rfl, rfl⟩)
              | (refine wpList_load_allG (by rfl) 34 (.tmp 5) rfl HE.out.2.1 rfl Try.sizeMsg HE.out.2.2.2.2.1.1 Try.underlying34 rfl ?_)
              | (go_at_call 32; (with_reducible refine HVA.out.mono ?_); rintro e w9 ⟨rfl, hb9⟩)
              | (refine wpList_load_all rfl 34 (.tmp 5) rfl (Whole.under HE.out.2.1 hb9) rfl Try.sizeMsg HE.out.2.2.2.2.1.1 Try.underlying34 rfl ?_)
              | (refine wpList_store_whole rfl 34 (.tmp 2) (.tmp 44) rfl rfl rfl (Whole.under HE.out.2.2.1 hb9) Try.sizeMsg HE.out.2.2.2.2.1.1 HZS.out.1 HE.out.2.2.2.2.1.2 ?_))
            have f1 : Whole (w9.setRow N M) N 34 M := (Whole.under HE.out.2.2.1 hb9).row M
            refine bodyPost_ret (v := .tuple #[.agg M, .int .i64 0]) ?_ rfl ?_
            · exact ret_struct2 (p := 2) (s := 3) rfl rfl f1 Try.underlying34 rfl Try.sizeMsg HE.out.2.2.2.2.1.1
            · refine ⟨M, 0, rfl, .inl ⟨m, Av, cv, ps, ⟨HVL.out, HE.out.2.2.2.2.2.2.2.1, HE.out.2.2.2.2.2.2.2.2⟩, rfl, ?_⟩, by rw [HN.out]; exact below_row (HE.out.2.2.2.1.trans (hb9.mono (by omega))) (Nat.le_refl _) _⟩
              have hres9 := Whole.under HE.out.2.2.1 hb9
              have hrow := (HRO.out.1.under hb9).keep (w' := w9.setRow N M) fun g cs hw => hw.farRow (fun e => hw.ne hres9 (by decide) e) M
              have hels := (HRO.out.2.1.on (Kept8.under hb9)).on (Kept8.row hres9 (by decide) M)
              have hs9 := hb9.size
              have hsz : (w9.setRow N M).heap.size = w9.heap.size := by simp [World.setRow]
              have hats := hrow.ats hels.els (by rw [hsz]; omega)
              have hmm := HRO.out.2.2.1
              subst hmm
              have hL := HRO.out.2.2.2.2.1
              have hkL : k = L.length := hL.symm
              rw [hkL] at hrow
              have hNn : w.heap.size ≤ n5 + 1 := by rw [HN.out]; omega
              refine ⟨?_, hrow.low hNn, hels.low hNn⟩
              rw [← hkL] at hrow
              refine ⟨?_, HRO.out.2.2.2.2.2.1, by show L.length ≤ cv; rw [hL]; exact HRO.out.2.2.2.2.2.2.1, HRO.out.2.2.2.2.2.2.2.1, HRO.out.2.2.2.2.2.2.2.2, hats⟩
              rw [← HRO.out.2.2.2.1]
              show mv _ _ _ (.slice Av k cv) = mv _ _ _ (.slice Av L.length cv)
              rw [hL]
        · have hpos : (0 : Int) < (lr : Int) := by omega
          have hne : rest ≠ [] := fun e => hz0 (by rw [← hlr, e]; rfl)
          have HNE := Lib.hid hne
          have HMS := Lib.hid hmsr
          have HRA : Hid (∀ W, RdV W rb vr rest false → Calls Try.prog 37 #[.pointer (some ⟨rb, 0, none⟩)] W fun e w' => ∃ v1, e = .returned (.tuple #[.agg #[.int .u16 (rT rest : Nat), v1], .bool (rOk rest)]) ∧ Own8 w' W.heap.size v1 (rV rest) ∧ After w' rb rest ∧ Only (fun k => k = rb) W w') := Lib.hid fun W h => readAttr_any rb vr rest W h hsf.rest
          have HI := Lib.hid hi12
          have hp7 := hps.under ((Below.refl _ wr).alloc (Nat.le_refl _) (.cells #[.int .u16 0, .slice none 0 0] 71))
          have hg7 := Whole.new wr 71 #[.int .u16 0, .slice none 0 0]
          have hv7 := hvr.under ((Below.refl _ wr).alloc (Nat.le_refl _) (.cells #[.int .u16 0, .slice none 0 0] 71))
          have s7 := hps.size
          have hrow : ∀ j, (Value.slice Av k cv).ownBlock = some j → j < wr.heap.size := fun j hj => (hps.row.lt hj).2
          have H7 := Lib.hid (And.intro hp7 (And.intro hg7 hv7))
          clear hvr hps hsf hlr hk hpl hmsr hne hi12 hp7 hg7 hv7
          go_upto_region 7 with (go_at_call 36; (with_reducible refine HLF.out.mono ?_); rintro e w' ⟨rfl, rfl⟩)
          generalize wr.alloc (.cells #[.int .u16 0, .slice none 0 0] 71) = W7 at *
          generalize wr.heap.size = g7 at *
          have HROW := Lib.hid hrow
          clear hrow
          have h7l := H7.out.2.1.lt
          go_upto_region 8 with (first
            | (go_at_call 37; (with_reducible refine (HRA.out _ H7.out.2.2).mono ?_); rintro e w8 ⟨v8, rfl, hv8, haf, ho8⟩; obtain ⟨A8, c8, rfl, -⟩ := hv8.form)
            | (refine wpList_store_whole rfl 71 (.tmp 7) (.tmp 28) rfl rfl rfl (Whole.only H7.out.2.1 ho8 (by have := H7.out.1.o2; omega)) Try.sizeAttr rfl rfl (attr_one _ _ _ _) ?_))
          obtain ⟨v2, r, q, hr8, hir, hafter⟩ := haf
          have hg8 : Whole w8 g7 71 #[.int .u16 0, .slice none 0 0] := H7.out.2.1.only ho8 (by have := H7.out.1.o2; omega)
          have hp9 := (H7.out.1.read ho8 ⟨v2, hr8⟩).far hg8 (by omega) HROW.out #[.int .u16 (rT rest : Nat), .slice A8 (rV rest).length c8]
          have hg9 := hg8.row #[.int .u16 (rT rest : Nat), .slice A8 (rV rest).length c8]
          have hv9 : Own8 (w8.setRow g7 #[.int .u16 (rT rest : Nat), .slice A8 (rV rest).length c8]) (n5 + 1) (.slice A8 (rV rest).length c8) (rV rest) := (hv8.low (by have := H7.out.1.size; omega)).keep8 (Kept8.row hg8 (by decide) _)
          obtain ⟨T, hT⟩ : ∃ x : Int, ((rT rest : Nat) : Int) = x := ⟨_, rfl⟩
          obtain ⟨l8, hl8⟩ : ∃ x, (rV rest).length = x := ⟨_, rfl⟩
          rw [hT, hl8] at hp9 hg9 hv9 ⊢
          generalize w8.setRow g7 #[.int .u16 T, .slice A8 l8 c8] = W9 at *
          have c14 : W9.cell? ⟨n5, 14, none⟩ = some (.slice Av k cv) := by rw [hp9.box.cell]; exact mv_14 _ _ _ _ HI.out
          have c0 : W9.cell? ⟨g7, 0, none⟩ = some (.int .u16 T) := hg9.cell 0
          have c1 : W9.cell? ⟨g7, 1, none⟩ = some (.slice A8 l8 c8) := hg9.cell 1
          have hpA := hp9.under ((Below.refl _ W9).alloc (Nat.le_refl _) (.cells #[.int .u16 T, .slice A8 l8 c8] 71))
          have hvA := hv9.alloc (.cells #[.int .u16 T, .slice A8 l8 c8] 71)
          have hgA := Whole.new W9 71 #[.int .u16 T, .slice A8 l8 c8]
          have HA := Lib.hid (And.intro hpA (And.intro hvA (And.intro hgA (And.intro hir (And.intro hafter (And.intro hT hl8))))))
          clear hr8 hir hafter hg8 hp9 hg9 hv9 hpA hvA hgA hv8 ho8 hl8 hT h7l H7
          go_wp2_with (at_builtin; go_must (refine wpList_append2 (e := 71) rfl (.tmp 31) (.tmp 33) rfl Try.underlying32 Try.infoAttr rfl rfl HA.out.1.row rfl HA.out.2.2.1 rfl (by have := HP.out.2.2.2.1; have := HP.out.2.2.2.2; omega) HA.out.1.size ?_); intro v11 w11 h11 hg11 hh11; have hbox11 := HA.out.1.box.grown hg11 (fun e => HA.out.1.row.far HA.out.1.box (by decide) e.symm); have e14 : w11.cell? ⟨n5, 14, none⟩ = some (.slice Av k cv) := (by rw [hbox11.cell]; exact mv_14 _ _ _ _ HI.out); have f14 := hbox11.frz 14; obtain ⟨A11, c11, rfl, -⟩ := h11.form; rw [List.length_append, HP.out.2.2.2.1])
          have hkl : (ps ++ [(T, Value.slice A8 l8 c8)]).length = k + 1 := by rw [List.length_append, HP.out.2.2.2.1]; rfl
          rw [hkl] at h11
          have hfin := HA.out.1.grow (a := ⟨T, rV rest⟩) HI.out h11 hg11 HA.out.2.1
          have hT := HA.out.2.2.2.2.2.1
          have HF := Lib.hid hfin
          clear hfin h11 hg11 hh11 hbox11 e14 f14 c14 c0 c1 hkl
          have hsf := HP.out.2.1
          cases hro : rOk rest with
          | false =>
            refine ⟨⟨false, rfl, .inl ⟨rfl, hsf.none HX.out HNE.out hro, by rw [← HZ.out]; exact HF.out.res, HF.out.below⟩⟩, ?_⟩
            rw [HMS.out]
            show 0 < 1 + lr
            omega
          | true =>
            obtain ⟨e1, e2⟩ := HA.out.2.2.2.2.1 hro
            have hf2 := HF.out
            rw [e1, e2] at hf2
            have hsn := hsf.next hro
            rw [hT] at hsn
            refine ⟨⟨true, rfl, .inr ⟨rfl, _, _, _, _, hf2, hsn⟩⟩, ?_⟩
            rw [HMS.out]
            obtain ⟨vv, hvv⟩ := hf2.rd
            unfold msr
            rw [leftOf_rd hvv]
            have := hsf.less hro
            have := HP.out.2.2.1
            show 1 + (x4 rest).length < 1 + lr
            omega
end Go.Proofs.Ytladojbppfmkpaa
