import Derived.Test.YtbbedhecfipdjaaGreatDoorPkAttrOrderA10
import Derived.Test.YtbbedhecfipdjaaGreatDoorPkAttrOrderA11
namespace Go.Proofs.YtbbedhecfipdjaaGreatDoor
open Go.RowKit Go.Shelf
set_option linter.unusedVariables false
set_option linter.unusedSimpArgs false
def ReadO (p : PartS) (w : World) (e : Ending) (w' : World) : Prop := ∃ m vC vE vR vS vY er, e = .returned (.tuple #[.agg (mcell m vC vE vR vS vY), .int .i64 er]) ∧ Below w.heap.size w w' ∧
 ((er = 0 ∧ IsM p m ∧ ∃ bm cs, MW w.heap.size bm 64 w' m cs vC vE vR vS vY) ∨ (er = 2 ∧ mcell m vC vE vR vS vY = zeroM ∧ ∀ m', TypedM m' → ¬ IsM p m'))
structure SizR (p : PartS) : Prop where
 line : p.line.size ≤ 140737488355328
 values : ∀ a ∈ p.attrs, a.value.size ≤ 140737488355328
 len : p.attrs.length ≤ 140737488355328
theorem EnvR.low {w w' : World} {B : Nat} (h : EnvR w) (hb : Below B w w') (hB : 7 ≤ B) : EnvR w' := by
 obtain ⟨e1, h1, k1⟩ := h.syn
 obtain ⟨e2, h2, k2⟩ := h.rng
 exact ⟨h.env.low hb hB, ⟨e1, (hb.cell (p := ⟨4, 0, Option.none⟩) (Nat.lt_of_lt_of_le (show 4 < 7 by decide) hB)).trans h1, k1⟩, ⟨e2, (hb.cell (p := ⟨5, 0, Option.none⟩) (Nat.lt_of_lt_of_le (show 5 < 7 by decide) hB)).trans h2, k2⟩⟩
theorem MW.zero {base bm : Nat} {W : World} (h : Whole W bm 28 zeroM) (hb : base ≤ bm) : MW base bm 0 W MediaS.zero [] (.slice none 0 0) (.slice none 0 0) (.slice none 0 0) (.slice none 0 0) (.slice none 0 0) :=
 ⟨rfl, h, Own.nil _ _ _ _, (fun c hc => by cases hc), Own.nil _ _ _ _, Own.nil _ _ _ _, Own.nil _ _ _ _, Own.nil _ _ _ _, (by simp), hb,
  ⟨by decide, (fun c hc => by cases hc), (fun c hc => by cases hc), (fun c hc => by cases hc), (fun c hc => by cases hc), ⟨(fun c hc => by cases hc), (fun c hc => by cases hc)⟩, by decide⟩,
  (by simp [MediaS.zero])⟩
theorem five_new (w : World) (P : Array Value) : Below w.heap.size w (((((w.alloc (.cells P 38)).alloc (.cells zeroM 28)).alloc (.cells #[.int .i64 0] 33)).alloc (.cells zeroM 28)).alloc (.cells #[.slice none 0 0] 36)) ∧
 Whole (((((w.alloc (.cells P 38)).alloc (.cells zeroM 28)).alloc (.cells #[.int .i64 0] 33)).alloc (.cells zeroM 28)).alloc (.cells #[.slice none 0 0] 36)) w.heap.size 38 P ∧
 Whole (((((w.alloc (.cells P 38)).alloc (.cells zeroM 28)).alloc (.cells #[.int .i64 0] 33)).alloc (.cells zeroM 28)).alloc (.cells #[.slice none 0 0] 36)) (w.heap.size + 1) 28 zeroM ∧
 Whole (((((w.alloc (.cells P 38)).alloc (.cells zeroM 28)).alloc (.cells #[.int .i64 0] 33)).alloc (.cells zeroM 28)).alloc (.cells #[.slice none 0 0] 36)) (w.heap.size + 2) 33 #[.int .i64 0] ∧
 Whole (((((w.alloc (.cells P 38)).alloc (.cells zeroM 28)).alloc (.cells #[.int .i64 0] 33)).alloc (.cells zeroM 28)).alloc (.cells #[.slice none 0 0] 36)) (w.heap.size + 3) 28 zeroM ∧
 Whole (((((w.alloc (.cells P 38)).alloc (.cells zeroM 28)).alloc (.cells #[.int .i64 0] 33)).alloc (.cells zeroM 28)).alloc (.cells #[.slice none 0 0] 36)) (w.heap.size + 4) 36 #[.slice none 0 0] := by
 have sz : ∀ (W : World) (o : Obj) (k : Nat), W.heap.size = w.heap.size + k → (W.alloc o).heap.size = w.heap.size + (k + 1) := fun W o k h => by rw [World.size_alloc, h]; omega
 have s1 := sz w (.cells P 38) 0 rfl
 have s2 := sz _ (.cells zeroM 28) 1 s1
 have s3 := sz _ (.cells #[.int .i64 0] 33) 2 s2
 have s4 := sz _ (.cells zeroM 28) 3 s3
 have n1 := Whole.new (w.alloc (.cells P 38)) 28 zeroM
 rw [s1] at n1
 have n2 := Whole.new ((w.alloc (.cells P 38)).alloc (.cells zeroM 28)) 33 #[.int .i64 0]
 rw [s2] at n2
 have n3 := Whole.new (((w.alloc (.cells P 38)).alloc (.cells zeroM 28)).alloc (.cells #[.int .i64 0] 33)) 28 zeroM
 rw [s3] at n3
 have n4 := Whole.new ((((w.alloc (.cells P 38)).alloc (.cells zeroM 28)).alloc (.cells #[.int .i64 0] 33)).alloc (.cells zeroM 28)) 36 #[.slice none 0 0]
 rw [s4] at n4
 refine ⟨?_, ((((Whole.new w _ _).alloc _).alloc _).alloc _).alloc _, (((n1.alloc _).alloc _).alloc _), ((n2.alloc _).alloc _), n3.alloc _, n4⟩
 exact (((((Below.refl _ w).alloc (Nat.le_refl _) _).alloc (by rw [s1]; omega) _).alloc (by rw [s2]; omega) _).alloc (by rw [s3]; omega) _).alloc (by rw [s4]; omega) _
theorem MW.keepT {base bm n : Nat} {w w' : World} {m : MediaS} {cs : List (CodecS × Value)} {vC vE vR vS vY : Value} (h : MW base bm n w m cs vC vE vR vS vY) (hb : Whole w' bm 28 (mcell m vC vE vR vS vY)) (hk : ∀ g t ds, t ≠ 28 → t ≠ 33 → Whole w g t ds → Whole w' g t ds) : MW base bm n w' m cs vC vE vR vS vY :=
 have own : ∀ {e : TypeId} {sz : Nat} {v : Value} {rs : List (List Value)}, Own w base e sz v rs → e ≠ 28 → e ≠ 33 → Own w' base e sz v rs := fun ho h1 h2 => ho.keep fun g ds _ hw => hk g _ ds h1 h2 hw
 ⟨h.eqC, hb, own h.hC (by decide) (by decide), fun c hc => own (h.hF c hc) (by decide) (by decide), own h.hE (by decide) (by decide), own h.hR (by decide) (by decide), own h.hS (by decide) (by decide), own h.hY (by decide) (by decide), h.ap, h.hbm, h.siz, h.lens⟩
theorem puts_zero {W : World} {g : Nat} {u0 u1 u2 u3 u4 u5 u6 u7 u8 u9 u10 : Value} (h : Whole W g 28 zeroM) : Whole (puts W g [u0, u1, u2, u3, u4, u5, u6, u7, u8, u9, u10] 0) g 28 #[u0, u1, u2, u3, u4, u5, u6, u7, u8, u9, u10] := by
 have e : putsA zeroM [u0, u1, u2, u3, u4, u5, u6, u7, u8, u9, u10] 0 = #[u0, u1, u2, u3, u4, u5, u6, u7, u8, u9, u10] := by
  unfold zeroM
  simp only [putsA, List.setIfInBounds_toArray, List.set_cons_succ, List.set_cons_zero]
 have := puts_same [u0, u1, u2, u3, u4, u5, u6, u7, u8, u9, u10] 0 W zeroM h
 rw [e] at this
 exact this
set_option maxHeartbeats 1600000 in
theorem read_last {w W : World} {D : Nat} {P : Array Value} {n : Nat} {m : MediaS} {cs : List (CodecS × Value)} {vC vE vR vS vY : Value} (hlow : Below w.heap.size w W) (hres : Whole W (w.heap.size + 1) 28 zeroM) (herr : Whole W (w.heap.size + 2) 33 #[.int .i64 0]) (hK : W.heap[D]? = some (.deferred (some []))) :
 (∀ W', W' = (puts W (w.heap.size + 1) [.int .i64 0, .int .i64 0, .string ⟨#[]⟩, .int .i64 0, .slice none 0 0, .slice none 0 0, .slice none 0 0, .bool false, .slice none 0 0, .slice none 0 0, .int .i64 0] 0).setCell ⟨w.heap.size + 2, 0, none⟩ (.int .i64 2) →
   Below w.heap.size w W' ∧ Whole W' (w.heap.size + 1) 28 zeroM ∧ Whole W' (w.heap.size + 2) 33 #[.int .i64 2] ∧ W'.heap[D]? = some (.deferred (some []))) ∧
 (MW w.heap.size (w.heap.size + 3) n W m cs vC vE vR vS vY → ∀ W', W' = (puts W (w.heap.size + 1) [.int .i64 m.kind, .int .i64 m.port, .string m.mid, .int .i64 m.dir, vC, vE, vR, .bool m.sending, vS, vY, .int .i64 m.sctp] 0).setCell ⟨w.heap.size + 2, 0, none⟩ (.int .i64 0) →
   Below w.heap.size w W' ∧ Whole W' (w.heap.size + 1) 28 (mcell m vC vE vR vS vY) ∧ Whole W' (w.heap.size + 2) 33 #[.int .i64 0] ∧ W'.heap[D]? = some (.deferred (some [])) ∧ MW w.heap.size (w.heap.size + 3) n W' m cs vC vE vR vS vY) := by
 refine ⟨?_, fun hM => ?_⟩
 · rintro W' rfl
   exact ⟨(hlow.trans (puts_below (by omega) _ _ _)).setCell (p := ⟨w.heap.size + 2, 0, none⟩) (by show w.heap.size ≤ w.heap.size + 2; omega) _,
    (puts_zero hres).far (p := ⟨w.heap.size + 2, 0, none⟩) (by show w.heap.size + 1 ≠ w.heap.size + 2; omega) _, (puts_far (by omega) _ _ _ herr).set 0 _,
    ((puts_others _ _ _ _).trans (Go.KeepsOthers.setCell _ _ _)).same _ _ hK rfl⟩
 · rintro W' rfl
   refine ⟨(hlow.trans (puts_below (by omega) _ _ _)).setCell (p := ⟨w.heap.size + 2, 0, none⟩) (by show w.heap.size ≤ w.heap.size + 2; omega) _,
    (puts_zero hres).far (p := ⟨w.heap.size + 2, 0, none⟩) (by show w.heap.size + 1 ≠ w.heap.size + 2; omega) _, (puts_far (by omega) _ _ _ herr).set 0 _,
    ((puts_others _ _ _ _).trans (Go.KeepsOthers.setCell _ _ _)).same _ _ hK rfl, hM.keepT ?_ ?_⟩
   · exact (puts_far (by omega) _ _ _ hM.box).far (p := ⟨w.heap.size + 2, 0, none⟩) (by show w.heap.size + 3 ≠ w.heap.size + 2; omega) _
   · intro g t ds h1 h2 hw
     exact (puts_far (hw.ne hres h1) _ _ _ hw).far (p := ⟨w.heap.size + 2, 0, none⟩) (hw.ne herr h2) _
theorem not_isM {p : PartS} {m : MediaS} (hm : readM rP p = m) (hn : ¬ IsM p m) : ∀ m', TypedM m' → ¬ IsM p m' := fun m' ht h => hn (by rw [← hm, IsM.read rP_law h ht]; exact h)
theorem attrsM_few' {p : PartS} {m : MediaS} (h : IsM p m) : (p.attrs.filter known).length ≤ 64 := by
 obtain ⟨h1, -, -, h4⟩ := h
 unfold mayM at h1
 rw [Bool.and_eq_true, decide_eq_true_eq] at h1
 rw [← h4]
 exact h1.2
theorem not_isM_many {p : PartS} (h : 64 < (p.attrs.filter known).length) : ∀ m', TypedM m' → ¬ IsM p m' := fun m' _ hi => by
 have := attrsM_few' hi
 omega
attribute [local go_sem] Oper.semAt_some
set_option maxHeartbeats 6400000 in
set_option maxRecDepth 100000 in
theorem read_any (p : PartS) (vp : Value) (w : World) (h : AttrsV w w.heap.size vp p.attrs) (hz : SizR p) (hE : EnvR w) (h7 : 7 ≤ w.heap.size) :
 Calls Tryz.prog 22 #[.agg #[.string p.line, .string p.conn, vp]] w (ReadO p w) := by
 obtain ⟨A, c, rfl, hc, hmx, -⟩ := h.form
 obtain ⟨n, hn⟩ : ∃ n, p.attrs.length = n := ⟨_, rfl⟩
 rw [hn]
 rw [hn] at h hc
 have HV := Lib.hid h
 have HZ := Lib.hid hz
 have HEN := Lib.hid hE
 have H7 := Lib.hid h7
 obtain ⟨ln, hln⟩ : ∃ x, p.line = x := ⟨_, rfl⟩
 obtain ⟨cn, hcn⟩ : ∃ x, p.conn = x := ⟨_, rfl⟩
 have HLN := Lib.hid (And.intro hln hcn)
 rw [hln, hcn]
 clear h hz hE h7 hn hln hcn hc hmx
 refine calls_marks 5 Tryz.func22 rfl ?_
 simp only [Tryz.ntmps22, List.size_toArray, List.length_cons, List.length_nil, Nat.reduceAdd, Nat.reduceSub, Array.replicate_succ, Array.replicate_zero, List.push_toArray, List.append_toArray, List.nil_append, List.cons_append]
 go_upto_region 3 with fail
 simp only [Nat.add_assoc, Nat.reduceAdd]
 have H0 := Lib.hid (five_new w #[.string ln, .string cn, .slice A n c])
 unfold zeroM at H0
 generalize (((((w.alloc (.cells #[.string ln, .string cn, .slice A n c] 38)).alloc (.cells #[.int .i64 0, .int .i64 0, .string ⟨#[]⟩, .int .i64 0, .slice none 0 0, .slice none 0 0, .slice none 0 0, .bool false, .slice none 0 0, .slice none 0 0, .int .i64 0] 28)).alloc (.cells #[.int .i64 0] 33)).alloc (.cells #[.int .i64 0, .int .i64 0, .string ⟨#[]⟩, .int .i64 0, .slice none 0 0, .slice none 0 0, .slice none 0 0, .bool false, .slice none 0 0, .slice none 0 0, .int .i64 0] 28)).alloc (.cells #[.slice none 0 0] 36)) = W0 at *
 have e0 : W0.cell? ⟨w.heap.size, 0, none⟩ = some (.string ln) := H0.out.2.1.cell 0
 have HRL : Hid (Calls Tryz.prog 52 #[.pointer (some ⟨w.heap.size + 3, 0, none⟩), .string ln] W0 (RdO w.heap.size (w.heap.size + 3) 0 W0 (startM rP (tx ln)))) := Lib.hid
  (readLine_any w.heap.size (w.heap.size + 3) 0 ln MediaS.zero [] _ _ _ _ _ W0 (MW.zero H0.out.2.2.2.2.1 (by omega)) (HEN.out.under H0.out.1) (by have := HZ.out.line; rw [HLN.out.1] at this; omega) rfl H7.out)
 go_upto_region 4 with (go_at_call 52; (with_reducible refine HRL.out.mono ?_); rintro e w1 ⟨rfl, hm1, hr1⟩; have H1 := Lib.hid (And.intro hm1 hr1); clear hm1 hr1; dsimp only)
 have HRI : Hid (RI w #[.string ln, .string cn, .slice A n c] (startM rP (tx ln)) [] w1) := Lib.hid
  ⟨H0.out.1.trans H1.out.2.low, H1.out.2.kept _ _ _ H0.out.2.1 (by decide) (by decide) (by decide) (by decide) (by decide) (by omega), H1.out.2.kept _ _ _ H0.out.2.2.1 (by decide) (by decide) (by decide) (by decide) (by decide) (by omega), H1.out.2.kept _ _ _ H0.out.2.2.2.1 (by decide) (by decide) (by decide) (by decide) (by decide) (by omega),
   H1.out.1, ⟨_, H1.out.2.kept _ _ _ H0.out.2.2.2.2.2 (by decide) (by decide) (by decide) (by decide) (by decide) (by omega), Own.nil _ _ _ _⟩, by simp⟩
 clear HRL H1 e0 H0
 have e2 : w1.cell? ⟨w.heap.size, 2, none⟩ = some (.slice A n c) := HRI.out.part.cell 2
 have HKM := Lib.hid (known_mk A n c w1)
 go_wp2_with (go_at_call 53; (with_reducible refine HKM.out.mono ?_); rintro e w2 ⟨rfl, rfl⟩; dsimp only)
 have hb2 : Below w1.heap.size w1 (w1.alloc (.cells #[.slice A n c] 36)) := (Below.refl _ w1).alloc (Nat.le_refl _) _
 have HR2 := Lib.hid (HRI.out.under hb2)
 have HGK : Hid ((w1.alloc (.cells #[.slice A n c] 36)).cell? ⟨w1.heap.size, 0, none⟩ = some (.slice A n c)) := Lib.hid ((Whole.new _ _ _).cell 0)
 clear hb2 HRI HKM e2
 generalize w1.alloc (.cells #[.slice A n c] 36) = W2 at *
 generalize w1.heap.size = gk at *
 obtain ⟨m0, hm0⟩ : ∃ m, startM rP (tx ln) = m := ⟨_, rfl⟩
 rw [hm0] at HR2
 have HM0 := Lib.hid hm0
 clear hm0
 obtain ⟨P, hP⟩ : ∃ P : Array Value, #[.string ln, .string cn, .slice A n c] = P := ⟨_, rfl⟩
 have HP := Lib.hid hP
 rw [hP] at HR2
 clear hP
 have HSZ : Hid (w.heap.size ≤ W2.heap.size) := Lib.hid HR2.out.low.size
 refine (wpIn_wide (n := 5)).1 ?_
 apply range_told (α := AttrS × Value) (encs := encA) (G := KnG p.attrs) (Kp := fun A B => Below w.heap.size A B) (S := fun xs => xs.map (·.1) = p.attrs.filter known) (by decide) (gf := 103) (lb := #[.pointer (some ⟨gk, 0, none⟩)]) rfl (enters_of Tryz.func103 (by kernel_rfl) rfl)
  (known_tells 4 w.heap.size gk (by decide) A n c p.attrs W2 (HV.out.below HR2.out.low) HSZ.out H7.out (HEN.out.env.low HR2.out.low H7.out) HGK.out HZ.out.len)
  (fun h k => h.trans k) (fun W l o o' hl ho hc => (Below.refl _ W).grown (grownBy_putObj' W l o') (by have := (Array.getElem?_eq_some_iff.1 ho).1; have := HSZ.out; omega) (fun k e => by cases e; exact Nat.le_trans HSZ.out hl)) (fun _ => rfl)
  (fun pre W => RI w P m0 (pre.map (·.1)) W)
  (fun W => Below w.heap.size w W ∧ Whole W (w.heap.size + 1) 28 zeroM ∧ Whole W (w.heap.size + 2) 33 #[.int .i64 2] ∧ 64 < (p.attrs.filter known).length)
  (fun s A B row hs hg hr => hs.grown HSZ.out hg hr)
  (fun s A B row hs hg hr => ⟨hs.1.grown hg hs.1.size (fun r e => Nat.le_trans HSZ.out (hr r e).1), cells_other hg (fun r e => (hr r e).2) _ _ _ hs.2.1, cells_other hg (fun r e => (hr r e).2) _ _ _ hs.2.2.1, hs.2.2.2⟩)
  HR2.out
  (fun pre x a' W => ∃ g6, a' = { tmps := #[.agg #[.string ln, .string cn, .slice A n c], .pointer (some ⟨w.heap.size, 0, none⟩), .pointer (some ⟨w.heap.size + 1, 0, none⟩), .pointer (some ⟨w.heap.size + 2, 0, none⟩), .pointer (some ⟨w.heap.size + 3, 0, none⟩), .pointer (some ⟨w.heap.size + 4, 0, none⟩), .pointer (some ⟨g6, 0, none⟩), x.2, undef, undef, .pointer (some ⟨w.heap.size, 0, none⟩), .string ln, .tuple #[], .pointer (some ⟨w.heap.size, 2, none⟩), .slice A n c, .func (.func 103) #[] #[.pointer (some ⟨gk, 0, none⟩)], .agg #[.string x.1.name, .string x.1.value], x.2, undef, undef, undef, undef, undef, undef, undef, undef, undef, undef, undef, undef, undef, undef, undef, undef, undef, undef, undef, undef, undef, undef, undef, undef, undef, undef, undef, undef, undef, undef, undef, undef, undef, undef, undef, undef, undef, undef, undef, undef, undef, undef, undef], defers := [] } ∧ Whole W g6 53 #[.string x.1.name, .string x.1.value] ∧ w.heap.size + 5 ≤ g6 ∧ RI w P m0 (pre.map (·.1)) W ∧ KnG p.attrs pre x W ∧ ∃ va, Whole W (w.heap.size + 4) 36 #[va] ∧ Own W w.heap.size 53 2 va ((pre.map (·.1)).map acell) ∧ va.ownBlock ≠ some g6)
  (fun pre x a' s A B row hs hg hr => by
    obtain ⟨g6, h1, h2, h3, h4, h5, va, h6, h7, h8⟩ := hs
    have hk := cells_other hg (fun r e => (hr r e).2)
    exact ⟨g6, h1, hk _ _ _ h2, h3, h4.grown HSZ.out hg hr, ⟨h5.is, h5.rdr.cells (fun g cs => hk g _ cs), h5.next⟩, va, hk _ _ _ h6, h7.cells hk, h8⟩)
 case hassign =>
  rintro l pre ⟨⟨nm, vl⟩, rv⟩ W K hI hG hK
  simp only [encA]
  have hb : Below W.heap.size W (W.alloc (.cells #[.string nm, .string vl] 53)) := (Below.refl _ W).alloc (Nat.le_refl _) _
  have hN : w.heap.size + 5 ≤ W.heap.size := by obtain ⟨va, h1, -⟩ := hI.att; have := h1.lt; omega
  have HFIN : Hid (KeepsFrom W2.heap.size W (W.alloc (.cells #[.string nm, .string vl] 53)) ∧ Below w.heap.size W (W.alloc (.cells #[.string nm, .string vl] 53)) ∧ Whole (W.alloc (.cells #[.string nm, .string vl] 53)) W.heap.size 53 #[.string nm, .string vl] ∧ w.heap.size + 5 ≤ W.heap.size ∧ RI w P m0 (pre.map (·.1)) (W.alloc (.cells #[.string nm, .string vl] 53)) ∧ KnG p.attrs pre (⟨nm, vl⟩, rv) (W.alloc (.cells #[.string nm, .string vl] 53)) ∧ ∃ va, Whole (W.alloc (.cells #[.string nm, .string vl] 53)) (w.heap.size + 4) 36 #[va] ∧ Own (W.alloc (.cells #[.string nm, .string vl] 53)) w.heap.size 53 2 va ((pre.map (·.1)).map acell) ∧ va.ownBlock ≠ some W.heap.size) := Lib.hid
   ⟨(others_under hb).from _, hb.mono hI.low.size, Whole.new _ _ _, hN, hI.under hb, ⟨hG.is, hG.rdr.under hb, hG.next⟩, (by obtain ⟨va, h1, h2⟩ := hI.att; exact ⟨va, h1.under hb, h2.under hb, fun e => by have := (h2.lt e).2; omega⟩)⟩
  clear hb hI hG hN
  gi_wp2
  exact hK _ _ HFIN.out.1 HFIN.out.2.1 ⟨_, rfl, HFIN.out.2.2.1, HFIN.out.2.2.2.1, HFIN.out.2.2.2.2.1, HFIN.out.2.2.2.2.2⟩
 case hbody =>
  rintro l pre ⟨⟨nm, vl⟩, rv⟩ a' W ⟨g6, rfl, hg6, hge, hRI, hG, va, hva, hov, hvg⟩
  obtain ⟨Av, cv, hvf, -⟩ := hov.form
  obtain ⟨k, hk⟩ : ∃ k, (pre.map (·.1)).length = k := ⟨_, rfl⟩
  rw [List.length_map, hk] at hvf
  subst hvf
  have hk64 : k ≤ 64 := by have := hRI.few; omega
  have e5 : W.cell? ⟨w.heap.size + 4, 0, none⟩ = some (.slice Av k cv) := hva.cell 0
  have y0 : W.cell? ⟨g6, 0, none⟩ = some (.string nm) := hg6.cell 0
  have y1 : W.cell? ⟨g6, 1, none⟩ = some (.string vl) := hg6.cell 1
  have HB := Lib.hid (And.intro hRI (And.intro hG (And.intro hva (And.intro hov (And.intro hg6 (And.intro hk hvg))))))
  clear hva hov hRI hG hg6 hk hvg
  by_cases h64 : k = 64
  · subst h64
    have HX : Hid (64 < (p.attrs.filter known).length) := Lib.hid (by
     obtain ⟨j, hj, hp⟩ := HB.out.2.1.next
     have hkn := HB.out.2.1.is
     have h1 := take_known hj
     have hkn : known ⟨nm, vl⟩ = true := hkn
     rw [hkn, ← hp] at h1
     have h2 : ((p.attrs.take (j + 1)).filter known).length ≤ (p.attrs.filter known).length := ((List.take_sublist _ _).filter _).length_le
     rw [h1, List.length_append, HB.out.2.2.2.2.2.1] at h2
     simp at h2
     omega)
    have HRS : Hid (Whole W (w.heap.size + 1) 28 zeroM ∧ Whole W (w.heap.size + 2) 33 #[.int .i64 0] ∧ Below w.heap.size w W) := Lib.hid ⟨HB.out.1.res, HB.out.1.err, HB.out.1.low⟩
    have r0 : W.cell? ⟨w.heap.size + 1, 0, none⟩ = some (.int .i64 0) := HRS.out.1.cell 0
    have r1 : W.cell? ⟨w.heap.size + 1, 1, none⟩ = some (.int .i64 0) := HRS.out.1.cell 1
    have r2 : W.cell? ⟨w.heap.size + 1, 2, none⟩ = some (.string ⟨#[]⟩) := HRS.out.1.cell 2
    have r3 : W.cell? ⟨w.heap.size + 1, 3, none⟩ = some (.int .i64 0) := HRS.out.1.cell 3
    have r4 : W.cell? ⟨w.heap.size + 1, 4, none⟩ = some (.slice none 0 0) := HRS.out.1.cell 4
    have r5 : W.cell? ⟨w.heap.size + 1, 5, none⟩ = some (.slice none 0 0) := HRS.out.1.cell 5
    have r6 : W.cell? ⟨w.heap.size + 1, 6, none⟩ = some (.slice none 0 0) := HRS.out.1.cell 6
    have r7 : W.cell? ⟨w.heap.size + 1, 7, none⟩ = some (.bool false) := HRS.out.1.cell 7
    have r8 : W.cell? ⟨w.heap.size + 1, 8, none⟩ = some (.slice none 0 0) := HRS.out.1.cell 8
    have r9 : W.cell? ⟨w.heap.size + 1, 9, none⟩ = some (.slice none 0 0) := HRS.out.1.cell 9
    have r10 : W.cell? ⟨w.heap.size + 1, 10, none⟩ = some (.int .i64 0) := HRS.out.1.cell 10
    have q0 := HRS.out.1.frz
    have e3 : W.cell? ⟨w.heap.size + 2, 0, none⟩ = some (.int .i64 0) := HRS.out.2.1.cell 0
    have q3 := HRS.out.2.1.frz 0
    have HFIN : Hid (∀ W', W' = (puts W (w.heap.size + 1) [.int .i64 0, .int .i64 0, .string ⟨#[]⟩, .int .i64 0, .slice none 0 0, .slice none 0 0, .slice none 0 0, .bool false, .slice none 0 0, .slice none 0 0, .int .i64 0] 0).setCell ⟨w.heap.size + 2, 0, none⟩ (.int .i64 2) →
     KeepsFrom W2.heap.size W W' ∧ Below w.heap.size w W' ∧ Whole W' (w.heap.size + 1) 28 zeroM ∧ Whole W' (w.heap.size + 2) 33 #[.int .i64 2]) := Lib.hid (by
     rintro W' rfl
     exact ⟨((puts_others _ _ _ _).trans (Go.KeepsOthers.setCell _ _ _)).from _, (HRS.out.2.2.trans (puts_below (by omega) _ _ _)).setCell (p := ⟨w.heap.size + 2, 0, none⟩) (by show w.heap.size ≤ w.heap.size + 2; omega) _,
      (puts_same _ 0 _ _ HRS.out.1).far (p := ⟨w.heap.size + 2, 0, none⟩) (by show w.heap.size + 1 ≠ w.heap.size + 2; omega) _, (puts_far (by omega) _ _ _ HRS.out.2.1).set 0 _⟩)
    clear HRS
    gi_wp2
    obtain ⟨h1, h2, h3, h4⟩ := HFIN.out _ rfl
    exact ⟨h1, h2, h3, h4, HX.out⟩
  · have h64i : ((k : Int) == 64) = false := by rw [beq_eq_false_iff_ne]; omega
    have hb : Below W.heap.size W (W.alloc (.cells #[.string nm, .string vl] 53)) := (Below.refl _ W).alloc (Nat.le_refl _) _
    have HA : Hid (Own (W.alloc (.cells #[.string nm, .string vl] 53)) w.heap.size 53 2 (.slice Av k cv) ((pre.map (·.1)).map acell) ∧ Whole (W.alloc (.cells #[.string nm, .string vl] 53)) W.heap.size 53 #[.string nm, .string vl] ∧ RI w P m0 (pre.map (·.1)) (W.alloc (.cells #[.string nm, .string vl] 53)) ∧ Whole (W.alloc (.cells #[.string nm, .string vl] 53)) (w.heap.size + 4) 36 #[.slice Av k cv] ∧ w.heap.size ≤ (W.alloc (.cells #[.string nm, .string vl] 53)).heap.size ∧
     KnG p.attrs pre (⟨nm, vl⟩, rv) (W.alloc (.cells #[.string nm, .string vl] 53)) ∧ Whole (W.alloc (.cells #[.string nm, .string vl] 53)) g6 53 #[.string nm, .string vl] ∧ Go.KeepsOthers W (W.alloc (.cells #[.string nm, .string vl] 53)) ∧ Below w.heap.size W (W.alloc (.cells #[.string nm, .string vl] 53))) := Lib.hid
     ⟨HB.out.2.2.2.1.under hb, Whole.new _ _ _, HB.out.1.under hb, HB.out.2.2.1.under hb, (HB.out.1.under hb).low.size, ⟨HB.out.2.1.is, HB.out.2.1.rdr.under hb, HB.out.2.1.next⟩, HB.out.2.2.2.2.1.under hb, others_under hb, hb.mono HB.out.1.low.size⟩
    have HCL : Hid (∀ W, Calls Tryz.prog 54 #[.string vl] W fun e w' => e = .returned (.string vl) ∧ Below W.heap.size W w') := Lib.hid fun W => clone_any vl W (by
     obtain ⟨j, hj, -⟩ := HB.out.2.1.next
     have := HZ.out.values _ (List.mem_of_getElem? hj)
     have : vl.size ≤ 140737488355328 := this
     omega)
    clear hb
    gi_wp2_with (gi_at_builtin; refine wpListIn_appendE (r := [.string nm, .string vl]) rfl (.tmp 22) (.tmp 24) rfl Tryz.underlying36 Tryz.infoSAttr rfl (Nat.zero_lt_succ _) rfl HA.out.1 rfl HA.out.2.1 rfl (fun u hu => by simp at hu; rcases hu with rfl | rfl <;> rfl) (by rw [List.length_map, HB.out.2.2.2.2.2.1]; omega) (by rw [List.length_map, HB.out.2.2.2.2.2.1]; omega) HA.out.2.2.2.2.1 ?_; intro v8 w8 ho8 hg8 hn8; have H8 := Lib.hid (HA.out.2.2.1.laid (a := ⟨nm, vl⟩) HA.out.2.2.2.1 HA.out.1 ho8 hg8); have hw8 := HA.out.2.2.2.1.grown hg8 (fun e => (HA.out.1.apart HA.out.2.2.2.1 (by decide)) e.symm); have c8 : w8.cell? ⟨w.heap.size + 4, 0, none⟩ = some (.slice Av k cv) := hw8.cell 0; have f8 := hw8.frz 0; have H6 : Hid (Whole (w8.setCell ⟨w.heap.size + 4, 0, none⟩ v8) g6 53 #[.string nm, .string vl]) := Lib.hid ((HA.out.2.2.2.2.2.2.1.grown hg8 (fun e => HB.out.2.2.2.2.2.2 e.symm)).far (p := ⟨w.heap.size + 4, 0, none⟩) (by show g6 ≠ w.heap.size + 4; omega) _); have HB8 : Hid (Below w.heap.size W (w8.setCell ⟨w.heap.size + 4, 0, none⟩ v8)) := Lib.hid ((HA.out.2.2.2.2.2.2.2.2.trans ((Below.refl _ _).grown hg8 HA.out.2.2.2.2.1 (fun j hj => (HA.out.1.lt hj).1))).setCell (p := ⟨w.heap.size + 4, 0, none⟩) (by show w.heap.size ≤ w.heap.size + 4; omega) _); obtain ⟨A8, l8, k8, hv8⟩ : ∃ A l k, v8 = .slice A l k := (by obtain ⟨A, k, h, -⟩ := ho8.form; exact ⟨_, _, _, h⟩); subst hv8; clear ho8 hg8 hn8 hw8; have y8 : (w8.setCell ⟨w.heap.size + 4, 0, none⟩ (.slice A8 l8 k8)).cell? ⟨g6, 1, none⟩ = some (.string vl) := H6.out.cell 1)
    have H9 : Hid (Below w.heap.size w (w8.setCell ⟨w.heap.size + 4, 0, none⟩ (.slice A8 l8 k8)) ∧ KnG p.attrs pre (⟨nm, vl⟩, rv) (w8.setCell ⟨w.heap.size + 4, 0, none⟩ (.slice A8 l8 k8))) := Lib.hid
     ⟨H8.out.1, HB.out.2.1.is, HA.out.2.2.2.2.2.1.rdr.cells (fun g cs hw => H8.out.2.2.2.2.2.2.2.1 g _ cs (by decide) (hw.ne HA.out.2.2.2.1 (by decide)) hw), HB.out.2.1.next⟩
    have HKO : Hid (Go.KeepsOthers W (w8.setCell ⟨w.heap.size + 4, 0, none⟩ (.slice A8 l8 k8))) := Lib.hid (HA.out.2.2.2.2.2.2.2.1.trans H8.out.2.2.2.2.2.2.2.2)
    clear HA c8 f8 y8 H6
    generalize w8.setCell ⟨w.heap.size + 4, 0, none⟩ (.slice A8 l8 k8) = w9 at *
    have HRC : Hid (∀ w10, Below w9.heap.size w9 w10 → ∃ f cap, rv = .func (.func f) #[] cap ∧ (∀ args w, (callFunc f args).run Tryz.prog w = .ok (.enter f args) w) ∧ CallsIn (FW.inRound l) 2 Tryz.prog f (#[.pointer (some ⟨w.heap.size + 3, 0, none⟩), .string vl] ++ cap) w10 fun e w' =>
     e = .returned (.tuple #[]) ∧ RI w P m0 (pre.map (·.1) ++ [⟨nm, vl⟩]) w' ∧ KeepsFrom W2.heap.size W w' ∧ Below w.heap.size W w') := Lib.hid fun w10 hb10 => by
     obtain ⟨h1, h2, h3, h4, ⟨cs, vC, vE, vR, vS, vY, hM⟩, h6, h7, h8, h9⟩ := H8.out
     have hM10 := hM.under hb10
     have hl : vl.size ≤ 140737488355328 := by
      obtain ⟨j, hj, -⟩ := HB.out.2.1.next
      exact HZ.out.values _ (List.mem_of_getElem? hj)
     have hb0 : Below w.heap.size w w10 := h1.trans (hb10.mono h1.size)
     obtain ⟨f, cap, e1, eg, hc⟩ := reader_calls w.heap.size (w.heap.size + 3) (pre.map (·.1)).length ⟨nm, vl⟩ rv _ cs vC vE vR vS vY w10 hM10 (HEN.out.low hb0 H7.out) hl HB.out.1.few (H9.out.2.rdr.under hb10) HB.out.2.1.is
     refine ⟨f, cap, e1, eg, (CallsIn.inRound l (callsIn_wide.2 hc)).mono fun e w' hr => ?_⟩
     obtain ⟨r1, r2, r3, r4⟩ := RI.read hb0 (h2.under hb10) (h3.under hb10) (h4.under hb10) (h6.under hb10) (h7.under hb10) (by rw [HB.out.2.2.2.2.2.1]; omega) rfl hM10.box (Nat.le_refl _) hr
     exact ⟨r1, r2, ((HKO.out.trans (others_under hb10)).trans r3).from _, (HB8.out.trans (hb10.mono h1.size)).trans r4⟩
    clear H8 H9 HKO HB8 HB
    gi_wp2_with (first
     | (refine ⟨trivial, ?_⟩; gi_at_call 54; go_must (refine (CallsIn.inRound l (callsIn_wide.2 (HCL.out _))).mono ?_); rintro e w10 ⟨rfl, hb10⟩; obtain ⟨f, cap, rfl, eg, hcall⟩ := HRC.out w10 hb10; have HCC := Lib.hid (And.intro eg hcall); clear eg hcall hb10)
     | (refine wpListIn_callV rfl (.tmp 26) (.tmp 4) (.tmp 29) rfl rfl rfl rfl trivial (fun _ => by decide) HCC.out.1 HCC.out.2 ?_; rintro e w11 ⟨rfl, hr1, hr2, hr3⟩; have HFIN := Lib.hid (And.intro hr1 (And.intro hr2 hr3)); clear hr1 hr2 hr3; refine ⟨_, rfl, ?_⟩)
     | fail)
    exact ⟨HFIN.out.2.1, HFIN.out.2.2, by rw [List.map_append]; exact HFIN.out.1⟩
 case hdone =>
  rintro D xs W hD hxs hI hK
  obtain ⟨cs, vC, vE, vR, vS, vY, hM⟩ := hI.med
  obtain ⟨AC, lC, kC, rfl⟩ : ∃ A l k, vC = .slice A l k := by obtain ⟨A, k, h, -⟩ := hM.hC.form; exact ⟨_, _, _, h⟩
  obtain ⟨AE, lE, kE, rfl⟩ : ∃ A l k, vE = .slice A l k := by obtain ⟨A, k, h, -⟩ := hM.hE.form; exact ⟨_, _, _, h⟩
  obtain ⟨AR, lR, kR, rfl⟩ : ∃ A l k, vR = .slice A l k := by obtain ⟨A, k, h, -⟩ := hM.hR.form; exact ⟨_, _, _, h⟩
  obtain ⟨AS, lS, kS, rfl⟩ : ∃ A l k, vS = .slice A l k := by obtain ⟨A, k, h, -⟩ := hM.hS.form; exact ⟨_, _, _, h⟩
  obtain ⟨AY, lY, kY, rfl⟩ : ∃ A l k, vY = .slice A l k := by obtain ⟨A, k, h, -⟩ := hM.hY.form; exact ⟨_, _, _, h⟩
  obtain ⟨va, hva, hov⟩ := hI.att
  obtain ⟨Av, cv, hvf, -⟩ := hov.form
  have hfew := hI.few
  obtain ⟨m, hm⟩ : ∃ m, (xs.map (·.1)).foldl (rd rP) m0 = m := ⟨_, rfl⟩
  have hrd : readM rP p = m := by
   rw [← hm, hxs, ← HM0.out, ← HLN.out.1]
   rfl
  rw [hm] at hM
  rw [hxs] at hfew hM hov hvf
  obtain ⟨KL, hKL⟩ : ∃ L, p.attrs.filter known = L := ⟨_, rfl⟩
  rw [hKL] at hfew hM hov hvf
  obtain ⟨k, hk⟩ : ∃ k, KL.length = k := ⟨_, rfl⟩
  rw [List.length_map, hk] at hvf
  subst hvf
  rw [hk] at hM hfew
  have hlow := hI.low
  have HX := Lib.hid (And.intro hI.res (And.intro hI.err (And.intro hK (And.intro hlow (And.intro hD (And.intro hva (And.intro hov hrd)))))))
  have HMW := Lib.hid hM
  have HX9 := Lib.hid hI.part
  have HKL := Lib.hid (And.intro hKL hk)
  have HWR := Lib.hid (write_any _ m (.slice AC lC kC) (.slice AE lE kE) (.slice AR lR kR) (.slice AS lS kS) (.slice AY lY kY) W hM.media hM.siz (HEN.out.env.low hlow H7.out) (Nat.le_trans H7.out hlow.size))
  unfold mcell at HWR
  have b0 : W.cell? ⟨w.heap.size + 3, 0, none⟩ = some (.int .i64 m.kind) := hM.box.cell 0
  have b1 : W.cell? ⟨w.heap.size + 3, 1, none⟩ = some (.int .i64 m.port) := hM.box.cell 1
  have b2 : W.cell? ⟨w.heap.size + 3, 2, none⟩ = some (.string m.mid) := hM.box.cell 2
  have b3 : W.cell? ⟨w.heap.size + 3, 3, none⟩ = some (.int .i64 m.dir) := hM.box.cell 3
  have b4 : W.cell? ⟨w.heap.size + 3, 4, none⟩ = some ((.slice AC lC kC)) := hM.box.cell 4
  have b5 : W.cell? ⟨w.heap.size + 3, 5, none⟩ = some ((.slice AE lE kE)) := hM.box.cell 5
  have b6 : W.cell? ⟨w.heap.size + 3, 6, none⟩ = some ((.slice AR lR kR)) := hM.box.cell 6
  have b7 : W.cell? ⟨w.heap.size + 3, 7, none⟩ = some (.bool m.sending) := hM.box.cell 7
  have b8 : W.cell? ⟨w.heap.size + 3, 8, none⟩ = some ((.slice AS lS kS)) := hM.box.cell 8
  have b9 : W.cell? ⟨w.heap.size + 3, 9, none⟩ = some ((.slice AY lY kY)) := hM.box.cell 9
  have b10 : W.cell? ⟨w.heap.size + 3, 10, none⟩ = some (.int .i64 m.sctp) := hM.box.cell 10
  clear hI hM hva hov hlow hrd hK hKL hk hm hxs hD
  go_upto_region 12 with (go_at_call 16; (with_reducible refine HWR.out.mono ?_); rintro e w3 hw3; obtain ⟨Ao, co, rfl, hwa, hb3⟩ := hw3.reads; have H3 := Lib.hid (And.intro hwa hb3); clear hw3 hwa hb3; dsimp only)
  have hb4 : Below w3.heap.size w3 (w3.alloc (.cells #[.string (partW m).line, .string (partW m).conn, .slice Ao (partW m).attrs.length co] 38)) := (Below.refl _ w3).alloc (Nat.le_refl _) _
  have H4 : Hid (Whole (w3.alloc (.cells #[.string (partW m).line, .string (partW m).conn, .slice Ao (partW m).attrs.length co] 38)) w3.heap.size 38 #[.string (partW m).line, .string (partW m).conn, .slice Ao (partW m).attrs.length co] ∧ Below W.heap.size W (w3.alloc (.cells #[.string (partW m).line, .string (partW m).conn, .slice Ao (partW m).attrs.length co] 38)) ∧ AttrsV (w3.alloc (.cells #[.string (partW m).line, .string (partW m).conn, .slice Ao (partW m).attrs.length co] 38)) w3.heap.size (.slice Ao (partW m).attrs.length co) (partW m).attrs) := Lib.hid
   ⟨Whole.new _ _ _, below_chain (Nat.le_refl _) H3.out.2 hb4, H3.out.1.below hb4⟩
  clear hb4 H3 HWR b0 b1 b2 b3 b4 b5 b6 b7 b8 b9 b10
  generalize w3.alloc (.cells #[.string (partW m).line, .string (partW m).conn, .slice Ao (partW m).attrs.length co] 38) = w4 at *
  have HG8 : Hid (w3.heap.size ≤ w4.heap.size) := Lib.hid (Nat.le_of_lt H4.out.1.lt)
  generalize w3.heap.size = g8 at *
  have HEQ : Hid (∀ w5, Below w4.heap.size w4 w5 → (Whole w5 (w.heap.size + 1) 28 zeroM ∧ Whole w5 (w.heap.size + 2) 33 #[.int .i64 0] ∧ w5.heap[D]? = some (.deferred (some [])) ∧ Below w.heap.size w w5 ∧ MW w.heap.size (w.heap.size + 3) k w5 m cs (.slice AC lC kC) (.slice AE lE kE) (.slice AR lR kR) (.slice AS lS kS) (.slice AY lY kY))) := Lib.hid fun w5 hb => by
   have hb' := below_chain (Nat.le_refl _) H4.out.2.1 hb
   exact ⟨HX.out.1.under hb', HX.out.2.1.under hb', (others_under hb').same _ _ HX.out.2.2.1 rfl, HX.out.2.2.2.1.trans (hb'.mono HX.out.2.2.2.1.size), HMW.out.under hb'⟩
  have HSE : Hid (Calls Tryz.prog 55 #[.slice Ao (partW m).attrs.length co, .slice Av k cv] w4 (SameB w4 (partW m).attrs KL)) := Lib.hid (slEqual_any _ _ _ _ w4 (H4.out.2.2.more HG8.out) (by
   have := (HX.out.2.2.2.2.2.2.1.under H4.out.2.1).reads (Nat.le_refl _)
   exact this))
  have c0 : w4.cell? ⟨g8, 0, none⟩ = some (.string (partW m).line) := H4.out.1.cell 0
  have c1 : w4.cell? ⟨g8, 1, none⟩ = some (.string (partW m).conn) := H4.out.1.cell 1
  have c2 : w4.cell? ⟨g8, 2, none⟩ = some (.slice Ao (partW m).attrs.length co) := H4.out.1.cell 2
  have hpt : Whole w4 w.heap.size 38 #[.string ln, .string cn, .slice A n c] := by rw [HP.out]; exact HX9.out.under H4.out.2.1
  have p0 : w4.cell? ⟨w.heap.size, 0, none⟩ = some (.string ln) := hpt.cell 0
  have p1 : w4.cell? ⟨w.heap.size, 1, none⟩ = some (.string cn) := hpt.cell 1
  have a0 : w4.cell? ⟨w.heap.size + 4, 0, none⟩ = some (.slice Av k cv) := (HX.out.2.2.2.2.2.1.under H4.out.2.1).cell 0
  clear hpt
  have HNO : Hid (¬ IsM p m → ∀ w5, Below w4.heap.size w4 w5 → ∀ W', W' = (puts w5 (w.heap.size + 1) [.int .i64 0, .int .i64 0, .string ⟨#[]⟩, .int .i64 0, .slice none 0 0, .slice none 0 0, .slice none 0 0, .bool false, .slice none 0 0, .slice none 0 0, .int .i64 0] 0).setCell ⟨w.heap.size + 2, 0, none⟩ (.int .i64 2) → ∀ tmps : Array Value, tmps.getD 2 undef = .pointer (some ⟨w.heap.size + 1, 0, none⟩) → tmps.getD 3 undef = .pointer (some ⟨w.heap.size + 2, 0, none⟩) →
   postM 5 Tryz.f22 (ReadO p w) .ret { tmps := tmps, defers := [{ target := .collected D, args := #[] }] } W') := Lib.hid fun hno w5 hb5 W' hW tmps ht2 ht3 => by
   obtain ⟨q1, q2, q3, q4, q5⟩ := HEQ.out w5 hb5
   obtain ⟨r1, r2, r3, r4⟩ := (read_last (P := P) (n := k) (m := m) (cs := cs) (vC := .slice AC lC kC) (vE := .slice AE lE kE) (vR := .slice AR lR kR) (vS := .slice AS lS kS) (vY := .slice AY lY kY) q4 q1 q2 q3).1 W' hW
   exact read_end 5 Tryz.f22 rfl (M := zeroM) rfl r2 r3 r4 _ ht2 ht3 ⟨MediaS.zero, .slice none 0 0, .slice none 0 0, .slice none 0 0, .slice none 0 0, .slice none 0 0, 2, rfl, r1.grown (grownBy_putObj' W' D _) r1.size (fun r e => by cases e; exact Nat.le_trans HSZ.out HX.out.2.2.2.2.1), .inr ⟨rfl, rfl, not_isM HX.out.2.2.2.2.2.2.2 hno⟩⟩
  have HYES : Hid (IsM p m → ∀ w5, Below w4.heap.size w4 w5 → ∀ W', W' = (puts w5 (w.heap.size + 1) [.int .i64 m.kind, .int .i64 m.port, .string m.mid, .int .i64 m.dir, (.slice AC lC kC), (.slice AE lE kE), (.slice AR lR kR), .bool m.sending, (.slice AS lS kS), (.slice AY lY kY), .int .i64 m.sctp] 0).setCell ⟨w.heap.size + 2, 0, none⟩ (.int .i64 0) → ∀ tmps : Array Value, tmps.getD 2 undef = .pointer (some ⟨w.heap.size + 1, 0, none⟩) → tmps.getD 3 undef = .pointer (some ⟨w.heap.size + 2, 0, none⟩) →
   postM 5 Tryz.f22 (ReadO p w) .ret { tmps := tmps, defers := [{ target := .collected D, args := #[] }] } W') := Lib.hid fun hyes w5 hb5 W' hW tmps ht2 ht3 => by
   obtain ⟨q1, q2, q3, q4, q5⟩ := HEQ.out w5 hb5
   obtain ⟨r1, r2, r3, r4, r5⟩ := (read_last (P := P) (n := k) (m := m) (cs := cs) (vC := .slice AC lC kC) (vE := .slice AE lE kE) (vR := .slice AR lR kR) (vS := .slice AS lS kS) (vY := .slice AY lY kY) q4 q1 q2 q3).2 q5 W' hW
   exact read_end 5 Tryz.f22 rfl (M := mcell m (.slice AC lC kC) (.slice AE lE kE) (.slice AR lR kR) (.slice AS lS kS) (.slice AY lY kY)) rfl r2 r3 r4 _ ht2 ht3 ⟨m, (.slice AC lC kC), (.slice AE lE kE), (.slice AR lR kR), (.slice AS lS kS), (.slice AY lY kY), 0, rfl, r1.grown (grownBy_putObj' W' D _) r1.size (fun r e => by cases e; exact Nat.le_trans HSZ.out HX.out.2.2.2.2.1), .inl ⟨rfl, hyes, _, cs, (r5.cells (cells_put (.deferred none) r4 rfl)).wider hfew⟩⟩
  have HIS : Hid (IsM p m ↔ errW m = 0 ∧ (partW m).line = ln ∧ (partW m).conn = cn ∧ (partW m).attrs = KL) := Lib.hid (by
   unfold IsM errW partW
   rw [HLN.out.1, HLN.out.2, HKL.out.1]
   by_cases hmm : mayM m = true
   · rw [if_pos hmm, if_pos hmm]
     show (_ ∧ _ ∧ _ ∧ _) ↔ (_ ∧ bs (lineM m) = ln ∧ bs wConn = cn ∧ attrsM m = KL)
     constructor
     · rintro ⟨-, h2, h3, h4⟩
       exact ⟨rfl, by rw [h2, bs_tx], h3.symm, h4⟩
     · rintro ⟨-, h2, h3, h4⟩
       exact ⟨hmm, by rw [← h2, tx_bs], h3.symm, h4⟩
   · rw [if_neg hmm, if_neg hmm]
     constructor
     · rintro ⟨h, -⟩; exact absurd h hmm
     · rintro ⟨h, -⟩; cases h)
  have hew : errW m = 0 ∨ errW m = 1 := by unfold errW; split <;> simp
  have res0 : ∀ w5, Below w4.heap.size w4 w5 → (∀ i v, (zeroM)[i]? = some v → w5.cell? ⟨w.heap.size + 1, i, none⟩ = some v) ∧ (∀ i, w5.frozen? ⟨w.heap.size + 1, i, none⟩ = false) ∧ w5.cell? ⟨w.heap.size + 2, 0, none⟩ = some (.int .i64 0) ∧ (∀ i, w5.frozen? ⟨w.heap.size + 2, i, none⟩ = false) := fun w5 hb => by
   obtain ⟨q1, q2, q3, q4, q5⟩ := HEQ.out w5 hb
   exact ⟨fun i v hv => (q1.cell i).trans hv, q1.frz, q2.cell 0, q2.frz⟩
  have HR0 := Lib.hid res0
  have HMB : Hid (∀ w5, Below w4.heap.size w4 w5 → ∀ i v, (mcell m (.slice AC lC kC) (.slice AE lE kE) (.slice AR lR kR) (.slice AS lS kS) (.slice AY lY kY))[i]? = some v → w5.cell? ⟨w.heap.size + 3, i, none⟩ = some v) := Lib.hid fun w5 hb i v hv => ((HEQ.out w5 hb).2.2.2.2.box.cell i).trans hv
  clear res0 HEQ H4 HX HMW hfew
  obtain ⟨er, her⟩ : ∃ e, errW m = e := ⟨_, rfl⟩
  obtain ⟨sl, hsl⟩ : ∃ e, (partW m).line = e := ⟨_, rfl⟩
  obtain ⟨sc, hsc⟩ : ∃ e, (partW m).conn = e := ⟨_, rfl⟩
  rw [her, hsl, hsc] at HIS
  simp only [her, hsl, hsc]
  rw [hsl] at c0
  rw [hsc] at c1
  rw [her] at hew
  clear her hsl hsc
  rcases hew with rfl | rfl
  · obtain ⟨x1, hx1⟩ : ∃ b, (sl.toList == ln.toList) = b := ⟨_, rfl⟩
    obtain ⟨x2, hx2⟩ : ∃ b, (sc.toList == cn.toList) = b := ⟨_, rfl⟩
    have H1 : Hid (x1 = true ↔ sl = ln) := Lib.hid (by rw [← hx1]; exact toList_beq)
    have H2 : Hid (x2 = true ↔ sc = cn) := Lib.hid (by rw [← hx2]; exact toList_beq)
    cases x1 with
    | false =>
      have hno := Lib.hid (HNO.out (fun h => by have := H1.out.2 (HIS.out.1 h).2.1; cases this) w4 (Below.refl _ _))
      obtain ⟨z, zf, ze, zq⟩ := HR0.out w4 (Below.refl _ _)
      have z0 : w4.cell? ⟨w.heap.size + 1, 0, none⟩ = some (.int .i64 0) := z 0 _ rfl
      have z1 : w4.cell? ⟨w.heap.size + 1, 1, none⟩ = some (.int .i64 0) := z 1 _ rfl
      have z2 : w4.cell? ⟨w.heap.size + 1, 2, none⟩ = some (.string ⟨#[]⟩) := z 2 _ rfl
      have z3 : w4.cell? ⟨w.heap.size + 1, 3, none⟩ = some (.int .i64 0) := z 3 _ rfl
      have z4 : w4.cell? ⟨w.heap.size + 1, 4, none⟩ = some (.slice none 0 0) := z 4 _ rfl
      have z5 : w4.cell? ⟨w.heap.size + 1, 5, none⟩ = some (.slice none 0 0) := z 5 _ rfl
      have z6 : w4.cell? ⟨w.heap.size + 1, 6, none⟩ = some (.slice none 0 0) := z 6 _ rfl
      have z7 : w4.cell? ⟨w.heap.size + 1, 7, none⟩ = some (.bool false) := z 7 _ rfl
      have z8 : w4.cell? ⟨w.heap.size + 1, 8, none⟩ = some (.slice none 0 0) := z 8 _ rfl
      have z9 : w4.cell? ⟨w.heap.size + 1, 9, none⟩ = some (.slice none 0 0) := z 9 _ rfl
      have z10 : w4.cell? ⟨w.heap.size + 1, 10, none⟩ = some (.int .i64 0) := z 10 _ rfl
      clear z
      go_wp2
      exact hno.out _ rfl _ rfl rfl
    | true =>
      cases x2 with
      | false =>
        have hno := Lib.hid (HNO.out (fun h => by have := H2.out.2 (HIS.out.1 h).2.2.1; cases this) w4 (Below.refl _ _))
        obtain ⟨z, zf, ze, zq⟩ := HR0.out w4 (Below.refl _ _)
        have z0 : w4.cell? ⟨w.heap.size + 1, 0, none⟩ = some (.int .i64 0) := z 0 _ rfl
        have z1 : w4.cell? ⟨w.heap.size + 1, 1, none⟩ = some (.int .i64 0) := z 1 _ rfl
        have z2 : w4.cell? ⟨w.heap.size + 1, 2, none⟩ = some (.string ⟨#[]⟩) := z 2 _ rfl
        have z3 : w4.cell? ⟨w.heap.size + 1, 3, none⟩ = some (.int .i64 0) := z 3 _ rfl
        have z4 : w4.cell? ⟨w.heap.size + 1, 4, none⟩ = some (.slice none 0 0) := z 4 _ rfl
        have z5 : w4.cell? ⟨w.heap.size + 1, 5, none⟩ = some (.slice none 0 0) := z 5 _ rfl
        have z6 : w4.cell? ⟨w.heap.size + 1, 6, none⟩ = some (.slice none 0 0) := z 6 _ rfl
        have z7 : w4.cell? ⟨w.heap.size + 1, 7, none⟩ = some (.bool false) := z 7 _ rfl
        have z8 : w4.cell? ⟨w.heap.size + 1, 8, none⟩ = some (.slice none 0 0) := z 8 _ rfl
        have z9 : w4.cell? ⟨w.heap.size + 1, 9, none⟩ = some (.slice none 0 0) := z 9 _ rfl
        have z10 : w4.cell? ⟨w.heap.size + 1, 10, none⟩ = some (.int .i64 0) := z 10 _ rfl
        clear z
        go_wp2
        exact hno.out _ rfl _ rfl rfl
      | true =>
        go_upto_if 58 with (go_at_call 55; (with_reducible refine HSE.out.mono ?_); rintro e w5 ⟨b, rfl, hb, hb5⟩; have H5 := Lib.hid (And.intro hb hb5); clear hb hb5; dsimp only)
        cases b with
        | false =>
          have hno := Lib.hid (HNO.out (fun h => by have := H5.out.1.2 (HIS.out.1 h).2.2.2; cases this) w5 H5.out.2)
          obtain ⟨z, zf, ze, zq⟩ := HR0.out w5 (H5.out.2)
          have z0 : w5.cell? ⟨w.heap.size + 1, 0, none⟩ = some (.int .i64 0) := z 0 _ rfl
          have z1 : w5.cell? ⟨w.heap.size + 1, 1, none⟩ = some (.int .i64 0) := z 1 _ rfl
          have z2 : w5.cell? ⟨w.heap.size + 1, 2, none⟩ = some (.string ⟨#[]⟩) := z 2 _ rfl
          have z3 : w5.cell? ⟨w.heap.size + 1, 3, none⟩ = some (.int .i64 0) := z 3 _ rfl
          have z4 : w5.cell? ⟨w.heap.size + 1, 4, none⟩ = some (.slice none 0 0) := z 4 _ rfl
          have z5 : w5.cell? ⟨w.heap.size + 1, 5, none⟩ = some (.slice none 0 0) := z 5 _ rfl
          have z6 : w5.cell? ⟨w.heap.size + 1, 6, none⟩ = some (.slice none 0 0) := z 6 _ rfl
          have z7 : w5.cell? ⟨w.heap.size + 1, 7, none⟩ = some (.bool false) := z 7 _ rfl
          have z8 : w5.cell? ⟨w.heap.size + 1, 8, none⟩ = some (.slice none 0 0) := z 8 _ rfl
          have z9 : w5.cell? ⟨w.heap.size + 1, 9, none⟩ = some (.slice none 0 0) := z 9 _ rfl
          have z10 : w5.cell? ⟨w.heap.size + 1, 10, none⟩ = some (.int .i64 0) := z 10 _ rfl
          clear z
          go_wp2
          exact hno.out _ rfl _ rfl rfl
        | true =>
          have hyes := Lib.hid (HYES.out (HIS.out.2 ⟨rfl, H1.out.1 rfl, H2.out.1 rfl, H5.out.1.1 rfl⟩) w5 H5.out.2)
          obtain ⟨z, zf, ze, zq⟩ := HR0.out w5 (H5.out.2)
          have z0 : w5.cell? ⟨w.heap.size + 1, 0, none⟩ = some (.int .i64 0) := z 0 _ rfl
          have z1 : w5.cell? ⟨w.heap.size + 1, 1, none⟩ = some (.int .i64 0) := z 1 _ rfl
          have z2 : w5.cell? ⟨w.heap.size + 1, 2, none⟩ = some (.string ⟨#[]⟩) := z 2 _ rfl
          have z3 : w5.cell? ⟨w.heap.size + 1, 3, none⟩ = some (.int .i64 0) := z 3 _ rfl
          have z4 : w5.cell? ⟨w.heap.size + 1, 4, none⟩ = some (.slice none 0 0) := z 4 _ rfl
          have z5 : w5.cell? ⟨w.heap.size + 1, 5, none⟩ = some (.slice none 0 0) := z 5 _ rfl
          have z6 : w5.cell? ⟨w.heap.size + 1, 6, none⟩ = some (.slice none 0 0) := z 6 _ rfl
          have z7 : w5.cell? ⟨w.heap.size + 1, 7, none⟩ = some (.bool false) := z 7 _ rfl
          have z8 : w5.cell? ⟨w.heap.size + 1, 8, none⟩ = some (.slice none 0 0) := z 8 _ rfl
          have z9 : w5.cell? ⟨w.heap.size + 1, 9, none⟩ = some (.slice none 0 0) := z 9 _ rfl
          have z10 : w5.cell? ⟨w.heap.size + 1, 10, none⟩ = some (.int .i64 0) := z 10 _ rfl
          clear z
          have m0 : w5.cell? ⟨w.heap.size + 3, 0, none⟩ = some (.int .i64 m.kind) := HMB.out w5 H5.out.2 0 _ rfl
          have m1 : w5.cell? ⟨w.heap.size + 3, 1, none⟩ = some (.int .i64 m.port) := HMB.out w5 H5.out.2 1 _ rfl
          have m2 : w5.cell? ⟨w.heap.size + 3, 2, none⟩ = some (.string m.mid) := HMB.out w5 H5.out.2 2 _ rfl
          have m3 : w5.cell? ⟨w.heap.size + 3, 3, none⟩ = some (.int .i64 m.dir) := HMB.out w5 H5.out.2 3 _ rfl
          have m4 : w5.cell? ⟨w.heap.size + 3, 4, none⟩ = some ((.slice AC lC kC)) := HMB.out w5 H5.out.2 4 _ rfl
          have m5 : w5.cell? ⟨w.heap.size + 3, 5, none⟩ = some ((.slice AE lE kE)) := HMB.out w5 H5.out.2 5 _ rfl
          have m6 : w5.cell? ⟨w.heap.size + 3, 6, none⟩ = some ((.slice AR lR kR)) := HMB.out w5 H5.out.2 6 _ rfl
          have m7 : w5.cell? ⟨w.heap.size + 3, 7, none⟩ = some (.bool m.sending) := HMB.out w5 H5.out.2 7 _ rfl
          have m8 : w5.cell? ⟨w.heap.size + 3, 8, none⟩ = some ((.slice AS lS kS)) := HMB.out w5 H5.out.2 8 _ rfl
          have m9 : w5.cell? ⟨w.heap.size + 3, 9, none⟩ = some ((.slice AY lY kY)) := HMB.out w5 H5.out.2 9 _ rfl
          have m10 : w5.cell? ⟨w.heap.size + 3, 10, none⟩ = some (.int .i64 m.sctp) := HMB.out w5 H5.out.2 10 _ rfl
          go_wp2
          exact hyes.out _ rfl _ rfl rfl
  · have hno := Lib.hid (HNO.out (fun h => by have := (HIS.out.1 h).1; cases this) w4 (Below.refl _ _))
    obtain ⟨z, zf, ze, zq⟩ := HR0.out w4 (Below.refl _ _)
    have z0 : w4.cell? ⟨w.heap.size + 1, 0, none⟩ = some (.int .i64 0) := z 0 _ rfl
    have z1 : w4.cell? ⟨w.heap.size + 1, 1, none⟩ = some (.int .i64 0) := z 1 _ rfl
    have z2 : w4.cell? ⟨w.heap.size + 1, 2, none⟩ = some (.string ⟨#[]⟩) := z 2 _ rfl
    have z3 : w4.cell? ⟨w.heap.size + 1, 3, none⟩ = some (.int .i64 0) := z 3 _ rfl
    have z4 : w4.cell? ⟨w.heap.size + 1, 4, none⟩ = some (.slice none 0 0) := z 4 _ rfl
    have z5 : w4.cell? ⟨w.heap.size + 1, 5, none⟩ = some (.slice none 0 0) := z 5 _ rfl
    have z6 : w4.cell? ⟨w.heap.size + 1, 6, none⟩ = some (.slice none 0 0) := z 6 _ rfl
    have z7 : w4.cell? ⟨w.heap.size + 1, 7, none⟩ = some (.bool false) := z 7 _ rfl
    have z8 : w4.cell? ⟨w.heap.size + 1, 8, none⟩ = some (.slice none 0 0) := z 8 _ rfl
    have z9 : w4.cell? ⟨w.heap.size + 1, 9, none⟩ = some (.slice none 0 0) := z 9 _ rfl
    have z10 : w4.cell? ⟨w.heap.size + 1, 10, none⟩ = some (.int .i64 0) := z 10 _ rfl
    clear z
    go_wp2
    exact hno.out _ rfl _ rfl rfl
 case hstop =>
  rintro D W hD ⟨h1, h2, h3, h4⟩ hK
  refine read_end 5 Tryz.f22 rfl (M := zeroM) rfl h2 h3 hK _ rfl rfl ?_
  exact ⟨MediaS.zero, .slice none 0 0, .slice none 0 0, .slice none 0 0, .slice none 0 0, .slice none 0 0, 2, rfl, h1.grown (grownBy_putObj' W D _) h1.size (fun r e => by cases e; exact Nat.le_trans HSZ.out hD), .inr ⟨rfl, rfl, not_isM_many h4⟩⟩
end Go.Proofs.YtbbedhecfipdjaaGreatDoor
