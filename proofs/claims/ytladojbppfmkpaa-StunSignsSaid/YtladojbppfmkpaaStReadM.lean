/- Addresses out of their values, by the program and by the document. -/
import Derived.Test.YtladojbppfmkpaaStMapped
import Derived.Test.YtladojbppfmkpaaStRParseP
namespace Go.Proofs.Ytladojbppfmkpaa
open Go.RowKit
set_option linter.unusedVariables false

theorem Try.zeroAddr (w : World) : (zeroValue 54).run Try.prog w = .ok (.agg #[.int .u32 0, .int .u16 0]) w := by kernel_rfl
theorem Try.sizeAddr : (Try.prog.info? 54).map (·.size) = some 2 := by kernel_rfl
theorem built_addr0 : Try.prog.built 54 [] = some #[.int .u32 0, .int .u16 0] := by kernel_rfl
theorem build_addr0 (w : World) : (Instr.build 54 #[]).run Try.prog w = .ok (.agg #[.int .u32 0, .int .u16 0]) w := run_build w 54 _ _ built_addr0
theorem built_addr2 : ∀ a b : Int, Try.prog.built 54 [(0, .int .u32 a), (1, .int .u16 b)] = some #[.int .u32 a, .int .u16 b] := by intros; kernel_rfl
theorem build_addr2 (a b : Int) (w : World) : (Instr.build 54 #[(0, .int .u32 a), (1, .int .u16 b)]).run Try.prog w = .ok (.agg #[.int .u32 a, .int .u16 b]) w := run_build w 54 _ _ (built_addr2 a b)
theorem built_addr3 : ∀ a b : Int, Try.prog.built 54 [(1, .int .u16 b), (0, .int .u32 a)] = some #[.int .u32 a, .int .u16 b] := by intros; kernel_rfl
theorem build_addr3 (a b : Int) (w : World) : (Instr.build 54 #[(1, .int .u16 b), (0, .int .u32 a)]).run Try.prog w = .ok (.agg #[.int .u32 a, .int .u16 b]) w := run_build w 54 _ _ (built_addr3 a b)
theorem wpList_buildTwo {ops : Array Oper} {rest : List Oper} {o : Oper} {a : Act} {w : World} {Q : Exit → Act → World → Prop} (hgd : o.guard = none) (t : TypeId) (i j : Nat) (x y : Operand) (ho : o.op = .build t #[(i, x), (j, y)]) {u1 u2 v : Value} (hx : a.eval x = u1) (hy : a.eval y = u2)
    (hr : (Instr.build t #[(i, u1), (j, u2)]).run Try.prog w = .ok v w) (h : wpList Try.prog ops Q rest (a.put o.dst v) w) : wpList Try.prog ops Q (o :: rest) a w := by
  refine wpList_plain hgd fun K hK => ?_
  unfold Oper.wp execOp
  simp only [ho, Sem.run_bind, List.map_toArray, List.map_cons, List.map_nil, hx, hy, hr, Result.andThen_ok, Sem.run_pure]
  exact hK _ _ h
/-- Are these bytes an address's value; which. -/
def isAddr (xs : List Int) : Bool := decide (xs.length = 8) && (decide (xs.getD 0 0 = 0) && decide (xs.getD 1 0 = 1))
def rdIP (xs : List Int) : Int := bits .xor .u32 (((xs.getD 4 0 * 256 + xs.getD 5 0) * 256 + xs.getD 6 0) * 256 + xs.getD 7 0) 554869826
def rdPort (xs : List Int) : Int := bits .xor .u16 (xs.getD 2 0 * 256 + xs.getD 3 0) 8466
def readA (xs : List Int) : Array Value := if isAddr xs = true then #[.int .u32 (rdIP xs), .int .u16 (rdPort xs)] else #[.int .u32 0, .int .u16 0]
def readN (xs : List Int) : Int := if isAddr xs = true then 0 else 2
theorem eight {xs : List Int} (h : xs.length = 8) : ∃ a b c d e f g h, xs = [a, b, c, d, e, f, g, h] := by
  match xs, h with
  | [a, b, c, d, e, f, g, h], _ => exact ⟨a, b, c, d, e, f, g, h, rfl⟩
theorem in_of {xs : List Int} (h : In256 xs) (i : Nat) (x : Int) (e : xs.getD i 0 = x) : 0 ≤ x ∧ x < 256 := by have := h i; rw [e] at this; exact this

set_option maxHeartbeats 1600000 in
set_option maxRecDepth 100000 in
theorem readMapped_any (v : Value) (xs : List Int) (w : World) (h : V8 w w.heap.size v xs) (hx : In256 xs) (hl : xs.length ≤ 140737488355328) :
    Calls Try.prog 23 #[v] w fun e w' => e = .returned (.tuple #[.agg (readA xs), .int .i64 (readN xs)]) ∧ Below w.heap.size w w' := by
  have hz := Try.zeroAddr
  have hbz := build_addr0
  have hza : readA xs = #[.int .u32 0, .int .u16 0] ∨ isAddr xs = true := by
    by_cases h : isAddr xs = true
    · exact .inr h
    · exact .inl (by unfold readA; rw [if_neg h])
  obtain ⟨Z, hZ⟩ : ∃ Z, (#[.int .u32 0, .int .u16 0] : Array Value) = Z := ⟨_, rfl⟩
  have hZS : Z.size = 2 ∧ Z.all (·.oneCell') = true := by rw [← hZ]; exact ⟨rfl, by simp [Value.oneCell']⟩
  simp only [hZ] at hz hbz hza
  have HZ := Lib.hid hZ
  have HZS := Lib.hid hZS
  have HBZ := Lib.hid hbz
  have HZA := Lib.hid hza
  clear hZ hZS hbz hza
  have g0 := Whole.new w 54 Z
  have b0 : Below w.heap.size w (w.alloc (.cells Z 54)) := (Below.refl _ w).alloc (Nat.le_refl _) _
  have s0 : (w.alloc (.cells Z 54)).heap.size = w.heap.size + 1 := by simp
  have H0 := Lib.hid (And.intro g0 (And.intro b0 s0))
  have hV := h
  obtain ⟨Av, cv, rfl, -, -, -, -⟩ := h
  have HV := Lib.hid hV
  have HX := Lib.hid hx
  clear g0 b0 s0 hV hx
  obtain ⟨N, hN⟩ : ∃ N, w.heap.size = N := ⟨_, rfl⟩
  have HN := Lib.hid hN
  rw [hN] at HV H0 ⊢
  go_enter Try.func23, Try.ntmps23
  go_upto_region 1 with fail
  generalize w.alloc (.cells Z 54) = W0 at *
  clear hN hz
  by_cases h8 : xs.length = 8
  · have hne : (((xs.length : Nat) : Int) != 8) = false := by rw [bne_eq_false_iff_eq]; omega
    have HNR := Lib.hid (newReader_any (.slice Av xs.length cv) xs W0.heap.size W0 ((HV.out.below H0.out.2.1).more (by rw [H0.out.2.2]; omega)) (by omega))
    obtain ⟨x0, x1, x2, x3, x4, x5, x6, x7, rfl⟩ := eight h8
    have r0 := in_of HX.out 0 x0 rfl
    have r1 := in_of HX.out 1 x1 rfl
    have r2 := in_of HX.out 2 x2 rfl
    have r3 := in_of HX.out 3 x3 rfl
    have r4 := in_of HX.out 4 x4 rfl
    have r5 := in_of HX.out 5 x5 rfl
    have r6 := in_of HX.out 6 x6 rfl
    have r7 := in_of HX.out 7 x7 rfl
    have n1 := numOf_two x0 x1 r0 r1
    have n2 := numOf_two x2 x3 r2 r3
    have n3 := numOf_four x4 x5 x6 x7 r4 r5 r6 r7
    have HU : Hid (∀ b vr W, RdV W b vr [x0, x1, x2, x3, x4, x5, x6, x7] false → Calls Try.prog 48 #[.pointer (some ⟨b, 0, none⟩)] W fun e w' => e = .returned (.int .u16 (x0 * 256 + x1)) ∧ (∃ v2, RdV w' b v2 [x2, x3, x4, x5, x6, x7] false) ∧ Only (fun k => k = b) W w') := Lib.hid fun b vr W hr => by
      have := u16_any b vr _ false W hr HX.out
      rw [show takeP 2 [x0, x1, x2, x3, x4, x5, x6, x7] false = [x0, x1] from rfl, n1, show (x0 * 256 + x1) % 65536 = x0 * 256 + x1 by omega] at this
      exact this
    have hx2 : In256 [x2, x3, x4, x5, x6, x7] := HX.out.drop 2
    have hx4 : In256 [x4, x5, x6, x7] := HX.out.drop 4
    have HU2 : Hid (∀ b vr W, RdV W b vr [x2, x3, x4, x5, x6, x7] false → Calls Try.prog 48 #[.pointer (some ⟨b, 0, none⟩)] W fun e w' => e = .returned (.int .u16 (x2 * 256 + x3)) ∧ (∃ v2, RdV w' b v2 [x4, x5, x6, x7] false) ∧ Only (fun k => k = b) W w') := Lib.hid fun b vr W hr => by
      have := u16_any b vr _ false W hr hx2
      rw [show takeP 2 [x2, x3, x4, x5, x6, x7] false = [x2, x3] from rfl, n2, show (x2 * 256 + x3) % 65536 = x2 * 256 + x3 by omega] at this
      exact this
    have HU4 : Hid (∀ b vr W, RdV W b vr [x4, x5, x6, x7] false → Calls Try.prog 49 #[.pointer (some ⟨b, 0, none⟩)] W fun e w' => e = .returned (.int .u32 (((x4 * 256 + x5) * 256 + x6) * 256 + x7)) ∧ Only (fun k => k = b) W w') := Lib.hid fun b vr W hr => by
      have := u32_any b vr _ false W hr hx4
      rw [show takeP 4 [x4, x5, x6, x7] false = [x4, x5, x6, x7] from rfl, n3] at this
      exact this.mono fun e w' h => ⟨h.1, h.2.2⟩
    clear n1 n2 n3 hx2 hx4
    rw [h8] at HNR ⊢
    clear h8 hl
    go_upto_region 4 with (go_at_call 34; (with_reducible refine HNR.out.mono ?_); rintro e w1 ⟨b, vr, rfl, hr1, hbs, hb1⟩)
    have hNb : N < b := by have := H0.out.2.2; omega
    have HB1 := Lib.hid (And.intro (H0.out.1.under hb1) (And.intro (H0.out.2.1.trans (hb1.mono (by have := H0.out.2.2; omega))) hNb))
    have HBN : Hid (¬ N = b) := Lib.hid (fun e => by omega)
    have HR1 := Lib.hid (HU.out b vr w1 hr1)
    have hr1s := hr1.block.lt
    have HRS := Lib.hid hr1s
    clear hr1 hb1 hbs hNb hr1s
    by_cases h01 : x0 = 0 ∧ x1 = 1
    · obtain ⟨rfl, rfl⟩ := h01
      have e2 : readA [0, 1, x2, x3, x4, x5, x6, x7] = #[.int .u32 (bits .xor .u32 (((x4 * 256 + x5) * 256 + x6) * 256 + x7) 554869826), .int .u16 (bits .xor .u16 (x2 * 256 + x3) 8466)] := rfl
      have e3 : readN [0, 1, x2, x3, x4, x5, x6, x7] = 0 := rfl
      have HE := Lib.hid (And.intro e2 e3)
      clear e2 e3
      obtain ⟨q, hq⟩ : ∃ q, x2 * 256 + x3 = q := ⟨_, rfl⟩
      obtain ⟨r, hr⟩ : ∃ r, ((x4 * 256 + x5) * 256 + x6) * 256 + x7 = r := ⟨_, rfl⟩
      simp only [hq] at HU2 HE
      simp only [hr] at HU4 HE
      clear hq hr
      have hone : ((0 : Int) * 256 + 1 != 1) = false := by decide
      have hby := build_addr2 (bits .xor .u32 r 554869826) (bits .xor .u16 q 8466)
      obtain ⟨Y, hY⟩ : ∃ Y, (#[.int .u32 (bits .xor .u32 r 554869826), .int .u16 (bits .xor .u16 q 8466)] : Array Value) = Y := ⟨_, rfl⟩
      simp only [hY] at hby HE
      have HYS : Hid (Y.size = 2 ∧ Y.all (·.oneCell') = true) := Lib.hid (by rw [← hY]; exact ⟨rfl, by simp [Value.oneCell']⟩)
      have HBY := Lib.hid hby
      clear hY hby r0 r1 r2 r3 r4 r5 r6 r7 hne
      go_wp2_with (first
        | (go_at_call 48; (with_reducible refine HR1.out.mono ?_); rintro e w2 ⟨rfl, ⟨vr2, hr2⟩, ho2⟩; have HR2 := Lib.hid (And.intro hr2 ho2); clear hr2 ho2)
        | (go_at_call 48; (with_reducible refine (HU2.out _ _ _ HR2.out.1).mono ?_); rintro e w3 ⟨rfl, ⟨vr3, hr3⟩, ho3⟩; have HR3 := Lib.hid (And.intro hr3 ho3); clear hr3 ho3)
        | (go_at_call 49; (with_reducible refine (HU4.out _ _ _ HR3.out.1).mono ?_); rintro e w4 ⟨rfl, ho4⟩; have hg4 := ((HB1.out.1.only HR2.out.2 HBN.out).only HR3.out.2 HBN.out).only ho4 HBN.out)
        | (refine wpList_buildTwo rfl 54 0 1 (.tmp 22) (.tmp 24) rfl (u1 := .int .u32 (bits .xor .u32 r 554869826)) (u2 := .int .u16 (bits .xor .u16 q 8466)) rfl rfl (v := .agg Y) (HBY.out _) ?_)
        | (refine wpList_store_whole rfl 54 (.tmp 2) (.tmp 25) rfl rfl rfl hg4 Try.sizeAddr HYS.out.1 HZS.out.1 HYS.out.2 ?_))
      have f1 : Whole (w4.setRow N Y) N 54 Y := hg4.row _
      have ho := (HR2.out.2.next HR3.out.2 (fun j hj => .inl hj)).next ho4 (fun j hj => .inl hj)
      rw [HE.out.1, HE.out.2]
      refine bodyPost_ret (v := .tuple #[.agg Y, .int .i64 0]) ?_ rfl ?_
      · exact ret_struct2 (p := 2) (s := 3) rfl rfl f1 Try.underlying54 rfl Try.sizeAddr HYS.out.1
      · exact ⟨rfl, below_row (HB1.out.2.1.trans (ho.below (fun k hk => by have := HB1.out.2.2; omega) (Nat.le_of_lt HB1.out.1.lt))) (Nat.le_refl _) _⟩
    · have hne1 : (x0 * 256 + x1 != 1) = true := by rw [bne_iff_ne]; omega
      have e1 : isAddr [x0, x1, x2, x3, x4, x5, x6, x7] = false := by
        unfold isAddr
        simp only [List.getD_cons_zero, List.getD_cons_succ]
        by_cases hx0 : x0 = 0
        · have hx1 : ¬ x1 = 1 := fun e => h01 ⟨hx0, e⟩
          simp [hx1]
        · simp [hx0]
      have e2 : readA [x0, x1, x2, x3, x4, x5, x6, x7] = Z := HZA.out.resolve_right (by rw [e1]; decide)
      have e3 : readN [x0, x1, x2, x3, x4, x5, x6, x7] = 2 := by unfold readN; rw [e1]; rfl
      have HE := Lib.hid (And.intro e2 e3)
      clear e1 e2 e3
      obtain ⟨k, hk⟩ : ∃ k, x0 * 256 + x1 = k := ⟨_, rfl⟩
      simp only [hk] at HR1 hne1
      have HNE := Lib.hid hne1
      clear hk r0 r1 r2 r3 r4 r5 r6 r7 h01 hne
      go_wp2_with (first
        | (go_at_call 48; (with_reducible refine HR1.out.mono ?_); rintro e w2 ⟨rfl, ⟨vr2, hr2⟩, ho2⟩; have hg2 := HB1.out.1.only ho2 HBN.out)
        | (refine wpList_build0 rfl 54 rfl (v := .agg Z) (HBZ.out _) ?_)
        | (refine wpList_store_whole rfl 54 (.tmp 2) (.tmp 16) rfl rfl rfl hg2 Try.sizeAddr HZS.out.1 HZS.out.1 HZS.out.2 ?_))
      have f1 : Whole (w2.setRow N Z) N 54 Z := hg2.row _
      rw [HE.out.1, HE.out.2]
      refine bodyPost_ret (v := .tuple #[.agg Z, .int .i64 2]) ?_ rfl ?_
      · exact ret_struct2 (p := 2) (s := 3) rfl rfl f1 Try.underlying54 rfl Try.sizeAddr HZS.out.1
      · exact ⟨rfl, below_row (HB1.out.2.1.trans (ho2.below (fun k hk => by have := HB1.out.2.2; omega) (Nat.le_of_lt HB1.out.1.lt))) (Nat.le_refl _) _⟩
  · have hne : (((xs.length : Nat) : Int) != 8) = true := by rw [bne_iff_ne]; omega
    have e1 : isAddr xs = false := by unfold isAddr; simp [h8]
    have e2 : readA xs = Z := HZA.out.resolve_right (by rw [e1]; decide)
    have e3 : readN xs = 2 := by unfold readN; rw [e1]; rfl
    have HE := Lib.hid (And.intro e2 e3)
    clear e1 e2 e3
    obtain ⟨n, hn⟩ : ∃ n, xs.length = n := ⟨_, rfl⟩
    rw [hn] at hne hl h8 ⊢
    clear hn
    go_wp2_with (first
      | (refine wpList_build0 rfl 54 rfl (v := .agg Z) (HBZ.out _) ?_)
      | (refine wpList_store_whole rfl 54 (.tmp 2) (.tmp 10) rfl rfl rfl H0.out.1 Try.sizeAddr HZS.out.1 HZS.out.1 HZS.out.2 ?_))
    have f1 : Whole (W0.setRow N Z) N 54 Z := H0.out.1.row _
    rw [HE.out.1, HE.out.2]
    refine bodyPost_ret (v := .tuple #[.agg Z, .int .i64 2]) ?_ rfl ?_
    · exact ret_struct2 (p := 2) (s := 3) rfl rfl f1 Try.underlying54 rfl Try.sizeAddr HZS.out.1
    · exact ⟨rfl, below_row H0.out.2.1 (Nat.le_refl _) _⟩

theorem cut_tail {A : Addr} {n c lo : Nat} {x : Int} (hx : x = lo) (h1 : lo ≤ n) (h2 : n ≤ c) (w : World) :
    (Instr.slice 27 (.slice (some A) n c) (some (.int .i64 x)) none none).run Try.prog w = .ok (.slice (if c = lo then some A else some (A.add lo)) (n - lo) (c - lo)) w := by
  subst hx
  have ht := Try.underlying27
  have ht' : Try.prog.underlying 27 = some (.slice (Try.prog.elem 27)) := by simp [Program.elem, ht]
  have he : Try.prog.elem 27 = 5 := by simp [Program.elem, ht]
  rw [run_slice_l w 27 _ _ _ ht' .i64 _ (by omega) (by omega), he, Try.sizeU8]
  simp [Result.andThen, sliced]
theorem flip_same {f : FuncId} {args : Array Value} {w : World} {v : Value} (h : Calls Try.prog f args w fun e w' => e = .returned v ∧ w = w') : Calls Try.prog f args w fun e w' => e = .returned v ∧ w' = w :=
  h.mono fun e w' h => ⟨h.1, h.2.symm⟩

set_option maxHeartbeats 1600000 in
set_option maxRecDepth 100000 in
theorem rreadMapped_any (v : Value) (xs : List Int) (w : World) (h : V8 w w.heap.size v xs) (hx : In256 xs) (hl : xs.length ≤ 140737488355328) :
    Calls Try.prog 24 #[v] w fun e w' => e = .returned (.tuple #[.agg (readA xs), .int .i64 (readN xs)]) ∧ Below w.heap.size w w' := by
  have hz := Try.zeroAddr
  have hbz := build_addr0
  have hza : readA xs = #[.int .u32 0, .int .u16 0] ∨ isAddr xs = true := by
    by_cases h : isAddr xs = true
    · exact .inr h
    · exact .inl (by unfold readA; rw [if_neg h])
  obtain ⟨Z, hZ⟩ : ∃ Z, (#[.int .u32 0, .int .u16 0] : Array Value) = Z := ⟨_, rfl⟩
  have hZS : Z.size = 2 ∧ Z.all (·.oneCell') = true := by rw [← hZ]; exact ⟨rfl, by simp [Value.oneCell']⟩
  simp only [hZ] at hz hbz hza
  have HZS := Lib.hid hZS
  have HBZ := Lib.hid hbz
  have HZA := Lib.hid hza
  clear hZ hZS hbz hza
  have g0 := Whole.new w 54 Z
  have b0 : Below w.heap.size w (w.alloc (.cells Z 54)) := (Below.refl _ w).alloc (Nat.le_refl _) _
  have s0 : (w.alloc (.cells Z 54)).heap.size = w.heap.size + 1 := by simp
  have H0 := Lib.hid (And.intro g0 (And.intro b0 s0))
  have hV := h
  obtain ⟨Av, cv, rfl, hnc, hcm, hnil, -⟩ := h
  have HV := Lib.hid hV
  have HX := Lib.hid hx
  clear g0 b0 s0 hV hx
  obtain ⟨N, hN⟩ : ∃ N, w.heap.size = N := ⟨_, rfl⟩
  have HN := Lib.hid hN
  rw [hN] at HV H0 ⊢
  go_enter Try.func24, Try.ntmps24
  go_upto_region 1 with fail
  generalize w.alloc (.cells Z 54) = W0 at *
  clear hN hz
  by_cases h8 : xs.length = 8
  · obtain ⟨ad, rfl, -, -, -, had, hcell⟩ := v8_at HV.out H0.out.2.1 (by omega)
    have hcell0 := hcell 0 (by omega)
    have hcell1 := hcell 1 (by omega)
    rw [show ad.add 0 = ad from if_pos rfl] at hcell0
    rw [show ad.add 1 = ⟨ad.block, ad.off + 1, none⟩ from if_neg (by decide)] at hcell1
    have HC := Lib.hid hcell
    have hne : (((xs.length : Nat) : Int) != 8) = false := by rw [bne_eq_false_iff_eq]; omega
    obtain ⟨x0, x1, x2, x3, x4, x5, x6, x7, rfl⟩ := eight h8
    simp only [List.getD_cons_zero, List.getD_cons_succ] at hcell0 hcell1
    have r0 := in_of HX.out 0 x0 rfl
    have r1 := in_of HX.out 1 x1 rfl
    rw [h8] at hne hnc ⊢
    clear hcell
    have c8 : ((8 : Int) != 8) = false := by decide
    by_cases hx0 : x0 = 0
    · subst hx0
      by_cases hx1 : x1 = 1
      · subst hx1
        have r2 := in_of HX.out 2 x2 rfl
        have r3 := in_of HX.out 3 x3 rfl
        have r4 := in_of HX.out 4 x4 rfl
        have r5 := in_of HX.out 5 x5 rfl
        have r6 := in_of HX.out 6 x6 rfl
        have r7 := in_of HX.out 7 x7 rfl
        have hs1 : ∀ W, (Instr.slice 27 (.slice (some ad) 8 cv) (some (.int .i64 2)) (some (.int .i64 4)) none).run Try.prog W = .ok (.slice (some ⟨ad.block, ad.off + 2, none⟩) 2 (cv - 2)) W := fun W => by
          have := cut_run (A := ad) (n := 8) (c := cv) (lo := 2) (hi := 4) (x := 2) (y := 4) rfl rfl (by omega) (by omega) W
          rw [if_neg (by omega)] at this
          exact this
        have hs2 : ∀ W, (Instr.slice 27 (.slice (some ad) 8 cv) (some (.int .i64 4)) none none).run Try.prog W = .ok (.slice (some ⟨ad.block, ad.off + 4, none⟩) 4 (cv - 4)) W := fun W => by
          have := cut_tail (A := ad) (n := 8) (c := cv) (lo := 4) (x := 4) rfl (by omega) (by omega) W
          rw [if_neg (by omega)] at this
          exact this
        have hn1 : ∀ W, Below N w W → Calls Try.prog 50 #[.slice (some ⟨ad.block, ad.off + 2, none⟩) 2 (cv - 2)] W fun e w' => e = .returned (.int .u64 (x2 * 256 + x3)) ∧ W = w' := fun W hb => by
          obtain ⟨A', c', e, -, -, -, hbs⟩ := HV.out.below hb
          cases e
          have h1 := cut_bs (c := cv) (lo := 2) (hi := 4) hbs (by omega) (by simp) hnc
          rw [if_neg (by omega)] at h1
          have := rnumber_any (.slice (some ⟨ad.block, ad.off + 2, none⟩) 2 (cv - 2)) [x2, x3] N W ⟨_, _, rfl, by simp; omega, by omega, (fun e => by cases e), h1⟩ ((HX.out.drop 2).take 2) (by simp)
          rw [show numB [x2, x3] = x2 * 256 + x3 by unfold numB; simp] at this
          exact this
        have hn2 : ∀ W, Below N w W → Calls Try.prog 50 #[.slice (some ⟨ad.block, ad.off + 4, none⟩) 4 (cv - 4)] W fun e w' => e = .returned (.int .u64 (((x4 * 256 + x5) * 256 + x6) * 256 + x7)) ∧ W = w' := fun W hb => by
          obtain ⟨A', c', e, -, -, -, hbs⟩ := HV.out.below hb
          cases e
          have h1 := cut_bs (c := cv) (lo := 4) (hi := 8) hbs (by omega) (by simp) hnc
          rw [if_neg (by omega)] at h1
          have := rnumber_any (.slice (some ⟨ad.block, ad.off + 4, none⟩) 4 (cv - 4)) [x4, x5, x6, x7] N W ⟨_, _, rfl, by simp; omega, by omega, (fun e => by cases e), h1⟩ (HX.out.drop 4) (by simp)
          rw [show numB [x4, x5, x6, x7] = ((x4 * 256 + x5) * 256 + x6) * 256 + x7 by unfold numB; simp] at this
          exact this
        have e2 : readA [0, 1, x2, x3, x4, x5, x6, x7] = #[.int .u32 (bits .xor .u32 (((x4 * 256 + x5) * 256 + x6) * 256 + x7) 554869826), .int .u16 (bits .xor .u16 (x2 * 256 + x3) 8466)] := rfl
        have e3 : readN [0, 1, x2, x3, x4, x5, x6, x7] = 0 := rfl
        have HE := Lib.hid (And.intro e2 e3)
        clear e2 e3
        obtain ⟨q, hq⟩ : ∃ q, x2 * 256 + x3 = q := ⟨_, rfl⟩
        obtain ⟨r, hr⟩ : ∃ r, ((x4 * 256 + x5) * 256 + x6) * 256 + x7 = r := ⟨_, rfl⟩
        have hwq : IntKind.u16.wrap q = q := by rw [IntKind.wrap_u16]; omega
        have hwr : IntKind.u32.wrap r = r := by rw [IntKind.wrap_u32]; omega
        simp only [hq] at hn1 HE
        simp only [hr] at hn2 HE
        have hby := build_addr3 (bits .xor .u32 r 554869826) (bits .xor .u16 q 8466)
        obtain ⟨Y, hY⟩ : ∃ Y, (#[.int .u32 (bits .xor .u32 r 554869826), .int .u16 (bits .xor .u16 q 8466)] : Array Value) = Y := ⟨_, rfl⟩
        simp only [hY] at hby HE
        have HYS : Hid (Y.size = 2 ∧ Y.all (·.oneCell') = true) := Lib.hid (by rw [← hY]; exact ⟨rfl, by simp [Value.oneCell']⟩)
        have HBY := Lib.hid hby
        have HN1 := Lib.hid hn1
        have HN2 := Lib.hid hn2
        have HWW := Lib.hid (And.intro hwq hwr)
        clear hY hby hq hr r2 r3 r4 r5 r6 r7 r0 r1 hn1 hn2 hwq hwr
        go_upto_region 3 with fail
        clear hcell0 hcell1 hne c8
        obtain ⟨hwq, hwr⟩ := HWW.out
        refine wp_region_still_tail 10 (by kernel_rfl) (by kernel_rfl) ?_
        simp only [List.take_succ_cons, List.take_zero, List.drop_succ_cons, List.drop_zero]
        repeat still_step
        still_call (flip_same (HN1.out _ H0.out.2.1.drew))
        repeat still_step
        still_call (flip_same (HN2.out _ H0.out.2.1.drew))
        repeat still_step
        refine wpStill_nil ?_
        change wpList _ _ _ _ _ W0.drew
        clear hs1 hs2 hwq hwr
        go_wp2_with (first
          | (refine wpList_buildTwo rfl 54 1 0 (.tmp 24) (.tmp 29) rfl (u1 := .int .u16 (bits .xor .u16 q 8466)) (u2 := .int .u32 (bits .xor .u32 r 554869826)) rfl rfl (v := .agg Y) (HBY.out _) ?_)
          | (refine wpList_store_whole rfl 54 (.tmp 2) (.tmp 30) rfl rfl rfl H0.out.1.drew Try.sizeAddr HYS.out.1 HZS.out.1 HYS.out.2 ?_))
        have f1 : Whole (W0.drew.setRow N Y) N 54 Y := H0.out.1.drew.row _
        rw [HE.out.1, HE.out.2]
        refine bodyPost_ret (v := .tuple #[.agg Y, .int .i64 0]) ?_ rfl ?_
        · exact ret_struct2 (p := 2) (s := 3) rfl rfl f1 Try.underlying54 rfl Try.sizeAddr HYS.out.1
        · exact ⟨rfl, below_row H0.out.2.1.drew (Nat.le_refl _) _⟩
      · have hne1 : (x1 != 1) = true := by rw [bne_iff_ne]; exact hx1
        have e1 : isAddr [0, x1, x2, x3, x4, x5, x6, x7] = false := by unfold isAddr; simp [hx1]
        have e2 : readA [0, x1, x2, x3, x4, x5, x6, x7] = Z := HZA.out.resolve_right (by rw [e1]; decide)
        have e3 : readN [0, x1, x2, x3, x4, x5, x6, x7] = 2 := by unfold readN; rw [e1]; rfl
        have HE := Lib.hid (And.intro e2 e3)
        clear e1 e2 e3 hx1
        go_wp2_with (first
          | (refine wpList_build0 rfl 54 rfl (v := .agg Z) (HBZ.out _) ?_)
          | (refine wpList_store_whole rfl 54 (.tmp 2) (.tmp 19) rfl rfl rfl H0.out.1 Try.sizeAddr HZS.out.1 HZS.out.1 HZS.out.2 ?_))
        have f1 : Whole (W0.setRow N Z) N 54 Z := H0.out.1.row _
        rw [HE.out.1, HE.out.2]
        refine bodyPost_ret (v := .tuple #[.agg Z, .int .i64 2]) ?_ rfl ?_
        · exact ret_struct2 (p := 2) (s := 3) rfl rfl f1 Try.underlying54 rfl Try.sizeAddr HZS.out.1
        · exact ⟨rfl, below_row H0.out.2.1 (Nat.le_refl _) _⟩
    · have hne0 : (x0 != 0) = true := by rw [bne_iff_ne]; exact hx0
      have e1 : isAddr [x0, x1, x2, x3, x4, x5, x6, x7] = false := by unfold isAddr; simp [hx0]
      have e2 : readA [x0, x1, x2, x3, x4, x5, x6, x7] = Z := HZA.out.resolve_right (by rw [e1]; decide)
      have e3 : readN [x0, x1, x2, x3, x4, x5, x6, x7] = 2 := by unfold readN; rw [e1]; rfl
      have HE := Lib.hid (And.intro e2 e3)
      clear e1 e2 e3 hx0
      go_wp2_with (first
        | (refine wpList_build0 rfl 54 rfl (v := .agg Z) (HBZ.out _) ?_)
        | (refine wpList_store_whole rfl 54 (.tmp 2) (.tmp 19) rfl rfl rfl H0.out.1 Try.sizeAddr HZS.out.1 HZS.out.1 HZS.out.2 ?_))
      have f1 : Whole (W0.setRow N Z) N 54 Z := H0.out.1.row _
      rw [HE.out.1, HE.out.2]
      refine bodyPost_ret (v := .tuple #[.agg Z, .int .i64 2]) ?_ rfl ?_
      · exact ret_struct2 (p := 2) (s := 3) rfl rfl f1 Try.underlying54 rfl Try.sizeAddr HZS.out.1
      · exact ⟨rfl, below_row H0.out.2.1 (Nat.le_refl _) _⟩
  · have hne : (((xs.length : Nat) : Int) != 8) = true := by rw [bne_iff_ne]; omega
    have e1 : isAddr xs = false := by unfold isAddr; simp [h8]
    have e2 : readA xs = Z := HZA.out.resolve_right (by rw [e1]; decide)
    have e3 : readN xs = 2 := by unfold readN; rw [e1]; rfl
    have HE := Lib.hid (And.intro e2 e3)
    clear e1 e2 e3
    obtain ⟨n, hn⟩ : ∃ n, xs.length = n := ⟨_, rfl⟩
    rw [hn] at hne hl h8 ⊢
    clear hn
    go_wp2_with (first
      | (refine wpList_build0 rfl 54 rfl (v := .agg Z) (HBZ.out _) ?_)
      | (refine wpList_store_whole rfl 54 (.tmp 2) (.tmp 19) rfl rfl rfl H0.out.1 Try.sizeAddr HZS.out.1 HZS.out.1 HZS.out.2 ?_))
    have f1 : Whole (W0.setRow N Z) N 54 Z := H0.out.1.row _
    rw [HE.out.1, HE.out.2]
    refine bodyPost_ret (v := .tuple #[.agg Z, .int .i64 2]) ?_ rfl ?_
    · exact ret_struct2 (p := 2) (s := 3) rfl rfl f1 Try.underlying54 rfl Try.sizeAddr HZS.out.1
    · exact ⟨rfl, below_row H0.out.2.1 (Nat.le_refl _) _⟩
end Go.Proofs.Ytladojbppfmkpaa
