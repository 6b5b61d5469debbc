import Derived.Test.YtbbedhecfipdjaaGreatDoorPkAttrOrderB
import Derived.Test.YtbbedhecfipdjaaGreatDoorPkAttrOrderA27
import Derived.Test.YtbbedhecfipdjaaGreatDoorPkAttrOrderA23
import Derived.Test.YtbbedhecfipdjaaGreatDoorPkAttrOrderA20
import Derived.Test.YtbbedhecfipdjaaGreatDoorPkAttrOrderA21
namespace Go.Proofs.YtbbedhecfipdjaaGreatDoor
open Go.RowKit
set_option linter.unusedVariables false
set_option linter.unusedSimpArgs false
theorem three_parts (w : World) (c : Array Value) : Below w.heap.size w (((w.alloc (.cells c 32)).alloc (.cells c 32)).alloc (.cells c 32)).drew ∧ Whole (((w.alloc (.cells c 32)).alloc (.cells c 32)).alloc (.cells c 32)).drew w.heap.size 32 c ∧ Whole (((w.alloc (.cells c 32)).alloc (.cells c 32)).alloc (.cells c 32)).drew (w.heap.size + 1) 32 c ∧ Whole (((w.alloc (.cells c 32)).alloc (.cells c 32)).alloc (.cells c 32)).drew (w.heap.size + 1 + 1) 32 c := by
 have h1 := (Whole.new w 32 c)
 have h2 := (Whole.new (w.alloc (.cells c 32)) 32 c)
 have h3 := (Whole.new ((w.alloc (.cells c 32)).alloc (.cells c 32)) 32 c)
 rw [World.size_alloc] at h2
 rw [World.size_alloc, World.size_alloc] at h3
 have b1 := (Below.refl w.heap.size w).alloc (Nat.le_refl _) (.cells c 32)
 have b2 := b1.alloc b1.size (.cells c 32)
 have b3 := b2.alloc b2.size (.cells c 32)
 exact ⟨b3.drew, ((h1.alloc _).alloc _).drew, (h2.alloc _).drew, h3.drew⟩
theorem row2 {W : World} {b go n co : Nat} {L : List AttrS} {i : Nat} {x : AttrS} (h : Own W b 55 2 (.slice (some ⟨go, 0, none⟩) n co) (L.map acell)) (hx : L[i]? = some x) : W.cell? ⟨go, i * 2, none⟩ = some (.string x.name) ∧ W.cell? ⟨go, i * 2 + 1, none⟩ = some (.string x.value) := by
 obtain ⟨g', c', e1, -, -, -, -, -, hat, -⟩ := h.at_ (i := i) (r := acell x) (by rw [List.getElem?_map, hx]; rfl)
 injection e1 with e1 _ _
 obtain rfl : go = g' := by injection e1 with e1; injection e1
 exact ⟨hat 0 (by decide), hat 1 (by decide)⟩
theorem frz2 {W : World} {b go n co : Nat} {L : List AttrS} {i : Nat} {x : AttrS} (h : Own W b 55 2 (.slice (some ⟨go, 0, none⟩) n co) (L.map acell)) (hx : L[i]? = some x) (j : Nat) : W.frozen? ⟨go, j, none⟩ = false := by
 obtain ⟨g', c', e1, -, -, -, -, -, -, hat⟩ := h.at_ (i := i) (r := acell x) (by rw [List.getElem?_map, hx]; rfl)
 injection e1 with e1 _ _
 obtain rfl : go = g' := by injection e1 with e1; injection e1
 exact hat j
theorem idx_mod (n : Nat) (i0 : Int) (h1 : 1 ≤ n) (h64 : n ≤ 64) : ∃ i : Nat, IntKind.i64.wrap ((IntKind.u64.wrap i0).tmod (n : Int)) = (i : Int) ∧ i < n := by
 have h0 : 0 ≤ IntKind.u64.wrap i0 := by
  unfold IntKind.wrap
  simp [IntKind.bits, IntKind.signed]
  omega
 rw [Int.tmod_eq_emod_of_nonneg h0]
 have h1 := Int.emod_nonneg (IntKind.u64.wrap i0) (show (n : Int) ≠ 0 by omega)
 have h2 := Int.emod_lt_of_pos (IntKind.u64.wrap i0) (show (0 : Int) < (n : Int) by omega)
 generalize IntKind.u64.wrap i0 % (n : Int) = r at *
 refine ⟨r.toNat, ?_, by omega⟩
 unfold IntKind.wrap
 simp [IntKind.bits, IntKind.signed]
 omega
theorem siz_of {p : PartS} {L : List AttrS} (hz : SizR p) (hL : ∀ a ∈ L, a ∈ p.attrs) (hl : L.length ≤ 1000) : SizR ⟨p.line, p.conn, L⟩ := ⟨hz.line, fun a ha => hz.values a (hL a ha), by show L.length ≤ _; omega⟩
theorem own_empty {b : Nat} (W0 : World) (hb : b ≤ W0.heap.size) : Own (W0.alloc (.cells #[] 55)) b 55 2 (.slice (some ⟨W0.heap.size, 0, none⟩) 0 0) (([] : List AttrS).map acell) :=
 ⟨⟨rfl, .inr ⟨W0.heap.size, 0, #[], rfl, hb, Whole.new W0 55 #[], Nat.le_refl _, by unfold maxLen; omega, rfl, rfl⟩⟩, fun r hr => by cases hr⟩
theorem take_at2 {L : List AttrS} {i j : Nat} {x : AttrS} (h : (L.take i)[j]? = some x) : L[j]? = some x := by
 rw [List.getElem?_take] at h
 split at h
 · exact h
 · cases h
theorem own_there {W : World} {b g n c i : Nat} {L : List AttrS} {x : AttrS} (h : Own W b 55 2 (.slice (some ⟨g, 0, none⟩) n c) (L.map acell)) (hx : L[i]? = some x) : W.there g (i * 2) 2 := fun j hj => by
 have h1 := row2 h hx
 have h2 : j = 0 ∨ j = 1 := by omega
 rcases h2 with rfl | rfl
 · exact ⟨by rw [Nat.add_zero, h1.1]; rfl, frz2 h hx _⟩
 · exact ⟨by rw [h1.2]; rfl, frz2 h hx _⟩
theorem own_putA {W : World} {b g n c i : Nat} {L : List AttrS} {x : AttrS} (h : Own W b 55 2 (.slice (some ⟨g, 0, none⟩) n c) (L.map acell)) (hx : L[i]? = some x) (y : AttrS) : Own (W.setCells g (i * 2) (acell y)) b 55 2 (.slice (some ⟨g, 0, none⟩) n c) ((L.set i y).map acell) := by
 have hr : (L.map acell)[i]? = some (acell x) := by rw [List.getElem?_map, hx]; rfl
 have hi := (List.getElem?_eq_some_iff.1 hr).1
 have h1 := h.put (g := g) rfl hr (show 0 < 2 by decide) (.string y.name)
 have h2 := h1.put (g := g) rfl (i := i) (j := 1) (r := (acell x).set 0 (.string y.name)) (by rw [List.getElem?_set_self hi]) (by decide) (.string y.value)
 rw [List.set_set] at h2
 have e : ((acell x).set 0 (.string y.name)).set 1 (.string y.value) = acell y := rfl
 rw [e] at h2
 rw [List.map_set]
 exact h2
theorem only_cells {T : Nat → Prop} {a W : World} (h : Only T a W) (g o : Nat) (vs : List Value) (hg : T g) : Only T a (W.setCells g o vs) := by
 induction vs generalizing o W with
 | nil => exact h
 | cons v r ih => exact ih (h.setCell (p := ⟨g, o, none⟩) (.inl hg) v) (o + 1)
set_option maxHeartbeats 12800000 in
set_option maxRecDepth 100000 in
theorem order_walk (M : Array Value) (m : MediaS) (vC vE vR vS vY : Value) (i0 k0 : Int) (w : World) (h : MediaV w w.heap.size M m vC vE vR vS vY) (hz : SizM m) (hi0 : (Lit.int .i64 i0).wf = true) (hk0 : (Lit.int .i64 k0).wf = true) (hE : EnvR w) (h7 : 7 ≤ w.heap.size) :
 Calls Tryz.prog 6 #[.agg M, .int .i64 i0, .int .i64 k0] w fun e w' => e = .returned (.bool true) ∧ Below w.heap.size w w' := by
 obtain rfl : M = mcell m vC vE vR vS vY := h.form
 obtain ⟨⟨AC, lC, kC, rfl⟩, ⟨AE, lE, kE, rfl⟩, ⟨AR, lR, kR, rfl⟩, ⟨AS, lS, kS, rfl⟩, ⟨AY, lY, kY, rfl⟩⟩ := h.forms3
 have H0 : Hid (Below w.heap.size w (w.alloc (.cells (mcell m (.slice AC lC kC) (.slice AE lE kE) (.slice AR lR kR) (.slice AS lS kS) (.slice AY lY kY)) 28)) ∧ Whole (w.alloc (.cells (mcell m (.slice AC lC kC) (.slice AE lE kE) (.slice AR lR kR) (.slice AS lS kS) (.slice AY lY kY)) 28)) w.heap.size 28 (mcell m (.slice AC lC kC) (.slice AE lE kE) (.slice AR lR kR) (.slice AS lS kS) (.slice AY lY kY))) := Lib.hid ⟨(Below.refl _ w).alloc (Nat.le_refl _) _, Whole.new w 28 _⟩
 have HZ := Lib.hid hz
 have HAW : Hid (∀ W, Below w.heap.size w W → Calls Tryz.prog 14 #[] W fun e w' => e = .returned (.bool true) ∧ Below W.heap.size W w') := Lib.hid fun W hW => awake_any W (hE.under hW).env (Nat.le_trans h7 hW.size)
 have HWR : Hid (∀ W, Below w.heap.size w W → Calls Tryz.prog 15 #[.agg (mcell m (.slice AC lC kC) (.slice AE lE kE) (.slice AR lR kR) (.slice AS lS kS) (.slice AY lY kY))] W (WriteO 55 W m)) := Lib.hid fun W hW => rWrite_any _ m _ _ _ _ _ W (h.under hW) hz
  (fun W2 h2 => rgood_any _ m _ _ _ _ _ W2 ((h.under hW).under h2) hz) (fun hg W2 h2 => rwrite1_any _ m _ _ _ _ _ W2 ((h.under hW).under h2) hz hg)
 have HRD : Hid (∀ (W : World) (p : PartS) (vp : Value), Below w.heap.size w W → AttrsV W W.heap.size vp p.attrs → SizR p → p.attrs.length * 32 ≤ 140737488351232 → Calls Tryz.prog 26 #[.agg #[.string p.line, .string p.conn, vp]] W fun e w' => e = .returned (.bool true) ∧ Below W.heap.size W w') := Lib.hid fun W p vp hW hv hp hl => l7read_any p vp W hv hp hl (hE.under hW) (Nat.le_trans h7 hW.size)
 clear h hz hE h7
 unfold mcell at H0 HWR ⊢
 obtain ⟨N, hN⟩ : ∃ N, w.heap.size = N := ⟨_, rfl⟩
 have HN := Lib.hid hN
 rw [hN] at H0
 clear hN
 go_enter Tryz.func6, Tryz.ntmps6
 go_upto_region 1 with fail
 simp only [HN.out]
 generalize w.alloc (.cells #[.int .i64 m.kind, .int .i64 m.port, .string m.mid, .int .i64 m.dir, .slice AC lC kC, .slice AE lE kE, .slice AR lR kR, .bool m.sending, .slice AS lS kS, .slice AY lY kY, .int .i64 m.sctp] 28) = W0 at *
 have HB0 : Hid (Below w.heap.size w W0) := Lib.hid (by rw [HN.out]; exact H0.out.1)
 go_upto_region 3 with (go_at_call 14; (with_reducible refine (HAW.out _ HB0.out).mono ?_); rintro e w1 ⟨rfl, hb1⟩; have H1 : Hid (Below w.heap.size w w1 ∧ Whole w1 N 28 #[.int .i64 m.kind, .int .i64 m.port, .string m.mid, .int .i64 m.dir, .slice AC lC kC, .slice AE lE kE, .slice AR lR kR, .bool m.sending, .slice AS lS kS, .slice AY lY kY, .int .i64 m.sctp]) := Lib.hid ⟨HB0.out.trans (hb1.mono HB0.out.size), H0.out.2.under hb1⟩; clear hb1; dsimp only)
 have b0 : w1.cell? ⟨N, 0, none⟩ = some (.int .i64 m.kind) := H1.out.2.cell 0
 have b1 : w1.cell? ⟨N, 1, none⟩ = some (.int .i64 m.port) := H1.out.2.cell 1
 have b2 : w1.cell? ⟨N, 2, none⟩ = some (.string m.mid) := H1.out.2.cell 2
 have b3 : w1.cell? ⟨N, 3, none⟩ = some (.int .i64 m.dir) := H1.out.2.cell 3
 have b4 : w1.cell? ⟨N, 4, none⟩ = some (.slice AC lC kC) := H1.out.2.cell 4
 have b5 : w1.cell? ⟨N, 5, none⟩ = some (.slice AE lE kE) := H1.out.2.cell 5
 have b6 : w1.cell? ⟨N, 6, none⟩ = some (.slice AR lR kR) := H1.out.2.cell 6
 have b7 : w1.cell? ⟨N, 7, none⟩ = some (.bool m.sending) := H1.out.2.cell 7
 have b8 : w1.cell? ⟨N, 8, none⟩ = some (.slice AS lS kS) := H1.out.2.cell 8
 have b9 : w1.cell? ⟨N, 9, none⟩ = some (.slice AY lY kY) := H1.out.2.cell 9
 have b10 : w1.cell? ⟨N, 10, none⟩ = some (.int .i64 m.sctp) := H1.out.2.cell 10
 go_upto_region 4 with (go_at_call 15; (with_reducible refine (HWR.out _ H1.out.1).mono ?_); rintro e w2 hw2; obtain ⟨vo, rfl, ho2, hb2⟩ := hw2.part; obtain ⟨Ao, co, hvo, -⟩ := Own.form ho2; rw [List.length_map] at hvo; subst hvo; have H2 := Lib.hid (And.intro ho2 hb2); clear hw2 ho2 hb2; dsimp only)
 clear b0 b1 b2 b3 b4 b5 b6 b7 b8 b9 b10
 by_cases hmm : mayM m = true
 · have hp : partW m = partM m := by unfold partW; rw [if_pos hmm]
   have he : errW m = 0 := by unfold errW; rw [if_pos hmm]
   have hSR := sizR_part hmm HZ.out.typed
   have hAT : (partM m).attrs = attrsM m := rfl
   have hfew : (partM m).attrs.length ≤ 64 := attrsM_few hmm
   rw [hp] at H2
   rw [hp, he]
   generalize partM m = p at *
   clear hp he hmm
   obtain ⟨n, hn⟩ : ∃ n, p.attrs.length = n := ⟨_, rfl⟩
   rw [hn] at H2 hfew ⊢
   obtain ⟨a0, r0, ha0⟩ : ∃ a0 r0, p.attrs = a0 :: r0 := ⟨_, _, hAT⟩
   obtain ⟨go, co', hvo, -, -, -, hco, -⟩ := H2.out.1.at_ (i := 0) (r := acell a0) (by rw [ha0]; rfl)
   rw [List.length_map, hn] at hvo hco
   have hn1 : 1 ≤ n := by rw [← hn, ha0]; simp
   injection hvo with e1 e2 e3
   clear e2
   subst e1 e3
   clear ha0 hAT
   have hb3 : Below w2.heap.size w2 (w2.alloc (.cells #[.string p.line, .string p.conn, .slice (some ⟨go, 0, none⟩) n co] 32)) := (Below.refl _ w2).alloc (Nat.le_refl _) _
   have H3 : Hid (Below w.heap.size w (w2.alloc (.cells #[.string p.line, .string p.conn, .slice (some ⟨go, 0, none⟩) n co] 32)) ∧ Whole (w2.alloc (.cells #[.string p.line, .string p.conn, .slice (some ⟨go, 0, none⟩) n co] 32)) w2.heap.size 32 #[.string p.line, .string p.conn, .slice (some ⟨go, 0, none⟩) n co] ∧ Own (w2.alloc (.cells #[.string p.line, .string p.conn, .slice (some ⟨go, 0, none⟩) n co] 32)) w.heap.size 55 2 (.slice (some ⟨go, 0, none⟩) n co) (p.attrs.map acell) ∧ w.heap.size ≤ w2.heap.size) := Lib.hid
    ⟨H1.out.1.trans ((below_chain (Nat.le_refl _) H2.out.2 hb3).mono H1.out.1.size), Whole.new _ _ _, (H2.out.1.under hb3).base_le H1.out.1.size, Nat.le_trans H1.out.1.size H2.out.2.size⟩
   clear hb3 H2
   generalize w2.alloc (.cells #[.string p.line, .string p.conn, .slice (some ⟨go, 0, none⟩) n co] 32) = w3 at *
   generalize w2.heap.size = g9 at *
   have HP := Lib.hid (And.intro hSR (And.intro hfew hn))
   clear hSR
   have p2 : w3.cell? ⟨g9, 2, none⟩ = some (.slice (some ⟨go, 0, none⟩) n co) := H3.out.2.1.cell 2
   have hni : (n : Int) ≤ 64 := by omega
   have hn0 : (1 : Int) ≤ (n : Int) := by omega
   have hnz : (n : Int) ≠ 0 := by omega
   have hn00 : (n = 0) = False := by simp; omega
   have hwn : IntKind.u64.wrap (n : Int) = (n : Int) := by unfold IntKind.wrap; simp [IntKind.bits, IntKind.signed]; omega
   go_upto_region 7 with fail
   go_cut [1, 2] (fun s1 s2 wc => ∃ i k : Nat, s1 = .int .i64 (i : Int) ∧ s2 = .int .i64 (k : Int) ∧ i < n ∧ k < n ∧ Below w3.heap.size w3 wc)
   case first =>
    go_region_held3 (fun _ => True) (trivial) (first | fail)
    obtain ⟨i, hi, hin⟩ := idx_mod n i0 hn1 hfew
    obtain ⟨k, hk, hkn⟩ := idx_mod n k0 hn1 hfew
    simp only [hi, hk]
    go_wp2
    go_meet
    exact ⟨i, k, rfl, rfl, hin, hkn, (Below.refl _ w3).drew⟩
   case rest =>
   generalize wc = w4 at *
   obtain ⟨i, k, rfl, rfl, hin, hkn, hb4⟩ := hcut
   have H4 : Hid (Below w.heap.size w w4 ∧ Whole w4 g9 32 #[.string p.line, .string p.conn, .slice (some ⟨go, 0, none⟩) n co] ∧ Own w4 w.heap.size 55 2 (.slice (some ⟨go, 0, none⟩) n co) (p.attrs.map acell) ∧ w.heap.size ≤ g9) := Lib.hid ⟨H3.out.1.trans (hb4.mono H3.out.1.size), H3.out.2.1.under hb4, H3.out.2.2.1.under hb4, H3.out.2.2.2⟩
   have HIK := Lib.hid (And.intro hin hkn)
   clear hb4 H3 p2 hin hkn hnz hn00 hwn
   have q0 : w4.cell? ⟨g9, 0, none⟩ = some (.string p.line) := H4.out.2.1.cell 0
   have q1 : w4.cell? ⟨g9, 1, none⟩ = some (.string p.conn) := H4.out.2.1.cell 1
   have q2 : w4.cell? ⟨g9, 2, none⟩ = some (.slice (some ⟨go, 0, none⟩) n co) := H4.out.2.1.cell 2
   go_upto_region 8 with fail
   go_cut [10, 11, 12] (fun s10 s11 s12 wc => ∃ g1 g2 g3, s10 = .pointer (some ⟨g1, 0, none⟩) ∧ s11 = .pointer (some ⟨g2, 0, none⟩) ∧ s12 = .pointer (some ⟨g3, 0, none⟩) ∧ Below w4.heap.size w4 wc ∧ w4.heap.size ≤ g1 ∧ w4.heap.size ≤ g2 ∧ w4.heap.size ≤ g3 ∧ g1 ≠ g2 ∧ g1 ≠ g3 ∧ g2 ≠ g3 ∧ Whole wc g1 32 #[.string p.line, .string p.conn, .slice (some ⟨go, 0, none⟩) n co] ∧ Whole wc g2 32 #[.string p.line, .string p.conn, .slice (some ⟨go, 0, none⟩) n co] ∧ Whole wc g3 32 #[.string p.line, .string p.conn, .slice (some ⟨go, 0, none⟩) n co])
   case first =>
    go_region_held3 (fun W => W.cell? ⟨g9, 0, none⟩ = some (.string p.line) ∧ W.cell? ⟨g9, 1, none⟩ = some (.string p.conn) ∧ W.cell? ⟨g9, 2, none⟩ = some (.slice (some ⟨go, 0, none⟩) n co)) (refine ⟨?_, ?_, ?_⟩ <;> first | assumption | (simp only [World.cell?_drew]; assumption) | exact Go.Lib.cell?_alloc_some _ (by assumption) | exact Go.Lib.cell?_alloc_some _ (Go.Lib.cell?_alloc_some _ (by assumption)) | exact Go.Lib.cell?_alloc_some _ (Go.Lib.cell?_alloc_some _ (Go.Lib.cell?_alloc_some _ (by assumption)))) (first | fail)
    all_goals
     go_wp2
     go_meet
     refine ⟨_, _, _, rfl, rfl, rfl, (three_parts w4 _).1, by omega, by omega, by omega, by omega, by omega, by omega, ?_, ?_, ?_⟩ <;> first | exact (three_parts w4 _).2.1 | exact (three_parts w4 _).2.2.1 | exact (three_parts w4 _).2.2.2
   case rest =>
   generalize wc = w5 at *
   obtain ⟨g1, g2, g3, rfl, rfl, rfl, hb5, hg1, hg2, hg3, h12, h13, h23, hw1, hw2, hw3⟩ := hcut
   have H5 : Hid (Below w.heap.size w w5 ∧ Whole w5 g9 32 #[.string p.line, .string p.conn, .slice (some ⟨go, 0, none⟩) n co] ∧ Own w5 w.heap.size 55 2 (.slice (some ⟨go, 0, none⟩) n co) (p.attrs.map acell) ∧ w.heap.size ≤ g9) := Lib.hid ⟨H4.out.1.trans (hb5.mono H4.out.1.size), H4.out.2.1.under hb5, H4.out.2.2.1.under hb5, H4.out.2.2.2⟩
   have HT := Lib.hid (And.intro hw1 (And.intro hw2 hw3))
   have HG : Hid (g9 < w4.heap.size ∧ w4.heap.size ≤ g1 ∧ w4.heap.size ≤ g2 ∧ w4.heap.size ≤ g3 ∧ g1 ≠ g2 ∧ g1 ≠ g3 ∧ g2 ≠ g3) := Lib.hid ⟨H4.out.2.1.lt, hg1, hg2, hg3, h12, h13, h23⟩
   clear hb5 hg1 hg2 hg3 h12 h13 h23 hw1 hw2 hw3 q0 q1 q2 H4
   have HROW : Hid (∀ W, Below w5.heap.size w5 W → ∀ i x, p.attrs[i]? = some x → W.cell? ((⟨go, 0, none⟩ : Addr).add (i * 2)) = some (.string x.name) ∧ W.cell? ((⟨go, 0, none⟩ : Addr).add (i * 2 + 1)) = some (.string x.value)) := Lib.hid fun W hW i x hx => by
    have ho := H5.out.2.2.1.under hW
    obtain ⟨g', c', e1, -, -, -, -, -, hat, -⟩ := ho.at_ (i := i) (r := acell x) (by rw [List.getElem?_map, hx]; rfl)
    injection e1 with e1 _ _
    obtain rfl : go = g' := by injection e1 with e1; injection e1
    rw [Addr.add_lit, Addr.add_lit, Nat.zero_add, Nat.zero_add]
    exact ⟨(hat 0 (by decide)), (hat 1 (by decide))⟩
   have HE9 : Hid (Own (w5.alloc (.cells #[] 55)) w5.heap.size 55 2 (.slice (some ⟨w5.heap.size, 0, none⟩) 0 0) (([] : List AttrS).map acell) ∧ Below w5.heap.size w5 (w5.alloc (.cells #[] 55)) ∧ Whole (w5.alloc (.cells #[] 55)) g1 32 #[.string p.line, .string p.conn, .slice (some ⟨go, 0, none⟩) n co] ∧ w5.heap.size ≤ (w5.alloc (.cells #[] 55)).heap.size) := Lib.hid
    ⟨⟨⟨rfl, .inr ⟨w5.heap.size, 0, #[], rfl, Nat.le_refl _, Whole.new w5 55 #[], Nat.le_refl _, by unfold maxLen; omega, rfl, rfl⟩⟩, fun r hr => by cases hr⟩, (Below.refl _ w5).alloc (Nat.le_refl _) _, HT.out.1.alloc _, by rw [World.size_alloc]; omega⟩
   have p2a : (w5.alloc (.cells #[] 55)).cell? ⟨g9, 2, none⟩ = some (.slice (some ⟨go, 0, none⟩) n co) := (H5.out.2.1.alloc _).cell 2
   go_upto_region 10 with (at_builtin; refine wpList_appendLR (K := []) (L := p.attrs) (ad := ⟨go, 0, none⟩) rfl (.tmp 40) (.tmp 42) rfl rfl HE9.out.1 rfl HP.out.2.2 (fun i x hx => HROW.out _ HE9.out.2.1 i x hx) (by simp; have := HP.out.2.2; omega) HE9.out.2.2.2 ?_; intro v6 w6 ho6 hg6 hn6; have H6 : Hid (Own w6 w5.heap.size 55 2 v6 (p.attrs.map acell) ∧ Below w5.heap.size w5 w6 ∧ Whole w6 g1 32 #[.string p.line, .string p.conn, .slice (some ⟨go, 0, none⟩) n co]) := Lib.hid ⟨by rw [List.nil_append] at ho6; exact ho6, HE9.out.2.1.grown hg6 HE9.out.2.2.2 (fun j hj => (HE9.out.1.lt hj).1), HE9.out.2.2.1.grown hg6 (fun e => (HE9.out.1.apart HE9.out.2.2.1 (by decide)) e.symm)⟩; obtain ⟨A6, k6, hv6, hk6⟩ : ∃ A k, v6 = .slice A n k ∧ n ≤ k := (by obtain ⟨A, k, h, hk, -⟩ := H6.out.1.form; rw [List.length_map, HP.out.2.2] at h hk; exact ⟨_, _, h, hk⟩); subst hv6; have x6 : w6.cell? ⟨g1, 2, none⟩ = some (.slice (some ⟨go, 0, none⟩) n co) := H6.out.2.2.cell 2; have y6 := H6.out.2.2.frz 2; clear ho6 hg6 hn6)
   obtain ⟨ai, hai⟩ : ∃ a, p.attrs[i]? = some a := ⟨_, List.getElem?_eq_getElem (by rw [HP.out.2.2]; exact HIK.out.1)⟩
   obtain ⟨ak, hak⟩ : ∃ a, p.attrs[k]? = some a := ⟨_, List.getElem?_eq_getElem (by rw [HP.out.2.2]; exact HIK.out.2)⟩
   have HAI := Lib.hid hai
   have HAK := Lib.hid hak
   obtain ⟨gA, cA, hvA, -⟩ := H6.out.1.at_ (i := i) (r := acell ai) (by rw [List.getElem?_map, hai]; rfl)
   injection hvA with e1 e2 e3
   clear e2 e3
   subst e1
   have H7 : Hid (Below w.heap.size w (w6.setCell ⟨g1, 2, none⟩ (.slice (some ⟨gA, 0, none⟩) n k6)) ∧ Own (w6.setCell ⟨g1, 2, none⟩ (.slice (some ⟨gA, 0, none⟩) n k6)) w5.heap.size 55 2 (.slice (some ⟨gA, 0, none⟩) n k6) (p.attrs.map acell) ∧ Own (w6.setCell ⟨g1, 2, none⟩ (.slice (some ⟨gA, 0, none⟩) n k6)) w.heap.size 55 2 (.slice (some ⟨go, 0, none⟩) n co) (p.attrs.map acell) ∧ Whole (w6.setCell ⟨g1, 2, none⟩ (.slice (some ⟨gA, 0, none⟩) n k6)) g1 32 #[.string p.line, .string p.conn, .slice (some ⟨gA, 0, none⟩) n k6] ∧ Whole (w6.setCell ⟨g1, 2, none⟩ (.slice (some ⟨gA, 0, none⟩) n k6)) g2 32 #[.string p.line, .string p.conn, .slice (some ⟨go, 0, none⟩) n co] ∧ Whole (w6.setCell ⟨g1, 2, none⟩ (.slice (some ⟨gA, 0, none⟩) n k6)) g3 32 #[.string p.line, .string p.conn, .slice (some ⟨go, 0, none⟩) n co] ∧ Whole (w6.setCell ⟨g1, 2, none⟩ (.slice (some ⟨gA, 0, none⟩) n k6)) g9 32 #[.string p.line, .string p.conn, .slice (some ⟨go, 0, none⟩) n co]) := Lib.hid (by
    have ho := H5.out.2.2.1.under H6.out.2.1
    have hb := H5.out.1.trans (H6.out.2.1.mono H5.out.1.size)
    have hg := HG.out
    refine ⟨hb.setCell (p := ⟨g1, 2, none⟩) (show w.heap.size ≤ g1 by have := H5.out.2.2.2; omega) _, H6.out.1.far (p := ⟨g1, 2, none⟩) (H6.out.1.apart H6.out.2.2 (by decide)) _, ho.far (p := ⟨g1, 2, none⟩) (ho.apart H6.out.2.2 (by decide)) _, H6.out.2.2.set 2 _, (HT.out.2.1.under H6.out.2.1).far (p := ⟨g1, 2, none⟩) (by show g2 ≠ g1; omega) _, (HT.out.2.2.under H6.out.2.1).far (p := ⟨g1, 2, none⟩) (by show g3 ≠ g1; omega) _, (H5.out.2.1.under H6.out.2.1).far (p := ⟨g1, 2, none⟩) (by show g9 ≠ g1; omega) _⟩)
   have HGW : Hid (w.heap.size ≤ g1 ∧ w.heap.size ≤ g2 ∧ w.heap.size ≤ g3) := Lib.hid (by have := HG.out; have := H5.out.2.2.2; omega)
   have HGO : Hid (go < w5.heap.size ∧ w5.heap.size ≤ gA) := Lib.hid ⟨(H5.out.2.2.1.lt rfl).2, (H6.out.1.lt rfl).1⟩
   clear x6 y6 p2a HE9 H5 HT hai hak
   generalize w6.setCell ⟨g1, 2, none⟩ (.slice (some ⟨gA, 0, none⟩) n k6) = w7 at *
   have c1 : w7.cell? ⟨g1, 2, none⟩ = some (.slice (some ⟨gA, 0, none⟩) n k6) := H7.out.2.2.2.1.cell 2
   have c9 : w7.cell? ⟨g9, 2, none⟩ = some (.slice (some ⟨go, 0, none⟩) n co) := H7.out.2.2.2.2.2.2.cell 2
   have hi1 : (i : Int) < (n : Int) := by have := HIK.out.1; omega
   have hi2 : (0 : Int) ≤ (i : Int) := by omega
   have hk1 : (k : Int) < (n : Int) := by have := HIK.out.2; omega
   have hk2 : (0 : Int) ≤ (k : Int) := by omega
   have HNE : Hid (gA ≠ g1 ∧ gA ≠ g9 ∧ gA ≠ go) := Lib.hid (by
    have h1 := H7.out.2.1.apart H7.out.2.2.2.1 (by decide)
    have h9 := H7.out.2.1.apart H7.out.2.2.2.2.2.2 (by decide)
    refine ⟨fun e => h1 (by rw [← e]; rfl), fun e => h9 (by rw [← e]; rfl), fun e => ?_⟩
    have := HGO.out
    omega)
   have HOK : Hid (∀ W, Only (fun j => j = gA) w7 W → Own W w.heap.size 55 2 (.slice (some ⟨go, 0, none⟩) n co) (p.attrs.map acell)) := Lib.hid fun W h => H7.out.2.2.1.keep fun g' cs hg hw => hw.only h (by
    have : go = g' := by injection hg
    intro e
    exact HNE.out.2.2 (by rw [this]; exact e.symm))
   have HF1 : Hid (∀ W, Only (fun j => j = gA) w7 W → W.cell? ⟨g1, 2, none⟩ = some (.slice (some ⟨gA, 0, none⟩) n k6)) := Lib.hid fun W h => (H7.out.2.2.2.1.only h (fun e => HNE.out.1 e.symm)).cell 2
   have HF9 : Hid (∀ W, Only (fun j => j = gA) w7 W → W.cell? ⟨g9, 2, none⟩ = some (.slice (some ⟨go, 0, none⟩) n co)) := Lib.hid fun W h => (H7.out.2.2.2.2.2.2.only h (fun e => HNE.out.2.1 e.symm)).cell 2
   have HI0 : Hid (∀ W, Only (fun j => j = gA) w7 W → W.cell? ⟨go, i * 2, none⟩ = some (.string ai.name)) := Lib.hid fun W h => (row2 (HOK.out W h) HAI.out).1
   have HI1 : Hid (∀ W, Only (fun j => j = gA) w7 W → W.cell? ⟨go, i * 2 + 1, none⟩ = some (.string ai.value)) := Lib.hid fun W h => (row2 (HOK.out W h) HAI.out).2
   have HK0 : Hid (∀ W, Only (fun j => j = gA) w7 W → W.cell? ⟨go, k * 2, none⟩ = some (.string ak.name)) := Lib.hid fun W h => (row2 (HOK.out W h) HAK.out).1
   have HK1 : Hid (∀ W, Only (fun j => j = gA) w7 W → W.cell? ⟨go, k * 2 + 1, none⟩ = some (.string ak.value)) := Lib.hid fun W h => (row2 (HOK.out W h) HAK.out).2
   obtain ⟨ak', hks⟩ : ∃ a, (p.attrs.set i ak)[k]? = some a := ⟨_, List.getElem?_eq_getElem (by rw [List.length_set, HP.out.2.2]; exact HIK.out.2)⟩
   have HKS := Lib.hid hks
   clear hks
   have HR7 : Hid (Only (fun j => j = gA) w7 w7.drew) := Lib.hid (Only.refl _ _).drew
   have HO7 : Hid (Own w7.drew w5.heap.size 55 2 (.slice (some ⟨gA, 0, none⟩) n k6) (p.attrs.map acell)) := Lib.hid H7.out.2.1.drew
   clear c1 c9
   go_cut [] (fun wc => Only (fun j => j = gA) w7 wc ∧ Own wc w5.heap.size 55 2 (.slice (some ⟨gA, 0, none⟩) n k6) (((p.attrs.set i ak).set k ai).map acell))
   case first =>
    refine wp_region_held_drew (S := fun W => Only (fun j => j = gA) w7 W) (by kernel_rfl) HR7.out (fun hHeld => ?_)
    generalize w7.drew = w8 at hHeld HO7 ⊢
    have HO8 := Lib.hid HO7.out
    refine wpAnyH_take (i := 0) (v := _) rfl (by as_aux_lemma => kernel_rfl) (by as_aux_lemma => kernel_rfl) (by as_aux_lemma => kernel_rfl) (fun _ _ _ h => h) (Or.inl ⟨by rfl, fun w h => by have e0 := HF1.out w h; have e1 := HF9.out w h; have e2 := HI0.out w h; have e3 := HI1.out w h; have e4 := HK0.out w h; have e5 := HK1.out w h; clear h; go_simp; (try with_reducible rfl)⟩) (by assumption) ?_
    simp only [Act.put, La, Lb, Lc, Ld, Le, Lf]
    refine wpAnyH_take (i := 1) (v := _) rfl (by as_aux_lemma => kernel_rfl) (by as_aux_lemma => kernel_rfl) (by as_aux_lemma => kernel_rfl) (fun _ _ _ h => h) (Or.inl ⟨by rfl, fun w h => by have e0 := HF1.out w h; have e1 := HF9.out w h; have e2 := HI0.out w h; have e3 := HI1.out w h; have e4 := HK0.out w h; have e5 := HK1.out w h; clear h; go_simp; (try with_reducible rfl)⟩) (by assumption) ?_
    simp only [Act.put, La, Lb, Lc, Ld, Le, Lf]
    refine wpAnyH_take (i := 2) (v := _) rfl (by as_aux_lemma => kernel_rfl) (by as_aux_lemma => kernel_rfl) (by as_aux_lemma => kernel_rfl) (fun _ _ _ h => h) (Or.inl ⟨by rfl, fun w h => by have e0 := HF1.out w h; have e1 := HF9.out w h; have e2 := HI0.out w h; have e3 := HI1.out w h; have e4 := HK0.out w h; have e5 := HK1.out w h; clear h; go_simp; (try with_reducible rfl)⟩) (by assumption) ?_
    simp only [Act.put, La, Lb, Lc, Ld, Le, Lf]
    refine wpAnyH_take (i := 3) (v := _) rfl (by as_aux_lemma => kernel_rfl) (by as_aux_lemma => kernel_rfl) (by as_aux_lemma => kernel_rfl) (fun _ _ _ h => h) (Or.inl ⟨by rfl, fun w h => by have e0 := HF1.out w h; have e1 := HF9.out w h; have e2 := HI0.out w h; have e3 := HI1.out w h; have e4 := HK0.out w h; have e5 := HK1.out w h; clear h; go_simp; (try with_reducible rfl)⟩) (by assumption) ?_
    simp only [Act.put, La, Lb, Lc, Ld, Le, Lf]
    refine wpAnyH_take (i := 4) (v := _) rfl (by as_aux_lemma => kernel_rfl) (by as_aux_lemma => kernel_rfl) (by as_aux_lemma => kernel_rfl) (fun _ _ _ h => h) (Or.inl ⟨by rfl, fun w h => by have e0 := HF1.out w h; have e1 := HF9.out w h; have e2 := HI0.out w h; have e3 := HI1.out w h; have e4 := HK0.out w h; have e5 := HK1.out w h; clear h; go_simp; (try with_reducible rfl)⟩) (by assumption) ?_
    simp only [Act.put, La, Lb, Lc, Ld, Le, Lf]
    refine wpAnyH_take (i := 5) (v := _) rfl (by as_aux_lemma => kernel_rfl) (by as_aux_lemma => kernel_rfl) (by as_aux_lemma => kernel_rfl) (fun _ _ _ h => h) (Or.inl ⟨by rfl, fun w h => by have e0 := HF1.out w h; have e1 := HF9.out w h; have e2 := HI0.out w h; have e3 := HI1.out w h; have e4 := HK0.out w h; have e5 := HK1.out w h; clear h; go_simp; (try with_reducible rfl)⟩) (by assumption) ?_
    simp only [Act.put, La, Lb, Lc, Ld, Le, Lf]
    refine wpAnyH_take (i := 6) (v := _) rfl (by as_aux_lemma => kernel_rfl) (by as_aux_lemma => kernel_rfl) (by as_aux_lemma => kernel_rfl) (fun _ _ _ h => h) (Or.inl ⟨by rfl, fun w h => by have e0 := HF1.out w h; have e1 := HF9.out w h; have e2 := HI0.out w h; have e3 := HI1.out w h; have e4 := HK0.out w h; have e5 := HK1.out w h; clear h; go_simp; (try with_reducible rfl)⟩) (by assumption) ?_
    simp only [Act.put, La, Lb, Lc, Ld, Le, Lf]
    refine wpAnyH_take (i := 7) (v := _) rfl (by as_aux_lemma => kernel_rfl) (by as_aux_lemma => kernel_rfl) (by as_aux_lemma => kernel_rfl) (fun _ _ _ h => h) (Or.inl ⟨by rfl, fun w h => by have e0 := HF1.out w h; have e1 := HF9.out w h; have e2 := HI0.out w h; have e3 := HI1.out w h; have e4 := HK0.out w h; have e5 := HK1.out w h; clear h; go_simp; (try with_reducible rfl)⟩) (by assumption) ?_
    simp only [Act.put, La, Lb, Lc, Ld, Le, Lf]
    refine wpAnyH_take (i := 8) (v := _) rfl (by as_aux_lemma => kernel_rfl) (by as_aux_lemma => kernel_rfl) (by as_aux_lemma => kernel_rfl) (fun _ _ _ h => h) (Or.inl ⟨by rfl, fun w h => by have e0 := HF1.out w h; have e1 := HF9.out w h; have e2 := HI0.out w h; have e3 := HI1.out w h; have e4 := HK0.out w h; have e5 := HK1.out w h; clear h; go_simp; (try with_reducible rfl)⟩) (by assumption) ?_
    simp only [Act.put, La, Lb, Lc, Ld, Le, Lf]
    refine wpAnyH_take (i := 9) (v := _) rfl (by as_aux_lemma => kernel_rfl) (by as_aux_lemma => kernel_rfl) (by as_aux_lemma => kernel_rfl) (fun _ _ _ h => h) (Or.inl ⟨by rfl, fun w h => by have e0 := HF1.out w h; have e1 := HF9.out w h; have e2 := HI0.out w h; have e3 := HI1.out w h; have e4 := HK0.out w h; have e5 := HK1.out w h; clear h; go_simp; (try with_reducible rfl)⟩) (by assumption) ?_
    simp only [Act.put, La, Lb, Lc, Ld, Le, Lf]
    refine wpAnyH_take (i := 10) (v := _) rfl (by as_aux_lemma => kernel_rfl) (by as_aux_lemma => kernel_rfl) (by as_aux_lemma => kernel_rfl) (fun _ _ _ h => h) (Or.inl ⟨by rfl, fun w h => by have e0 := HF1.out w h; have e1 := HF9.out w h; have e2 := HI0.out w h; have e3 := HI1.out w h; have e4 := HK0.out w h; have e5 := HK1.out w h; clear h; go_simp; (try with_reducible rfl)⟩) (by assumption) ?_
    simp only [Act.put, La, Lb, Lc, Ld, Le, Lf]
    refine wpAnyH_take (i := 11) (v := _) rfl (by as_aux_lemma => kernel_rfl) (by as_aux_lemma => kernel_rfl) (by as_aux_lemma => kernel_rfl) (fun _ _ _ h => h) (Or.inl ⟨by rfl, fun w h => by have e0 := HF1.out w h; have e1 := HF9.out w h; have e2 := HI0.out w h; have e3 := HI1.out w h; have e4 := HK0.out w h; have e5 := HK1.out w h; clear h; go_simp; (try with_reducible rfl)⟩) (by assumption) ?_
    simp only [Act.put, La, Lb, Lc, Ld, Le, Lf]
    refine wpAnyH_take (i := 12) (v := _) rfl (by as_aux_lemma => kernel_rfl) (by as_aux_lemma => kernel_rfl) (by as_aux_lemma => kernel_rfl) (fun _ _ _ h => h) (Or.inl ⟨by rfl, fun w h => by have e0 := HF1.out w h; have e1 := HF9.out w h; have e2 := HI0.out w h; have e3 := HI1.out w h; have e4 := HK0.out w h; have e5 := HK1.out w h; clear h; go_simp; (try with_reducible rfl)⟩) (by assumption) ?_
    simp only [Act.put, La, Lb, Lc, Ld, Le, Lf]
    refine wpAnyH_take (i := 13) (v := _) rfl (by as_aux_lemma => kernel_rfl) (by as_aux_lemma => kernel_rfl) (by as_aux_lemma => kernel_rfl) (fun _ _ _ h => h) (Or.inl ⟨by rfl, fun w h => by have e0 := HF1.out w h; have e1 := HF9.out w h; have e2 := HI0.out w h; have e3 := HI1.out w h; have e4 := HK0.out w h; have e5 := HK1.out w h; clear h; go_simp; (try with_reducible rfl)⟩) (by assumption) ?_
    simp only [Act.put, La, Lb, Lc, Ld, Le, Lf]
    refine wpAnyH_take (i := 14) (v := _) rfl (by as_aux_lemma => kernel_rfl) (by as_aux_lemma => kernel_rfl) (by as_aux_lemma => kernel_rfl) (fun _ _ _ h => h) (Or.inl ⟨by rfl, fun w h => by have e0 := HF1.out w h; have e1 := HF9.out w h; have e2 := HI0.out w h; have e3 := HI1.out w h; have e4 := HK0.out w h; have e5 := HK1.out w h; clear h; go_simp; (try with_reducible rfl)⟩) (by assumption) ?_
    simp only [Act.put, La, Lb, Lc, Ld, Le, Lf]
    refine wpAnyH_take (i := 15) (v := _) rfl (by as_aux_lemma => kernel_rfl) (by as_aux_lemma => kernel_rfl) (by as_aux_lemma => kernel_rfl) (fun _ _ _ h => h) (Or.inl ⟨by rfl, fun w h => by have e0 := HF1.out w h; have e1 := HF9.out w h; have e2 := HI0.out w h; have e3 := HI1.out w h; have e4 := HK0.out w h; have e5 := HK1.out w h; clear h; go_simp; (try with_reducible rfl)⟩) (by assumption) ?_
    simp only [Act.put, La, Lb, Lc, Ld, Le, Lf]
    refine wpAnyH_take (i := 16) (v := _) rfl (by as_aux_lemma => kernel_rfl) (by as_aux_lemma => kernel_rfl) (by as_aux_lemma => kernel_rfl) (fun _ _ _ h => h) (Or.inl ⟨by rfl, fun w h => by have e0 := HF1.out w h; have e1 := HF9.out w h; have e2 := HI0.out w h; have e3 := HI1.out w h; have e4 := HK0.out w h; have e5 := HK1.out w h; clear h; go_simp; (try with_reducible rfl)⟩) (by assumption) ?_
    simp only [Act.put, La, Lb, Lc, Ld, Le, Lf]
    refine wpAnyH_ready (rs := [17]) (by as_aux_lemma => kernel_rfl) (by simp) ?_
    refine (AllReadyH.cons (i := 17) rfl (fun K hK => ?_) AllReadyH.nil)
    refine step_of rfl (wp_store_mid 55 (.tmp 61) (.tmp 55) rfl gA (i * 2) #[.string ak.name, .string ak.value] rfl rfl (own_there HO8.out HAI.out) (by rw [Tryz.sizeRsAttr]; rfl) (all_list rfl) ?_)
    have hon : Own (w8.setCells gA (i * 2) [.string ak.name, .string ak.value]) w5.heap.size 55 2 (.slice (some ⟨gA, 0, none⟩) n k6) ((p.attrs.set i ak).map acell) := own_putA HO8.out HAI.out ak
    have hbn : Only (fun j => j = gA) w7 (w8.setCells gA (i * 2) [.string ak.name, .string ak.value]) := only_cells hHeld gA (i * 2) (acell ak) rfl
    have HO9a := Lib.hid hon
    refine hK.out _ _ hbn (fun hHeld' => ?_)
    clear hbn hon
    clear hK K hHeld
    have hHeld := hHeld'
    clear hHeld'
    try simp only [Act.put]
    generalize w8.setCells gA (i * 2) [.string ak.name, .string ak.value] = w9 at hHeld HO9a ⊢
    have HO9 := Lib.hid HO9a.out
    clear HO9a
    refine wpAnyH_take (i := 18) (v := _) rfl (by as_aux_lemma => kernel_rfl) (by as_aux_lemma => kernel_rfl) (by as_aux_lemma => kernel_rfl) (fun _ _ _ h => h) (Or.inl ⟨by rfl, fun w h => by have e0 := HF1.out w h; have e1 := HF9.out w h; have e2 := HI0.out w h; have e3 := HI1.out w h; have e4 := HK0.out w h; have e5 := HK1.out w h; clear h; go_simp; (try with_reducible rfl)⟩) (by assumption) ?_
    simp only [Act.put, La, Lb, Lc, Ld, Le, Lf]
    refine wpAnyH_ready (rs := [19]) (by as_aux_lemma => kernel_rfl) (by simp) ?_
    refine (AllReadyH.cons (i := 19) rfl (fun K hK => ?_) AllReadyH.nil)
    refine step_of rfl (wp_store_mid 55 (.tmp 62) (.tmp 60) rfl gA (k * 2) #[.string ai.name, .string ai.value] rfl rfl (own_there HO9.out HKS.out) (by rw [Tryz.sizeRsAttr]; rfl) (all_list rfl) ?_)
    have hon : Own (w9.setCells gA (k * 2) [.string ai.name, .string ai.value]) w5.heap.size 55 2 (.slice (some ⟨gA, 0, none⟩) n k6) (((p.attrs.set i ak).set k ai).map acell) := own_putA HO9.out HKS.out ai
    have hbn : Only (fun j => j = gA) w7 (w9.setCells gA (k * 2) [.string ai.name, .string ai.value]) := only_cells hHeld gA (k * 2) (acell ai) rfl
    have HO10a := Lib.hid hon
    refine hK.out _ _ hbn (fun hHeld' => ?_)
    clear hbn hon
    clear hK K hHeld
    have hHeld := hHeld'
    clear hHeld'
    try simp only [Act.put]
    generalize w9.setCells gA (k * 2) [.string ai.name, .string ai.value] = w10 at hHeld HO10a ⊢
    have HO10 := Lib.hid HO10a.out
    clear HO10a
    refine wpAnyH_done (by as_aux_lemma => kernel_rfl) ?_ _
    have HL := Lib.hid (And.intro hHeld HO10.out)
    clear hHeld
    go_wp2
    go_meet
    exact ⟨HL.out.1, HL.out.2⟩
   case rest =>
   obtain ⟨hon8, how8⟩ := hcut
   generalize wc = w8 at *
   have HS8 : Hid (Below w.heap.size w w8 ∧ Own w8 w.heap.size 55 2 (.slice (some ⟨go, 0, none⟩) n co) (p.attrs.map acell) ∧ Whole w8 g1 32 #[.string p.line, .string p.conn, .slice (some ⟨gA, 0, none⟩) n k6] ∧ Whole w8 g2 32 #[.string p.line, .string p.conn, .slice (some ⟨go, 0, none⟩) n co] ∧ Whole w8 g3 32 #[.string p.line, .string p.conn, .slice (some ⟨go, 0, none⟩) n co] ∧ Whole w8 g9 32 #[.string p.line, .string p.conn, .slice (some ⟨go, 0, none⟩) n co] ∧ Own w8 w5.heap.size 55 2 (.slice (some ⟨gA, 0, none⟩) n k6) (((p.attrs.set i ak).set k ai).map acell)) := Lib.hid (by
    have hne : ∀ {g : Nat} {cs : Array Value}, Whole w7 g 32 cs → ¬ (g = gA) := fun hg e => (H7.out.2.1.apart hg (by decide)) (by rw [e]; rfl)
    refine ⟨?_, HOK.out _ hon8, H7.out.2.2.2.1.only hon8 (hne H7.out.2.2.2.1), H7.out.2.2.2.2.1.only hon8 (hne H7.out.2.2.2.2.1), H7.out.2.2.2.2.2.1.only hon8 (hne H7.out.2.2.2.2.2.1), H7.out.2.2.2.2.2.2.only hon8 (hne H7.out.2.2.2.2.2.2), how8⟩
    exact H7.out.1.trans (hon8.below (fun j hj => by have h1 : w.heap.size ≤ go := (H7.out.2.2.1.lt (k := go) rfl).1; have h2 := HGO.out; have h3 : j = gA := hj; omega) H7.out.1.size))
   clear HF1 HF9 HI0 HI1 HK0 HK1 HR7 HO7 HOK hon8 how8 H7 H6 HKS HROW
   have HGL : Hid (w.heap.size ≤ g1 ∧ w.heap.size ≤ g2 ∧ w.heap.size ≤ g3) := Lib.hid HGW.out
   have HTL : Hid ((p.attrs.take i).length = i) := Lib.hid (by rw [List.length_take, HP.out.2.2]; have := HIK.out.1; omega)
   have hic : (i : Int) ≤ (co : Int) := by omega
   have hin2 : i < n := HIK.out.1
   have e1 : IntKind.i64.wrap ((i : Int) + 1) = (i : Int) + 1 := IntWalk.i64_in _ (by omega)
   have hi3 : (0 : Int) ≤ (i : Int) + 1 := by omega
   have hi4 : (i : Int) + 1 ≤ (n : Int) := by omega
   have hi5 : ((i : Int) + 1).toNat = i + 1 := by omega
   go_upto_region 11 with fail
   go_cut [] (fun wc => ∃ (A7 : Option Addr) (l7 c7 : Nat), Only (fun j => j = g2) w8 wc ∧ Whole wc g2 32 #[.string p.line, .string p.conn, .slice A7 l7 c7] ∧ Own wc w8.heap.size 55 2 (.slice A7 l7 c7) ((p.attrs.take i ++ p.attrs.drop (i + 1)).map acell))
   case first =>
    have HGN11 : Hid (¬ g9 = g2) := Lib.hid (by have := HG.out; omega)
    have HSE11 : Hid (w8.heap.size = w8.heap.size) := Lib.hid rfl
    have HSZ11 : Hid (∀ W, Only (fun j => j = g2) w8 W → w8.heap.size ≤ W.heap.size) := Lib.hid fun W h => h.size
    have HOK11 : Hid (∀ W, Only (fun j => j = g2) w8 W → Own W w.heap.size 55 2 (.slice (some ⟨go, 0, none⟩) n co) (p.attrs.map acell)) := Lib.hid fun W h => HS8.out.2.1.keep fun g' cs hg hw => hw.only h (fun e => (HS8.out.2.1.apart HS8.out.2.2.2.1 (by decide)) (by rw [hg, e]))
    have HROW11 : Hid (∀ W, Only (fun j => j = g2) w8 W → ∀ j x, p.attrs[j]? = some x → W.cell? ((⟨go, 0, none⟩ : Addr).add (j * 2)) = some (.string x.name) ∧ W.cell? ((⟨go, 0, none⟩ : Addr).add (j * 2 + 1)) = some (.string x.value)) := Lib.hid fun W h j x hx => by
     rw [Addr.add_lit, Addr.add_lit, Nat.zero_add, Nat.zero_add]
     exact row2 (HOK11.out W h) hx
    have HF9 : Hid (∀ W, Only (fun j => j = g2) w8 W → W.cell? ⟨g9, 2, none⟩ = some (.slice (some ⟨go, 0, none⟩) n co)) := Lib.hid fun W h => (HS8.out.2.2.2.2.2.1.only h (fun e => HGN11.out e)).cell 2
    have HR11 : Hid (Only (fun j => j = g2) w8 w8.drew) := Lib.hid (Only.refl _ _).drew
    have HP0 : Hid (Whole w8.drew g2 32 #[.string p.line, .string p.conn, .slice (some ⟨go, 0, none⟩) n co]) := Lib.hid HS8.out.2.2.2.1.drew
    by_cases hck : co = i + 1
    · have HDR : Hid (p.attrs.drop (i + 1) = []) := Lib.hid (by rw [List.drop_eq_nil_iff, HP.out.2.2]; omega)
      subst hck
      have hicA : (i : Int) ≤ (i : Int) + 1 := by omega
      refine wp_region_held_drew (S := fun W => Only (fun j => j = g2) w8 W) (by kernel_rfl) HR11.out (fun hHeld => ?_)
      generalize w8.drew = w011 at hHeld HP0 ⊢
      refine wpAnyH_take (i := 1) (v := _) rfl (by as_aux_lemma => kernel_rfl) (by as_aux_lemma => kernel_rfl) (by as_aux_lemma => kernel_rfl) (fun _ _ _ h => h) (Or.inl ⟨by rfl, fun w h => by have e0 := HF9.out w h; clear h; go_simp; (try with_reducible rfl)⟩) (by assumption) ?_
      simp only [Act.put, La, Lb, Lc, Ld, Le, Lf]
      refine wpAnyH_take (i := 2) (v := _) rfl (by as_aux_lemma => kernel_rfl) (by as_aux_lemma => kernel_rfl) (by as_aux_lemma => kernel_rfl) (fun _ _ _ h => h) (Or.inl ⟨by rfl, fun w h => by have e0 := HF9.out w h; clear h; go_simp; (try with_reducible rfl)⟩) (by assumption) ?_
      simp only [Act.put, La, Lb, Lc, Ld, Le, Lf]
      refine wpAnyH_take (i := 3) (v := _) rfl (by as_aux_lemma => kernel_rfl) (by as_aux_lemma => kernel_rfl) (by as_aux_lemma => kernel_rfl) (fun _ _ _ h => h) (Or.inl ⟨by rfl, fun w h => by have e0 := HF9.out w h; clear h; go_simp; (try with_reducible rfl)⟩) (by assumption) ?_
      simp only [Act.put, La, Lb, Lc, Ld, Le, Lf]
      refine wpAnyH_take (i := 4) (v := _) rfl (by as_aux_lemma => kernel_rfl) (by as_aux_lemma => kernel_rfl) (by as_aux_lemma => kernel_rfl) (fun _ _ _ h => h) (Or.inl ⟨by rfl, fun w h => by have e0 := HF9.out w h; clear h; go_simp; (try with_reducible rfl)⟩) (by assumption) ?_
      simp only [Act.put, La, Lb, Lc, Ld, Le, Lf]
      refine wpAnyH_take (i := 6) (v := _) rfl (by as_aux_lemma => kernel_rfl) (by as_aux_lemma => kernel_rfl) (by as_aux_lemma => kernel_rfl) (fun _ _ _ h => h) (Or.inl ⟨by rfl, fun w h => by have e0 := HF9.out w h; clear h; go_simp; (try with_reducible rfl)⟩) (by assumption) ?_
      simp only [Act.put, La, Lb, Lc, Ld, Le, Lf]
      refine wpAnyH_take (i := 7) (v := _) rfl (by as_aux_lemma => kernel_rfl) (by as_aux_lemma => kernel_rfl) (by as_aux_lemma => kernel_rfl) (fun _ _ _ h => h) (Or.inl ⟨by rfl, fun w h => by have e0 := HF9.out w h; clear h; go_simp; (try with_reducible rfl)⟩) (by assumption) ?_
      simp only [Act.put, La, Lb, Lc, Ld, Le, Lf]
      refine wpAnyH_take (i := 8) (v := _) rfl (by as_aux_lemma => kernel_rfl) (by as_aux_lemma => kernel_rfl) (by as_aux_lemma => kernel_rfl) (fun _ _ _ h => h) (Or.inl ⟨by rfl, fun w h => by have e0 := HF9.out w h; clear h; go_simp; (try with_reducible rfl)⟩) (by assumption) ?_
      simp only [Act.put, La, Lb, Lc, Ld, Le, Lf]
      refine wpAnyH_take (i := 9) (v := _) rfl (by as_aux_lemma => kernel_rfl) (by as_aux_lemma => kernel_rfl) (by as_aux_lemma => kernel_rfl) (fun _ _ _ h => h) (Or.inl ⟨by rfl, fun w h => by have e0 := HF9.out w h; clear h; go_simp; (try with_reducible rfl)⟩) (by assumption) ?_
      simp only [Act.put, La, Lb, Lc, Ld, Le, Lf]
      refine wpAnyH_take (i := 10) (v := _) rfl (by as_aux_lemma => kernel_rfl) (by as_aux_lemma => kernel_rfl) (by as_aux_lemma => kernel_rfl) (fun _ _ _ h => h) (Or.inl ⟨by rfl, fun w h => by have e0 := HF9.out w h; clear h; go_simp; (try with_reducible rfl)⟩) (by assumption) ?_
      simp only [Act.put, La, Lb, Lc, Ld, Le, Lf]
      refine wpAnyH_ready (rs := [0]) (by as_aux_lemma => kernel_rfl) (by simp) ?_
      refine (AllReadyH.cons (i := 0) rfl (fun K hK => ?_) AllReadyH.nil)
      go_simp
      have hbn := hHeld.alloc (.cells #[] 55)
      have HE1 := Lib.hid (own_empty w011 (HSZ11.out _ hHeld))
      have HP1 := Lib.hid (HP0.out.alloc (.cells #[] 55))
      refine hK.out _ _ hbn (fun hHeld' => ?_)
      clear hbn HP0
      clear hK K hHeld
      have hHeld := hHeld'
      clear hHeld'
      try simp only [Act.put]
      generalize w011.alloc (.cells #[] 55) = x0 at hHeld HE1 HP1 ⊢
      generalize w011.heap.size = gE at hHeld HE1 HP1 ⊢
      refine wpAnyH_ready (rs := [5]) (by as_aux_lemma => kernel_rfl) (by simp) ?_
      refine (AllReadyH.cons (i := 5) rfl (fun K hK => ?_) AllReadyH.nil)
      refine step_of rfl (wp_appendLR (K := []) (L := p.attrs.take i) (ad := ⟨go, 0, none⟩) (base := w8.heap.size) (.tmp 63) (.tmp 67) rfl rfl HE1.out rfl HTL.out (fun j x hx => HROW11.out _ hHeld j x (take_at2 hx)) (by simp only [List.length_nil, HTL.out]; omega) (HSZ11.out _ hHeld) ?_)
      intro v5 x5 ho5 hg5 hn5
      rw [List.nil_append] at ho5
      have hbn := hHeld.grown hg5 (fun j hj => .inr (by rw [HSE11.out]; exact (Own.lt HE1.out hj).1))
      obtain ⟨A5', c5', hv5, -⟩ := Own.form ho5
      generalize ((p.attrs.take i).map acell).length = l5' at hv5
      subst hv5
      have HO52 := Lib.hid (ho5)
      have HP2 := Lib.hid (HP1.out.grown hg5 (fun e => (Own.apart HE1.out HP1.out (by decide)) e.symm))
      refine hK.out _ _ hbn (fun hHeld' => ?_)
      clear ho5 hg5 hn5 hbn HP1 HE1
      clear hK K hHeld
      have hHeld := hHeld'
      clear hHeld'
      try simp only [Act.put]
      refine wpAnyH_ready (rs := [11]) (by as_aux_lemma => kernel_rfl) (by simp) ?_
      refine (AllReadyH.cons (i := 11) rfl (fun K hK => ?_) AllReadyH.nil)
      refine step_of rfl (wp_appendLR (K := p.attrs.take i) (L := ([] : List AttrS)) (ad := ⟨go, 0, none⟩) (base := w8.heap.size) (.tmp 68) (.tmp 73) rfl rfl HO52.out rfl (by have := HP.out.2.2; show 0 = _; omega) (fun j x hx => by cases hx) (by simp only [List.length_append, List.length_drop, List.length_nil, List.length_singleton, HTL.out]; have := HP.out.2.2; omega) (HSZ11.out _ hHeld) ?_)
      intro v7 x11 ho7 hg7 hn7
      rw [show (p.attrs.take i ++ ([] : List AttrS)) = p.attrs.take i ++ p.attrs.drop (i + 1) by rw [HDR.out]] at ho7
      have hbn := hHeld.grown hg7 (fun j hj => .inr (by rw [HSE11.out]; exact (Own.lt HO52.out hj).1))
      obtain ⟨A7', c7', hv7, -⟩ := Own.form ho7
      generalize ((p.attrs.take i ++ p.attrs.drop (i + 1)).map acell).length = l7' at hv7
      subst hv7
      have HO73 := Lib.hid (ho7)
      have HP3 := Lib.hid (HP2.out.grown hg7 (fun e => (Own.apart HO52.out HP2.out (by decide)) e.symm))
      refine hK.out _ _ hbn (fun hHeld' => ?_)
      clear ho7 hg7 hn7 hbn HP2 HO52
      clear hK K hHeld
      have hHeld := hHeld'
      clear hHeld'
      try simp only [Act.put]
      refine wpAnyH_take (i := 12) (v := _) rfl (by as_aux_lemma => kernel_rfl) (by as_aux_lemma => kernel_rfl) (by as_aux_lemma => kernel_rfl) (fun _ _ _ h => h) (Or.inl ⟨by rfl, fun w h => by have e0 := HF9.out w h; clear h; go_simp; (try with_reducible rfl)⟩) (by assumption) ?_
      simp only [Act.put, La, Lb, Lc, Ld, Le, Lf]
      refine wpAnyH_ready (rs := [13]) (by as_aux_lemma => kernel_rfl) (by simp) ?_
      refine (AllReadyH.cons (i := 13) rfl (fun K hK => ?_) AllReadyH.nil)
      have x9 := HP3.out.cell 2
      have y9 := HP3.out.frz 2
      simp only [List.getElem?_toArray, List.getElem?_cons_succ, List.getElem?_cons_zero] at x9
      go_simp
      clear x9 y9
      have hbn := hHeld.setCell (p := ⟨g2, 2, none⟩) (.inl rfl) (.slice A7' l7' c7')
      have HFIN := Lib.hid (And.intro (HP3.out.set 2 (.slice A7' l7' c7')) (HO73.out.far (p := ⟨g2, 2, none⟩) (HO73.out.apart HP3.out (by decide)) (.slice A7' l7' c7')))
      refine hK.out _ _ hbn (fun hHeld' => ?_)
      clear hbn
      clear hK K hHeld
      have hHeld := hHeld'
      clear hHeld'
      try simp only [Act.put]
      refine wpAnyH_done (by as_aux_lemma => kernel_rfl) ?_ _
      have HL := Lib.hid hHeld
      clear hHeld
      go_wp2
      go_meet
      exact ⟨_, _, _, HL.out, HFIN.out.1, HFIN.out.2⟩
    · have hck1 : ((i : Int) + 1) ≠ (co : Int) := by omega
      have hck2 : ¬ co = i + 1 := hck
      have hck3 : ¬ i + 1 = co := fun e => hck e.symm
      refine wp_region_held_drew (S := fun W => Only (fun j => j = g2) w8 W) (by kernel_rfl) HR11.out (fun hHeld => ?_)
      generalize w8.drew = w011 at hHeld HP0 ⊢
      refine wpAnyH_take (i := 1) (v := _) rfl (by as_aux_lemma => kernel_rfl) (by as_aux_lemma => kernel_rfl) (by as_aux_lemma => kernel_rfl) (fun _ _ _ h => h) (Or.inl ⟨by rfl, fun w h => by have e0 := HF9.out w h; clear h; go_simp; (try with_reducible rfl)⟩) (by assumption) ?_
      simp only [Act.put, La, Lb, Lc, Ld, Le, Lf]
      refine wpAnyH_take (i := 2) (v := _) rfl (by as_aux_lemma => kernel_rfl) (by as_aux_lemma => kernel_rfl) (by as_aux_lemma => kernel_rfl) (fun _ _ _ h => h) (Or.inl ⟨by rfl, fun w h => by have e0 := HF9.out w h; clear h; go_simp; (try with_reducible rfl)⟩) (by assumption) ?_
      simp only [Act.put, La, Lb, Lc, Ld, Le, Lf]
      refine wpAnyH_take (i := 3) (v := _) rfl (by as_aux_lemma => kernel_rfl) (by as_aux_lemma => kernel_rfl) (by as_aux_lemma => kernel_rfl) (fun _ _ _ h => h) (Or.inl ⟨by rfl, fun w h => by have e0 := HF9.out w h; clear h; go_simp; (try with_reducible rfl)⟩) (by assumption) ?_
      simp only [Act.put, La, Lb, Lc, Ld, Le, Lf]
      refine wpAnyH_take (i := 4) (v := _) rfl (by as_aux_lemma => kernel_rfl) (by as_aux_lemma => kernel_rfl) (by as_aux_lemma => kernel_rfl) (fun _ _ _ h => h) (Or.inl ⟨by rfl, fun w h => by have e0 := HF9.out w h; clear h; go_simp; (try with_reducible rfl)⟩) (by assumption) ?_
      simp only [Act.put, La, Lb, Lc, Ld, Le, Lf]
      refine wpAnyH_take (i := 6) (v := _) rfl (by as_aux_lemma => kernel_rfl) (by as_aux_lemma => kernel_rfl) (by as_aux_lemma => kernel_rfl) (fun _ _ _ h => h) (Or.inl ⟨by rfl, fun w h => by have e0 := HF9.out w h; clear h; go_simp; (try with_reducible rfl)⟩) (by assumption) ?_
      simp only [Act.put, La, Lb, Lc, Ld, Le, Lf]
      refine wpAnyH_take (i := 7) (v := _) rfl (by as_aux_lemma => kernel_rfl) (by as_aux_lemma => kernel_rfl) (by as_aux_lemma => kernel_rfl) (fun _ _ _ h => h) (Or.inl ⟨by rfl, fun w h => by have e0 := HF9.out w h; clear h; go_simp; (try with_reducible rfl)⟩) (by assumption) ?_
      simp only [Act.put, La, Lb, Lc, Ld, Le, Lf]
      refine wpAnyH_take (i := 8) (v := _) rfl (by as_aux_lemma => kernel_rfl) (by as_aux_lemma => kernel_rfl) (by as_aux_lemma => kernel_rfl) (fun _ _ _ h => h) (Or.inl ⟨by rfl, fun w h => by have e0 := HF9.out w h; clear h; go_simp; (try with_reducible rfl)⟩) (by assumption) ?_
      simp only [Act.put, La, Lb, Lc, Ld, Le, Lf]
      refine wpAnyH_take (i := 9) (v := _) rfl (by as_aux_lemma => kernel_rfl) (by as_aux_lemma => kernel_rfl) (by as_aux_lemma => kernel_rfl) (fun _ _ _ h => h) (Or.inl ⟨by rfl, fun w h => by have e0 := HF9.out w h; clear h; go_simp; (try with_reducible rfl)⟩) (by assumption) ?_
      simp only [Act.put, La, Lb, Lc, Ld, Le, Lf]
      refine wpAnyH_take (i := 10) (v := _) rfl (by as_aux_lemma => kernel_rfl) (by as_aux_lemma => kernel_rfl) (by as_aux_lemma => kernel_rfl) (fun _ _ _ h => h) (Or.inl ⟨by rfl, fun w h => by have e0 := HF9.out w h; clear h; go_simp; (try with_reducible rfl)⟩) (by assumption) ?_
      simp only [Act.put, La, Lb, Lc, Ld, Le, Lf]
      refine wpAnyH_ready (rs := [0]) (by as_aux_lemma => kernel_rfl) (by simp) ?_
      refine (AllReadyH.cons (i := 0) rfl (fun K hK => ?_) AllReadyH.nil)
      go_simp
      have hbn := hHeld.alloc (.cells #[] 55)
      have HE1 := Lib.hid (own_empty w011 (HSZ11.out _ hHeld))
      have HP1 := Lib.hid (HP0.out.alloc (.cells #[] 55))
      refine hK.out _ _ hbn (fun hHeld' => ?_)
      clear hbn HP0
      clear hK K hHeld
      have hHeld := hHeld'
      clear hHeld'
      try simp only [Act.put]
      generalize w011.alloc (.cells #[] 55) = x0 at hHeld HE1 HP1 ⊢
      generalize w011.heap.size = gE at hHeld HE1 HP1 ⊢
      refine wpAnyH_ready (rs := [5]) (by as_aux_lemma => kernel_rfl) (by simp) ?_
      refine (AllReadyH.cons (i := 5) rfl (fun K hK => ?_) AllReadyH.nil)
      refine step_of rfl (wp_appendLR (K := []) (L := p.attrs.take i) (ad := ⟨go, 0, none⟩) (base := w8.heap.size) (.tmp 63) (.tmp 67) rfl rfl HE1.out rfl HTL.out (fun j x hx => HROW11.out _ hHeld j x (take_at2 hx)) (by simp only [List.length_nil, HTL.out]; omega) (HSZ11.out _ hHeld) ?_)
      intro v5 x5 ho5 hg5 hn5
      rw [List.nil_append] at ho5
      have hbn := hHeld.grown hg5 (fun j hj => .inr (by rw [HSE11.out]; exact (Own.lt HE1.out hj).1))
      obtain ⟨A5', c5', hv5, -⟩ := Own.form ho5
      generalize ((p.attrs.take i).map acell).length = l5' at hv5
      subst hv5
      have HO52 := Lib.hid (ho5)
      have HP2 := Lib.hid (HP1.out.grown hg5 (fun e => (Own.apart HE1.out HP1.out (by decide)) e.symm))
      refine hK.out _ _ hbn (fun hHeld' => ?_)
      clear ho5 hg5 hn5 hbn HP1 HE1
      clear hK K hHeld
      have hHeld := hHeld'
      clear hHeld'
      try simp only [Act.put]
      refine wpAnyH_ready (rs := [11]) (by as_aux_lemma => kernel_rfl) (by simp) ?_
      refine (AllReadyH.cons (i := 11) rfl (fun K hK => ?_) AllReadyH.nil)
      refine step_of rfl (wp_appendLR (K := p.attrs.take i) (L := p.attrs.drop (i + 1)) (ad := ⟨go, (i + 1) * 2, none⟩) (base := w8.heap.size) (.tmp 68) (.tmp 73) rfl rfl HO52.out rfl (by rw [List.length_drop, HP.out.2.2]) (fun j x hx => by rw [List.getElem?_drop] at hx; have := HROW11.out _ hHeld (i + 1 + j) x hx; rw [Addr.add_lit, Addr.add_lit, Nat.zero_add, Nat.zero_add] at this; rw [Addr.add_lit, Addr.add_lit, show (i + 1) * 2 + j * 2 = (i + 1 + j) * 2 by omega, show (i + 1) * 2 + (j * 2 + 1) = (i + 1 + j) * 2 + 1 by omega]; exact this) (by simp only [List.length_append, List.length_drop, List.length_nil, List.length_singleton, HTL.out]; have := HP.out.2.2; omega) (HSZ11.out _ hHeld) ?_)
      intro v7 x11 ho7 hg7 hn7
      have hbn := hHeld.grown hg7 (fun j hj => .inr (by rw [HSE11.out]; exact (Own.lt HO52.out hj).1))
      obtain ⟨A7', c7', hv7, -⟩ := Own.form ho7
      generalize ((p.attrs.take i ++ p.attrs.drop (i + 1)).map acell).length = l7' at hv7
      subst hv7
      have HO73 := Lib.hid (ho7)
      have HP3 := Lib.hid (HP2.out.grown hg7 (fun e => (Own.apart HO52.out HP2.out (by decide)) e.symm))
      refine hK.out _ _ hbn (fun hHeld' => ?_)
      clear ho7 hg7 hn7 hbn HP2 HO52
      clear hK K hHeld
      have hHeld := hHeld'
      clear hHeld'
      try simp only [Act.put]
      refine wpAnyH_take (i := 12) (v := _) rfl (by as_aux_lemma => kernel_rfl) (by as_aux_lemma => kernel_rfl) (by as_aux_lemma => kernel_rfl) (fun _ _ _ h => h) (Or.inl ⟨by rfl, fun w h => by have e0 := HF9.out w h; clear h; go_simp; (try with_reducible rfl)⟩) (by assumption) ?_
      simp only [Act.put, La, Lb, Lc, Ld, Le, Lf]
      refine wpAnyH_ready (rs := [13]) (by as_aux_lemma => kernel_rfl) (by simp) ?_
      refine (AllReadyH.cons (i := 13) rfl (fun K hK => ?_) AllReadyH.nil)
      have x9 := HP3.out.cell 2
      have y9 := HP3.out.frz 2
      simp only [List.getElem?_toArray, List.getElem?_cons_succ, List.getElem?_cons_zero] at x9
      go_simp
      clear x9 y9
      have hbn := hHeld.setCell (p := ⟨g2, 2, none⟩) (.inl rfl) (.slice A7' l7' c7')
      have HFIN := Lib.hid (And.intro (HP3.out.set 2 (.slice A7' l7' c7')) (HO73.out.far (p := ⟨g2, 2, none⟩) (HO73.out.apart HP3.out (by decide)) (.slice A7' l7' c7')))
      refine hK.out _ _ hbn (fun hHeld' => ?_)
      clear hbn
      clear hK K hHeld
      have hHeld := hHeld'
      clear hHeld'
      try simp only [Act.put]
      refine wpAnyH_done (by as_aux_lemma => kernel_rfl) ?_ _
      have HL := Lib.hid hHeld
      clear hHeld
      go_wp2
      go_meet
      exact ⟨_, _, _, HL.out, HFIN.out.1, HFIN.out.2⟩
   case rest =>
   obtain ⟨A7, l7, c7, hon9, hx9, ho9⟩ := hcut
   generalize wc = w9 at *
   have HS9 : Hid (Below w.heap.size w w9 ∧ Own w9 w.heap.size 55 2 (.slice (some ⟨go, 0, none⟩) n co) (p.attrs.map acell) ∧ Whole w9 g1 32 #[.string p.line, .string p.conn, .slice (some ⟨gA, 0, none⟩) n k6] ∧ Whole w9 g2 32 #[.string p.line, .string p.conn, .slice A7 l7 c7] ∧ Whole w9 g3 32 #[.string p.line, .string p.conn, .slice (some ⟨go, 0, none⟩) n co] ∧ Whole w9 g9 32 #[.string p.line, .string p.conn, .slice (some ⟨go, 0, none⟩) n co] ∧ Own w9 w5.heap.size 55 2 (.slice (some ⟨gA, 0, none⟩) n k6) (((p.attrs.set i ak).set k ai).map acell) ∧ Own w9 w8.heap.size 55 2 (.slice A7 l7 c7) ((p.attrs.take i ++ p.attrs.drop (i + 1)).map acell)) := Lib.hid (by
    have hg := HG.out
    have hwg := HGL.out.2.1
    exact ⟨HS8.out.1.trans (hon9.below (fun j hj => by have h3 : j = g2 := hj; omega) HS8.out.1.size), HS8.out.2.1.keep fun g' cs hg' hw => hw.only hon9 (fun e => (HS8.out.2.1.apart HS8.out.2.2.2.1 (by decide)) (by rw [hg', e])), HS8.out.2.2.1.only hon9 (fun e => by have h3 : g1 = g2 := e; omega), hx9, HS8.out.2.2.2.2.1.only hon9 (fun e => by have h3 : g3 = g2 := e; omega), HS8.out.2.2.2.2.2.1.only hon9 (fun e => by have h3 : g9 = g2 := e; omega), HS8.out.2.2.2.2.2.2.keep fun g' cs hg' hw => hw.only hon9 (fun e => (HS8.out.2.2.2.2.2.2.apart HS8.out.2.2.2.1 (by decide)) (by rw [hg', e])), ho9⟩)
   clear hon9 hx9 ho9
   go_upto_region 12 with fail
   go_cut [] (fun wc => ∃ (A7 : Option Addr) (l7 c7 : Nat), Only (fun j => j = g3) w9 wc ∧ Whole wc g3 32 #[.string p.line, .string p.conn, .slice A7 l7 c7] ∧ Own wc w9.heap.size 55 2 (.slice A7 l7 c7) (((p.attrs.take i ++ ([ai] : List AttrS)) ++ p.attrs.drop i).map acell))
   case first =>
    have HGN12 : Hid (¬ g9 = g3) := Lib.hid (by have := HG.out; omega)
    have HSE12 : Hid (w9.heap.size = w9.heap.size) := Lib.hid rfl
    have HSZ12 : Hid (∀ W, Only (fun j => j = g3) w9 W → w9.heap.size ≤ W.heap.size) := Lib.hid fun W h => h.size
    have HOK12 : Hid (∀ W, Only (fun j => j = g3) w9 W → Own W w.heap.size 55 2 (.slice (some ⟨go, 0, none⟩) n co) (p.attrs.map acell)) := Lib.hid fun W h => HS9.out.2.1.keep fun g' cs hg hw => hw.only h (fun e => (HS9.out.2.1.apart HS9.out.2.2.2.2.1 (by decide)) (by rw [hg, e]))
    have HROW12 : Hid (∀ W, Only (fun j => j = g3) w9 W → ∀ j x, p.attrs[j]? = some x → W.cell? ((⟨go, 0, none⟩ : Addr).add (j * 2)) = some (.string x.name) ∧ W.cell? ((⟨go, 0, none⟩ : Addr).add (j * 2 + 1)) = some (.string x.value)) := Lib.hid fun W h j x hx => by
     rw [Addr.add_lit, Addr.add_lit, Nat.zero_add, Nat.zero_add]
     exact row2 (HOK12.out W h) hx
    have HF9 : Hid (∀ W, Only (fun j => j = g3) w9 W → W.cell? ⟨g9, 2, none⟩ = some (.slice (some ⟨go, 0, none⟩) n co)) := Lib.hid fun W h => (HS9.out.2.2.2.2.2.1.only h (fun e => HGN12.out e)).cell 2
    have HR12 : Hid (Only (fun j => j = g3) w9 w9.drew) := Lib.hid (Only.refl _ _).drew
    have HP0 : Hid (Whole w9.drew g3 32 #[.string p.line, .string p.conn, .slice (some ⟨go, 0, none⟩) n co]) := Lib.hid HS9.out.2.2.2.2.1.drew
    have HI0 : Hid (∀ W, Only (fun j => j = g3) w9 W → W.cell? ⟨go, i * 2, none⟩ = some (.string ai.name)) := Lib.hid fun W h => (row2 (HOK12.out W h) HAI.out).1
    have HI1 : Hid (∀ W, Only (fun j => j = g3) w9 W → W.cell? ⟨go, i * 2 + 1, none⟩ = some (.string ai.value)) := Lib.hid fun W h => (row2 (HOK12.out W h) HAI.out).2
    have hinle : i ≤ n := by omega
    have hck1 : (i : Int) ≠ (co : Int) := by omega
    have hck2 : ¬ co = i := by omega
    have hck3 : ¬ i = co := by omega
    clear e1 hi3 hi4 hi5
    refine wp_region_held_drew (S := fun W => Only (fun j => j = g3) w9 W) (by kernel_rfl) HR12.out (fun hHeld => ?_)
    generalize w9.drew = w012 at hHeld HP0 ⊢
    refine wpAnyH_take (i := 1) (v := _) rfl (by as_aux_lemma => kernel_rfl) (by as_aux_lemma => kernel_rfl) (by as_aux_lemma => kernel_rfl) (fun _ _ _ h => h) (Or.inl ⟨by rfl, fun w h => by have e0 := HF9.out w h; have e1 := HI0.out w h; have e2 := HI1.out w h; clear h; go_simp; (try with_reducible rfl)⟩) (by assumption) ?_
    simp only [Act.put, La, Lb, Lc, Ld, Le, Lf]
    refine wpAnyH_take (i := 2) (v := _) rfl (by as_aux_lemma => kernel_rfl) (by as_aux_lemma => kernel_rfl) (by as_aux_lemma => kernel_rfl) (fun _ _ _ h => h) (Or.inl ⟨by rfl, fun w h => by have e0 := HF9.out w h; have e1 := HI0.out w h; have e2 := HI1.out w h; clear h; go_simp; (try with_reducible rfl)⟩) (by assumption) ?_
    simp only [Act.put, La, Lb, Lc, Ld, Le, Lf]
    refine wpAnyH_take (i := 3) (v := _) rfl (by as_aux_lemma => kernel_rfl) (by as_aux_lemma => kernel_rfl) (by as_aux_lemma => kernel_rfl) (fun _ _ _ h => h) (Or.inl ⟨by rfl, fun w h => by have e0 := HF9.out w h; have e1 := HI0.out w h; have e2 := HI1.out w h; clear h; go_simp; (try with_reducible rfl)⟩) (by assumption) ?_
    simp only [Act.put, La, Lb, Lc, Ld, Le, Lf]
    refine wpAnyH_take (i := 4) (v := _) rfl (by as_aux_lemma => kernel_rfl) (by as_aux_lemma => kernel_rfl) (by as_aux_lemma => kernel_rfl) (fun _ _ _ h => h) (Or.inl ⟨by rfl, fun w h => by have e0 := HF9.out w h; have e1 := HI0.out w h; have e2 := HI1.out w h; clear h; go_simp; (try with_reducible rfl)⟩) (by assumption) ?_
    simp only [Act.put, La, Lb, Lc, Ld, Le, Lf]
    refine wpAnyH_take (i := 6) (v := _) rfl (by as_aux_lemma => kernel_rfl) (by as_aux_lemma => kernel_rfl) (by as_aux_lemma => kernel_rfl) (fun _ _ _ h => h) (Or.inl ⟨by rfl, fun w h => by have e0 := HF9.out w h; have e1 := HI0.out w h; have e2 := HI1.out w h; clear h; go_simp; (try with_reducible rfl)⟩) (by assumption) ?_
    simp only [Act.put, La, Lb, Lc, Ld, Le, Lf]
    refine wpAnyH_take (i := 7) (v := _) rfl (by as_aux_lemma => kernel_rfl) (by as_aux_lemma => kernel_rfl) (by as_aux_lemma => kernel_rfl) (fun _ _ _ h => h) (Or.inl ⟨by rfl, fun w h => by have e0 := HF9.out w h; have e1 := HI0.out w h; have e2 := HI1.out w h; clear h; go_simp; (try with_reducible rfl)⟩) (by assumption) ?_
    simp only [Act.put, La, Lb, Lc, Ld, Le, Lf]
    refine wpAnyH_take (i := 8) (v := _) rfl (by as_aux_lemma => kernel_rfl) (by as_aux_lemma => kernel_rfl) (by as_aux_lemma => kernel_rfl) (fun _ _ _ h => h) (Or.inl ⟨by rfl, fun w h => by have e0 := HF9.out w h; have e1 := HI0.out w h; have e2 := HI1.out w h; clear h; go_simp; (try with_reducible rfl)⟩) (by assumption) ?_
    simp only [Act.put, La, Lb, Lc, Ld, Le, Lf]
    refine wpAnyH_take (i := 9) (v := _) rfl (by as_aux_lemma => kernel_rfl) (by as_aux_lemma => kernel_rfl) (by as_aux_lemma => kernel_rfl) (fun _ _ _ h => h) (Or.inl ⟨by rfl, fun w h => by have e0 := HF9.out w h; have e1 := HI0.out w h; have e2 := HI1.out w h; clear h; go_simp; (try with_reducible rfl)⟩) (by assumption) ?_
    simp only [Act.put, La, Lb, Lc, Ld, Le, Lf]
    refine wpAnyH_take (i := 10) (v := _) rfl (by as_aux_lemma => kernel_rfl) (by as_aux_lemma => kernel_rfl) (by as_aux_lemma => kernel_rfl) (fun _ _ _ h => h) (Or.inl ⟨by rfl, fun w h => by have e0 := HF9.out w h; have e1 := HI0.out w h; have e2 := HI1.out w h; clear h; go_simp; (try with_reducible rfl)⟩) (by assumption) ?_
    simp only [Act.put, La, Lb, Lc, Ld, Le, Lf]
    refine wpAnyH_take (i := 13) (v := _) rfl (by as_aux_lemma => kernel_rfl) (by as_aux_lemma => kernel_rfl) (by as_aux_lemma => kernel_rfl) (fun _ _ _ h => h) (Or.inl ⟨by rfl, fun w h => by have e0 := HF9.out w h; have e1 := HI0.out w h; have e2 := HI1.out w h; clear h; go_simp; (try with_reducible rfl)⟩) (by assumption) ?_
    simp only [Act.put, La, Lb, Lc, Ld, Le, Lf]
    refine wpAnyH_take (i := 14) (v := _) rfl (by as_aux_lemma => kernel_rfl) (by as_aux_lemma => kernel_rfl) (by as_aux_lemma => kernel_rfl) (fun _ _ _ h => h) (Or.inl ⟨by rfl, fun w h => by have e0 := HF9.out w h; have e1 := HI0.out w h; have e2 := HI1.out w h; clear h; go_simp; (try with_reducible rfl)⟩) (by assumption) ?_
    simp only [Act.put, La, Lb, Lc, Ld, Le, Lf]
    refine wpAnyH_take (i := 15) (v := _) rfl (by as_aux_lemma => kernel_rfl) (by as_aux_lemma => kernel_rfl) (by as_aux_lemma => kernel_rfl) (fun _ _ _ h => h) (Or.inl ⟨by rfl, fun w h => by have e0 := HF9.out w h; have e1 := HI0.out w h; have e2 := HI1.out w h; clear h; go_simp; (try with_reducible rfl)⟩) (by assumption) ?_
    simp only [Act.put, La, Lb, Lc, Ld, Le, Lf]
    refine wpAnyH_take (i := 16) (v := _) rfl (by as_aux_lemma => kernel_rfl) (by as_aux_lemma => kernel_rfl) (by as_aux_lemma => kernel_rfl) (fun _ _ _ h => h) (Or.inl ⟨by rfl, fun w h => by have e0 := HF9.out w h; have e1 := HI0.out w h; have e2 := HI1.out w h; clear h; go_simp; (try with_reducible rfl)⟩) (by assumption) ?_
    simp only [Act.put, La, Lb, Lc, Ld, Le, Lf]
    refine wpAnyH_ready (rs := [0, 11]) (by as_aux_lemma => kernel_rfl) (by simp) ?_
    refine (AllReadyH.cons (i := 0) rfl (fun K hK => ?_) (AllReadyH.cons (i := 11) rfl (fun K hK => ?_) AllReadyH.nil))
    · go_simp
      have hbn := hHeld.alloc (.cells #[] 55)
      have HE1 := Lib.hid (own_empty w012 (HSZ12.out _ hHeld))
      have HP1 := Lib.hid (HP0.out.alloc (.cells #[] 55))
      refine hK.out _ _ hbn (fun hHeld' => ?_)
      clear hbn HP0
      clear hK K hHeld
      have hHeld := hHeld'
      clear hHeld'
      try simp only [Act.put]
      generalize w012.alloc (.cells #[] 55) = x0 at hHeld HE1 HP1 ⊢
      generalize w012.heap.size = gE at hHeld HE1 HP1 ⊢
      refine wpAnyH_ready (rs := [5, 11]) (by as_aux_lemma => kernel_rfl) (by simp) ?_
      refine (AllReadyH.cons (i := 5) rfl (fun K hK => ?_) (AllReadyH.cons (i := 11) rfl (fun K hK => ?_) AllReadyH.nil))
      · refine step_of rfl (wp_appendLR (K := []) (L := p.attrs.take i) (ad := ⟨go, 0, none⟩) (base := w9.heap.size) (.tmp 76) (.tmp 80) rfl rfl HE1.out rfl HTL.out (fun j x hx => HROW12.out _ hHeld j x (take_at2 hx)) (by simp only [List.length_nil, HTL.out]; omega) (HSZ12.out _ hHeld) ?_)
        intro v5 x5 ho5 hg5 hn5
        rw [List.nil_append] at ho5
        have hbn := hHeld.grown hg5 (fun j hj => .inr (by rw [HSE12.out]; exact (Own.lt HE1.out hj).1))
        obtain ⟨A5', c5', hv5, -⟩ := Own.form ho5
        generalize ((p.attrs.take i).map acell).length = l5' at hv5
        subst hv5
        have HO52 := Lib.hid (ho5)
        have HP2 := Lib.hid (HP1.out.grown hg5 (fun e => (Own.apart HE1.out HP1.out (by decide)) e.symm))
        refine hK.out _ _ hbn (fun hHeld' => ?_)
        clear ho5 hg5 hn5 hbn HP1 HE1
        clear hK K hHeld
        have hHeld := hHeld'
        clear hHeld'
        try simp only [Act.put]
        refine wpAnyH_ready (rs := [11]) (by as_aux_lemma => kernel_rfl) (by simp) ?_
        refine (AllReadyH.cons (i := 11) rfl (fun K hK => ?_) AllReadyH.nil)
        go_simp
        have hbn := hHeld.alloc (.cells #[.string ai.name, .string ai.value] 55)
        have HB3 := Lib.hid (Whole.new x5 55 #[.string ai.name, .string ai.value])
        have HP3 := Lib.hid (HP2.out.alloc (.cells #[.string ai.name, .string ai.value] 55))
        have HO53 := Lib.hid (Own.alloc HO52.out (.cells #[.string ai.name, .string ai.value] 55))
        refine hK.out _ _ hbn (fun hHeld' => ?_)
        clear hbn HP2 HO52
        clear hK K hHeld
        have hHeld := hHeld'
        clear hHeld'
        try simp only [Act.put]
        generalize x5.alloc (.cells #[.string ai.name, .string ai.value] 55) = x11 at hHeld HB3 HP3 HO53 ⊢
        generalize x5.heap.size = gB at hHeld HB3 HP3 HO53 ⊢
        refine wpAnyH_ready (rs := [12]) (by as_aux_lemma => kernel_rfl) (by simp) ?_
        refine (AllReadyH.cons (i := 12) rfl (fun K hK => ?_) AllReadyH.nil)
        refine step_of rfl (wp_appendE (base := w9.heap.size) (rs := (p.attrs.take i).map acell) (r := [.string ai.name, .string ai.value]) (.tmp 81) (.tmp 87) rfl Tryz.underlying30 Tryz.infoRSAttr rfl (Nat.zero_lt_succ _) rfl HO53.out rfl HB3.out rfl (fun u hu => by simp at hu; rcases hu with rfl | rfl <;> rfl) (by rw [List.length_map, HTL.out]; omega) (by rw [List.length_map, HTL.out]; omega) (HSZ12.out _ hHeld) ?_)
        intro v6 x12 ho6 hg6 hn6
        have ho6 : Own x12 w9.heap.size 55 2 v6 ((p.attrs.take i ++ ([ai] : List AttrS)).map acell) := by rw [List.map_append]; exact ho6
        have hbn := hHeld.grown hg6 (fun j hj => .inr (by rw [HSE12.out]; exact (Own.lt HO53.out hj).1))
        obtain ⟨A6', c6', hv6, -⟩ := Own.form ho6
        generalize ((p.attrs.take i ++ ([ai] : List AttrS)).map acell).length = l6' at hv6
        subst hv6
        have HO64 := Lib.hid (ho6)
        have HP4 := Lib.hid (HP3.out.grown hg6 (fun e => (Own.apart HO53.out HP3.out (by decide)) e.symm))
        refine hK.out _ _ hbn (fun hHeld' => ?_)
        clear ho6 hg6 hn6 hbn HP3 HO53 HB3
        clear hK K hHeld
        have hHeld := hHeld'
        clear hHeld'
        try simp only [Act.put]
        refine wpAnyH_ready (rs := [17]) (by as_aux_lemma => kernel_rfl) (by simp) ?_
        refine (AllReadyH.cons (i := 17) rfl (fun K hK => ?_) AllReadyH.nil)
        refine step_of rfl (wp_appendLR (K := p.attrs.take i ++ ([ai] : List AttrS)) (L := p.attrs.drop i) (ad := ⟨go, i * 2, none⟩) (base := w9.heap.size) (.tmp 88) (.tmp 92) rfl rfl HO64.out rfl (by rw [List.length_drop, HP.out.2.2]) (fun j x hx => by rw [List.getElem?_drop] at hx; have := HROW12.out _ hHeld (i + j) x hx; rw [Addr.add_lit, Addr.add_lit, Nat.zero_add, Nat.zero_add] at this; rw [Addr.add_lit, Addr.add_lit, show i * 2 + j * 2 = (i + j) * 2 by omega, show i * 2 + (j * 2 + 1) = (i + j) * 2 + 1 by omega]; exact this) (by simp only [List.length_append, List.length_drop, List.length_nil, List.length_singleton, HTL.out]; have := HP.out.2.2; omega) (HSZ12.out _ hHeld) ?_)
        intro v7 x17 ho7 hg7 hn7
        have hbn := hHeld.grown hg7 (fun j hj => .inr (by rw [HSE12.out]; exact (Own.lt HO64.out hj).1))
        obtain ⟨A7', c7', hv7, -⟩ := Own.form ho7
        generalize (((p.attrs.take i ++ ([ai] : List AttrS)) ++ p.attrs.drop i).map acell).length = l7' at hv7
        subst hv7
        have HO75 := Lib.hid (ho7)
        have HP5 := Lib.hid (HP4.out.grown hg7 (fun e => (Own.apart HO64.out HP4.out (by decide)) e.symm))
        refine hK.out _ _ hbn (fun hHeld' => ?_)
        clear ho7 hg7 hn7 hbn HP4 HO64
        clear hK K hHeld
        have hHeld := hHeld'
        clear hHeld'
        try simp only [Act.put]
        refine wpAnyH_take (i := 18) (v := _) rfl (by as_aux_lemma => kernel_rfl) (by as_aux_lemma => kernel_rfl) (by as_aux_lemma => kernel_rfl) (fun _ _ _ h => h) (Or.inl ⟨by rfl, fun w h => by have e0 := HF9.out w h; have e1 := HI0.out w h; have e2 := HI1.out w h; clear h; go_simp; (try with_reducible rfl)⟩) (by assumption) ?_
        simp only [Act.put, La, Lb, Lc, Ld, Le, Lf]
        refine wpAnyH_ready (rs := [19]) (by as_aux_lemma => kernel_rfl) (by simp) ?_
        refine (AllReadyH.cons (i := 19) rfl (fun K hK => ?_) AllReadyH.nil)
        have x9 := HP5.out.cell 2
        have y9 := HP5.out.frz 2
        simp only [List.getElem?_toArray, List.getElem?_cons_succ, List.getElem?_cons_zero] at x9
        go_simp
        clear x9 y9
        have hbn := hHeld.setCell (p := ⟨g3, 2, none⟩) (.inl rfl) (.slice A7' l7' c7')
        have HFIN := Lib.hid (And.intro (HP5.out.set 2 (.slice A7' l7' c7')) (HO75.out.far (p := ⟨g3, 2, none⟩) (HO75.out.apart HP5.out (by decide)) (.slice A7' l7' c7')))
        refine hK.out _ _ hbn (fun hHeld' => ?_)
        clear hbn
        clear hK K hHeld
        have hHeld := hHeld'
        clear hHeld'
        try simp only [Act.put]
        refine wpAnyH_done (by as_aux_lemma => kernel_rfl) ?_ _
        have HL := Lib.hid hHeld
        clear hHeld
        go_wp2
        go_meet
        exact ⟨_, _, _, HL.out, HFIN.out.1, HFIN.out.2⟩
      · go_simp
        have hbn := hHeld.alloc (.cells #[.string ai.name, .string ai.value] 55)
        have HB2 := Lib.hid (Whole.new x0 55 #[.string ai.name, .string ai.value])
        have HP2 := Lib.hid (HP1.out.alloc (.cells #[.string ai.name, .string ai.value] 55))
        have HE2 := Lib.hid (Own.alloc HE1.out (.cells #[.string ai.name, .string ai.value] 55))
        have HNEB := Lib.hid (show x0.heap.size ≠ gE from fun e => Nat.ne_of_lt (Own.lt HE1.out rfl).2 e.symm)
        refine hK.out _ _ hbn (fun hHeld' => ?_)
        clear hbn HP1 HE1
        clear hK K hHeld
        have hHeld := hHeld'
        clear hHeld'
        try simp only [Act.put]
        generalize x0.alloc (.cells #[.string ai.name, .string ai.value] 55) = x11 at hHeld HB2 HP2 HE2 ⊢
        generalize x0.heap.size = gB at hHeld HNEB HB2 HP2 HE2 ⊢
        refine wpAnyH_ready (rs := [5]) (by as_aux_lemma => kernel_rfl) (by simp) ?_
        refine (AllReadyH.cons (i := 5) rfl (fun K hK => ?_) AllReadyH.nil)
        refine step_of rfl (wp_appendLR (K := []) (L := p.attrs.take i) (ad := ⟨go, 0, none⟩) (base := w9.heap.size) (.tmp 76) (.tmp 80) rfl rfl HE2.out rfl HTL.out (fun j x hx => HROW12.out _ hHeld j x (take_at2 hx)) (by simp only [List.length_nil, HTL.out]; omega) (HSZ12.out _ hHeld) ?_)
        intro v5 x5 ho5 hg5 hn5
        rw [List.nil_append] at ho5
        have hbn := hHeld.grown hg5 (fun j hj => .inr (by rw [HSE12.out]; exact (Own.lt HE2.out hj).1))
        obtain ⟨A5', c5', hv5, -⟩ := Own.form ho5
        generalize ((p.attrs.take i).map acell).length = l5' at hv5
        subst hv5
        have HO53 := Lib.hid (ho5)
        have HP3 := Lib.hid (HP2.out.grown hg5 (fun e => (Own.apart HE2.out HP2.out (by decide)) e.symm))
        have HB3 := Lib.hid (HB2.out.grown hg5 (fun e => HNEB.out (by injection e)))
        refine hK.out _ _ hbn (fun hHeld' => ?_)
        clear ho5 hg5 hn5 hbn HP2 HE2 HB2
        clear hK K hHeld
        have hHeld := hHeld'
        clear hHeld'
        try simp only [Act.put]
        clear HNEB
        refine wpAnyH_ready (rs := [12]) (by as_aux_lemma => kernel_rfl) (by simp) ?_
        refine (AllReadyH.cons (i := 12) rfl (fun K hK => ?_) AllReadyH.nil)
        refine step_of rfl (wp_appendE (base := w9.heap.size) (rs := (p.attrs.take i).map acell) (r := [.string ai.name, .string ai.value]) (.tmp 81) (.tmp 87) rfl Tryz.underlying30 Tryz.infoRSAttr rfl (Nat.zero_lt_succ _) rfl HO53.out rfl HB3.out rfl (fun u hu => by simp at hu; rcases hu with rfl | rfl <;> rfl) (by rw [List.length_map, HTL.out]; omega) (by rw [List.length_map, HTL.out]; omega) (HSZ12.out _ hHeld) ?_)
        intro v6 x12 ho6 hg6 hn6
        have ho6 : Own x12 w9.heap.size 55 2 v6 ((p.attrs.take i ++ ([ai] : List AttrS)).map acell) := by rw [List.map_append]; exact ho6
        have hbn := hHeld.grown hg6 (fun j hj => .inr (by rw [HSE12.out]; exact (Own.lt HO53.out hj).1))
        obtain ⟨A6', c6', hv6, -⟩ := Own.form ho6
        generalize ((p.attrs.take i ++ ([ai] : List AttrS)).map acell).length = l6' at hv6
        subst hv6
        have HO64 := Lib.hid (ho6)
        have HP4 := Lib.hid (HP3.out.grown hg6 (fun e => (Own.apart HO53.out HP3.out (by decide)) e.symm))
        refine hK.out _ _ hbn (fun hHeld' => ?_)
        clear ho6 hg6 hn6 hbn HP3 HO53 HB3
        clear hK K hHeld
        have hHeld := hHeld'
        clear hHeld'
        try simp only [Act.put]
        refine wpAnyH_ready (rs := [17]) (by as_aux_lemma => kernel_rfl) (by simp) ?_
        refine (AllReadyH.cons (i := 17) rfl (fun K hK => ?_) AllReadyH.nil)
        refine step_of rfl (wp_appendLR (K := p.attrs.take i ++ ([ai] : List AttrS)) (L := p.attrs.drop i) (ad := ⟨go, i * 2, none⟩) (base := w9.heap.size) (.tmp 88) (.tmp 92) rfl rfl HO64.out rfl (by rw [List.length_drop, HP.out.2.2]) (fun j x hx => by rw [List.getElem?_drop] at hx; have := HROW12.out _ hHeld (i + j) x hx; rw [Addr.add_lit, Addr.add_lit, Nat.zero_add, Nat.zero_add] at this; rw [Addr.add_lit, Addr.add_lit, show i * 2 + j * 2 = (i + j) * 2 by omega, show i * 2 + (j * 2 + 1) = (i + j) * 2 + 1 by omega]; exact this) (by simp only [List.length_append, List.length_drop, List.length_nil, List.length_singleton, HTL.out]; have := HP.out.2.2; omega) (HSZ12.out _ hHeld) ?_)
        intro v7 x17 ho7 hg7 hn7
        have hbn := hHeld.grown hg7 (fun j hj => .inr (by rw [HSE12.out]; exact (Own.lt HO64.out hj).1))
        obtain ⟨A7', c7', hv7, -⟩ := Own.form ho7
        generalize (((p.attrs.take i ++ ([ai] : List AttrS)) ++ p.attrs.drop i).map acell).length = l7' at hv7
        subst hv7
        have HO75 := Lib.hid (ho7)
        have HP5 := Lib.hid (HP4.out.grown hg7 (fun e => (Own.apart HO64.out HP4.out (by decide)) e.symm))
        refine hK.out _ _ hbn (fun hHeld' => ?_)
        clear ho7 hg7 hn7 hbn HP4 HO64
        clear hK K hHeld
        have hHeld := hHeld'
        clear hHeld'
        try simp only [Act.put]
        refine wpAnyH_take (i := 18) (v := _) rfl (by as_aux_lemma => kernel_rfl) (by as_aux_lemma => kernel_rfl) (by as_aux_lemma => kernel_rfl) (fun _ _ _ h => h) (Or.inl ⟨by rfl, fun w h => by have e0 := HF9.out w h; have e1 := HI0.out w h; have e2 := HI1.out w h; clear h; go_simp; (try with_reducible rfl)⟩) (by assumption) ?_
        simp only [Act.put, La, Lb, Lc, Ld, Le, Lf]
        refine wpAnyH_ready (rs := [19]) (by as_aux_lemma => kernel_rfl) (by simp) ?_
        refine (AllReadyH.cons (i := 19) rfl (fun K hK => ?_) AllReadyH.nil)
        have x9 := HP5.out.cell 2
        have y9 := HP5.out.frz 2
        simp only [List.getElem?_toArray, List.getElem?_cons_succ, List.getElem?_cons_zero] at x9
        go_simp
        clear x9 y9
        have hbn := hHeld.setCell (p := ⟨g3, 2, none⟩) (.inl rfl) (.slice A7' l7' c7')
        have HFIN := Lib.hid (And.intro (HP5.out.set 2 (.slice A7' l7' c7')) (HO75.out.far (p := ⟨g3, 2, none⟩) (HO75.out.apart HP5.out (by decide)) (.slice A7' l7' c7')))
        refine hK.out _ _ hbn (fun hHeld' => ?_)
        clear hbn
        clear hK K hHeld
        have hHeld := hHeld'
        clear hHeld'
        try simp only [Act.put]
        refine wpAnyH_done (by as_aux_lemma => kernel_rfl) ?_ _
        have HL := Lib.hid hHeld
        clear hHeld
        go_wp2
        go_meet
        exact ⟨_, _, _, HL.out, HFIN.out.1, HFIN.out.2⟩
    · go_simp
      have hbn := hHeld.alloc (.cells #[.string ai.name, .string ai.value] 55)
      have HB1 := Lib.hid (Whole.new w012 55 #[.string ai.name, .string ai.value])
      have HP1 := Lib.hid (HP0.out.alloc (.cells #[.string ai.name, .string ai.value] 55))
      refine hK.out _ _ hbn (fun hHeld' => ?_)
      clear hbn HP0
      clear hK K hHeld
      have hHeld := hHeld'
      clear hHeld'
      try simp only [Act.put]
      generalize w012.alloc (.cells #[.string ai.name, .string ai.value] 55) = x11 at hHeld HB1 HP1 ⊢
      generalize w012.heap.size = gB at hHeld HB1 HP1 ⊢
      refine wpAnyH_ready (rs := [0]) (by as_aux_lemma => kernel_rfl) (by simp) ?_
      refine (AllReadyH.cons (i := 0) rfl (fun K hK => ?_) AllReadyH.nil)
      go_simp
      have hbn := hHeld.alloc (.cells #[] 55)
      have HE2 := Lib.hid (own_empty x11 (HSZ12.out _ hHeld))
      have HP2 := Lib.hid (HP1.out.alloc (.cells #[] 55))
      have HB2 := Lib.hid (HB1.out.alloc (.cells #[] 55))
      have HNEB := Lib.hid (show gB ≠ x11.heap.size from Nat.ne_of_lt HB1.out.lt)
      refine hK.out _ _ hbn (fun hHeld' => ?_)
      clear hbn HP1 HB1
      clear hK K hHeld
      have hHeld := hHeld'
      clear hHeld'
      try simp only [Act.put]
      generalize x11.alloc (.cells #[] 55) = x0 at hHeld HE2 HP2 HB2 ⊢
      generalize x11.heap.size = gE at hHeld HNEB HE2 HP2 HB2 ⊢
      refine wpAnyH_ready (rs := [5]) (by as_aux_lemma => kernel_rfl) (by simp) ?_
      refine (AllReadyH.cons (i := 5) rfl (fun K hK => ?_) AllReadyH.nil)
      refine step_of rfl (wp_appendLR (K := []) (L := p.attrs.take i) (ad := ⟨go, 0, none⟩) (base := w9.heap.size) (.tmp 76) (.tmp 80) rfl rfl HE2.out rfl HTL.out (fun j x hx => HROW12.out _ hHeld j x (take_at2 hx)) (by simp only [List.length_nil, HTL.out]; omega) (HSZ12.out _ hHeld) ?_)
      intro v5 x5 ho5 hg5 hn5
      rw [List.nil_append] at ho5
      have hbn := hHeld.grown hg5 (fun j hj => .inr (by rw [HSE12.out]; exact (Own.lt HE2.out hj).1))
      obtain ⟨A5', c5', hv5, -⟩ := Own.form ho5
      generalize ((p.attrs.take i).map acell).length = l5' at hv5
      subst hv5
      have HO53 := Lib.hid (ho5)
      have HP3 := Lib.hid (HP2.out.grown hg5 (fun e => (Own.apart HE2.out HP2.out (by decide)) e.symm))
      have HB3 := Lib.hid (HB2.out.grown hg5 (fun e => HNEB.out (by injection e)))
      refine hK.out _ _ hbn (fun hHeld' => ?_)
      clear ho5 hg5 hn5 hbn HP2 HE2 HB2
      clear hK K hHeld
      have hHeld := hHeld'
      clear hHeld'
      try simp only [Act.put]
      clear HNEB
      refine wpAnyH_ready (rs := [12]) (by as_aux_lemma => kernel_rfl) (by simp) ?_
      refine (AllReadyH.cons (i := 12) rfl (fun K hK => ?_) AllReadyH.nil)
      refine step_of rfl (wp_appendE (base := w9.heap.size) (rs := (p.attrs.take i).map acell) (r := [.string ai.name, .string ai.value]) (.tmp 81) (.tmp 87) rfl Tryz.underlying30 Tryz.infoRSAttr rfl (Nat.zero_lt_succ _) rfl HO53.out rfl HB3.out rfl (fun u hu => by simp at hu; rcases hu with rfl | rfl <;> rfl) (by rw [List.length_map, HTL.out]; omega) (by rw [List.length_map, HTL.out]; omega) (HSZ12.out _ hHeld) ?_)
      intro v6 x12 ho6 hg6 hn6
      have ho6 : Own x12 w9.heap.size 55 2 v6 ((p.attrs.take i ++ ([ai] : List AttrS)).map acell) := by rw [List.map_append]; exact ho6
      have hbn := hHeld.grown hg6 (fun j hj => .inr (by rw [HSE12.out]; exact (Own.lt HO53.out hj).1))
      obtain ⟨A6', c6', hv6, -⟩ := Own.form ho6
      generalize ((p.attrs.take i ++ ([ai] : List AttrS)).map acell).length = l6' at hv6
      subst hv6
      have HO64 := Lib.hid (ho6)
      have HP4 := Lib.hid (HP3.out.grown hg6 (fun e => (Own.apart HO53.out HP3.out (by decide)) e.symm))
      refine hK.out _ _ hbn (fun hHeld' => ?_)
      clear ho6 hg6 hn6 hbn HP3 HO53 HB3
      clear hK K hHeld
      have hHeld := hHeld'
      clear hHeld'
      try simp only [Act.put]
      refine wpAnyH_ready (rs := [17]) (by as_aux_lemma => kernel_rfl) (by simp) ?_
      refine (AllReadyH.cons (i := 17) rfl (fun K hK => ?_) AllReadyH.nil)
      refine step_of rfl (wp_appendLR (K := p.attrs.take i ++ ([ai] : List AttrS)) (L := p.attrs.drop i) (ad := ⟨go, i * 2, none⟩) (base := w9.heap.size) (.tmp 88) (.tmp 92) rfl rfl HO64.out rfl (by rw [List.length_drop, HP.out.2.2]) (fun j x hx => by rw [List.getElem?_drop] at hx; have := HROW12.out _ hHeld (i + j) x hx; rw [Addr.add_lit, Addr.add_lit, Nat.zero_add, Nat.zero_add] at this; rw [Addr.add_lit, Addr.add_lit, show i * 2 + j * 2 = (i + j) * 2 by omega, show i * 2 + (j * 2 + 1) = (i + j) * 2 + 1 by omega]; exact this) (by simp only [List.length_append, List.length_drop, List.length_nil, List.length_singleton, HTL.out]; have := HP.out.2.2; omega) (HSZ12.out _ hHeld) ?_)
      intro v7 x17 ho7 hg7 hn7
      have hbn := hHeld.grown hg7 (fun j hj => .inr (by rw [HSE12.out]; exact (Own.lt HO64.out hj).1))
      obtain ⟨A7', c7', hv7, -⟩ := Own.form ho7
      generalize (((p.attrs.take i ++ ([ai] : List AttrS)) ++ p.attrs.drop i).map acell).length = l7' at hv7
      subst hv7
      have HO75 := Lib.hid (ho7)
      have HP5 := Lib.hid (HP4.out.grown hg7 (fun e => (Own.apart HO64.out HP4.out (by decide)) e.symm))
      refine hK.out _ _ hbn (fun hHeld' => ?_)
      clear ho7 hg7 hn7 hbn HP4 HO64
      clear hK K hHeld
      have hHeld := hHeld'
      clear hHeld'
      try simp only [Act.put]
      refine wpAnyH_take (i := 18) (v := _) rfl (by as_aux_lemma => kernel_rfl) (by as_aux_lemma => kernel_rfl) (by as_aux_lemma => kernel_rfl) (fun _ _ _ h => h) (Or.inl ⟨by rfl, fun w h => by have e0 := HF9.out w h; have e1 := HI0.out w h; have e2 := HI1.out w h; clear h; go_simp; (try with_reducible rfl)⟩) (by assumption) ?_
      simp only [Act.put, La, Lb, Lc, Ld, Le, Lf]
      refine wpAnyH_ready (rs := [19]) (by as_aux_lemma => kernel_rfl) (by simp) ?_
      refine (AllReadyH.cons (i := 19) rfl (fun K hK => ?_) AllReadyH.nil)
      have x9 := HP5.out.cell 2
      have y9 := HP5.out.frz 2
      simp only [List.getElem?_toArray, List.getElem?_cons_succ, List.getElem?_cons_zero] at x9
      go_simp
      clear x9 y9
      have hbn := hHeld.setCell (p := ⟨g3, 2, none⟩) (.inl rfl) (.slice A7' l7' c7')
      have HFIN := Lib.hid (And.intro (HP5.out.set 2 (.slice A7' l7' c7')) (HO75.out.far (p := ⟨g3, 2, none⟩) (HO75.out.apart HP5.out (by decide)) (.slice A7' l7' c7')))
      refine hK.out _ _ hbn (fun hHeld' => ?_)
      clear hbn
      clear hK K hHeld
      have hHeld := hHeld'
      clear hHeld'
      try simp only [Act.put]
      refine wpAnyH_done (by as_aux_lemma => kernel_rfl) ?_ _
      have HL := Lib.hid hHeld
      clear hHeld
      go_wp2
      go_meet
      exact ⟨_, _, _, HL.out, HFIN.out.1, HFIN.out.2⟩
   case rest =>
   obtain ⟨A8, l8, c8, hon10, hx10, ho10⟩ := hcut
   generalize wc = w10 at *
   have HT10 : Hid (Below w.heap.size w w10 ∧ Whole w10 g1 32 #[.string p.line, .string p.conn, .slice (some ⟨gA, 0, none⟩) n k6] ∧ Whole w10 g2 32 #[.string p.line, .string p.conn, .slice A7 l7 c7] ∧ Whole w10 g3 32 #[.string p.line, .string p.conn, .slice A8 l8 c8]) := Lib.hid (by
    have hg := HG.out
    have hwg := HGL.out.2.2
    exact ⟨HS9.out.1.trans (hon10.below (fun j hj => by have h3 : j = g3 := hj; omega) HS9.out.1.size), HS9.out.2.2.1.only hon10 (fun e => by have h3 : g1 = g3 := e; omega), HS9.out.2.2.2.1.only hon10 (fun e => by have h3 : g2 = g3 := e; omega), hx10⟩)
   have HU10 : Hid (∀ W, Below w10.heap.size w10 W → Below w.heap.size w W) := Lib.hid fun W hW => HT10.out.1.trans (hW.mono HT10.out.1.size)
   have HC1 : Hid (∀ W, Below w10.heap.size w10 W → Calls Tryz.prog 26 #[.agg #[.string p.line, .string p.conn, .slice (some ⟨gA, 0, none⟩) n k6]] W fun e w' => e = .returned (.bool true) ∧ Below W.heap.size W w') := Lib.hid fun W hW => by
    have ho : Own w10 w5.heap.size 55 2 (.slice (some ⟨gA, 0, none⟩) n k6) (((p.attrs.set i ak).set k ai).map acell) := HS9.out.2.2.2.2.2.2.1.keep fun g' cs hg' hw => hw.only hon10 (fun e => (HS9.out.2.2.2.2.2.2.1.apart HS9.out.2.2.2.2.1 (by decide)) (by rw [hg', e]))
    refine HRD.out W ⟨p.line, p.conn, (p.attrs.set i ak).set k ai⟩ _ (HU10.out W hW) ((ho.under hW).reads (Nat.le_refl _)) (siz_of HP.out.1 (fun a ha => ?_) (by rw [List.length_set, List.length_set, HP.out.2.2]; omega)) (by show ((p.attrs.set i ak).set k ai).length * 32 ≤ _; rw [List.length_set, List.length_set, HP.out.2.2]; omega)
    rcases List.mem_or_eq_of_mem_set ha with ha | rfl
    · rcases List.mem_or_eq_of_mem_set ha with ha | rfl
      · exact ha
      · exact List.mem_of_getElem? HAK.out
    · exact List.mem_of_getElem? HAI.out
   have HC2 : Hid (∀ W, Below w10.heap.size w10 W → Calls Tryz.prog 26 #[.agg #[.string p.line, .string p.conn, .slice A7 l7 c7]] W fun e w' => e = .returned (.bool true) ∧ Below W.heap.size W w') := Lib.hid fun W hW => by
    have ho : Own w10 w8.heap.size 55 2 (.slice A7 l7 c7) ((p.attrs.take i ++ p.attrs.drop (i + 1)).map acell) := HS9.out.2.2.2.2.2.2.2.keep fun g' cs hg' hw => hw.only hon10 (fun e => (HS9.out.2.2.2.2.2.2.2.apart HS9.out.2.2.2.2.1 (by decide)) (by rw [hg', e]))
    refine HRD.out W ⟨p.line, p.conn, p.attrs.take i ++ p.attrs.drop (i + 1)⟩ _ (HU10.out W hW) ((ho.under hW).reads (Nat.le_refl _)) (siz_of HP.out.1 (fun a ha => ?_) (by rw [List.length_append, List.length_take, List.length_drop, HP.out.2.2]; omega)) (by show (p.attrs.take i ++ p.attrs.drop (i + 1)).length * 32 ≤ _; rw [List.length_append, List.length_take, List.length_drop, HP.out.2.2]; omega)
    rcases List.mem_append.1 ha with ha | ha
    · exact List.mem_of_mem_take ha
    · exact List.mem_of_mem_drop ha
   have HC3 : Hid (∀ W, Below w10.heap.size w10 W → Calls Tryz.prog 26 #[.agg #[.string p.line, .string p.conn, .slice A8 l8 c8]] W fun e w' => e = .returned (.bool true) ∧ Below W.heap.size W w') := Lib.hid fun W hW => by
    refine HRD.out W ⟨p.line, p.conn, (p.attrs.take i ++ ([ai] : List AttrS)) ++ p.attrs.drop i⟩ _ (HU10.out W hW) ((ho10.under hW).reads (Nat.le_refl _)) (siz_of HP.out.1 (fun a ha => ?_) (by rw [List.length_append, List.length_append, List.length_take, List.length_drop, List.length_singleton, HP.out.2.2]; omega)) (by show ((p.attrs.take i ++ ([ai] : List AttrS)) ++ p.attrs.drop i).length * 32 ≤ _; rw [List.length_append, List.length_append, List.length_take, List.length_drop, List.length_singleton, HP.out.2.2]; omega)
    rw [List.mem_append, List.mem_append, List.mem_singleton] at ha
    rcases ha with (ha | rfl) | ha
    · exact List.mem_of_mem_take ha
    · exact List.mem_of_getElem? HAI.out
    · exact List.mem_of_mem_drop ha
   have HB10 : Hid (Below w10.heap.size w10 w10) := Lib.hid (Below.refl _ _)
   have HB2 : Hid (∀ W, Below w10.heap.size w10 W → Whole W g2 32 #[.string p.line, .string p.conn, .slice A7 l7 c7]) := Lib.hid fun W hW => HT10.out.2.2.1.under hW
   have HB3 : Hid (∀ W, Below w10.heap.size w10 W → Whole W g3 32 #[.string p.line, .string p.conn, .slice A8 l8 c8]) := Lib.hid fun W hW => HT10.out.2.2.2.under hW
   have q0 : w10.cell? ⟨g1, 0, none⟩ = some (.string p.line) := HT10.out.2.1.cell 0
   have q1 : w10.cell? ⟨g1, 1, none⟩ = some (.string p.conn) := HT10.out.2.1.cell 1
   have q2 : w10.cell? ⟨g1, 2, none⟩ = some (.slice (some ⟨gA, 0, none⟩) n k6) := HT10.out.2.1.cell 2
   clear hon10 hx10 ho10 HS9 HS8 HRD HAI HAK hic hi1 hi2 hk1 hk2 hin2
   go_wp2_with (first
    | (go_at_call 26; (with_reducible refine (HC1.out _ HB10.out).mono ?_); rintro e w11 ⟨rfl, hb11⟩; have H11 : Hid (Below w10.heap.size w10 w11) := Lib.hid hb11; clear hb11; have r0 : w11.cell? ⟨g2, 0, none⟩ = some (.string p.line) := (HB2.out _ H11.out).cell 0; have r1 : w11.cell? ⟨g2, 1, none⟩ = some (.string p.conn) := (HB2.out _ H11.out).cell 1; have r2 : w11.cell? ⟨g2, 2, none⟩ = some (.slice A7 l7 c7) := (HB2.out _ H11.out).cell 2; dsimp only)
    | (go_at_call 26; (with_reducible refine (HC2.out _ H11.out).mono ?_); rintro e w12 ⟨rfl, hb12⟩; have H12 : Hid (Below w10.heap.size w10 w12) := Lib.hid (below_chain (Nat.le_refl _) H11.out hb12); clear hb12; have s0 : w12.cell? ⟨g3, 0, none⟩ = some (.string p.line) := (HB3.out _ H12.out).cell 0; have s1 : w12.cell? ⟨g3, 1, none⟩ = some (.string p.conn) := (HB3.out _ H12.out).cell 1; have s2 : w12.cell? ⟨g3, 2, none⟩ = some (.slice A8 l8 c8) := (HB3.out _ H12.out).cell 2; dsimp only)
    | (go_at_call 26; (with_reducible refine (HC3.out _ H12.out).mono ?_); rintro e w13 ⟨rfl, hb13⟩; have H13 : Hid (Below w10.heap.size w10 w13) := Lib.hid (below_chain (Nat.le_refl _) H12.out hb13); clear hb13; dsimp only))
   go_ret
   exact ⟨rfl, HU10.out _ H13.out⟩
 · have hp : partW m = ⟨bs [], bs [], []⟩ := by unfold partW; rw [if_neg hmm]
   have he : errW m = 1 := by unfold errW; rw [if_neg hmm]
   rw [hp] at H2
   rw [hp, he]
   simp only [List.length_nil] at H2 ⊢
   have H3 : Hid (Below w.heap.size w (w2.alloc (.cells #[.string (bs []), .string (bs []), .slice Ao 0 co] 32))) := Lib.hid
    (H1.out.1.trans ((below_chain (Nat.le_refl _) H2.out.2 ((Below.refl _ w2).alloc (Nat.le_refl _) _)).mono H1.out.1.size))
   clear hp he hmm H2
   generalize w2.alloc (.cells #[.string (bs []), .string (bs []), .slice Ao 0 co] 32) = w3 at *
   generalize w2.heap.size = g9 at *
   go_wp2
   go_ret
   exact ⟨rfl, H3.out⟩
end Go.Proofs.YtbbedhecfipdjaaGreatDoor
