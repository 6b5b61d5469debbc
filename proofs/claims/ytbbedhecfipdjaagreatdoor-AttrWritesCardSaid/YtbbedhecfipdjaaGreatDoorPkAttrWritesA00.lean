import Derived.Test.YtbbedhecfipdjaaGreatDoorPkAttrOrderA00
import Derived.Test.YtbbedhecfipdjaaGreatDoorPkAttrOrderA01
import Derived.Test.YtbbedhecfipdjaaGreatDoorPkAttrOrderA02
import Derived.Test.YtbbedhecfipdjaaGreatDoorPkAttrOrderA03
import Derived.Test.YtbbedhecfipdjaaGreatDoorPkAttrOrderA04
import Derived.Test.YtbbedhecfipdjaaGreatDoorPkAttrOrderA06
import Derived.Test.YtbbedhecfipdjaaGreatDoorPkAttrOrderA07
import Derived.Test.YtbbedhecfipdjaaGreatDoorPkAttrOrderA08
import Derived.Test.YtbbedhecfipdjaaGreatDoorPkAttrOrderA09
import Derived.Test.YtbbedhecfipdjaaGreatDoorPkAttrOrderA11
import Derived.Test.YtbbedhecfipdjaaGreatDoorPkAttrOrderA20
import Derived.Test.YtbbedhecfipdjaaGreatDoorPkAttrOrderA21
import Derived.Test.YtbbedhecfipdjaaGreatDoorPkAttrOrderA22
import Derived.Test.YtbbedhecfipdjaaGreatDoorPkAttrOrderA23
import Derived.Test.YtbbedhecfipdjaaGreatDoorPkAttrOrderA29
import Derived.OrdersHeld
import Derived.WalkKit
import Derived.Lib.Hide
import Derived.Test.YtbbedhecfipdjaaGreatDoorProg
import Derived.Deep.RegionHeld3
import Derived.Deep.MidRow
import Derived.ProofKit
import Derived.WalkSpells
import Derived.Below
import Derived.Deep.Draws
import Derived.Laws.Rows
import Derived.ArgAppend
import Derived.Laws.IdiomCopy
import Derived.Maps.AppendAt
import Derived.Deep.RegionLaw
import Derived.OwnWalk
import Derived.Outline
import Derived.Handy
import Derived.LoopTactic
import Derived.RegionTactic
import Derived.ChangeAlike
import Derived.BigRegion
import Derived.Deep.QuietTactic
import Derived.BigQuiet
import Derived.Deep.DeepMust
import Derived.Deep.CutRange
import Derived.Deep.DeepCutAuto
import Derived.Deep.LoopGhost
import Derived.StillTailTactics
import Derived.Laws.AppendOwnNone
import Derived.Lib.AppendZeros
import Derived.Laws.CopyOwn
import Derived.Laws.BytesArg
import Derived.Shelf.Abstract
import Derived.Laws.StructEq
import Derived.Lib.IndexMore
import Derived.Lib.Join
import Derived.Shelf.Strings.Builder1
import Derived.Shelf.Strings.Builder2
import Derived.Shelf.Strings.OnBuilder
import Derived.Shelf.Small.Strs
import Derived.Shelf.Strings.BuilderF
import Derived.Shelf.Strconv.Atoi
import Derived.Shelf.Strconv.Itoa0
import Derived.Shelf.Strconv.Itoa1
import Derived.Shelf.LaysM
import Derived.Shelf.Strconv.Itoa2
import Derived.Shelf.Strconv.Itoa3
import Derived.Shelf.Strconv.AtoiErrFast
import Derived.Shelf.Strconv.ParseIntEmpty
import Derived.Shelf.Strconv.AtoiFail
import Derived.Shelf.Strconv.Clone
import Derived.Shelf.Strconv.SyntaxError
import Derived.Shelf.LaysC
import Derived.Shelf.Strconv.ToError
import Derived.Shelf.Strconv.Lower
import Derived.Shelf.Strconv.ParseUint10
import Derived.Shelf.Strconv.ParseUint10Empty
import Derived.Shelf.Strconv.ParseUint10Any
import Derived.Shelf.Strconv.ParseInt10
import Derived.Shelf.Strconv.AtoiLong
import Derived.Shelf.Strconv.AtoiInnerAll
import Derived.Shelf.Strconv.RangeError
import Derived.Shelf.Strconv.ToErrorRange
import Derived.Shelf.Strconv.AtoiAll
import Derived.Ground.MpProg
import Derived.Shelf.Pu.ParseUintPublic10
import Derived.Shelf.Strings.Search1
import Derived.Shelf.Strings.Search2
import Derived.Shelf.Strings.Search3
import Derived.Shelf.Strings.Cut
import Derived.Shelf.Strings.Count
import Derived.Shelf.Strings.Shaped
import Derived.Shelf.Strings.Prefix
import Derived.Shelf.Strings.Split
import Derived.Shelf.Unicode.DecodeSlow
import Derived.Shelf.Slices.Equal
import Derived.Lib.SmallJoins
import Derived.Lib.AppendIntMem
import Derived.Deep.Slices
import Derived.Deep.CutBlock
namespace Go.Proofs.YtbbedhecfipdjaaGreatDoor
open Go.RowKit
set_option linter.unusedVariables false
set_option linter.unusedSimpArgs false
set_option maxHeartbeats 6400000 in
set_option maxRecDepth 100000 in
theorem ours7_any (p : PartS) (vp : Value) (w : World) (h : AttrsV w w.heap.size vp p.attrs) (hl : p.attrs.length * 32 ≤ 140737488351232) :
 Calls Tryz.prog 18 #[.agg #[.string p.line, .string p.conn, vp]] w fun e w' => ∃ v, e = .returned (.agg #[.string p.line, .string p.conn, v]) ∧ Own w' w.heap.size 55 2 v (p.attrs.map acell) ∧ Below w.heap.size w w' := by
 obtain ⟨A, c, rfl, hc, hm, -⟩ := h.form
 obtain ⟨n, hn⟩ : ∃ n, p.attrs.length = n := ⟨_, rfl⟩
 rw [hn] at hc hl ⊢
 have HV := Lib.hid h
 have HNN := Lib.hid hn
 unfold maxLen at hm
 obtain ⟨ln, hln⟩ : ∃ x, p.line = x := ⟨_, rfl⟩
 obtain ⟨cn, hcn⟩ : ∃ x, p.conn = x := ⟨_, rfl⟩
 rw [hln, hcn]
 have hb0 : Below w.heap.size w ((w.alloc (.cells #[.string ln, .string cn, .slice A n c] 38)).alloc (.cells #[.string ⟨#[]⟩, .string ⟨#[]⟩, .slice none 0 0] 32)) := two_new _ _ _ _
 have hw := (Whole.new w 38 #[.string ln, .string cn, .slice A n c]).alloc (.cells #[.string ⟨#[]⟩, .string ⟨#[]⟩, .slice none 0 0] 32)
 have hr := Whole.new2 w (.cells #[.string ln, .string cn, .slice A n c] 38) 32 #[.string ⟨#[]⟩, .string ⟨#[]⟩, .slice none 0 0]
 clear hn h hln hcn
 obtain ⟨N, hN⟩ : ∃ N, w.heap.size = N := ⟨_, rfl⟩
 have HN : Hid (w.heap.size = N) := Lib.hid hN
 rw [hN] at hb0 hw hr
 have H0 := Lib.hid (And.intro hb0 (And.intro hw hr))
 clear hN hb0 hw hr
 go_enter Tryz.func18, Tryz.ntmps18
 go_upto_region 1 with fail
 simp only [HN.out]
 generalize (w.alloc (.cells #[.string ln, .string cn, .slice A n c] 38)).alloc (.cells #[.string ⟨#[]⟩, .string ⟨#[]⟩, .slice none 0 0] 32) = W0 at *
 have k0 : W0.cell? ⟨N, 0, none⟩ = some (.string ln) := H0.out.2.1.cell 0
 have k1 : W0.cell? ⟨N, 1, none⟩ = some (.string cn) := H0.out.2.1.cell 1
 have HNEW : Hid (Whole (W0.alloc (.cells #[.string ⟨#[]⟩, .string ⟨#[]⟩, .slice none 0 0] 32)) W0.heap.size 32 #[.string ⟨#[]⟩, .string ⟨#[]⟩, .slice none 0 0]) := Lib.hid (Whole.new _ _ _)
 have HBB : Hid (Below W0.heap.size W0 ((W0.alloc (.cells #[.string ⟨#[]⟩, .string ⟨#[]⟩, .slice none 0 0] 32)).setRow W0.heap.size #[.string ln, .string cn, .slice none 0 0])) := Lib.hid (below_row ((Below.refl _ W0).alloc (Nat.le_refl _) _) (Nat.le_refl _) _)
 have HC : Hid (CpIn 38 32 55 w #[.string ln, .string cn, .slice A n c] W0.heap.size ln cn (p.attrs.take 0) (.slice none 0 0) ((W0.alloc (.cells #[.string ⟨#[]⟩, .string ⟨#[]⟩, .slice none 0 0] 32)).setRow W0.heap.size #[.string ln, .string cn, .slice none 0 0])) := Lib.hid (by
  have h1 := H0.out.1.size
  have h2 := H0.out.2.2.lt
  refine ⟨?_, ?_, ?_, HNEW.out.row _, Own.nil _ _ _ _, h1, ?_⟩
  · rw [HN.out]; exact H0.out.1.trans (HBB.out.mono (by rw [← HN.out]; exact h1))
  · rw [HN.out]; exact H0.out.2.1.under HBB.out
  · rw [HN.out]; exact H0.out.2.2.under HBB.out
  · rw [HN.out]; omega)
 go_upto_region 2 with ((with_reducible refine wpList_storeS #[.string ln, .string cn, .slice none 0 0] ?_ 32 (.tmp 3) (.tmp 9) ?_ ?_ ?_ HNEW.out Tryz.sizeRsPart ?_ ?_ ?_ ?_); (with_reducible rfl); (with_reducible rfl); rfl; rfl; rfl; rfl; rfl)
 generalize ((W0.alloc (.cells #[.string ⟨#[]⟩, .string ⟨#[]⟩, .slice none 0 0] 32)).setRow W0.heap.size #[.string ln, .string cn, .slice none 0 0]) = W1 at *
 generalize W0.heap.size = go at *
 clear k0 k1 HNEW HBB H0
 have k2 : W1.cell? ⟨N, 2, none⟩ = some (.slice A n c) := by rw [← HN.out]; exact HC.out.box.cell 2
 go_wp2
 go_loopw [13, 4] (fun s13 _ wr => ∃ (k : Nat) (v : Value), k ≤ n ∧ s13 = .int .i64 k ∧ CpIn 38 32 55 w #[.string ln, .string cn, .slice A n c] go ln cn (p.attrs.take k) v wr) (fun s13 _ _ => n - (intOf s13).toNat)
 case atStart => exact ⟨0, _, Nat.zero_le _, rfl, HC.out⟩
 case round =>
  clear k2 HC
  obtain ⟨k, v, hk, rfl, hst⟩ := hrel
  have HK := Lib.hid hst
  clear hst
  obtain ⟨Av, nv0, hv, -⟩ := Own.form HK.out.own
  obtain ⟨nv, hnv⟩ : ∃ nv, ((p.attrs.take k).map acell).length = nv := ⟨_, rfl⟩
  obtain ⟨cv, hcv⟩ : ∃ cv, nv0 = cv := ⟨_, rfl⟩
  rw [hnv, hcv] at hv
  subst hv
  clear hcv hnv
  by_cases hlt : k < n
  · obtain ⟨ad, c1', e1, b1, x0, x1⟩ := HV.out.at_ (i := k) (by rw [HNN.out]; exact hlt)
    injection e1 with e1 e1n e1c
    clear e1n e1c
    subst e1
    have gL := getD_of (L := p.attrs) (i := k) (by rw [HNN.out]; exact hlt)
    obtain ⟨a, ha⟩ : ∃ a, p.attrs.getD k default = a := ⟨_, rfl⟩
    rw [ha] at x0 x1 gL
    have HTK : Hid ((p.attrs.take (k + 1)).map acell = (p.attrs.take k).map acell ++ [[.string a.name, .string a.value]]) := Lib.hid (by
     rw [List.take_add_one, gL]
     simp [acell])
    have HLK : Hid (((p.attrs.take k).map acell).length = k) := Lib.hid (by rw [List.length_map, List.length_take, HNN.out]; omega)
    rw [HN.out] at b1
    have hk0 : (0 : Int) ≤ (k : Int) := by omega
    have hk1 : (k : Int) < (n : Int) := by omega
    have HQ0 : Hid (∀ W, Ahead (TillOne (fun W => Below N w W ∧ Whole W N 38 #[.string ln, .string cn, .slice (some ad) n c]) (fun W => W.cell? ⟨go, 2, none⟩ = some (.slice Av nv cv)) 18) 18 W → W.cell? ⟨go, 2, none⟩ = some (.slice Av nv cv)) := Lib.hid fun W h => (TillOne.get h).2
    have HQ1 : Hid (∀ W, Ahead (TillOne (fun W => Below N w W ∧ Whole W N 38 #[.string ln, .string cn, .slice (some ad) n c]) (fun W => W.cell? ⟨go, 2, none⟩ = some (.slice Av nv cv)) 18) 18 W → W.cell? ⟨N, 2, none⟩ = some (.slice (some ad) n c)) := Lib.hid fun W h => (TillOne.get h).1.2.cell 2
    have HQ2 : Hid (∀ W, Ahead (TillOne (fun W => Below N w W ∧ Whole W N 38 #[.string ln, .string cn, .slice (some ad) n c]) (fun W => W.cell? ⟨go, 2, none⟩ = some (.slice Av nv cv)) 18) 18 W → W.cell? (ad.add (k * 2)) = some (.string a.name)) := Lib.hid fun W h => ((TillOne.get h).1.1.cell (p := ad.add (k * 2)) (by rw [add_block]; exact b1)).trans x0
    have HQ3 : Hid (∀ W, Ahead (TillOne (fun W => Below N w W ∧ Whole W N 38 #[.string ln, .string cn, .slice (some ad) n c]) (fun W => W.cell? ⟨go, 2, none⟩ = some (.slice Av nv cv)) 18) 18 W → W.cell? ⟨(ad.add (k * 2)).block, (ad.add (k * 2)).off + 1, none⟩ = some (.string a.value)) := Lib.hid fun W h => ((TillOne.get h).1.1.cell (p := ⟨(ad.add (k * 2)).block, (ad.add (k * 2)).off + 1, none⟩) (by show (ad.add (k * 2)).block < _; rw [add_block]; exact b1)).trans x1
    have HS0 : Hid (∀ L, (TillOne (fun W => Below N w W ∧ Whole W N 38 #[.string ln, .string cn, .slice (some ad) n c]) (fun W => W.cell? ⟨go, 2, none⟩ = some (.slice Av nv cv)) 18) L wr.drew) := Lib.hid fun L => TillOne.mk ⟨by rw [← HN.out]; exact HK.out.low.drew, by rw [← HN.out]; exact HK.out.box⟩ (HK.out.out.cell 2)
    have H5 : Hid (CpIn 38 32 55 w #[.string ln, .string cn, .slice (some ad) n c] go ln cn (p.attrs.take k) (.slice Av nv cv) (wr.alloc (.cells #[.string a.name, .string a.value] 55)).drew ∧ Whole (wr.alloc (.cells #[.string a.name, .string a.value] 55)).drew wr.heap.size 55 #[.string a.name, .string a.value]) := Lib.hid ⟨(HK.out.alloc _).drew, Whole.new _ _ _⟩
    have HT5 : Hid (∀ L, (TillOne (fun W => Below N w W ∧ Whole W N 38 #[.string ln, .string cn, .slice (some ad) n c]) (fun W => W.cell? ⟨go, 2, none⟩ = some (.slice Av nv cv)) 18) L (wr.alloc (.cells #[.string a.name, .string a.value] 55)).drew) := Lib.hid fun L => TillOne.mk ⟨by rw [← HN.out]; exact H5.out.1.low, by rw [← HN.out]; exact H5.out.1.box⟩ (H5.out.1.out.cell 2)
    clear x0 x1 gL ha b1
    go_upto_region 5 with fail
    refine wp_region_late (TillOne (fun W => Below N w W ∧ Whole W N 38 #[.string ln, .string cn, .slice (some ad) n c]) (fun W => W.cell? ⟨go, 2, none⟩ = some (.slice Av nv cv)) 18) (by as_aux_lemma => kernel_rfl) ?_
    change wpLate Tryz.prog .any _ _ _ 19 #[false, false, false, false, false, false, false, false, false, false, false, false, false, false, false, false, false, false, false] _ _
    refine wpLate.take (i := 0) (q := 18) (oi := _) (v := ?_) rfl (by as_aux_lemma => kernel_rfl) (by as_aux_lemma => kernel_rfl) (by as_aux_lemma => kernel_rfl) (by as_aux_lemma => kernel_rfl) (by rfl) (fun _ _ _ h => h) (TillOne.set (by decide)) (HS0.out _) (Or.inl ⟨by rfl, ?_⟩) ?_
    case refine_2 => intro W hw; have e0 := HQ0.out W hw; have e1 := HQ1.out W hw; have e2 := HQ2.out W hw; have e3 := HQ3.out W hw; clear hw; go_simp; (try with_reducible rfl)
    simp only [Act.put, List.setIfInBounds_toArray, List.set_cons_succ, List.set_cons_zero]
    refine wpLate.take (i := 1) (q := 18) (oi := _) (v := ?_) rfl (by as_aux_lemma => kernel_rfl) (by as_aux_lemma => kernel_rfl) (by as_aux_lemma => kernel_rfl) (by as_aux_lemma => kernel_rfl) (by rfl) (fun _ _ _ h => h) (TillOne.set (by decide)) (HS0.out _) (Or.inl ⟨by rfl, ?_⟩) ?_
    case refine_2 => intro W hw; have e0 := HQ0.out W hw; have e1 := HQ1.out W hw; have e2 := HQ2.out W hw; have e3 := HQ3.out W hw; clear hw; go_simp; (try with_reducible rfl)
    simp only [Act.put, List.setIfInBounds_toArray, List.set_cons_succ, List.set_cons_zero]
    refine wpLate.take (i := 2) (q := 18) (oi := _) (v := ?_) rfl (by as_aux_lemma => kernel_rfl) (by as_aux_lemma => kernel_rfl) (by as_aux_lemma => kernel_rfl) (by as_aux_lemma => kernel_rfl) (by rfl) (fun _ _ _ h => h) (TillOne.set (by decide)) (HS0.out _) (Or.inl ⟨by rfl, ?_⟩) ?_
    case refine_2 => intro W hw; have e0 := HQ0.out W hw; have e1 := HQ1.out W hw; have e2 := HQ2.out W hw; have e3 := HQ3.out W hw; clear hw; go_simp; (try with_reducible rfl)
    simp only [Act.put, List.setIfInBounds_toArray, List.set_cons_succ, List.set_cons_zero]
    refine wpLate.take (i := 3) (q := 18) (oi := _) (v := ?_) rfl (by as_aux_lemma => kernel_rfl) (by as_aux_lemma => kernel_rfl) (by as_aux_lemma => kernel_rfl) (by as_aux_lemma => kernel_rfl) (by rfl) (fun _ _ _ h => h) (TillOne.set (by decide)) (HS0.out _) (Or.inl ⟨by rfl, ?_⟩) ?_
    case refine_2 => intro W hw; have e0 := HQ0.out W hw; have e1 := HQ1.out W hw; have e2 := HQ2.out W hw; have e3 := HQ3.out W hw; clear hw; go_simp; (try with_reducible rfl)
    simp only [Act.put, List.setIfInBounds_toArray, List.set_cons_succ, List.set_cons_zero]
    refine wpLate.take (i := 4) (q := 18) (oi := _) (v := ?_) rfl (by as_aux_lemma => kernel_rfl) (by as_aux_lemma => kernel_rfl) (by as_aux_lemma => kernel_rfl) (by as_aux_lemma => kernel_rfl) (by rfl) (fun _ _ _ h => h) (TillOne.set (by decide)) (HS0.out _) (Or.inl ⟨by rfl, ?_⟩) ?_
    case refine_2 => intro W hw; have e0 := HQ0.out W hw; have e1 := HQ1.out W hw; have e2 := HQ2.out W hw; have e3 := HQ3.out W hw; clear hw; go_simp; (try with_reducible rfl)
    simp only [Act.put, List.setIfInBounds_toArray, List.set_cons_succ, List.set_cons_zero]
    refine wpLate.take (i := 5) (q := 18) (oi := _) (v := ?_) rfl (by as_aux_lemma => kernel_rfl) (by as_aux_lemma => kernel_rfl) (by as_aux_lemma => kernel_rfl) (by as_aux_lemma => kernel_rfl) (by rfl) (fun _ _ _ h => h) (TillOne.set (by decide)) (HS0.out _) (Or.inl ⟨by rfl, ?_⟩) ?_
    case refine_2 => intro W hw; have e0 := HQ0.out W hw; have e1 := HQ1.out W hw; have e2 := HQ2.out W hw; have e3 := HQ3.out W hw; clear hw; go_simp; (try with_reducible rfl)
    simp only [Act.put, List.setIfInBounds_toArray, List.set_cons_succ, List.set_cons_zero]
    refine wpLate.take (i := 6) (q := 18) (oi := _) (v := ?_) rfl (by as_aux_lemma => kernel_rfl) (by as_aux_lemma => kernel_rfl) (by as_aux_lemma => kernel_rfl) (by as_aux_lemma => kernel_rfl) (by rfl) (fun _ _ _ h => h) (TillOne.set (by decide)) (HS0.out _) (Or.inl ⟨by rfl, ?_⟩) ?_
    case refine_2 => intro W hw; have e0 := HQ0.out W hw; have e1 := HQ1.out W hw; have e2 := HQ2.out W hw; have e3 := HQ3.out W hw; clear hw; go_simp; (try with_reducible rfl)
    simp only [Act.put, List.setIfInBounds_toArray, List.set_cons_succ, List.set_cons_zero]
    refine wpLate.take (i := 7) (q := 18) (oi := _) (v := ?_) rfl (by as_aux_lemma => kernel_rfl) (by as_aux_lemma => kernel_rfl) (by as_aux_lemma => kernel_rfl) (by as_aux_lemma => kernel_rfl) (by rfl) (fun _ _ _ h => h) (TillOne.set (by decide)) (HS0.out _) (Or.inl ⟨by rfl, ?_⟩) ?_
    case refine_2 => intro W hw; have e0 := HQ0.out W hw; have e1 := HQ1.out W hw; have e2 := HQ2.out W hw; have e3 := HQ3.out W hw; clear hw; go_simp; (try with_reducible rfl)
    simp only [Act.put, List.setIfInBounds_toArray, List.set_cons_succ, List.set_cons_zero]
    refine wpLate.take (i := 8) (q := 18) (oi := _) (v := ?_) rfl (by as_aux_lemma => kernel_rfl) (by as_aux_lemma => kernel_rfl) (by as_aux_lemma => kernel_rfl) (by as_aux_lemma => kernel_rfl) (by rfl) (fun _ _ _ h => h) (TillOne.set (by decide)) (HS0.out _) (Or.inl ⟨by rfl, ?_⟩) ?_
    case refine_2 => intro W hw; have e0 := HQ0.out W hw; have e1 := HQ1.out W hw; have e2 := HQ2.out W hw; have e3 := HQ3.out W hw; clear hw; go_simp; (try with_reducible rfl)
    simp only [Act.put, List.setIfInBounds_toArray, List.set_cons_succ, List.set_cons_zero]
    refine wpLate.take (i := 9) (q := 18) (oi := _) (v := ?_) rfl (by as_aux_lemma => kernel_rfl) (by as_aux_lemma => kernel_rfl) (by as_aux_lemma => kernel_rfl) (by as_aux_lemma => kernel_rfl) (by rfl) (fun _ _ _ h => h) (TillOne.set (by decide)) (HS0.out _) (Or.inl ⟨by rfl, ?_⟩) ?_
    case refine_2 => intro W hw; have e0 := HQ0.out W hw; have e1 := HQ1.out W hw; have e2 := HQ2.out W hw; have e3 := HQ3.out W hw; clear hw; go_simp; (try with_reducible rfl)
    simp only [Act.put, List.setIfInBounds_toArray, List.set_cons_succ, List.set_cons_zero]
    refine wpLate.take (i := 10) (q := 18) (oi := _) (v := ?_) rfl (by as_aux_lemma => kernel_rfl) (by as_aux_lemma => kernel_rfl) (by as_aux_lemma => kernel_rfl) (by as_aux_lemma => kernel_rfl) (by rfl) (fun _ _ _ h => h) (TillOne.set (by decide)) (HS0.out _) (Or.inl ⟨by rfl, ?_⟩) ?_
    case refine_2 => intro W hw; have e0 := HQ0.out W hw; have e1 := HQ1.out W hw; have e2 := HQ2.out W hw; have e3 := HQ3.out W hw; clear hw; go_simp; (try with_reducible rfl)
    simp only [Act.put, List.setIfInBounds_toArray, List.set_cons_succ, List.set_cons_zero]
    refine wpLate.take (i := 11) (q := 18) (oi := _) (v := ?_) rfl (by as_aux_lemma => kernel_rfl) (by as_aux_lemma => kernel_rfl) (by as_aux_lemma => kernel_rfl) (by as_aux_lemma => kernel_rfl) (by rfl) (fun _ _ _ h => h) (TillOne.set (by decide)) (HS0.out _) (Or.inl ⟨by rfl, ?_⟩) ?_
    case refine_2 => intro W hw; have e0 := HQ0.out W hw; have e1 := HQ1.out W hw; have e2 := HQ2.out W hw; have e3 := HQ3.out W hw; clear hw; go_simp; (try with_reducible rfl)
    simp only [Act.put, List.setIfInBounds_toArray, List.set_cons_succ, List.set_cons_zero]
    refine wpLate.take (i := 12) (q := 18) (oi := _) (v := ?_) rfl (by as_aux_lemma => kernel_rfl) (by as_aux_lemma => kernel_rfl) (by as_aux_lemma => kernel_rfl) (by as_aux_lemma => kernel_rfl) (by rfl) (fun _ _ _ h => h) (TillOne.set (by decide)) (HS0.out _) (Or.inl ⟨by rfl, ?_⟩) ?_
    case refine_2 => intro W hw; have e0 := HQ0.out W hw; have e1 := HQ1.out W hw; have e2 := HQ2.out W hw; have e3 := HQ3.out W hw; clear hw; go_simp; (try with_reducible rfl)
    simp only [Act.put, List.setIfInBounds_toArray, List.set_cons_succ, List.set_cons_zero]
    refine wpLate.take (i := 13) (q := 18) (oi := _) (v := ?_) rfl (by as_aux_lemma => kernel_rfl) (by as_aux_lemma => kernel_rfl) (by as_aux_lemma => kernel_rfl) (by as_aux_lemma => kernel_rfl) (by rfl) (fun _ _ _ h => h) (TillOne.set (by decide)) (HS0.out _) (Or.inl ⟨by rfl, ?_⟩) ?_
    case refine_2 => intro W hw; have e0 := HQ0.out W hw; have e1 := HQ1.out W hw; have e2 := HQ2.out W hw; have e3 := HQ3.out W hw; clear hw; go_simp; (try with_reducible rfl)
    simp only [Act.put, List.setIfInBounds_toArray, List.set_cons_succ, List.set_cons_zero]
    refine wpLate.take (i := 14) (q := 18) (oi := _) (v := ?_) rfl (by as_aux_lemma => kernel_rfl) (by as_aux_lemma => kernel_rfl) (by as_aux_lemma => kernel_rfl) (by as_aux_lemma => kernel_rfl) (by rfl) (fun _ _ _ h => h) (TillOne.set (by decide)) (HS0.out _) (Or.inl ⟨by rfl, ?_⟩) ?_
    case refine_2 => intro W hw; have e0 := HQ0.out W hw; have e1 := HQ1.out W hw; have e2 := HQ2.out W hw; have e3 := HQ3.out W hw; clear hw; go_simp; (try with_reducible rfl)
    simp only [Act.put, List.setIfInBounds_toArray, List.set_cons_succ, List.set_cons_zero]
    refine wpLate.ready (rs := [15]) (by as_aux_lemma => kernel_rfl) (by simp) (eachLate.cons rfl (fun K hK => ?_) eachLate.nil)
    go_simp
    refine hK.out _ _ (HT5.out _) ?_
    clear hK K
    try simp only [Act.put]
    generalize (wr.alloc (.cells #[.string a.name, .string a.value] 55)).drew = w7 at *
    generalize wr.heap.size = g7 at *
    refine wpLate.ready (rs := [16]) (by as_aux_lemma => kernel_rfl) (by simp) (eachLate.cons rfl (fun K hK => ?_) eachLate.nil)
    refine step_of rfl (wp_appendE (r := [.string a.name, .string a.value]) (.tmp 17) (.tmp 31) rfl Tryz.underlying30 Tryz.infoRSAttr rfl (Nat.zero_lt_succ _) rfl H5.out.1.own rfl H5.out.2 rfl (fun u hu => by simp at hu; rcases hu with rfl | rfl <;> rfl) (by rw [HLK.out]; omega) (by rw [HLK.out]; omega) H5.out.1.low.size ?_)
    intro v8 w8 ho8 hg8 hn8
    have H8 := Lib.hid (H5.out.1.grew ho8 hg8 HTK.out)
    have c8 : w8.cell? ⟨go, 2, none⟩ = some (.slice Av nv cv) := H8.out.1.cell 2
    have f8 := H8.out.1.frz 2
    have HT8 : Hid (∀ L, (TillOne (fun W => Below N w W ∧ Whole W N 38 #[.string ln, .string cn, .slice (some ad) n c]) (fun W => W.cell? ⟨go, 2, none⟩ = some (.slice Av nv cv)) 18) L w8) := Lib.hid fun L => TillOne.mk ⟨by rw [← HN.out]; exact H8.out.2.2.1, by rw [← HN.out]; exact H8.out.2.2.2.1⟩ c8
    have HFIN := Lib.hid (H8.out.2.2.2.2 v8 (by rw [HTK.out]; exact ho8))
    have HS9 : Hid (∀ L, L.getD 18 true = true → (TillOne (fun W => Below N w W ∧ Whole W N 38 #[.string ln, .string cn, .slice (some ad) n c]) (fun W => W.cell? ⟨go, 2, none⟩ = some (.slice Av nv cv)) 18) L (w8.setCell ⟨go, 2, none⟩ v8)) := Lib.hid fun L hL => TillOne.past ⟨by rw [← HN.out]; exact HFIN.out.low, by rw [← HN.out]; exact HFIN.out.box⟩ hL
    obtain ⟨A8, k8, hv8, -⟩ := ho8.form
    generalize (((p.attrs.take k).map acell) ++ [[Value.string a.name, Value.string a.value]]).length = l8 at hv8
    subst hv8
    clear ho8 hg8 hn8 H5
    refine hK.out _ _ (HT8.out _) ?_
    clear hK K
    try simp only [Act.put]
    refine wpLate.take (i := 17) (q := 18) (oi := _) (v := ?_) rfl (by as_aux_lemma => kernel_rfl) (by as_aux_lemma => kernel_rfl) (by as_aux_lemma => kernel_rfl) (by as_aux_lemma => kernel_rfl) (by rfl) (fun _ _ _ h => h) (TillOne.set (by decide)) (HT8.out _) (Or.inl ⟨by rfl, ?_⟩) ?_
    case refine_2 => intro W hw; have e0 := HQ0.out W hw; have e1 := HQ1.out W hw; have e2 := HQ2.out W hw; have e3 := HQ3.out W hw; clear hw; go_simp; (try with_reducible rfl)
    simp only [Act.put, List.setIfInBounds_toArray, List.set_cons_succ, List.set_cons_zero]
    refine wpLate.ready (rs := [18]) (by as_aux_lemma => kernel_rfl) (by simp) (eachLate.cons rfl (fun K hK => ?_) eachLate.nil)
    go_simp
    refine hK.out _ _ (HS9.out _ rfl) ?_
    clear hK K
    try simp only [Act.put]
    refine wpLate.done (by as_aux_lemma => kernel_rfl) ?_ _
    go_wp2
    go_roundw
    case rel => exact ⟨k + 1, _, by omega, by go_num, HFIN.out⟩
    case measure => simp [intOf]; omega
  · obtain rfl : k = n := by omega
    have HFW : Hid (CpIn 38 32 55 w #[.string ln, .string cn, .slice A k c] go ln cn p.attrs (.slice Av nv cv) wr) := Lib.hid (by
     have := HK.out
     rw [List.take_of_length_le (by rw [HNN.out]; exact Nat.le_refl _)] at this
     exact this)
    have HR7 : Hid (Whole wr (N + 1) 32 #[.string ⟨#[]⟩, .string ⟨#[]⟩, .slice none 0 0]) := Lib.hid (by rw [← HN.out]; exact HFW.out.res)
    have HFIN : Hid (∃ v, Ending.returned (.agg #[.string ln, .string cn, .slice Av nv cv]) = .returned (.agg #[.string ln, .string cn, v]) ∧ Own (wr.setRow (N + 1) #[.string ln, .string cn, .slice Av nv cv]) w.heap.size 55 2 v (p.attrs.map acell) ∧ Below w.heap.size w (wr.setRow (N + 1) #[.string ln, .string cn, .slice Av nv cv])) :=
     Lib.hid ⟨_, rfl, Own.farRow HFW.out.own (Own.apart HFW.out.own HR7.out (by decide)) _, below_row HFW.out.low (by rw [HN.out]; exact Nat.le_succ _) _⟩
    go_wp2_with (first
     | ((with_reducible refine wpList_load_all ?_ 32 (.tmp 3) ?_ HFW.out.out ?_ Tryz.sizeRsPart ?_ Tryz.underlying32 ?_ ?_); (with_reducible rfl); (with_reducible rfl); rfl; rfl; rfl)
     | ((with_reducible refine wpList_storeS #[.string ln, .string cn, .slice Av nv cv] ?_ 32 (.tmp 2) (.tmp 35) ?_ ?_ ?_ HR7.out Tryz.sizeRsPart ?_ ?_ ?_ ?_); (with_reducible rfl); (with_reducible rfl); rfl; rfl; rfl; rfl; rfl)
     | ((with_reducible show bodyPost _ _ _ _ _ _); exact bodyPost_ret (ret_struct rfl rfl (HR7.out.row _) Tryz.underlying32 rfl Tryz.sizeRsPart rfl) rfl HFIN.out))
theorem partW_few (m : MediaS) : (partW m).attrs.length ≤ 64 := by
 unfold partW
 split
 · next h => exact attrsM_few h
 · simp
theorem listCells {w : World} {g : Nat} {t : TypeId} {cs : List Value} (h : Whole w g t cs.toArray) : ∀ j v, cs[j]? = some v → w.cell? ((⟨g, 0, none⟩ : Addr).add j) = some v := fun j v hv => by
 rw [Addr.add_lit, Nat.zero_add, h.cell j, List.getElem?_toArray]
 exact hv
set_option maxHeartbeats 6400000 in
set_option maxRecDepth 100000 in
theorem writes_walk (M : Array Value) (m : MediaS) (vC vE vR vS vY : Value) (w : World) (h : MediaV w w.heap.size M m vC vE vR vS vY) (hz : SizM m) (hE : Env w) (h7 : 7 ≤ w.heap.size) :
 Calls Tryz.prog 3 #[.agg M] w fun e w' => e = .returned (.bool true) ∧ Below w.heap.size w w' := by
 have hb0 : Below w.heap.size w (w.alloc (.cells M 28)) := (Below.refl _ w).alloc (Nat.le_refl _) _
 have H0 := Lib.hid (And.intro hb0 (Whole.new w 28 M))
 have HSZ := Lib.hid h.size
 have HSZL : Hid ((Tryz.prog.info? 28).map (·.size) = some M.toList.length) := Lib.hid (by rw [Tryz.sizeMedia]; have := HSZ.out; simp [this])
 have HU : Hid (∀ W, Below w.heap.size w W → MediaV W W.heap.size M m vC vE vR vS vY ∧ Env W ∧ 7 ≤ W.heap.size) := Lib.hid fun W hW => ⟨h.under hW, hE.under hW, Nat.le_trans h7 hW.size⟩
 have HAW : Hid (∀ W, Below w.heap.size w W → Calls Tryz.prog 14 #[] W fun e w' => e = .returned (.bool true) ∧ Below W.heap.size W w') := Lib.hid fun W hW => awake_any W (hE.under hW) (Nat.le_trans h7 hW.size)
 have HRW : Hid (∀ W, Below w.heap.size w W → Calls Tryz.prog 15 #[.agg M] W (WriteO 55 W m)) := Lib.hid fun W hW => rWrite_any M m vC vE vR vS vY W (h.under hW) hz
  (fun W2 h2 => rgood_any M m vC vE vR vS vY W2 ((h.under hW).under h2) hz) (fun hg W2 h2 => rwrite1_any M m vC vE vR vS vY W2 ((h.under hW).under h2) hz hg)
 have HPW : Hid (∀ W, Below w.heap.size w W → Calls Tryz.prog 16 #[.agg M] W (WriteO 53 W m)) := Lib.hid fun W hW => write_any M m vC vE vR vS vY W (h.under hW) hz (hE.under hW) (Nat.le_trans h7 hW.size)
 have HGD0 : Hid (∀ W, Below w.heap.size w W → Calls Tryz.prog 19 #[.agg M] W fun e w' => e = .returned (.bool (goodM m)) ∧ Below W.heap.size W w') := Lib.hid fun W hW => good_any M m vC vE vR vS vY W (h.under hW) hz
 have HRG0 : Hid (∀ W, Below w.heap.size w W → Calls Tryz.prog 20 #[.agg M] W fun e w' => e = .returned (.bool (goodM m)) ∧ Below W.heap.size W w') := Lib.hid fun W hW => rgood_any M m vC vE vR vS vY W (h.under hW) hz
 have HFEW := Lib.hid (partW_few m)
 have HRD : Hid (∀ E W e w', WriteO E W m e w' → ∃ A c, e = .returned (.tuple #[.agg #[.string (partW m).line, .string (partW m).conn, .slice A (partW m).attrs.length c], .int .i64 (errW m)]) ∧ AttrsV w' w'.heap.size (.slice A (partW m).attrs.length c) (partW m).attrs ∧ Below W.heap.size W w') := Lib.hid fun E W e w' h => h.reads
 generalize partW m = pm at *
 generalize errW m = er at *
 obtain ⟨nn, hnn⟩ : ∃ n, pm.attrs.length = n := ⟨_, rfl⟩
 rw [hnn] at HRD
 have HNN := Lib.hid hnn
 clear h hz hE h7 hb0 hnn
 obtain ⟨N, hN⟩ : ∃ N, w.heap.size = N := ⟨_, rfl⟩
 have HN := Lib.hid hN
 rw [hN] at H0
 clear hN
 go_enter Tryz.func3, Tryz.ntmps3
 go_upto_region 1 with fail
 simp only [HN.out]
 generalize w.alloc (.cells M 28) = W0 at *
 have HA0 := Lib.hid (HAW.out W0 (by rw [HN.out]; exact H0.out.1))
 go_upto_region 3 with (go_at_call 14; (with_reducible refine HA0.out.mono ?_); rintro e w1 ⟨rfl, hb1⟩; have H1 : Hid (Below w.heap.size w w1 ∧ Whole w1 N 28 M) := Lib.hid ⟨by rw [HN.out]; exact H0.out.1.trans (hb1.mono (by have := H0.out.1.size; rw [HN.out] at this; exact this)), H0.out.2.under hb1⟩; clear hb1; dsimp only)
 have HW1 := Lib.hid (HRW.out w1 H1.out.1)
 go_upto_region 4 with (first
  | ((with_reducible refine wpList_load_all ?_ 28 (.tmp 1) ?_ H1.out.2 ?_ Tryz.sizeMedia HSZ.out Tryz.underlying28 ?_ ?_); (with_reducible rfl); (with_reducible rfl); rfl; rfl)
  | (go_at_call 15; (with_reducible refine HW1.out.mono ?_); rintro e w2 hw2; obtain ⟨A3, c3, rfl, ha3, hb2⟩ := HRD.out _ _ _ _ hw2; clear hw2; have H2 : Hid (Below w.heap.size w w2 ∧ Whole w2 N 28 M ∧ AttrsV w2 w2.heap.size (.slice A3 nn c3) pm.attrs) := Lib.hid ⟨H1.out.1.trans (hb2.mono H1.out.1.size), H1.out.2.under hb2, ha3⟩; clear hb2 ha3; have HNEW : Hid (Whole (w2.alloc (.cells #[.string ⟨#[]⟩, .string ⟨#[]⟩, .slice none 0 0] 32)) w2.heap.size 32 #[.string ⟨#[]⟩, .string ⟨#[]⟩, .slice none 0 0]) := Lib.hid (Whole.new _ _ _); dsimp only)
  | ((with_reducible refine wpList_storeS #[.string pm.line, .string pm.conn, .slice A3 nn c3] ?_ 32 (.tmp 3) (.tmp 12) ?_ ?_ ?_ HNEW.out Tryz.sizeRsPart ?_ ?_ ?_ ?_); (with_reducible rfl); (with_reducible rfl); rfl; rfl; rfl; rfl; rfl))
 have HB3 : Hid (Below w2.heap.size w2 ((w2.alloc (.cells #[.string ⟨#[]⟩, .string ⟨#[]⟩, .slice none 0 0] 32)).setRow w2.heap.size #[.string pm.line, .string pm.conn, .slice A3 nn c3])) := Lib.hid (below_row ((Below.refl _ w2).alloc (Nat.le_refl _) _) (Nat.le_refl _) _)
 have H3 : Hid (Below w.heap.size w ((w2.alloc (.cells #[.string ⟨#[]⟩, .string ⟨#[]⟩, .slice none 0 0] 32)).setRow w2.heap.size #[.string pm.line, .string pm.conn, .slice A3 nn c3]) ∧ Whole ((w2.alloc (.cells #[.string ⟨#[]⟩, .string ⟨#[]⟩, .slice none 0 0] 32)).setRow w2.heap.size #[.string pm.line, .string pm.conn, .slice A3 nn c3]) N 28 M ∧ AttrsV ((w2.alloc (.cells #[.string ⟨#[]⟩, .string ⟨#[]⟩, .slice none 0 0] 32)).setRow w2.heap.size #[.string pm.line, .string pm.conn, .slice A3 nn c3]) w2.heap.size (.slice A3 nn c3) pm.attrs ∧ Whole ((w2.alloc (.cells #[.string ⟨#[]⟩, .string ⟨#[]⟩, .slice none 0 0] 32)).setRow w2.heap.size #[.string pm.line, .string pm.conn, .slice A3 nn c3]) w2.heap.size 32 #[.string pm.line, .string pm.conn, .slice A3 nn c3]) := Lib.hid ⟨H2.out.1.trans (HB3.out.mono H2.out.1.size), H2.out.2.1.under HB3.out, H2.out.2.2.below HB3.out, HNEW.out.row _⟩
 have HS3 : Hid (w2.heap.size ≤ ((w2.alloc (.cells #[.string ⟨#[]⟩, .string ⟨#[]⟩, .slice none 0 0] 32)).setRow w2.heap.size #[.string pm.line, .string pm.conn, .slice A3 nn c3]).heap.size) := Lib.hid HB3.out.size
 generalize ((w2.alloc (.cells #[.string ⟨#[]⟩, .string ⟨#[]⟩, .slice none 0 0] 32)).setRow w2.heap.size #[.string pm.line, .string pm.conn, .slice A3 nn c3]) = w3 at *
 generalize w2.heap.size = g3 at *
 clear HNEW HB3 H2 H1
 have HW3 := Lib.hid (HPW.out w3 H3.out.1)
 go_upto_region 5 with (first
  | ((with_reducible refine wpList_load_all ?_ 28 (.tmp 1) ?_ H3.out.2.1 ?_ Tryz.sizeMedia HSZ.out Tryz.underlying28 ?_ ?_); (with_reducible rfl); (with_reducible rfl); rfl; rfl)
  | (go_at_call 16; (with_reducible refine HW3.out.mono ?_); rintro e w4 hw4; obtain ⟨A5, c5, rfl, ha5, hb4⟩ := HRD.out _ _ _ _ hw4; clear hw4; have H4 : Hid (Below w3.heap.size w3 w4 ∧ AttrsV w4 w4.heap.size (.slice A5 nn c5) pm.attrs) := Lib.hid ⟨hb4, ha5⟩; clear hb4 ha5; have HNEW : Hid (Whole (w4.alloc (.cells #[.string ⟨#[]⟩, .string ⟨#[]⟩, .slice none 0 0] 38)) w4.heap.size 38 #[.string ⟨#[]⟩, .string ⟨#[]⟩, .slice none 0 0]) := Lib.hid (Whole.new _ _ _); dsimp only)
  | ((with_reducible refine wpList_storeS #[.string pm.line, .string pm.conn, .slice A5 nn c5] ?_ 38 (.tmp 5) (.tmp 17) ?_ ?_ ?_ HNEW.out Tryz.sizeSPart ?_ ?_ ?_ ?_); (with_reducible rfl); (with_reducible rfl); rfl; rfl; rfl; rfl; rfl))
 have HB5 : Hid (Below w4.heap.size w4 ((w4.alloc (.cells #[.string ⟨#[]⟩, .string ⟨#[]⟩, .slice none 0 0] 38)).setRow w4.heap.size #[.string pm.line, .string pm.conn, .slice A5 nn c5])) := Lib.hid (below_row ((Below.refl _ w4).alloc (Nat.le_refl _) _) (Nat.le_refl _) _)
 have HB35 : Hid (Below w3.heap.size w3 ((w4.alloc (.cells #[.string ⟨#[]⟩, .string ⟨#[]⟩, .slice none 0 0] 38)).setRow w4.heap.size #[.string pm.line, .string pm.conn, .slice A5 nn c5])) := Lib.hid (H4.out.1.trans (HB5.out.mono H4.out.1.size))
 have H5 : Hid (Below w.heap.size w ((w4.alloc (.cells #[.string ⟨#[]⟩, .string ⟨#[]⟩, .slice none 0 0] 38)).setRow w4.heap.size #[.string pm.line, .string pm.conn, .slice A5 nn c5]) ∧ Whole ((w4.alloc (.cells #[.string ⟨#[]⟩, .string ⟨#[]⟩, .slice none 0 0] 38)).setRow w4.heap.size #[.string pm.line, .string pm.conn, .slice A5 nn c5]) N 28 M ∧ AttrsV ((w4.alloc (.cells #[.string ⟨#[]⟩, .string ⟨#[]⟩, .slice none 0 0] 38)).setRow w4.heap.size #[.string pm.line, .string pm.conn, .slice A5 nn c5]) g3 (.slice A3 nn c3) pm.attrs ∧ Whole ((w4.alloc (.cells #[.string ⟨#[]⟩, .string ⟨#[]⟩, .slice none 0 0] 38)).setRow w4.heap.size #[.string pm.line, .string pm.conn, .slice A5 nn c5]) g3 32 #[.string pm.line, .string pm.conn, .slice A3 nn c3] ∧ AttrsV ((w4.alloc (.cells #[.string ⟨#[]⟩, .string ⟨#[]⟩, .slice none 0 0] 38)).setRow w4.heap.size #[.string pm.line, .string pm.conn, .slice A5 nn c5]) w4.heap.size (.slice A5 nn c5) pm.attrs ∧ Whole ((w4.alloc (.cells #[.string ⟨#[]⟩, .string ⟨#[]⟩, .slice none 0 0] 38)).setRow w4.heap.size #[.string pm.line, .string pm.conn, .slice A5 nn c5]) w4.heap.size 38 #[.string pm.line, .string pm.conn, .slice A5 nn c5] ∧ g3 ≤ ((w4.alloc (.cells #[.string ⟨#[]⟩, .string ⟨#[]⟩, .slice none 0 0] 38)).setRow w4.heap.size #[.string pm.line, .string pm.conn, .slice A5 nn c5]).heap.size ∧ w4.heap.size ≤ ((w4.alloc (.cells #[.string ⟨#[]⟩, .string ⟨#[]⟩, .slice none 0 0] 38)).setRow w4.heap.size #[.string pm.line, .string pm.conn, .slice A5 nn c5]).heap.size) := Lib.hid
  ⟨H3.out.1.trans (HB35.out.mono H3.out.1.size), H3.out.2.1.under HB35.out, H3.out.2.2.1.below (HB35.out.mono HS3.out), H3.out.2.2.2.under HB35.out, H4.out.2.below HB5.out, HNEW.out.row _, Nat.le_trans HS3.out HB35.out.size, HB5.out.size⟩
 generalize ((w4.alloc (.cells #[.string ⟨#[]⟩, .string ⟨#[]⟩, .slice none 0 0] 38)).setRow w4.heap.size #[.string pm.line, .string pm.conn, .slice A5 nn c5]) = w5 at *
 generalize w4.heap.size = g5 at *
 clear HNEW HB5 HB35 H4 H3 HS3 H0
 have HKB : Hid (∀ W W', Below w5.heap.size w5 W → Below W.heap.size W W' → Below w5.heap.size w5 W') := Lib.hid fun W W' h1 h2 => below_chain (Nat.le_refl _) h1 h2
 have HLO : Hid (∀ W, Below w5.heap.size w5 W → Below w.heap.size w W) := Lib.hid fun W hW => H5.out.1.trans (hW.mono H5.out.1.size)
 have HLM : Hid (∀ W, Below w5.heap.size w5 W → ∀ j v, M.toList[j]? = some v → W.cell? ((⟨N, 0, none⟩ : Addr).add j) = some v) := Lib.hid fun W hW => listCells (H5.out.2.1.under hW)
 have HL3 : Hid (∀ W, Below w5.heap.size w5 W → ∀ j v, ([.string pm.line, .string pm.conn, .slice A3 nn c3] : List Value)[j]? = some v → W.cell? ((⟨g3, 0, none⟩ : Addr).add j) = some v) := Lib.hid fun W hW => listCells (H5.out.2.2.2.1.under hW)
 have HL5 : Hid (∀ W, Below w5.heap.size w5 W → ∀ j v, ([.string pm.line, .string pm.conn, .slice A5 nn c5] : List Value)[j]? = some v → W.cell? ((⟨g5, 0, none⟩ : Addr).add j) = some v) := Lib.hid fun W hW => listCells (H5.out.2.2.2.2.2.1.under hW)
 have HOU : Hid (∀ W, Below w5.heap.size w5 W → Calls Tryz.prog 18 #[.agg #[.string pm.line, .string pm.conn, .slice A5 nn c5]] W fun e w' => ∃ A c, e = .returned (.agg #[.string pm.line, .string pm.conn, .slice A nn c]) ∧ AttrsV w' w'.heap.size (.slice A nn c) pm.attrs ∧ Below W.heap.size W w') := Lib.hid fun W hW =>
  (ours7_any pm _ W ((H5.out.2.2.2.2.1.below (hW.mono H5.out.2.2.2.2.2.2.2)).more (Nat.le_trans H5.out.2.2.2.2.2.2.2 hW.size)) (by rw [HNN.out]; have := HFEW.out; rw [HNN.out] at this; omega)).mono fun e w' h => by
   obtain ⟨v, rfl, ho, hb⟩ := h
   obtain ⟨A, c, hv, -⟩ := Own.form ho
   rw [List.length_map, HNN.out] at hv
   subst hv
   exact ⟨A, c, rfl, ho.reads (Nat.le_refl _), hb⟩
 have HSP : Hid (∀ W A c, Below w5.heap.size w5 W → AttrsV W W.heap.size (.slice A nn c) pm.attrs → Calls Tryz.prog 17 #[.agg #[.string pm.line, .string pm.conn, .slice A nn c], .agg #[.string pm.line, .string pm.conn, .slice A3 nn c3]] W fun e w' => e = .returned (.bool true) ∧ Below W.heap.size W w') := Lib.hid fun W A c hW ha =>
  (samePart_any pm pm _ _ W ha ((H5.out.2.2.1.below (hW.mono H5.out.2.2.2.2.2.2.1)).more (Nat.le_trans H5.out.2.2.2.2.2.2.1 hW.size))).mono fun e w' h => by
   obtain ⟨b, rfl, hbb, hb⟩ := h
   rw [hbb.2 rfl]
   exact ⟨rfl, hb⟩
 have HGD : Hid (∀ W, Below w5.heap.size w5 W → Calls Tryz.prog 19 #[.agg M] W fun e w' => e = .returned (.bool (goodM m)) ∧ Below W.heap.size W w') := Lib.hid fun W hW => HGD0.out W (HLO.out W hW)
 have HRG : Hid (∀ W, Below w5.heap.size w5 W → Calls Tryz.prog 20 #[.agg M] W fun e w' => e = .returned (.bool (goodM m)) ∧ Below W.heap.size W w') := Lib.hid fun W hW => HRG0.out W (HLO.out W hW)
 generalize goodM m = gd at *
 have HR0 : Hid (Below w5.heap.size w5 w5.drew) := Lib.hid (Below.refl _ _).drew
 clear HGD0 HRG0 HPW HRW HAW HA0 HW1 HW3 HRD
 refine wp_region_held_drew (S := fun W => Below w5.heap.size w5 W) (by kernel_rfl) HR0.out (fun hHeld => ?_)
 refine wpAnyH_take (i := 0) (v := _) rfl (by as_aux_lemma => kernel_rfl) (by as_aux_lemma => kernel_rfl) (by as_aux_lemma => kernel_rfl) (fun _ _ _ h => h) (Or.inl ⟨by rfl, fun w h => by clear h; go_simp; (try with_reducible rfl)⟩) (by assumption) ?_
 simp only [Act.put, List.getElem_toArray, List.getElem_cons_succ, List.getElem_cons_zero, List.setIfInBounds_toArray, List.set_cons_succ, List.set_cons_zero]
 refine wpAnyH_take (i := 1) (v := _) rfl (by as_aux_lemma => kernel_rfl) (by as_aux_lemma => kernel_rfl) (by as_aux_lemma => kernel_rfl) (fun _ _ _ h => h) (Or.inl ⟨by rfl, fun w h => by clear h; go_simp; (try with_reducible rfl)⟩) (by assumption) ?_
 simp only [Act.put, List.getElem_toArray, List.getElem_cons_succ, List.getElem_cons_zero, List.setIfInBounds_toArray, List.set_cons_succ, List.set_cons_zero]
 refine wpAnyH_take (i := 2) (v := _) rfl (by as_aux_lemma => kernel_rfl) (by as_aux_lemma => kernel_rfl) (by as_aux_lemma => kernel_rfl) (fun _ _ _ h => h) (Or.inl ⟨by rfl, fun w h => by clear h; go_simp; (try with_reducible rfl)⟩) (by assumption) ?_
 simp only [Act.put, List.getElem_toArray, List.getElem_cons_succ, List.getElem_cons_zero, List.setIfInBounds_toArray, List.set_cons_succ, List.set_cons_zero]
 refine wpAnyH_take (i := 3) (v := _) rfl (by as_aux_lemma => kernel_rfl) (by as_aux_lemma => kernel_rfl) (by as_aux_lemma => kernel_rfl) (fun _ _ _ h => h) (Or.inl ⟨by rfl, fun w h => by clear h; go_simp; (try with_reducible rfl)⟩) (by assumption) ?_
 simp only [Act.put, List.getElem_toArray, List.getElem_cons_succ, List.getElem_cons_zero, List.setIfInBounds_toArray, List.set_cons_succ, List.set_cons_zero]
 refine wpAnyH_take (i := 4) (v := _) rfl (by as_aux_lemma => kernel_rfl) (by as_aux_lemma => kernel_rfl) (by as_aux_lemma => kernel_rfl) (fun _ _ _ h => h) (yieldsIf_load_at (by rfl) 38 (.tmp 5) rfl ⟨g5, 0, none⟩ rfl [.string pm.line, .string pm.conn, .slice A5 nn c5] _ (fun w h => HL5.out w h) Tryz.underlying38 rfl Tryz.sizeSPart) (by assumption) ?_
 simp only [Act.put, List.getElem_toArray, List.getElem_cons_succ, List.getElem_cons_zero, List.setIfInBounds_toArray, List.set_cons_succ, List.set_cons_zero]
 refine wpAnyH_take (i := 6) (v := _) rfl (by as_aux_lemma => kernel_rfl) (by as_aux_lemma => kernel_rfl) (by as_aux_lemma => kernel_rfl) (fun _ _ _ h => h) (yieldsIf_load_at (by rfl) 32 (.tmp 3) rfl ⟨g3, 0, none⟩ rfl [.string pm.line, .string pm.conn, .slice A3 nn c3] _ (fun w h => HL3.out w h) Tryz.underlying32 rfl Tryz.sizeRsPart) (by assumption) ?_
 simp only [Act.put, List.getElem_toArray, List.getElem_cons_succ, List.getElem_cons_zero, List.setIfInBounds_toArray, List.set_cons_succ, List.set_cons_zero]
 refine wpAnyH_ready (rs := [5]) (by as_aux_lemma => kernel_rfl) (by simp) ?_
 refine AllReadyH.cons (i := 5) rfl (fun K hK => ?_) AllReadyH.nil
 go_simp
 refine (HOU.out _ hHeld).mono ?_
 rintro e w9 ⟨A7, c7, rfl, ha9, hb9⟩
 refine hK.out _ _ (HKB.out _ _ hHeld hb9) (fun hHeld4 => ?_)
 have H7 := Lib.hid ha9
 clear ha9
 clear hK K hHeld
 have hHeld := hHeld4
 clear hHeld4
 generalize w9 = w7 at *
 refine wpAnyH_ready (rs := [7]) (by as_aux_lemma => kernel_rfl) (by simp) ?_
 refine AllReadyH.cons (i := 7) rfl (fun K hK => ?_) AllReadyH.nil
 go_simp
 refine (HSP.out _ A7 c7 hHeld H7.out).mono ?_
 rintro e w9 ⟨rfl, hb9⟩
 refine hK.out _ _ (HKB.out _ _ hHeld hb9) (fun hHeld4 => ?_)
 clear hK K hHeld
 have hHeld := hHeld4
 clear hHeld4
 generalize w9 = w8 at *
 refine wpAnyH_take (i := 8) (v := _) rfl (by as_aux_lemma => kernel_rfl) (by as_aux_lemma => kernel_rfl) (by as_aux_lemma => kernel_rfl) (fun _ _ _ h => h) (Or.inl ⟨by rfl, fun w h => by clear h; go_simp; (try with_reducible rfl)⟩) (by assumption) ?_
 simp only [Act.put, List.getElem_toArray, List.getElem_cons_succ, List.getElem_cons_zero, List.setIfInBounds_toArray, List.set_cons_succ, List.set_cons_zero]
 refine wpAnyH_take (i := 9) (v := _) rfl (by as_aux_lemma => kernel_rfl) (by as_aux_lemma => kernel_rfl) (by as_aux_lemma => kernel_rfl) (fun _ _ _ h => h) (Or.inl ⟨by rfl, fun w h => by clear h; go_simp; (try with_reducible rfl)⟩) (by assumption) ?_
 simp only [Act.put, List.getElem_toArray, List.getElem_cons_succ, List.getElem_cons_zero, List.setIfInBounds_toArray, List.set_cons_succ, List.set_cons_zero]
 refine wpAnyH_take (i := 10) (v := _) rfl (by as_aux_lemma => kernel_rfl) (by as_aux_lemma => kernel_rfl) (by as_aux_lemma => kernel_rfl) (fun _ _ _ h => h) (yieldsIf_load_at (by rfl) 28 (.tmp 1) rfl ⟨N, 0, none⟩ rfl M.toList _ (fun w h => HLM.out w h) Tryz.underlying28 rfl HSZL.out) (by assumption) ?_
 simp only [Act.put, List.getElem_toArray, List.getElem_cons_succ, List.getElem_cons_zero, List.setIfInBounds_toArray, List.set_cons_succ, List.set_cons_zero]
 refine wpAnyH_take (i := 12) (v := _) rfl (by as_aux_lemma => kernel_rfl) (by as_aux_lemma => kernel_rfl) (by as_aux_lemma => kernel_rfl) (fun _ _ _ h => h) (yieldsIf_load_at (by rfl) 28 (.tmp 1) rfl ⟨N, 0, none⟩ rfl M.toList _ (fun w h => HLM.out w h) Tryz.underlying28 rfl HSZL.out) (by assumption) ?_
 simp only [Act.put, List.getElem_toArray, List.getElem_cons_succ, List.getElem_cons_zero, List.setIfInBounds_toArray, List.set_cons_succ, List.set_cons_zero]
 refine wpAnyH_ready (rs := [11]) (by as_aux_lemma => kernel_rfl) (by simp) ?_
 refine AllReadyH.cons (i := 11) rfl (fun K hK => ?_) AllReadyH.nil
 go_simp
 refine (HGD.out _ hHeld).mono ?_
 rintro e w9 ⟨rfl, hb9⟩
 refine hK.out _ _ (HKB.out _ _ hHeld hb9) (fun hHeld4 => ?_)
 clear hK K hHeld
 have hHeld := hHeld4
 clear hHeld4
 generalize w9 = w10 at *
 refine wpAnyH_ready (rs := [13]) (by as_aux_lemma => kernel_rfl) (by simp) ?_
 refine AllReadyH.cons (i := 13) rfl (fun K hK => ?_) AllReadyH.nil
 go_simp
 refine (HRG.out _ hHeld).mono ?_
 rintro e w9 ⟨rfl, hb9⟩
 refine hK.out _ _ (HKB.out _ _ hHeld hb9) (fun hHeld4 => ?_)
 clear hK K hHeld
 have hHeld := hHeld4
 clear hHeld4
 generalize w9 = w11 at *
 refine wpAnyH_take (i := 14) (v := _) rfl (by as_aux_lemma => kernel_rfl) (by as_aux_lemma => kernel_rfl) (by as_aux_lemma => kernel_rfl) (fun _ _ _ h => h) (Or.inl ⟨by rfl, fun w h => by clear h; go_simp; (try with_reducible rfl)⟩) (by assumption) ?_
 simp only [Act.put, List.getElem_toArray, List.getElem_cons_succ, List.getElem_cons_zero, List.setIfInBounds_toArray, List.set_cons_succ, List.set_cons_zero]
 refine wpAnyH_take (i := 15) (v := _) rfl (by as_aux_lemma => kernel_rfl) (by as_aux_lemma => kernel_rfl) (by as_aux_lemma => kernel_rfl) (fun _ _ _ h => h) (Or.inl ⟨by rfl, fun w h => by clear h; go_simp; (try with_reducible rfl)⟩) (by assumption) ?_
 simp only [Act.put, List.getElem_toArray, List.getElem_cons_succ, List.getElem_cons_zero, List.setIfInBounds_toArray, List.set_cons_succ, List.set_cons_zero]
 refine wpAnyH_take (i := 16) (v := _) rfl (by as_aux_lemma => kernel_rfl) (by as_aux_lemma => kernel_rfl) (by as_aux_lemma => kernel_rfl) (fun _ _ _ h => h) (Or.inl ⟨by rfl, fun w h => by clear h; go_simp; (try with_reducible rfl)⟩) (by assumption) ?_
 simp only [Act.put, List.getElem_toArray, List.getElem_cons_succ, List.getElem_cons_zero, List.setIfInBounds_toArray, List.set_cons_succ, List.set_cons_zero]
 refine wpAnyH_done (by as_aux_lemma => kernel_rfl) ?_ _
 have HFIN := Lib.hid (HLO.out _ hHeld)
 clear hHeld
 go_wp2
 go_ret
 exact ⟨rfl, HFIN.out⟩
end Go.Proofs.YtbbedhecfipdjaaGreatDoor
