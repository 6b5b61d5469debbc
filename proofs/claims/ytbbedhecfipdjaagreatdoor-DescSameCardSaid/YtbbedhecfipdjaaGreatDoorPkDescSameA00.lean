import Derived.Test.YtbbedhecfipdjaaGreatDoorPkDescPrintsA00
import Derived.Test.YtbbedhecfipdjaaGreatDoorPkSameBA00
import Derived.Test.YtbbedhecfipdjaaGreatDoorPkDescPrintsA01
import Derived.Test.YtbbedhecfipdjaaGreatDoorPkDescPrintsA02
import Derived.Test.YtbbedhecfipdjaaGreatDoorPkDescPrintsA03
import Derived.Test.YtbbedhecfipdjaaGreatDoorPkDescPrintsA04
import Derived.Test.YtbbedhecfipdjaaGreatDoorPkDescPrintsA05
import Derived.Test.YtbbedhecfipdjaaGreatDoorPkDescPrintsA06
import Derived.Test.YtbbedhecfipdjaaGreatDoorPkDescPrintsA07
import Derived.Test.YtbbedhecfipdjaaGreatDoorPkDescPrintsA08
import Derived.Test.YtbbedhecfipdjaaGreatDoorPkDescPrintsA09
import Derived.Test.YtbbedhecfipdjaaGreatDoorPkDescPrintsA10
import Derived.Test.YtbbedhecfipdjaaGreatDoorPkDescPrintsA11
import Derived.Test.YtbbedhecfipdjaaGreatDoorPkDescPrintsA12
import Derived.Test.YtbbedhecfipdjaaGreatDoorPkDescPrintsA13
import Derived.Test.YtbbedhecfipdjaaGreatDoorPkDescPrintsA14
import Derived.Test.YtbbedhecfipdjaaGreatDoorPkDescPrintsA15
import Derived.Test.YtbbedhecfipdjaaGreatDoorPkDescPrintsA16
import Derived.Test.YtbbedhecfipdjaaGreatDoorPkDescPrintsA17
import Derived.Test.YtbbedhecfipdjaaGreatDoorPkSameBA01
import Derived.Test.YtbbedhecfipdjaaGreatDoorPkSameBA02
import Derived.Test.YtbbedhecfipdjaaGreatDoorPkSameBA03
import Derived.Test.YtbbedhecfipdjaaGreatDoorPkSameBA04
import Derived.Test.YtbbedhecfipdjaaGreatDoorPkSameBA05
import Derived.Test.YtbbedhecfipdjaaGreatDoorPkSameBA06
import Derived.OrdersHeld
import Derived.WalkKit
import Derived.Lib.Hide
import Derived.Test.YtbbedhecfipdjaaGreatDoorProg
import Derived.Deep.RegionHeld3
import Derived.Deep.MidRow
import Derived.ProofKit
import Derived.WalkSpells
import Derived.Below
import Derived.Deep.Draws
import Derived.Laws.Rows
import Derived.ArgAppend
import Derived.Laws.IdiomCopy
import Derived.Maps.AppendAt
import Derived.Deep.RegionLaw
import Derived.OwnWalk
import Derived.Outline
import Derived.Handy
import Derived.LoopTactic
import Derived.RegionTactic
import Derived.ChangeAlike
import Derived.BigRegion
import Derived.Deep.QuietTactic
import Derived.BigQuiet
import Derived.Deep.DeepMust
import Derived.Deep.CutRange
import Derived.Deep.DeepCutAuto
import Derived.Deep.LoopGhost
import Derived.StillTailTactics
import Derived.Laws.AppendOwnNone
import Derived.Lib.AppendZeros
import Derived.Laws.CopyOwn
import Derived.Laws.BytesArg
import Derived.Shelf.Abstract
import Derived.Laws.StructEq
import Derived.Lib.IndexMore
import Derived.Lib.Join
import Derived.Shelf.Strings.Builder1
import Derived.Shelf.Strings.Builder2
import Derived.Shelf.Strings.OnBuilder
import Derived.Shelf.Small.Strs
import Derived.Shelf.Strings.BuilderF
import Derived.Shelf.Strconv.Atoi
import Derived.Shelf.Strconv.Itoa0
import Derived.Shelf.Strconv.Itoa1
import Derived.Shelf.LaysM
import Derived.Shelf.Strconv.Itoa2
import Derived.Shelf.Strconv.Itoa3
import Derived.Shelf.Strconv.AtoiErrFast
import Derived.Shelf.Strconv.ParseIntEmpty
import Derived.Shelf.Strconv.AtoiFail
import Derived.Shelf.Strconv.Clone
import Derived.Shelf.Strconv.SyntaxError
import Derived.Shelf.LaysC
import Derived.Shelf.Strconv.ToError
import Derived.Shelf.Strconv.Lower
import Derived.Shelf.Strconv.ParseUint10
import Derived.Shelf.Strconv.ParseUint10Empty
import Derived.Shelf.Strconv.ParseUint10Any
import Derived.Shelf.Strconv.ParseInt10
import Derived.Shelf.Strconv.AtoiLong
import Derived.Shelf.Strconv.AtoiInnerAll
import Derived.Shelf.Strconv.RangeError
import Derived.Shelf.Strconv.ToErrorRange
import Derived.Shelf.Strconv.AtoiAll
import Derived.Ground.MpProg
import Derived.Shelf.Pu.ParseUintPublic10
import Derived.Shelf.Strings.Search1
import Derived.Shelf.Strings.Search2
import Derived.Shelf.Strings.Search3
import Derived.Shelf.Strings.Cut
import Derived.Shelf.Strings.Count
import Derived.Shelf.Strings.Shaped
import Derived.Shelf.Strings.Prefix
import Derived.Shelf.Strings.Split
import Derived.Shelf.Unicode.DecodeSlow
import Derived.Shelf.Slices.Equal
import Derived.Lib.SmallJoins
import Derived.Lib.AppendIntMem
import Derived.Deep.Slices
import Derived.Lib.SplitLaws
import Derived.Deep.Fields
import Derived.OpenShut
import Derived.ChangeOld
import Derived.ChangeSame
import Derived.SizedLaws
import Derived.HandedShaped
import Derived.WalkMore
import Derived.RangeFuncNested
import Derived.Deep.CutBlock
import Derived.Great.BuildSlice
import Derived.RangeFuncBound
import Derived.RangeFuncCalls
import Derived.RangeFuncLeaves
import Derived.OwnWalkIn
import Derived.TacticsInMore
import Derived.LoopNIn
import Derived.LoopIn
import Derived.Lib.LaidTab
import Derived.ChangeArms
import Derived.LaidLaws
namespace Go.Proofs.YtbbedhecfipdjaaGreatDoor
open Go.RowKit
set_option linter.unusedVariables false
set_option linter.unusedSimpArgs false
theorem Tryz.infoMedia : (Tryz.prog.info? 28).map (fun i => (i.zero, i.size, i.bytes)) = some (some (.agg #[.int .i64 0, .int .i64 0, .string ⟨#[]⟩, .int .i64 0, .slice none 0 0, .slice none 0 0, .slice none 0 0, .bool false, .slice none 0 0, .slice none 0 0, .int .i64 0]), 11, 176) := by kernel_rfl
theorem own_emptyT {b : Nat} (W0 : World) (t : TypeId) (sz : Nat) (hb : b ≤ W0.heap.size) : Own (W0.alloc (.cells #[] t)) b t sz (.slice (some ⟨W0.heap.size, 0, none⟩) 0 0) [] :=
 ⟨⟨by simp, .inr ⟨W0.heap.size, 0, #[], rfl, hb, Whole.new W0 t #[], Nat.le_refl _, by unfold maxLen; omega, by simp, by simp⟩⟩, fun r hr => by cases hr⟩
theorem idx_modL (n : Nat) (i0 : Int) (h1 : 1 ≤ n) (hb : n ≤ 1000000000000) : ∃ i : Nat, IntKind.i64.wrap ((IntKind.u64.wrap i0).tmod (n : Int)) = (i : Int) ∧ i < n := by
 have h0 : 0 ≤ IntKind.u64.wrap i0 := by
  unfold IntKind.wrap
  simp [IntKind.bits, IntKind.signed]
  omega
 rw [Int.tmod_eq_emod_of_nonneg h0]
 have h1 := Int.emod_nonneg (IntKind.u64.wrap i0) (show (n : Int) ≠ 0 by omega)
 have h2 := Int.emod_lt_of_pos (IntKind.u64.wrap i0) (show (0 : Int) < (n : Int) by omega)
 generalize IntKind.u64.wrap i0 % (n : Int) = r at *
 refine ⟨r.toNat, ?_, by omega⟩
 unfold IntKind.wrap
 simp [IntKind.bits, IntKind.signed]
 omega
theorem own_medias2 {W : World} {base : Nat} {v : Value} {rs : List (List Value)} {L : List MediaS} (h : Own W base 28 11 v rs) (hl : L.length = rs.length) (hv : ∀ (i : Nat) (r : List Value) (m : MediaS), rs[i]? = some r → L[i]? = some m → ∃ vC vE vR vS vY, MediaV W W.heap.size r.toArray m vC vE vR vS vY) : MediasV W W.heap.size v L :=
 h.rows (Nat.le_refl _) hl fun i r x f hr hx hf => by
  obtain ⟨vC, vE, vR, vS, vY, hM⟩ := hv i r x hr hx
  exact ⟨r.toArray, vC, vE, vR, vS, vY, hM, fun j hj => by rw [hf j hj, List.getElem?_toArray]⟩
theorem own_texts2 {W : World} {base : Nat} {v : Value} {L : List ByteArray} (h : Own W base 9 1 v (L.map fun s => [Value.string s])) : TextsV W W.heap.size v L := by
 refine Own.rows h (L := L) (Nat.le_refl _) (by simp) (fun i r x f hr hx hf => ?_)
 rw [List.getElem?_map, hx] at hr
 obtain rfl : [Value.string x] = r := by simpa using hr
 exact hf 0 (by decide)
theorem media_list {w : World} {B : Nat} {r : List Value} {m : MediaS} {vC vE vR vS vY : Value} (h : MediaV w B r.toArray m vC vE vR vS vY) : r = [.int .i64 m.kind, .int .i64 m.port, .string m.mid, .int .i64 m.dir, vC, vE, vR, .bool m.sending, vS, vY, .int .i64 m.sctp] := by
 have := congrArg Array.toList h.form
 simpa using this
def PostC (N gC : Nat) (w W : World) (DA DB DC : Array Value) (v : Value) : Prop := ∃ L' : List MediaS, Below N w W ∧ Whole W N 62 DA ∧ Whole W (N + 1) 62 DB ∧ Whole W gC 62 DC ∧ MediasV W W.heap.size v L'
set_option maxHeartbeats 12800000 in
set_option maxRecDepth 100000 in
theorem same8_walk (X : Array Value) (a : DescS) (vB vM : Value) (Y : Array Value) (b : DescS) (uB uM : Value) (k0 : Int) (w : World) (h1 : DescV w w.heap.size X a vB vM) (hz1 : SizD a) (h2 : DescV w w.heap.size Y b uB uM) (hz2 : SizD b) (hk0 : (Lit.int .i64 k0).wf = true) (hE : Env w) (h7 : 7 ≤ w.heap.size) :
 Calls Tryz.prog 12 #[.agg X, .agg Y, .int .i64 k0] w fun e w' => e = .returned (.bool true) ∧ Below w.heap.size w w' := by
 obtain ⟨AB, cB, hvB, -⟩ := Rows.form h1.bundle
 obtain ⟨AM, cM, hvM, hcM, hmM, hAM⟩ := Rows.form h1.media
 obtain ⟨AB2, cB2, hvB2, -⟩ := Rows.form h2.bundle
 obtain ⟨AM2, cM2, hvM2, -⟩ := Rows.form h2.media
 obtain rfl := h1.form
 obtain rfl := h2.form
 obtain ⟨n, hn⟩ : ∃ n, a.bundle.length = n := ⟨_, rfl⟩
 obtain ⟨nM, hnM⟩ : ∃ n, a.media.length = n := ⟨_, rfl⟩
 obtain ⟨n2, hn2⟩ : ∃ n, b.bundle.length = n := ⟨_, rfl⟩
 obtain ⟨nM2, hnM2⟩ : ∃ n, b.media.length = n := ⟨_, rfl⟩
 rw [hn] at hvB
 rw [hnM] at hvM hcM
 rw [hn2] at hvB2
 rw [hnM2] at hvM2
 subst hvB hvM hvB2 hvM2
 have HDA := Lib.hid h1
 have HDB := Lib.hid h2
 have HAM := Lib.hid hAM
 have HNM := Lib.hid hnM
 have HZA := Lib.hid hz1
 have hb0 := two_new (w := w) 62 62 #[.int .u64 a.id, .int .u64 a.ver, .slice AB n cB, .string a.name, .string a.pass, .slice AM nM cM] #[.int .u64 b.id, .int .u64 b.ver, .slice AB2 n2 cB2, .string b.name, .string b.pass, .slice AM2 nM2 cM2]
 have H0 := Lib.hid (And.intro hb0 (And.intro ((Whole.new w 62 #[.int .u64 a.id, .int .u64 a.ver, .slice AB n cB, .string a.name, .string a.pass, .slice AM nM cM]).alloc (.cells #[.int .u64 b.id, .int .u64 b.ver, .slice AB2 n2 cB2, .string b.name, .string b.pass, .slice AM2 nM2 cM2] 62)) (Whole.new2 w (.cells #[.int .u64 a.id, .int .u64 a.ver, .slice AB n cB, .string a.name, .string a.pass, .slice AM nM cM] 62) 62 #[.int .u64 b.id, .int .u64 b.ver, .slice AB2 n2 cB2, .string b.name, .string b.pass, .slice AM2 nM2 cM2])))
 have HAW : Hid (∀ W, Below w.heap.size w W → Calls Tryz.prog 27 #[] W fun e w' => e = .returned (.bool true) ∧ Below W.heap.size W w') := Lib.hid fun W hW => awake8_any W (hE.under hW) (Nat.le_trans h7 hW.size)
 have HKB : Hid (∀ W W', Below w.heap.size w W → Below W.heap.size W W' → Below w.heap.size w W') := Lib.hid fun W W' h1 h2 => h1.trans (h2.mono h1.size)
 obtain ⟨N, hN⟩ : ∃ N, w.heap.size = N := ⟨_, rfl⟩
 have HN := Lib.hid hN
 rw [hN] at H0 HAW HKB HDA HDB
 have hfew : nM ≤ 799644820177 := by have := hz1.few; omega
 unfold maxLen at hmM
 clear h1 h2 hz1 hz2 hE h7 hb0 hn hnM hn2 hnM2 hN hAM hk0
 go_enter Tryz.func12, Tryz.ntmps12
 go_upto_region 1 with fail
 simp only [HN.out, Nat.add_assoc, Nat.reduceAdd]
 generalize (w.alloc (.cells #[.int .u64 a.id, .int .u64 a.ver, .slice AB n cB, .string a.name, .string a.pass, .slice AM nM cM] 62)).alloc (.cells #[.int .u64 b.id, .int .u64 b.ver, .slice AB2 n2 cB2, .string b.name, .string b.pass, .slice AM2 nM2 cM2] 62) = w0 at *
 go_upto_region 3 with (go_at_call 27; (with_reducible refine (HAW.out _ H0.out.1).mono ?_); rintro e w1 ⟨rfl, hb1⟩; have H1 : Hid (Below N w w1 ∧ Whole w1 N 62 #[.int .u64 a.id, .int .u64 a.ver, .slice AB n cB, .string a.name, .string a.pass, .slice AM nM cM] ∧ Whole w1 (N + 1) 62 #[.int .u64 b.id, .int .u64 b.ver, .slice AB2 n2 cB2, .string b.name, .string b.pass, .slice AM2 nM2 cM2]) := Lib.hid ⟨HKB.out _ _ H0.out.1 hb1, H0.out.2.1.under hb1, H0.out.2.2.under hb1⟩; clear hb1; dsimp only)
 go_upto_region 4 with (first
  | ((with_reducible refine wpList_load_all ?_ 62 (.tmp 3) ?_ H1.out.2.1 ?_ Tryz.sizeDesc ?_ Tryz.underlying62 ?_ ?_); (with_reducible rfl); (with_reducible rfl); rfl; rfl; rfl)
  | ((with_reducible refine wpList_storeS #[.int .u64 a.id, .int .u64 a.ver, .slice AB n cB, .string a.name, .string a.pass, .slice AM nM cM] ?_ 62 (.tmp 7) (.tmp 11) ?_ ?_ ?_ (Whole.new _ _ _) Tryz.sizeDesc ?_ ?_ ?_ ?_); (with_reducible rfl); (with_reducible rfl); rfl; rfl; rfl; rfl; rfl))
 have H3 : Hid (Below N w ((w1.alloc (.cells #[.int .u64 0, .int .u64 0, .slice none 0 0, .string ⟨#[]⟩, .string ⟨#[]⟩, .slice none 0 0] 62)).setRow w1.heap.size #[.int .u64 a.id, .int .u64 a.ver, .slice AB n cB, .string a.name, .string a.pass, .slice AM nM cM]) ∧ Whole ((w1.alloc (.cells #[.int .u64 0, .int .u64 0, .slice none 0 0, .string ⟨#[]⟩, .string ⟨#[]⟩, .slice none 0 0] 62)).setRow w1.heap.size #[.int .u64 a.id, .int .u64 a.ver, .slice AB n cB, .string a.name, .string a.pass, .slice AM nM cM]) N 62 #[.int .u64 a.id, .int .u64 a.ver, .slice AB n cB, .string a.name, .string a.pass, .slice AM nM cM] ∧ Whole ((w1.alloc (.cells #[.int .u64 0, .int .u64 0, .slice none 0 0, .string ⟨#[]⟩, .string ⟨#[]⟩, .slice none 0 0] 62)).setRow w1.heap.size #[.int .u64 a.id, .int .u64 a.ver, .slice AB n cB, .string a.name, .string a.pass, .slice AM nM cM]) (N + 1) 62 #[.int .u64 b.id, .int .u64 b.ver, .slice AB2 n2 cB2, .string b.name, .string b.pass, .slice AM2 nM2 cM2] ∧ Whole ((w1.alloc (.cells #[.int .u64 0, .int .u64 0, .slice none 0 0, .string ⟨#[]⟩, .string ⟨#[]⟩, .slice none 0 0] 62)).setRow w1.heap.size #[.int .u64 a.id, .int .u64 a.ver, .slice AB n cB, .string a.name, .string a.pass, .slice AM nM cM]) w1.heap.size 62 #[.int .u64 a.id, .int .u64 a.ver, .slice AB n cB, .string a.name, .string a.pass, .slice AM nM cM] ∧ N + 1 < w1.heap.size) := Lib.hid (by
  have l1 := H1.out.2.1.lt
  have l2 := H1.out.2.2.lt
  refine ⟨below_row (H1.out.1.alloc (by omega) _) (by omega) _, (H1.out.2.1.alloc _).farRow (by omega) _, (H1.out.2.2.alloc _).farRow (by omega) _, (Whole.new _ _ _).row _, l2⟩)
 generalize ((w1.alloc (.cells #[.int .u64 0, .int .u64 0, .slice none 0 0, .string ⟨#[]⟩, .string ⟨#[]⟩, .slice none 0 0] 62)).setRow w1.heap.size #[.int .u64 a.id, .int .u64 a.ver, .slice AB n cB, .string a.name, .string a.pass, .slice AM nM cM]) = w3 at *
 generalize w1.heap.size = gC at *
 obtain ⟨rs, hrl, hr11, hr1, hrv, hrc⟩ := MediasV.rows11 HDA.out.media HNM.out
 have HRS := Lib.hid (And.intro hrl (And.intro hr11 (And.intro hr1 hrv)))
 have HRC : Hid (∀ W, Below N w W → ∀ ad, AM = some ad → ∀ (i : Nat) (r : List Value), rs[i]? = some r → ∀ j, j < 11 → W.cell? (ad.add (i * 11 + j)) = r[j]?) := Lib.hid fun W hW ad ha i r hi j hj => by
  have hil : i < a.media.length := by
   have := (List.getElem?_eq_some_iff.1 hi).1
   rw [HNM.out]
   omega
  obtain ⟨ad', _, _, _, _, _, _, _, e1, had, -, -⟩ := MediasV.at_ HDA.out.media hil
  injection e1 with e1 _ _
  rw [ha] at e1
  obtain rfl := Option.some.inj e1
  exact (hW.cell (p := ad.add (i * 11 + j)) (by rw [add_block]; exact had)).trans (hrc ad ha i r hi j hj)
 have p5 : (w3.alloc (.cells #[] 28)).cell? ⟨N, 5, none⟩ = some (.slice AM nM cM) := (H3.out.2.1.alloc _).cell 5
 have HE9 := Lib.hid (own_emptyT w3 28 11 (Nat.le_refl _))
 have HNA : Hid (w3.heap.size ≤ (w3.alloc (.cells #[] 28)).heap.size ∧ N ≤ w3.heap.size) := Lib.hid (by rw [World.size_alloc]; have := H3.out.2.1.lt; omega)
 have HRA : Hid (∀ ad', AM = some ad' → ∀ (i : Nat) (r : List Value), rs[i]? = some r → ∀ j, j < 11 → (w3.alloc (.cells #[] 28)).cell? (ad'.add (i * 11 + j)) = r[j]?) := Lib.hid (HRC.out _ (H3.out.1.alloc HNA.out.2 _))
 clear hrl hr11 hr1 hrv hrc
 go_upto_region 5 with (at_builtin; refine wpList_appendRows (ks := []) (rs := rs) (base := w3.heap.size) rfl (.tmp 12) (.tmp 14) rfl Tryz.underlying60 Tryz.infoMedia rfl (Nat.zero_lt_succ _) rfl HE9.out rfl HAM.out hcM HRS.out.1 HRS.out.2.1 HRS.out.2.2.1 HRA.out (by simp only [List.length_nil]; omega) (by simp only [List.length_nil]; omega) HNA.out.1 ?_; intro v5 w5 ho5 hg5 hn5; rw [List.nil_append] at ho5; have hb5 : Below w3.heap.size w3 w5 := ((Below.refl _ w3).alloc (Nat.le_refl _) _).grown hg5 HNA.out.1 (fun j hj => (Own.lt HE9.out hj).1); obtain ⟨AX, kX, hv5, -⟩ := Own.form ho5; rw [HRS.out.1] at hv5; subst hv5; have H5 : Hid (Below w3.heap.size w3 w5 ∧ Own w5 w3.heap.size 28 11 (.slice AX nM kX) rs) := Lib.hid ⟨hb5, ho5⟩; have x5 : w5.cell? ⟨gC, 5, none⟩ = some (.slice AM nM cM) := (H3.out.2.2.2.1.under hb5).cell 5; have y5 := (H3.out.2.2.2.1.under hb5).frz 5; clear ho5 hg5 hn5 hb5)
 have HL : Hid (gC < w3.heap.size ∧ N + 1 < gC) := Lib.hid ⟨H3.out.2.2.2.1.lt, H3.out.2.2.2.2⟩
 have H6 : Hid (Below N w (w5.setCell ⟨gC, 5, none⟩ (.slice AX nM kX)) ∧ Whole (w5.setCell ⟨gC, 5, none⟩ (.slice AX nM kX)) N 62 #[.int .u64 a.id, .int .u64 a.ver, .slice AB n cB, .string a.name, .string a.pass, .slice AM nM cM] ∧ Whole (w5.setCell ⟨gC, 5, none⟩ (.slice AX nM kX)) (N + 1) 62 #[.int .u64 b.id, .int .u64 b.ver, .slice AB2 n2 cB2, .string b.name, .string b.pass, .slice AM2 nM2 cM2] ∧ Whole (w5.setCell ⟨gC, 5, none⟩ (.slice AX nM kX)) gC 62 #[.int .u64 a.id, .int .u64 a.ver, .slice AB n cB, .string a.name, .string a.pass, .slice AX nM kX] ∧ Own (w5.setCell ⟨gC, 5, none⟩ (.slice AX nM kX)) w3.heap.size 28 11 (.slice AX nM kX) rs) := Lib.hid (by
  have hl := HL.out
  have h1 := H3.out.2.2.2.1.under H5.out.1
  exact ⟨(H3.out.1.trans (H5.out.1.mono HNA.out.2)).setCell (p := ⟨gC, 5, none⟩) (by show N ≤ gC; omega) _, (H3.out.2.1.under H5.out.1).far (p := ⟨gC, 5, none⟩) (by show N ≠ gC; omega) _, (H3.out.2.2.1.under H5.out.1).far (p := ⟨gC, 5, none⟩) (by show N + 1 ≠ gC; omega) _, h1.set 5 _, H5.out.2.far (p := ⟨gC, 5, none⟩) (H5.out.2.apart h1 (by decide)) _⟩)
 clear x5 y5 p5 HE9 HRA H5 H3
 generalize w5.setCell ⟨gC, 5, none⟩ (.slice AX nM kX) = w6 at *
 have c5 : w6.cell? ⟨gC, 5, none⟩ = some (.slice AX nM kX) := H6.out.2.2.2.1.cell 5
 go_upto_if 20 with fail
 go_cut [] from 8 to 76 (fun wc => PostC N gC w wc #[.int .u64 a.id, .int .u64 a.ver, .slice AB n cB, .string a.name, .string a.pass, .slice AM nM cM] #[.int .u64 b.id, .int .u64 b.ver, .slice AB2 n2 cB2, .string b.name, .string b.pass, .slice AM2 nM2 cM2] #[.int .u64 a.id, .int .u64 a.ver, .slice AB n cB, .string a.name, .string a.pass, .slice AX nM kX] (.slice AX nM kX))
 case first =>
  by_cases h0 : nM = 0
  · have HPC : Hid (PostC N gC w w6 #[.int .u64 a.id, .int .u64 a.ver, .slice AB n cB, .string a.name, .string a.pass, .slice AM nM cM] #[.int .u64 b.id, .int .u64 b.ver, .slice AB2 n2 cB2, .string b.name, .string b.pass, .slice AM2 nM2 cM2] #[.int .u64 a.id, .int .u64 a.ver, .slice AB n cB, .string a.name, .string a.pass, .slice AX nM kX] (.slice AX nM kX)) := Lib.hid ⟨[], H6.out.1, H6.out.2.1, H6.out.2.2.1, H6.out.2.2.2.1, own_medias2 H6.out.2.2.2.2 (by rw [HRS.out.1, h0]; rfl) (fun i r m hr hm => by cases hm)⟩
    have hd : decide (0 < (nM : Int)) = false := by simp; omega
    have hd2 : ¬ (0 : Int) < (nM : Int) := by omega
    clear h0 c5
    go_wp2
    go_meet
    exact HPC.out
  · have hd : decide (0 < (nM : Int)) = true := by simp; omega
    have hd2 : (0 : Int) < (nM : Int) := by omega
    obtain ⟨i, hi, hin⟩ := idx_modL nM k0 (by omega) (by omega)
    obtain ⟨r0, hr0⟩ : ∃ r, rs[i]? = some r := ⟨_, List.getElem?_eq_getElem (by rw [HRS.out.1]; exact hin)⟩
    have HR0 := Lib.hid hr0
    obtain ⟨gA, kX', hv6, -, hgA, -⟩ := H6.out.2.2.2.2.at_ hr0
    injection hv6 with e1 e2 e3
    clear e2 e3
    subst e1
    have HGA := Lib.hid hgA
    have hnz : (nM : Int) ≠ 0 := by omega
    have hn00 : (nM = 0) = False := by simp; omega
    have hwn : IntKind.u64.wrap (nM : Int) = (nM : Int) := by unfold IntKind.wrap; simp [IntKind.bits, IntKind.signed]; omega
    have hi1 : (i : Int) < (nM : Int) := by omega
    have hi2 : (0 : Int) ≤ (i : Int) := by omega
    clear h0 hr0 hgA
    go_upto_region 6 with fail
    go_region_held3 (fun W => W.cell? ⟨gC, 5, none⟩ = some (.slice (some ⟨gA, 0, none⟩) nM kX)) (first | assumption | (simp only [World.cell?_drew]; assumption)) (first | fail)
    clear c5 hnz hn00 hwn hd hd2 hi
    go_upto_if 34 with fail
    obtain ⟨ma, hma⟩ : ∃ m, a.media[i]? = some m := ⟨_, List.getElem?_eq_getElem (by rw [HNM.out]; exact hin)⟩
    have HMA := Lib.hid hma
    obtain ⟨vC, vE, vR, vS, vY, hM⟩ := HRS.out.2.2.2 i r0 ma HR0.out hma
    have hl0 := media_list hM
    obtain ⟨AR, cR, hvR, hcR, hmR, hAR⟩ := Rows.form hM.rids
    obtain ⟨nR, hnR⟩ : ∃ n, ma.rids.length = n := ⟨_, rfl⟩
    rw [hnR] at hvR hcR
    subst hvR
    have HM := Lib.hid hM
    have HR1 : Hid (rs[i]? = some [.int .i64 ma.kind, .int .i64 ma.port, .string ma.mid, .int .i64 ma.dir, vC, vE, .slice AR nR cR, .bool ma.sending, vS, vY, .int .i64 ma.sctp]) := Lib.hid (by rw [← hl0]; exact HR0.out)
    have HM1 : Hid (MediaV w N (#[.int .i64 ma.kind, .int .i64 ma.port, .string ma.mid, .int .i64 ma.dir, vC, vE, .slice AR nR cR, .bool ma.sending, vS, vY, .int .i64 ma.sctp] : Array Value) ma vC vE (.slice AR nR cR) vS vY) := Lib.hid (by rw [hl0] at hM; exact hM)
    have HNR := Lib.hid hnR
    have HAR := Lib.hid hAR
    have hnR2 : nR ≤ 8796093021952 := by have := (HZA.out.media ma (List.mem_of_getElem? hma)).counts.2.2.1; omega
    have HO7 : Hid (Own w6.drew w3.heap.size 28 11 (.slice (some ⟨gA, 0, none⟩) nM kX) rs) := Lib.hid H6.out.2.2.2.2.drew
    have H7 : Hid (Below N w w6.drew ∧ Whole w6.drew N 62 #[.int .u64 a.id, .int .u64 a.ver, .slice AB n cB, .string a.name, .string a.pass, .slice AM nM cM] ∧ Whole w6.drew (N + 1) 62 #[.int .u64 b.id, .int .u64 b.ver, .slice AB2 n2 cB2, .string b.name, .string b.pass, .slice AM2 nM2 cM2] ∧ Whole w6.drew gC 62 #[.int .u64 a.id, .int .u64 a.ver, .slice AB n cB, .string a.name, .string a.pass, .slice (some ⟨gA, 0, none⟩) nM kX]) := Lib.hid ⟨H6.out.1.drew, H6.out.2.1.drew, H6.out.2.2.1.drew, H6.out.2.2.2.1.drew⟩
    clear hM hl0 hma hnR hAR HM HR0 H6
    generalize w6.drew = w7 at *
    generalize k0.tmod 5 = r
    obtain ⟨g', c'', e1, -, -, -, -, -, hat, hfz⟩ := HO7.out.at_ HR1.out
    injection e1 with e1 e1n e1c
    obtain rfl : gA = g' := by injection e1 with e1; injection e1
    have HAT := Lib.hid (And.intro hat hfz)
    clear e1 e1n e1c hat hfz
    have HLW : Hid (N ≤ w7.heap.size ∧ w3.heap.size ≤ gA ∧ gA < w7.heap.size) := Lib.hid ⟨by have := H7.out.2.1.lt; omega, HO7.out.lt rfl⟩
    have HTM : Hid (∀ (V W : World) (j : Nat) (v : Value) (m' : MediaS), Below w7.heap.size w7 V → W = V.setCell ⟨gA, i * 11 + j, none⟩ v → j < 11 → (MediaV W W.heap.size (#[.int .i64 ma.kind, .int .i64 ma.port, .string ma.mid, .int .i64 ma.dir, vC, vE, .slice AR nR cR, .bool ma.sending, vS, vY, .int .i64 ma.sctp] : Array Value) ma vC vE (.slice AR nR cR) vS vY → ∃ uC uE uR uS uY, MediaV W W.heap.size ([.int .i64 ma.kind, .int .i64 ma.port, .string ma.mid, .int .i64 ma.dir, vC, vE, .slice AR nR cR, .bool ma.sending, vS, vY, .int .i64 ma.sctp].set j v).toArray m' uC uE uR uS uY) → PostC N gC w W #[.int .u64 a.id, .int .u64 a.ver, .slice AB n cB, .string a.name, .string a.pass, .slice AM nM cM] #[.int .u64 b.id, .int .u64 b.ver, .slice AB2 n2 cB2, .string b.name, .string b.pass, .slice AM2 nM2 cM2] #[.int .u64 a.id, .int .u64 a.ver, .slice AB n cB, .string a.name, .string a.pass, .slice (some ⟨gA, 0, none⟩) nM kX] (.slice (some ⟨gA, 0, none⟩) nM kX)) := Lib.hid fun V W j v m' hV hW hj hm => by
     subst hW
     have hl := HL.out
     have hn := HNA.out
     have hg := HLW.out
     have hil : i < rs.length := (List.getElem?_eq_some_iff.1 HR1.out).1
     have hb : Below N w (V.setCell ⟨gA, i * 11 + j, none⟩ v) := (H7.out.1.trans (hV.mono hg.1)).setCell (p := ⟨gA, i * 11 + j, none⟩) (by show N ≤ gA; omega) _
     have hs : N ≤ (V.setCell ⟨gA, i * 11 + j, none⟩ v).heap.size := by rw [World.size_setCell]; have := hV.size; omega
     refine ⟨a.media.set i m', hb, (H7.out.2.1.under hV).far (p := ⟨gA, i * 11 + j, none⟩) (by show N ≠ gA; omega) _, (H7.out.2.2.1.under hV).far (p := ⟨gA, i * 11 + j, none⟩) (by show N + 1 ≠ gA; omega) _, (H7.out.2.2.2.under hV).far (p := ⟨gA, i * 11 + j, none⟩) (by show gC ≠ gA; omega) _, own_medias2 ((HO7.out.under hV).put (g := gA) rfl HR1.out hj v) (by rw [List.length_set, List.length_set, HRS.out.1, HNM.out]) (fun k r m hr hm' => ?_)⟩
     by_cases e : i = k
     · subst e
       rw [List.getElem?_set_self hil] at hr
       rw [List.getElem?_set_self (by rw [HNM.out]; exact hin)] at hm'
       obtain rfl := Option.some.inj hr
       obtain rfl := Option.some.inj hm'
       exact hm ((HM1.out.below hb).more hs)
     · rw [List.getElem?_set_ne e] at hr hm'
       obtain ⟨vC, vE, vR, vS, vY, hM⟩ := HRS.out.2.2.2 k r m hr hm'
       exact ⟨vC, vE, vR, vS, vY, (hM.below hb).more hs⟩
    by_cases q0 : r = 0
    · subst q0
      have f0 : ((0 : Int) == 0) = true := by simp
      have c3 : w7.cell? ⟨gA, i * 11 + 3, none⟩ = some (.int .i64 ma.dir) := HAT.out.1 3 (by decide)
      have f3 := HAT.out.2 (i * 11 + 3)
      go_wp2
      go_meet
      exact HTM.out w7 _ 3 _ { ma with dir := wrap64 (ma.dir + 1) } (Below.refl _ _) rfl (by decide) fun h => ⟨vC, vE, .slice AR nR cR, vS, vY, ⟨rfl, h.codecs, h.exts, h.rids, h.sources, h.crypto⟩⟩
    by_cases q1 : r = 1
    · subst q1
      have f0 : ((1 : Int) == 0) = false := by simp
      have f1 : ((1 : Int) == 1) = true := by simp
      have c3 : w7.cell? ⟨gA, i * 11 + 2, none⟩ = some (.string ma.mid) := HAT.out.1 2 (by decide)
      have hcc : ¬ 9223372036854775807 < ma.mid.size + 1 := by have := (HZA.out.media ma (List.mem_of_getElem? HMA.out)).mid; omega
      have f3 := HAT.out.2 (i * 11 + 2)
      go_wp2
      go_meet
      exact HTM.out w7 _ 2 _ { ma with mid := ma.mid ++ ⟨#[120]⟩ } (Below.refl _ _) rfl (by decide) fun h => ⟨vC, vE, .slice AR nR cR, vS, vY, ⟨rfl, h.codecs, h.exts, h.rids, h.sources, h.crypto⟩⟩
    by_cases q2 : r = 2
    · subst q2
      have f0 : ((2 : Int) == 0) = false := by simp
      have f1 : ((2 : Int) == 1) = false := by simp
      have f2 : ((2 : Int) == 2) = true := by simp
      have c3 : w7.cell? ⟨gA, i * 11 + 7, none⟩ = some (.bool ma.sending) := HAT.out.1 7 (by decide)
      have f3 := HAT.out.2 (i * 11 + 7)
      go_wp2
      go_meet
      exact HTM.out w7 _ 7 _ { ma with sending := !ma.sending } (Below.refl _ _) rfl (by decide) fun h => ⟨vC, vE, .slice AR nR cR, vS, vY, ⟨rfl, h.codecs, h.exts, h.rids, h.sources, h.crypto⟩⟩
    have g0 : (r == 0) = false := by simpa using q0
    have g1 : (r == 1) = false := by simpa using q1
    have g2 : (r == 2) = false := by simpa using q2
    by_cases q3 : r = 3
    · subst q3
      have g3 : ((3 : Int) == 3) = true := by simp
      have c6 : w7.cell? ⟨gA, i * 11 + 6, none⟩ = some (.slice AR nR cR) := HAT.out.1 6 (by decide)
      have f6 := HAT.out.2 (i * 11 + 6)
      obtain ⟨rR, hrR⟩ : ∃ l : List (List Value), (ma.rids.map fun s => [Value.string s]) = l := ⟨_, rfl⟩
      have HRR := Lib.hid hrR
      have HRL : Hid (rR.length = nR ∧ (∀ r ∈ rR, r.length = 1) ∧ (∀ r ∈ rR, ∀ u ∈ r, u.oneCell' = true)) := Lib.hid (by
       subst hrR
       refine ⟨by rw [List.length_map, HNR.out], fun r hr => ?_, fun r hr u hu => ?_⟩
       · obtain ⟨s, -, rfl⟩ := List.mem_map.1 hr
         rfl
       · obtain ⟨s, -, rfl⟩ := List.mem_map.1 hr
         simp only [List.mem_singleton] at hu
         subst hu
         rfl)
      have HRQ : Hid (∀ ad, AR = some ad → ∀ (i : Nat) (r : List Value), rR[i]? = some r → ∀ j, j < 1 → (w7.alloc (.cells #[] 9)).cell? (ad.add (i * 1 + j)) = r[j]?) := Lib.hid fun ad ha i r hr j hj => by
       obtain rfl : j = 0 := by omega
       rw [← HRR.out, List.getElem?_map] at hr
       obtain ⟨s, hs, rfl⟩ := Option.map_eq_some_iff.1 hr
       have hil := (List.getElem?_eq_some_iff.1 hs).1
       obtain ⟨ad', c', e1, hlt, hc⟩ := HM1.out.rids.at_ hil
       injection e1 with e1 _ _
       rw [ha] at e1
       obtain rfl := Option.some.inj e1
       have e2 : ma.rids.getD i default = s := by rw [List.getD_eq_getElem?_getD, hs]; rfl
       rw [e2] at hc
       rw [Nat.mul_one, Nat.add_zero]
       exact ((H7.out.1.alloc HLW.out.1 _).cell (p := ad.add i) (by rw [add_block]; exact hlt)).trans hc
      have HE8 := Lib.hid (own_emptyT w7 9 1 (Nat.le_refl _))
      have HS8 : Hid (w7.heap.size ≤ (w7.alloc (.cells #[] 9)).heap.size) := Lib.hid (by rw [World.size_alloc]; omega)
      have c6b : (w7.alloc (.cells #[] 9)).cell? ⟨gA, i * 11 + 6, none⟩ = some (.slice AR nR cR) := (((Below.refl w7.heap.size w7).alloc (Nat.le_refl _) (.cells #[] 9)).cell (p := ⟨gA, i * 11 + 6, none⟩) HLW.out.2.2).trans c6
      clear hrR
      go_wp2_with (at_builtin; go_loud (first
       | (refine wpList_appendRows (ks := []) (rs := rR) (base := w7.heap.size) rfl (.tmp 66) (.tmp 70) rfl Tryz.underlying24 Tryz.infoStr rfl (Nat.zero_lt_succ _) rfl HE8.out rfl HAR.out hcR HRL.out.1 HRL.out.2.1 HRL.out.2.2 HRQ.out (by simp only [List.length_nil]; omega) (by simp only [List.length_nil]; omega) HS8.out ?_; intro v8 w8 ho8 hg8 hn8; rw [List.nil_append] at ho8; have hb8 : Below w7.heap.size w7 w8 := ((Below.refl _ w7).alloc (Nat.le_refl _) _).grown hg8 HS8.out (fun j hj => (Own.lt HE8.out hj).1); have H8 : Hid (Below w7.heap.size w7 w8 ∧ Own w8 w7.heap.size 9 1 v8 rR ∧ w7.heap.size ≤ w8.heap.size) := Lib.hid ⟨hb8, ho8, hb8.size⟩; have H8B : Hid (Below w7.heap.size w7 (w8.alloc (.cells #[.string ⟨#[114]⟩] 9)) ∧ w7.heap.size ≤ (w8.alloc (.cells #[.string ⟨#[114]⟩] 9)).heap.size) := Lib.hid ⟨hb8.alloc hb8.size _, by rw [World.size_alloc]; have := hb8.size; omega⟩; clear ho8 hg8 hn8 hb8 HE8 HRQ)
       | (refine wpList_appendE (base := w7.heap.size) (rs := rR) (r := [.string ⟨#[114]⟩]) rfl (.tmp 71) (.tmp 72) rfl Tryz.underlying24 Tryz.infoStr rfl (Nat.zero_lt_succ _) rfl (H8.out.2.1.alloc (.cells #[.string ⟨#[114]⟩] 9)) rfl (Whole.new w8 9 #[.string ⟨#[114]⟩]) rfl (fun u hu => by simp at hu; subst hu; rfl) (by rw [HRL.out.1]; omega) (by rw [HRL.out.1]; omega) H8B.out.2 ?_; intro v9 w9 ho9 hg9 hn9; have hb9 : Below w7.heap.size w7 w9 := H8B.out.1.grown hg9 H8B.out.2 (fun j hj => (Own.lt H8.out.2.1 hj).1); obtain ⟨AX9, kX9, hv9, -⟩ := Own.form ho9; subst hv9; have H9 : Hid (Below w7.heap.size w7 w9 ∧ Own w9 w7.heap.size 9 1 (.slice AX9 (rR ++ [[Value.string ⟨#[114]⟩]]).length kX9) (rR ++ [[Value.string ⟨#[114]⟩]])) := Lib.hid ⟨hb9, ho9⟩; have c9 : w9.cell? ⟨gA, i * 11 + 6, none⟩ = some (.slice AR nR cR) := (hb9.cell (p := ⟨gA, i * 11 + 6, none⟩) HLW.out.2.2).trans c6; obtain ⟨_, _, e1, e2, -, -, -, -, -, hfz9⟩ := (HO7.out.under hb9).at_ HR1.out; obtain rfl : gA = _ := (by injection e1 with e1; injection e1 with e1; first | done | injection e1); have f9 := hfz9 (i * 11 + 6); clear e1 e2 hfz9 ho9 hg9 hn9 hb9)))
      go_meet
      have HT9 : Own w9 w7.heap.size 9 1 (.slice AX9 (rR.length + 1) kX9) ((ma.rids ++ [(⟨#[114]⟩ : ByteArray)]).map fun s => [Value.string s]) := by
       rw [List.map_append, HRR.out]
       have h := H9.out.2
       rw [List.length_append] at h
       exact h
      exact HTM.out w9 _ 6 _ { ma with rids := ma.rids ++ [(⟨#[114]⟩ : ByteArray)] } H9.out.1 rfl (by decide) fun h => ⟨vC, vE, _, vS, vY, ⟨rfl, h.codecs, h.exts, own_texts2 (HT9.far (p := ⟨gA, i * 11 + 6, none⟩) (fun e => by have h1 := (Own.lt HT9 e).1; have h2 := HLW.out.2.2; change w7.heap.size ≤ gA at h1; omega) _), h.sources, h.crypto⟩⟩
    have g3 : (r == 3) = false := by simpa using q3
    go_wp2
    go_meet
    exact ⟨a.media, H7.out.1, H7.out.2.1, H7.out.2.2.1, H7.out.2.2.2, own_medias2 HO7.out (by rw [HRS.out.1, HNM.out]) fun k r m hr hm' => by
     obtain ⟨vC, vE, vR, vS, vY, hM⟩ := HRS.out.2.2.2 k r m hr hm'
     exact ⟨vC, vE, vR, vS, vY, (hM.below H7.out.1).more HLW.out.1⟩⟩
 case rest =>
  generalize wc = w8 at *
  clear c5
  obtain ⟨L', hb8, hwA, hwB, hwC, hms⟩ := hcut
  obtain ⟨B3, hB3⟩ : ∃ B, w8.heap.size = B := ⟨_, rfl⟩
  have HB3 := Lib.hid hB3
  have hms' : MediasV w8 B3 (.slice AX nM kX) L' := by rw [← hB3]; exact hms
  have HLT := Lib.hid (And.intro hwA.lt (And.intro hwB.lt hwC.lt))
  have hNB : N ≤ B3 := by have := hwA.lt; omega
  rw [hB3] at HLT
  have HUP : Hid (∀ W, Below B3 w8 W → Below N w W) := Lib.hid fun W hW => hb8.trans (hW.mono hNB)
  have HKC : Hid (∀ W W', Below B3 w8 W → Below W.heap.size W W' → Below B3 w8 W') := Lib.hid fun W W' h1 h2 => h1.trans (h2.mono (by have := h1.size; rw [hB3] at this; exact this))
  have HXA : Hid (∀ W, Below B3 w8 W → Whole W N 62 #[.int .u64 a.id, .int .u64 a.ver, .slice AB n cB, .string a.name, .string a.pass, .slice AM nM cM]) := Lib.hid fun W hW => hwA.below hW HLT.out.1
  have HXB : Hid (∀ W, Below B3 w8 W → Whole W (N + 1) 62 #[.int .u64 b.id, .int .u64 b.ver, .slice AB2 n2 cB2, .string b.name, .string b.pass, .slice AM2 nM2 cM2]) := Lib.hid fun W hW => hwB.below hW HLT.out.2.1
  have HXC : Hid (∀ W, Below B3 w8 W → Whole W gC 62 #[.int .u64 a.id, .int .u64 a.ver, .slice AB n cB, .string a.name, .string a.pass, .slice AX nM kX]) := Lib.hid fun W hW => hwC.below hW HLT.out.2.2
  have HGA0 : Hid (∀ W, Below B3 w8 W → W.cell? ⟨N, 0, none⟩ = some (.int .u64 a.id)) := Lib.hid fun W hW => (HXA.out W hW).cell 0
  have HGA1 : Hid (∀ W, Below B3 w8 W → W.cell? ⟨N, 1, none⟩ = some (.int .u64 a.ver)) := Lib.hid fun W hW => (HXA.out W hW).cell 1
  have HGA2 : Hid (∀ W, Below B3 w8 W → W.cell? ⟨N, 2, none⟩ = some (.slice AB n cB)) := Lib.hid fun W hW => (HXA.out W hW).cell 2
  have HGA3 : Hid (∀ W, Below B3 w8 W → W.cell? ⟨N, 3, none⟩ = some (.string a.name)) := Lib.hid fun W hW => (HXA.out W hW).cell 3
  have HGA4 : Hid (∀ W, Below B3 w8 W → W.cell? ⟨N, 4, none⟩ = some (.string a.pass)) := Lib.hid fun W hW => (HXA.out W hW).cell 4
  have HGA5 : Hid (∀ W, Below B3 w8 W → W.cell? ⟨N, 5, none⟩ = some (.slice AM nM cM)) := Lib.hid fun W hW => (HXA.out W hW).cell 5
  have HGB0 : Hid (∀ W, Below B3 w8 W → W.cell? ⟨N + 1, 0, none⟩ = some (.int .u64 b.id)) := Lib.hid fun W hW => (HXB.out W hW).cell 0
  have HGB1 : Hid (∀ W, Below B3 w8 W → W.cell? ⟨N + 1, 1, none⟩ = some (.int .u64 b.ver)) := Lib.hid fun W hW => (HXB.out W hW).cell 1
  have HGB2 : Hid (∀ W, Below B3 w8 W → W.cell? ⟨N + 1, 2, none⟩ = some (.slice AB2 n2 cB2)) := Lib.hid fun W hW => (HXB.out W hW).cell 2
  have HGB3 : Hid (∀ W, Below B3 w8 W → W.cell? ⟨N + 1, 3, none⟩ = some (.string b.name)) := Lib.hid fun W hW => (HXB.out W hW).cell 3
  have HGB4 : Hid (∀ W, Below B3 w8 W → W.cell? ⟨N + 1, 4, none⟩ = some (.string b.pass)) := Lib.hid fun W hW => (HXB.out W hW).cell 4
  have HGB5 : Hid (∀ W, Below B3 w8 W → W.cell? ⟨N + 1, 5, none⟩ = some (.slice AM2 nM2 cM2)) := Lib.hid fun W hW => (HXB.out W hW).cell 5
  have HGC0 : Hid (∀ W, Below B3 w8 W → W.cell? ⟨gC, 0, none⟩ = some (.int .u64 a.id)) := Lib.hid fun W hW => (HXC.out W hW).cell 0
  have HGC1 : Hid (∀ W, Below B3 w8 W → W.cell? ⟨gC, 1, none⟩ = some (.int .u64 a.ver)) := Lib.hid fun W hW => (HXC.out W hW).cell 1
  have HGC2 : Hid (∀ W, Below B3 w8 W → W.cell? ⟨gC, 2, none⟩ = some (.slice AB n cB)) := Lib.hid fun W hW => (HXC.out W hW).cell 2
  have HGC3 : Hid (∀ W, Below B3 w8 W → W.cell? ⟨gC, 3, none⟩ = some (.string a.name)) := Lib.hid fun W hW => (HXC.out W hW).cell 3
  have HGC4 : Hid (∀ W, Below B3 w8 W → W.cell? ⟨gC, 4, none⟩ = some (.string a.pass)) := Lib.hid fun W hW => (HXC.out W hW).cell 4
  have HGC5 : Hid (∀ W, Below B3 w8 W → W.cell? ⟨gC, 5, none⟩ = some (.slice AX nM kX)) := Lib.hid fun W hW => (HXC.out W hW).cell 5
  have HDA3 : Hid (∀ W, Below B3 w8 W → DescV W W.heap.size #[.int .u64 a.id, .int .u64 a.ver, .slice AB n cB, .string a.name, .string a.pass, .slice AM nM cM] a (.slice AB n cB) (.slice AM nM cM)) := Lib.hid fun W hW => (HDA.out.below (HUP.out W hW)).more (by have := (HUP.out W hW).size; rw [HN.out] at this; exact this)
  have HDB3 : Hid (∀ W, Below B3 w8 W → DescV W W.heap.size #[.int .u64 b.id, .int .u64 b.ver, .slice AB2 n2 cB2, .string b.name, .string b.pass, .slice AM2 nM2 cM2] b (.slice AB2 n2 cB2) (.slice AM2 nM2 cM2)) := Lib.hid fun W hW => (HDB.out.below (HUP.out W hW)).more (by have := (HUP.out W hW).size; rw [HN.out] at this; exact this)
  have HDC3 : Hid (∀ W, Below B3 w8 W → DescV W W.heap.size #[.int .u64 a.id, .int .u64 a.ver, .slice AB n cB, .string a.name, .string a.pass, .slice AX nM kX] { a with media := L' } (.slice AB n cB) (.slice AX nM kX)) := Lib.hid fun W hW => ⟨by rfl, (HDA3.out W hW).bundle, (hms'.below hW).more (by have := hW.size; rw [hB3] at this; exact this)⟩
  obtain ⟨b1, hb1⟩ := sameBool a b
  obtain ⟨b2, hb2⟩ := sameBool a { a with media := L' }
  obtain ⟨b3, hb3⟩ := sameBool a a
  obtain rfl : b3 = true := hb3.2 rfl
  have HC1 : Hid (∀ W, Below B3 w8 W → Calls Tryz.prog 35 #[.agg #[.int .u64 a.id, .int .u64 a.ver, .slice AB n cB, .string a.name, .string a.pass, .slice AM nM cM], .agg #[.int .u64 b.id, .int .u64 b.ver, .slice AB2 n2 cB2, .string b.name, .string b.pass, .slice AM2 nM2 cM2]] W fun e w' => e = .returned (.bool b1) ∧ Below W.heap.size W w') := Lib.hid fun W hW => (deSame_any _ _ _ _ _ _ _ _ W (HDA3.out W hW) (HDB3.out W hW)).mono fun e w' h => h.fix hb1
  have HC2 : Hid (∀ W, Below B3 w8 W → Calls Tryz.prog 34 #[.agg #[.int .u64 a.id, .int .u64 a.ver, .slice AB n cB, .string a.name, .string a.pass, .slice AM nM cM], .agg #[.int .u64 b.id, .int .u64 b.ver, .slice AB2 n2 cB2, .string b.name, .string b.pass, .slice AM2 nM2 cM2]] W fun e w' => e = .returned (.bool b1) ∧ Below W.heap.size W w') := Lib.hid fun W hW => (r8Same_any _ _ _ _ _ _ _ _ W (HDA3.out W hW) (HDB3.out W hW)).mono fun e w' h => h.fix hb1
  have HC3 : Hid (∀ W, Below B3 w8 W → Calls Tryz.prog 35 #[.agg #[.int .u64 a.id, .int .u64 a.ver, .slice AB n cB, .string a.name, .string a.pass, .slice AM nM cM], .agg #[.int .u64 a.id, .int .u64 a.ver, .slice AB n cB, .string a.name, .string a.pass, .slice AX nM kX]] W fun e w' => e = .returned (.bool b2) ∧ Below W.heap.size W w') := Lib.hid fun W hW => (deSame_any _ _ _ _ _ _ _ _ W (HDA3.out W hW) (HDC3.out W hW)).mono fun e w' h => h.fix hb2
  have HC4 : Hid (∀ W, Below B3 w8 W → Calls Tryz.prog 34 #[.agg #[.int .u64 a.id, .int .u64 a.ver, .slice AB n cB, .string a.name, .string a.pass, .slice AM nM cM], .agg #[.int .u64 a.id, .int .u64 a.ver, .slice AB n cB, .string a.name, .string a.pass, .slice AX nM kX]] W fun e w' => e = .returned (.bool b2) ∧ Below W.heap.size W w') := Lib.hid fun W hW => (r8Same_any _ _ _ _ _ _ _ _ W (HDA3.out W hW) (HDC3.out W hW)).mono fun e w' h => h.fix hb2
  have HC5 : Hid (∀ W, Below B3 w8 W → Calls Tryz.prog 35 #[.agg #[.int .u64 a.id, .int .u64 a.ver, .slice AB n cB, .string a.name, .string a.pass, .slice AM nM cM], .agg #[.int .u64 a.id, .int .u64 a.ver, .slice AB n cB, .string a.name, .string a.pass, .slice AM nM cM]] W fun e w' => e = .returned (.bool true) ∧ Below W.heap.size W w') := Lib.hid fun W hW => (deSame_any _ _ _ _ _ _ _ _ W (HDA3.out W hW) (HDA3.out W hW)).mono fun e w' h => h.fix hb3
  clear hms hms' hwA hwB hwC hb1 hb2 hb3 HDA3 HDB3 HDC3
  have HR3 : Hid (Below B3 w8 w8.drew) := Lib.hid (Below.refl B3 w8).drew
  have e1 : (b1 == b1) = true := by simp
  have e2 : (b2 == b2) = true := by simp
  go_upto_region 16 with fail
  refine wp_region_held_drew (S := fun W => Below B3 w8 W) (by kernel_rfl) HR3.out (fun hHeld => ?_)
  generalize w8.drew = w9 at hHeld ⊢
  refine wpAnyH_take (i := 0) (v := _) rfl (by as_aux_lemma => kernel_rfl) (by as_aux_lemma => kernel_rfl) (by as_aux_lemma => kernel_rfl) (fun _ _ _ h => h) (Or.inl ⟨by rfl, fun w h => by have e0 := HGA0.out w h; have e1 := HGA1.out w h; have e2 := HGA2.out w h; have e3 := HGA3.out w h; have e4 := HGA4.out w h; have e5 := HGA5.out w h; have e6 := HGB0.out w h; have e7 := HGB1.out w h; have e8 := HGB2.out w h; have e9 := HGB3.out w h; have e10 := HGB4.out w h; have e11 := HGB5.out w h; have e12 := HGC0.out w h; have e13 := HGC1.out w h; have e14 := HGC2.out w h; have e15 := HGC3.out w h; have e16 := HGC4.out w h; have e17 := HGC5.out w h; clear h; go_simp; (try with_reducible rfl)⟩) (by assumption) ?_
  simp only [Act.put, List.getElem_toArray, List.getElem_cons_succ, List.getElem_cons_zero, List.setIfInBounds_toArray, List.set_cons_succ, List.set_cons_zero]
  refine wpAnyH_take (i := 1) (v := _) rfl (by as_aux_lemma => kernel_rfl) (by as_aux_lemma => kernel_rfl) (by as_aux_lemma => kernel_rfl) (fun _ _ _ h => h) (Or.inl ⟨by rfl, fun w h => by have e0 := HGA0.out w h; have e1 := HGA1.out w h; have e2 := HGA2.out w h; have e3 := HGA3.out w h; have e4 := HGA4.out w h; have e5 := HGA5.out w h; have e6 := HGB0.out w h; have e7 := HGB1.out w h; have e8 := HGB2.out w h; have e9 := HGB3.out w h; have e10 := HGB4.out w h; have e11 := HGB5.out w h; have e12 := HGC0.out w h; have e13 := HGC1.out w h; have e14 := HGC2.out w h; have e15 := HGC3.out w h; have e16 := HGC4.out w h; have e17 := HGC5.out w h; clear h; go_simp; (try with_reducible rfl)⟩) (by assumption) ?_
  simp only [Act.put, List.getElem_toArray, List.getElem_cons_succ, List.getElem_cons_zero, List.setIfInBounds_toArray, List.set_cons_succ, List.set_cons_zero]
  refine wpAnyH_take (i := 3) (v := _) rfl (by as_aux_lemma => kernel_rfl) (by as_aux_lemma => kernel_rfl) (by as_aux_lemma => kernel_rfl) (fun _ _ _ h => h) (Or.inl ⟨by rfl, fun w h => by have e0 := HGA0.out w h; have e1 := HGA1.out w h; have e2 := HGA2.out w h; have e3 := HGA3.out w h; have e4 := HGA4.out w h; have e5 := HGA5.out w h; have e6 := HGB0.out w h; have e7 := HGB1.out w h; have e8 := HGB2.out w h; have e9 := HGB3.out w h; have e10 := HGB4.out w h; have e11 := HGB5.out w h; have e12 := HGC0.out w h; have e13 := HGC1.out w h; have e14 := HGC2.out w h; have e15 := HGC3.out w h; have e16 := HGC4.out w h; have e17 := HGC5.out w h; clear h; go_simp; (try with_reducible rfl)⟩) (by assumption) ?_
  simp only [Act.put, List.getElem_toArray, List.getElem_cons_succ, List.getElem_cons_zero, List.setIfInBounds_toArray, List.set_cons_succ, List.set_cons_zero]
  refine wpAnyH_take (i := 4) (v := _) rfl (by as_aux_lemma => kernel_rfl) (by as_aux_lemma => kernel_rfl) (by as_aux_lemma => kernel_rfl) (fun _ _ _ h => h) (Or.inl ⟨by rfl, fun w h => by have e0 := HGA0.out w h; have e1 := HGA1.out w h; have e2 := HGA2.out w h; have e3 := HGA3.out w h; have e4 := HGA4.out w h; have e5 := HGA5.out w h; have e6 := HGB0.out w h; have e7 := HGB1.out w h; have e8 := HGB2.out w h; have e9 := HGB3.out w h; have e10 := HGB4.out w h; have e11 := HGB5.out w h; have e12 := HGC0.out w h; have e13 := HGC1.out w h; have e14 := HGC2.out w h; have e15 := HGC3.out w h; have e16 := HGC4.out w h; have e17 := HGC5.out w h; clear h; go_simp; (try with_reducible rfl)⟩) (by assumption) ?_
  simp only [Act.put, List.getElem_toArray, List.getElem_cons_succ, List.getElem_cons_zero, List.setIfInBounds_toArray, List.set_cons_succ, List.set_cons_zero]
  refine wpAnyH_ready (rs := [2]) (by as_aux_lemma => kernel_rfl) (by simp) ?_
  refine (AllReadyH.cons (i := 2) rfl (fun K hK => ?_) AllReadyH.nil)
  go_simp
  refine (HC1.out _ hHeld).mono ?_
  rintro e w12 ⟨rfl, hb5⟩
  have hbn := HKC.out _ _ hHeld hb5
  refine hK.out _ _ hbn (fun hHeld' => ?_)
  clear hb5 hbn
  clear hK K hHeld
  have hHeld := hHeld'
  clear hHeld'
  try simp only [Act.put]
  refine wpAnyH_ready (rs := [5]) (by as_aux_lemma => kernel_rfl) (by simp) ?_
  refine (AllReadyH.cons (i := 5) rfl (fun K hK => ?_) AllReadyH.nil)
  go_simp
  refine (HC2.out _ hHeld).mono ?_
  rintro e w15 ⟨rfl, hb5⟩
  have hbn := HKC.out _ _ hHeld hb5
  refine hK.out _ _ hbn (fun hHeld' => ?_)
  clear hb5 hbn
  clear hK K hHeld
  have hHeld := hHeld'
  clear hHeld'
  try simp only [Act.put]
  refine wpAnyH_take (i := 6) (v := _) rfl (by as_aux_lemma => kernel_rfl) (by as_aux_lemma => kernel_rfl) (by as_aux_lemma => kernel_rfl) (fun _ _ _ h => h) (Or.inl ⟨by rfl, fun w h => by have e0 := HGA0.out w h; have e1 := HGA1.out w h; have e2 := HGA2.out w h; have e3 := HGA3.out w h; have e4 := HGA4.out w h; have e5 := HGA5.out w h; have e6 := HGB0.out w h; have e7 := HGB1.out w h; have e8 := HGB2.out w h; have e9 := HGB3.out w h; have e10 := HGB4.out w h; have e11 := HGB5.out w h; have e12 := HGC0.out w h; have e13 := HGC1.out w h; have e14 := HGC2.out w h; have e15 := HGC3.out w h; have e16 := HGC4.out w h; have e17 := HGC5.out w h; clear h; go_simp; (try with_reducible rfl)⟩) (by assumption) ?_
  simp only [Act.put, List.getElem_toArray, List.getElem_cons_succ, List.getElem_cons_zero, List.setIfInBounds_toArray, List.set_cons_succ, List.set_cons_zero]
  refine wpAnyH_take (i := 7) (v := _) rfl (by as_aux_lemma => kernel_rfl) (by as_aux_lemma => kernel_rfl) (by as_aux_lemma => kernel_rfl) (fun _ _ _ h => h) (Or.inl ⟨by rfl, fun w h => by have e0 := HGA0.out w h; have e1 := HGA1.out w h; have e2 := HGA2.out w h; have e3 := HGA3.out w h; have e4 := HGA4.out w h; have e5 := HGA5.out w h; have e6 := HGB0.out w h; have e7 := HGB1.out w h; have e8 := HGB2.out w h; have e9 := HGB3.out w h; have e10 := HGB4.out w h; have e11 := HGB5.out w h; have e12 := HGC0.out w h; have e13 := HGC1.out w h; have e14 := HGC2.out w h; have e15 := HGC3.out w h; have e16 := HGC4.out w h; have e17 := HGC5.out w h; clear h; go_simp; (try with_reducible rfl)⟩) (by assumption) ?_
  simp only [Act.put, List.getElem_toArray, List.getElem_cons_succ, List.getElem_cons_zero, List.setIfInBounds_toArray, List.set_cons_succ, List.set_cons_zero]
  refine wpAnyH_take (i := 8) (v := _) rfl (by as_aux_lemma => kernel_rfl) (by as_aux_lemma => kernel_rfl) (by as_aux_lemma => kernel_rfl) (fun _ _ _ h => h) (Or.inl ⟨by rfl, fun w h => by have e0 := HGA0.out w h; have e1 := HGA1.out w h; have e2 := HGA2.out w h; have e3 := HGA3.out w h; have e4 := HGA4.out w h; have e5 := HGA5.out w h; have e6 := HGB0.out w h; have e7 := HGB1.out w h; have e8 := HGB2.out w h; have e9 := HGB3.out w h; have e10 := HGB4.out w h; have e11 := HGB5.out w h; have e12 := HGC0.out w h; have e13 := HGC1.out w h; have e14 := HGC2.out w h; have e15 := HGC3.out w h; have e16 := HGC4.out w h; have e17 := HGC5.out w h; clear h; go_simp; (try with_reducible rfl)⟩) (by assumption) ?_
  simp only [Act.put, List.getElem_toArray, List.getElem_cons_succ, List.getElem_cons_zero, List.setIfInBounds_toArray, List.set_cons_succ, List.set_cons_zero]
  refine wpAnyH_take (i := 9) (v := _) rfl (by as_aux_lemma => kernel_rfl) (by as_aux_lemma => kernel_rfl) (by as_aux_lemma => kernel_rfl) (fun _ _ _ h => h) (Or.inl ⟨by rfl, fun w h => by have e0 := HGA0.out w h; have e1 := HGA1.out w h; have e2 := HGA2.out w h; have e3 := HGA3.out w h; have e4 := HGA4.out w h; have e5 := HGA5.out w h; have e6 := HGB0.out w h; have e7 := HGB1.out w h; have e8 := HGB2.out w h; have e9 := HGB3.out w h; have e10 := HGB4.out w h; have e11 := HGB5.out w h; have e12 := HGC0.out w h; have e13 := HGC1.out w h; have e14 := HGC2.out w h; have e15 := HGC3.out w h; have e16 := HGC4.out w h; have e17 := HGC5.out w h; clear h; go_simp; (try with_reducible rfl)⟩) (by assumption) ?_
  simp only [Act.put, List.getElem_toArray, List.getElem_cons_succ, List.getElem_cons_zero, List.setIfInBounds_toArray, List.set_cons_succ, List.set_cons_zero]
  refine wpAnyH_take (i := 11) (v := _) rfl (by as_aux_lemma => kernel_rfl) (by as_aux_lemma => kernel_rfl) (by as_aux_lemma => kernel_rfl) (fun _ _ _ h => h) (Or.inl ⟨by rfl, fun w h => by have e0 := HGA0.out w h; have e1 := HGA1.out w h; have e2 := HGA2.out w h; have e3 := HGA3.out w h; have e4 := HGA4.out w h; have e5 := HGA5.out w h; have e6 := HGB0.out w h; have e7 := HGB1.out w h; have e8 := HGB2.out w h; have e9 := HGB3.out w h; have e10 := HGB4.out w h; have e11 := HGB5.out w h; have e12 := HGC0.out w h; have e13 := HGC1.out w h; have e14 := HGC2.out w h; have e15 := HGC3.out w h; have e16 := HGC4.out w h; have e17 := HGC5.out w h; clear h; go_simp; (try with_reducible rfl)⟩) (by assumption) ?_
  simp only [Act.put, List.getElem_toArray, List.getElem_cons_succ, List.getElem_cons_zero, List.setIfInBounds_toArray, List.set_cons_succ, List.set_cons_zero]
  refine wpAnyH_take (i := 12) (v := _) rfl (by as_aux_lemma => kernel_rfl) (by as_aux_lemma => kernel_rfl) (by as_aux_lemma => kernel_rfl) (fun _ _ _ h => h) (Or.inl ⟨by rfl, fun w h => by have e0 := HGA0.out w h; have e1 := HGA1.out w h; have e2 := HGA2.out w h; have e3 := HGA3.out w h; have e4 := HGA4.out w h; have e5 := HGA5.out w h; have e6 := HGB0.out w h; have e7 := HGB1.out w h; have e8 := HGB2.out w h; have e9 := HGB3.out w h; have e10 := HGB4.out w h; have e11 := HGB5.out w h; have e12 := HGC0.out w h; have e13 := HGC1.out w h; have e14 := HGC2.out w h; have e15 := HGC3.out w h; have e16 := HGC4.out w h; have e17 := HGC5.out w h; clear h; go_simp; (try with_reducible rfl)⟩) (by assumption) ?_
  simp only [Act.put, List.getElem_toArray, List.getElem_cons_succ, List.getElem_cons_zero, List.setIfInBounds_toArray, List.set_cons_succ, List.set_cons_zero]
  refine wpAnyH_ready (rs := [10]) (by as_aux_lemma => kernel_rfl) (by simp) ?_
  refine (AllReadyH.cons (i := 10) rfl (fun K hK => ?_) AllReadyH.nil)
  go_simp
  refine (HC3.out _ hHeld).mono ?_
  rintro e w20 ⟨rfl, hb5⟩
  have hbn := HKC.out _ _ hHeld hb5
  refine hK.out _ _ hbn (fun hHeld' => ?_)
  clear hb5 hbn
  clear hK K hHeld
  have hHeld := hHeld'
  clear hHeld'
  try simp only [Act.put]
  refine wpAnyH_ready (rs := [13]) (by as_aux_lemma => kernel_rfl) (by simp) ?_
  refine (AllReadyH.cons (i := 13) rfl (fun K hK => ?_) AllReadyH.nil)
  go_simp
  refine (HC4.out _ hHeld).mono ?_
  rintro e w23 ⟨rfl, hb5⟩
  have hbn := HKC.out _ _ hHeld hb5
  refine hK.out _ _ hbn (fun hHeld' => ?_)
  clear hb5 hbn
  clear hK K hHeld
  have hHeld := hHeld'
  clear hHeld'
  try simp only [Act.put]
  refine wpAnyH_take (i := 14) (v := _) rfl (by as_aux_lemma => kernel_rfl) (by as_aux_lemma => kernel_rfl) (by as_aux_lemma => kernel_rfl) (fun _ _ _ h => h) (Or.inl ⟨by rfl, fun w h => by have e0 := HGA0.out w h; have e1 := HGA1.out w h; have e2 := HGA2.out w h; have e3 := HGA3.out w h; have e4 := HGA4.out w h; have e5 := HGA5.out w h; have e6 := HGB0.out w h; have e7 := HGB1.out w h; have e8 := HGB2.out w h; have e9 := HGB3.out w h; have e10 := HGB4.out w h; have e11 := HGB5.out w h; have e12 := HGC0.out w h; have e13 := HGC1.out w h; have e14 := HGC2.out w h; have e15 := HGC3.out w h; have e16 := HGC4.out w h; have e17 := HGC5.out w h; clear h; go_simp; (try with_reducible rfl)⟩) (by assumption) ?_
  simp only [Act.put, List.getElem_toArray, List.getElem_cons_succ, List.getElem_cons_zero, List.setIfInBounds_toArray, List.set_cons_succ, List.set_cons_zero]
  refine wpAnyH_take (i := 15) (v := _) rfl (by as_aux_lemma => kernel_rfl) (by as_aux_lemma => kernel_rfl) (by as_aux_lemma => kernel_rfl) (fun _ _ _ h => h) (Or.inl ⟨by rfl, fun w h => by have e0 := HGA0.out w h; have e1 := HGA1.out w h; have e2 := HGA2.out w h; have e3 := HGA3.out w h; have e4 := HGA4.out w h; have e5 := HGA5.out w h; have e6 := HGB0.out w h; have e7 := HGB1.out w h; have e8 := HGB2.out w h; have e9 := HGB3.out w h; have e10 := HGB4.out w h; have e11 := HGB5.out w h; have e12 := HGC0.out w h; have e13 := HGC1.out w h; have e14 := HGC2.out w h; have e15 := HGC3.out w h; have e16 := HGC4.out w h; have e17 := HGC5.out w h; clear h; go_simp; (try with_reducible rfl)⟩) (by assumption) ?_
  simp only [Act.put, List.getElem_toArray, List.getElem_cons_succ, List.getElem_cons_zero, List.setIfInBounds_toArray, List.set_cons_succ, List.set_cons_zero]
  refine wpAnyH_take (i := 16) (v := _) rfl (by as_aux_lemma => kernel_rfl) (by as_aux_lemma => kernel_rfl) (by as_aux_lemma => kernel_rfl) (fun _ _ _ h => h) (Or.inl ⟨by rfl, fun w h => by have e0 := HGA0.out w h; have e1 := HGA1.out w h; have e2 := HGA2.out w h; have e3 := HGA3.out w h; have e4 := HGA4.out w h; have e5 := HGA5.out w h; have e6 := HGB0.out w h; have e7 := HGB1.out w h; have e8 := HGB2.out w h; have e9 := HGB3.out w h; have e10 := HGB4.out w h; have e11 := HGB5.out w h; have e12 := HGC0.out w h; have e13 := HGC1.out w h; have e14 := HGC2.out w h; have e15 := HGC3.out w h; have e16 := HGC4.out w h; have e17 := HGC5.out w h; clear h; go_simp; (try with_reducible rfl)⟩) (by assumption) ?_
  simp only [Act.put, List.getElem_toArray, List.getElem_cons_succ, List.getElem_cons_zero, List.setIfInBounds_toArray, List.set_cons_succ, List.set_cons_zero]
  refine wpAnyH_take (i := 17) (v := _) rfl (by as_aux_lemma => kernel_rfl) (by as_aux_lemma => kernel_rfl) (by as_aux_lemma => kernel_rfl) (fun _ _ _ h => h) (Or.inl ⟨by rfl, fun w h => by have e0 := HGA0.out w h; have e1 := HGA1.out w h; have e2 := HGA2.out w h; have e3 := HGA3.out w h; have e4 := HGA4.out w h; have e5 := HGA5.out w h; have e6 := HGB0.out w h; have e7 := HGB1.out w h; have e8 := HGB2.out w h; have e9 := HGB3.out w h; have e10 := HGB4.out w h; have e11 := HGB5.out w h; have e12 := HGC0.out w h; have e13 := HGC1.out w h; have e14 := HGC2.out w h; have e15 := HGC3.out w h; have e16 := HGC4.out w h; have e17 := HGC5.out w h; clear h; go_simp; (try with_reducible rfl)⟩) (by assumption) ?_
  simp only [Act.put, List.getElem_toArray, List.getElem_cons_succ, List.getElem_cons_zero, List.setIfInBounds_toArray, List.set_cons_succ, List.set_cons_zero]
  refine wpAnyH_take (i := 18) (v := _) rfl (by as_aux_lemma => kernel_rfl) (by as_aux_lemma => kernel_rfl) (by as_aux_lemma => kernel_rfl) (fun _ _ _ h => h) (Or.inl ⟨by rfl, fun w h => by have e0 := HGA0.out w h; have e1 := HGA1.out w h; have e2 := HGA2.out w h; have e3 := HGA3.out w h; have e4 := HGA4.out w h; have e5 := HGA5.out w h; have e6 := HGB0.out w h; have e7 := HGB1.out w h; have e8 := HGB2.out w h; have e9 := HGB3.out w h; have e10 := HGB4.out w h; have e11 := HGB5.out w h; have e12 := HGC0.out w h; have e13 := HGC1.out w h; have e14 := HGC2.out w h; have e15 := HGC3.out w h; have e16 := HGC4.out w h; have e17 := HGC5.out w h; clear h; go_simp; (try with_reducible rfl)⟩) (by assumption) ?_
  simp only [Act.put, List.getElem_toArray, List.getElem_cons_succ, List.getElem_cons_zero, List.setIfInBounds_toArray, List.set_cons_succ, List.set_cons_zero]
  refine wpAnyH_ready (rs := [19]) (by as_aux_lemma => kernel_rfl) (by simp) ?_
  refine (AllReadyH.cons (i := 19) rfl (fun K hK => ?_) AllReadyH.nil)
  go_simp
  refine (HC5.out _ hHeld).mono ?_
  rintro e w29 ⟨rfl, hb5⟩
  have hbn := HKC.out _ _ hHeld hb5
  refine hK.out _ _ hbn (fun hHeld' => ?_)
  clear hb5 hbn
  clear hK K hHeld
  have hHeld := hHeld'
  clear hHeld'
  try simp only [Act.put]
  refine wpAnyH_take (i := 20) (v := _) rfl (by as_aux_lemma => kernel_rfl) (by as_aux_lemma => kernel_rfl) (by as_aux_lemma => kernel_rfl) (fun _ _ _ h => h) (Or.inl ⟨by rfl, fun w h => by have e0 := HGA0.out w h; have e1 := HGA1.out w h; have e2 := HGA2.out w h; have e3 := HGA3.out w h; have e4 := HGA4.out w h; have e5 := HGA5.out w h; have e6 := HGB0.out w h; have e7 := HGB1.out w h; have e8 := HGB2.out w h; have e9 := HGB3.out w h; have e10 := HGB4.out w h; have e11 := HGB5.out w h; have e12 := HGC0.out w h; have e13 := HGC1.out w h; have e14 := HGC2.out w h; have e15 := HGC3.out w h; have e16 := HGC4.out w h; have e17 := HGC5.out w h; clear h; go_simp; (try with_reducible rfl)⟩) (by assumption) ?_
  simp only [Act.put, List.getElem_toArray, List.getElem_cons_succ, List.getElem_cons_zero, List.setIfInBounds_toArray, List.set_cons_succ, List.set_cons_zero]
  refine wpAnyH_take (i := 21) (v := _) rfl (by as_aux_lemma => kernel_rfl) (by as_aux_lemma => kernel_rfl) (by as_aux_lemma => kernel_rfl) (fun _ _ _ h => h) (Or.inl ⟨by rfl, fun w h => by have e0 := HGA0.out w h; have e1 := HGA1.out w h; have e2 := HGA2.out w h; have e3 := HGA3.out w h; have e4 := HGA4.out w h; have e5 := HGA5.out w h; have e6 := HGB0.out w h; have e7 := HGB1.out w h; have e8 := HGB2.out w h; have e9 := HGB3.out w h; have e10 := HGB4.out w h; have e11 := HGB5.out w h; have e12 := HGC0.out w h; have e13 := HGC1.out w h; have e14 := HGC2.out w h; have e15 := HGC3.out w h; have e16 := HGC4.out w h; have e17 := HGC5.out w h; clear h; go_simp; (try with_reducible rfl)⟩) (by assumption) ?_
  simp only [Act.put, List.getElem_toArray, List.getElem_cons_succ, List.getElem_cons_zero, List.setIfInBounds_toArray, List.set_cons_succ, List.set_cons_zero]
  refine wpAnyH_done (by as_aux_lemma => kernel_rfl) ?_ _
  have HL9 := Lib.hid hHeld
  clear hHeld
  go_wp2
  go_ret
  exact ⟨rfl, by rw [HN.out]; exact HUP.out _ HL9.out⟩
end Go.Proofs.YtbbedhecfipdjaaGreatDoor
namespace Go.Proofs.YtbbedhecfipdjaaGreatDoor
open Go.RowKit Go.ChangeShapes Go.WideShapes Go.ChangeAt
set_option linter.unusedVariables false
set_option linter.unusedSimpArgs false
theorem laid_at {P : Program} {W : World} : ∀ {laid : List (String × DataW Unit)} {ps : List MemPlace}, DataW.LaidVars P W laid ps → ∀ {n : String} {d : DataW Unit}, (n, d) ∈ laid →
 ∃ g t cs fuel p, P.globalNamed n = some g ∧ (P.globals[g]?).map (·.type) = some t ∧ W.var? P n = some cs ∧ DataW.trod (fun _ => ()) P W 0 (fun _ => true) false fuel t cs.toList = some (d, p)
 | [], _, _, _, _, hm => by cases hm
 | (n0, d0) :: r, ps, h, n, d, hm => by
   obtain ⟨g, t, cs, fuel, p, q, h1, h2, h3, h4, h5, _⟩ := h
   rcases List.mem_cons.1 hm with e | hm
   · injection e with e1 e2
     subst e1 e2
     exact ⟨g, t, cs, fuel, p, h1, h2, h3, h4⟩
   · exact laid_at h5 hm
set_option maxRecDepth 100000 in
theorem laid_tab {W : World} {laid : List (String × DataW Unit)} (h : laidMet Tryz.prog laid W) {name : String} {k : IntKind} {zs : List Int} (hm : (name, Lib.tabData k zs) ∈ laid) {g : Nat} {t e : TypeId} {n : Nat}
 (hg : Tryz.prog.globalNamed name = some g) (hty : (Tryz.prog.globals[g]?).map (·.type) = some t) (ht : Tryz.prog.underlying t = some (.array n e)) (he : Tryz.prog.underlying e = some (.int k)) (hce : Tryz.prog.cellsOf e = 1) (hct : Tryz.prog.cellsOf t = n) : Lib.TabIs Tryz.prog W name k zs := by
 obtain ⟨ps, hv, _⟩ := h
 obtain ⟨g', t', cs, fuel, p, hg', ht', hvar, hd⟩ := laid_at hv hm
 obtain rfl := Option.some.inj (hg.symm.trans hg')
 obtain rfl := Option.some.inj (hty.symm.trans ht')
 unfold Lib.TabIs
 rw [hvar, ← Lib.cells_of_tab ht he hce hct hd]
set_option maxRecDepth 100000 in
theorem laid_strs {W : World} {laid : List (String × DataW Unit)} (h : laidMet Tryz.prog laid W) {name : String} {ss : List Tx} (hm : (name, (.agg (ss.map fun s => .lit (.string s)) : DataW Unit)) ∈ laid) {g : Nat} {t : TypeId} {n : Nat}
 (hg : Tryz.prog.globalNamed name = some g) (hty : (Tryz.prog.globals[g]?).map (·.type) = some t) (ht : Tryz.prog.underlying t = some (.array n 9)) (hn : ss.length = n) (i : Nat) (s : Tx) (hi : ss[i]? = some s) : W.cell? ⟨g, i, none⟩ = some (.string (bs s)) := by
 obtain ⟨ps, hv, _⟩ := h
 obtain ⟨g', t', cs, fuel, p, hg', ht', hvar, hd⟩ := laid_at hv hm
 obtain rfl := Option.some.inj (hg.symm.trans hg')
 obtain rfl := Option.some.inj (hty.symm.trans ht')
 obtain ⟨xs, m, _, hx, hcl, hxl, hat⟩ := DataW.trod_array ht hd
 have hil : i < n := by rw [← hn]; exact (List.getElem?_eq_some_iff.1 hi).1
 have h1 := hat i hil
 rw [show Tryz.prog.cellsOf 9 = 1 by kernel_rfl, Nat.mul_one] at h1
 have hxe : xs[i]? = some (xs[i]'(by omega)) := List.getElem?_eq_getElem (by omega)
 rw [hxe] at h1
 obtain ⟨u, e1, e2, _⟩ := DataW.trod_string Tryz.underlying9 h1
 have hag : (ss.map fun s => (.lit (.string s) : DataW Unit)) = xs.map (·.1) := by
  injection hx with hx1 _
  injection hx1
 have h3 := congrArg (fun l => l[i]?) hag
 simp only [List.getElem?_map, hi, hxe, Option.map_some] at h3
 have h4 : s = u.data.toList := by
  have h5 := Option.some.inj h3
  rw [e2] at h5
  injection h5 with h6
  injection h6
 rw [World.var?_cell hg hvar i]
 have h7 := congrArg (fun l => l[0]?) e1
 simp only [List.getElem?_take, List.getElem?_drop, List.getElem?_cons_zero] at h7
 simp at h7
 rw [h7, h4]
 rfl
set_option maxRecDepth 100000 in
theorem env_of {W : World} {laid : List (String × DataW Unit)} (h : laidMet Tryz.prog laid W)
 (h1 : ("internal/strconv.uint64pow10", Lib.tabData .u64 Lib.pow10Tab) ∈ laid)
 (h2 : ("rostrum/attr.kinds", (.agg ([[], wAudio, wVideo, wApplication].map fun s => .lit (.string s)) : DataW Unit)) ∈ laid)
 (h3 : ("rostrum/attr.directions", (.agg ([nInactive, nSendonly, nRecvonly, nSendrecv].map fun s => .lit (.string s)) : DataW Unit)) ∈ laid) : Env W := by
 have hk := laid_strs h h2 (g := 1) (t := 132) (n := 4) (by kernel_rfl) (by kernel_rfl) Tryz.underlying132 rfl
 have hd := laid_strs h h3 (g := 0) (t := 132) (n := 4) (by kernel_rfl) (by kernel_rfl) Tryz.underlying132 rfl
 refine ⟨laid_tab h h1 (g := 2) (t := 229) (e := 59) (n := 20) (by kernel_rfl) (by kernel_rfl) Tryz.underlying229 Tryz.underlying59 (by kernel_rfl) (by kernel_rfl), fun j hj => ?_, fun j h1 hj => ?_, hk 0 _ rfl⟩
 · have : j = 0 ∨ j = 1 ∨ j = 2 ∨ j = 3 := by omega
   rcases this with rfl | rfl | rfl | rfl
   · exact hd 0 _ rfl
   · exact hd 1 _ rfl
   · exact hd 2 _ rfl
   · exact hd 3 _ rfl
 · have : j = 1 ∨ j = 2 ∨ j = 3 := by omega
   rcases this with rfl | rfl | rfl
   · exact hk 1 _ rfl
   · exact hk 2 _ rfl
   · exact hk 3 _ rfl
set_option maxRecDepth 100000 in
theorem seven_of {W : World} {laid : List (String × DataW Unit)} (h : laidMet Tryz.prog laid W) {zs : List Int} (hz : 0 < zs.length) (h1 : ("math/bits.deBruijn32tab", Lib.tabData .u8 zs) ∈ laid) : 7 ≤ W.heap.size := by
 have ht := laid_tab h h1 (g := 6) (t := 253) (e := 5) (n := 32) (by kernel_rfl) (by kernel_rfl) Tryz.underlying253 Tryz.underlying5 (by kernel_rfl) (by kernel_rfl)
 exact block_lt_of_cell (ht.cell (g := 6) (by kernel_rfl) 0 hz)
end Go.Proofs.YtbbedhecfipdjaaGreatDoor
