import Derived.Test.YtbbedhecfipdjaaGreatDoorPkAttrOrderA00
import Derived.Test.YtbbedhecfipdjaaGreatDoorPkAttrOrderA01
import Derived.Test.YtbbedhecfipdjaaGreatDoorPkAttrOrderA02
import Derived.Test.YtbbedhecfipdjaaGreatDoorPkAttrOrderA03
import Derived.Test.YtbbedhecfipdjaaGreatDoorPkAttrOrderA04
import Derived.Test.YtbbedhecfipdjaaGreatDoorPkAttrOrderA05
import Derived.Test.YtbbedhecfipdjaaGreatDoorPkAttrOrderA06
import Derived.Test.YtbbedhecfipdjaaGreatDoorPkAttrOrderA07
import Derived.Test.YtbbedhecfipdjaaGreatDoorPkAttrOrderA08
import Derived.Test.YtbbedhecfipdjaaGreatDoorPkAttrOrderA09
import Derived.Test.YtbbedhecfipdjaaGreatDoorPkAttrOrderA10
import Derived.Test.YtbbedhecfipdjaaGreatDoorPkAttrOrderA11
import Derived.Test.YtbbedhecfipdjaaGreatDoorPkAttrOrderA12
import Derived.Test.YtbbedhecfipdjaaGreatDoorPkAttrOrderA13
import Derived.Test.YtbbedhecfipdjaaGreatDoorPkAttrOrderA14
import Derived.Test.YtbbedhecfipdjaaGreatDoorPkAttrOrderA15
import Derived.Test.YtbbedhecfipdjaaGreatDoorPkAttrOrderA16
import Derived.Test.YtbbedhecfipdjaaGreatDoorPkAttrOrderA17
import Derived.Test.YtbbedhecfipdjaaGreatDoorPkAttrOrderA18
import Derived.Test.YtbbedhecfipdjaaGreatDoorPkAttrOrderA19
import Derived.Test.YtbbedhecfipdjaaGreatDoorPkAttrOrderA20
import Derived.Test.YtbbedhecfipdjaaGreatDoorPkAttrOrderA21
import Derived.Test.YtbbedhecfipdjaaGreatDoorPkAttrOrderA22
import Derived.Test.YtbbedhecfipdjaaGreatDoorPkAttrOrderA23
import Derived.Test.YtbbedhecfipdjaaGreatDoorPkAttrOrderA24
import Derived.Test.YtbbedhecfipdjaaGreatDoorPkAttrOrderA25
import Derived.Test.YtbbedhecfipdjaaGreatDoorPkAttrOrderA26
import Derived.Test.YtbbedhecfipdjaaGreatDoorPkAttrOrderA29
import Derived.OrdersHeld
import Derived.WalkKit
import Derived.Lib.Hide
import Derived.Test.YtbbedhecfipdjaaGreatDoorProg
import Derived.Deep.RegionHeld3
import Derived.Deep.MidRow
import Derived.ProofKit
import Derived.WalkSpells
import Derived.Below
import Derived.Deep.Draws
import Derived.Laws.Rows
import Derived.ArgAppend
import Derived.Laws.IdiomCopy
import Derived.Maps.AppendAt
import Derived.Deep.RegionLaw
import Derived.OwnWalk
import Derived.Outline
import Derived.Handy
import Derived.LoopTactic
import Derived.RegionTactic
import Derived.ChangeAlike
import Derived.BigRegion
import Derived.Deep.QuietTactic
import Derived.BigQuiet
import Derived.Deep.DeepMust
import Derived.Deep.CutRange
import Derived.Deep.DeepCutAuto
import Derived.Deep.LoopGhost
import Derived.StillTailTactics
import Derived.Laws.AppendOwnNone
import Derived.Lib.AppendZeros
import Derived.Laws.CopyOwn
import Derived.Laws.BytesArg
import Derived.Shelf.Abstract
import Derived.Laws.StructEq
import Derived.Lib.IndexMore
import Derived.Lib.Join
import Derived.Shelf.Strings.Builder1
import Derived.Shelf.Strings.Builder2
import Derived.Shelf.Strings.OnBuilder
import Derived.Shelf.Small.Strs
import Derived.Shelf.Strings.BuilderF
import Derived.Shelf.Strconv.Atoi
import Derived.Shelf.Strconv.Itoa0
import Derived.Shelf.Strconv.Itoa1
import Derived.Shelf.LaysM
import Derived.Shelf.Strconv.Itoa2
import Derived.Shelf.Strconv.Itoa3
import Derived.Shelf.Strconv.AtoiErrFast
import Derived.Shelf.Strconv.ParseIntEmpty
import Derived.Shelf.Strconv.AtoiFail
import Derived.Shelf.Strconv.Clone
import Derived.Shelf.Strconv.SyntaxError
import Derived.Shelf.LaysC
import Derived.Shelf.Strconv.ToError
import Derived.Shelf.Strconv.Lower
import Derived.Shelf.Strconv.ParseUint10
import Derived.Shelf.Strconv.ParseUint10Empty
import Derived.Shelf.Strconv.ParseUint10Any
import Derived.Shelf.Strconv.ParseInt10
import Derived.Shelf.Strconv.AtoiLong
import Derived.Shelf.Strconv.AtoiInnerAll
import Derived.Shelf.Strconv.RangeError
import Derived.Shelf.Strconv.ToErrorRange
import Derived.Shelf.Strconv.AtoiAll
import Derived.Ground.MpProg
import Derived.Shelf.Pu.ParseUintPublic10
import Derived.Shelf.Strings.Search1
import Derived.Shelf.Strings.Search2
import Derived.Shelf.Strings.Search3
import Derived.Shelf.Strings.Cut
import Derived.Shelf.Strings.Count
import Derived.Shelf.Strings.Shaped
import Derived.Shelf.Strings.Prefix
import Derived.Shelf.Strings.Split
import Derived.Shelf.Unicode.DecodeSlow
import Derived.Shelf.Slices.Equal
import Derived.Lib.SmallJoins
import Derived.Lib.AppendIntMem
import Derived.Deep.Slices
import Derived.RangeFuncNested
import Derived.Deep.CutBlock
import Derived.Great.BuildSlice
import Derived.RangeFuncBound
import Derived.RangeFuncCalls
import Derived.RangeFuncLeaves
import Derived.OwnWalkIn
import Derived.TacticsInMore
import Derived.LoopNIn
import Derived.LoopIn
import Derived.Great.Walk
import Derived.Deep.Fields
import Derived.OpenShut
import Derived.ChangeOld
import Derived.ChangeSame
import Derived.SizedLaws
import Derived.HandedShaped
namespace Go.Proofs.YtbbedhecfipdjaaGreatDoor
open Go.RowKit
set_option linter.unusedVariables false
set_option linter.unusedSimpArgs false
set_option maxHeartbeats 3200000 in
set_option maxRecDepth 100000 in
theorem reads_walk (p : PartS) (vp : Value) (w : World) (h : AttrsV w w.heap.size vp p.attrs) (hz : SizR p) (hl : p.attrs.length * 32 ≤ 140737488351232) (hE : EnvR w) (h7 : 7 ≤ w.heap.size) :
 Calls Tryz.prog 4 #[.agg #[.string p.line, .string p.conn, vp]] w fun e w' => e = .returned (.bool true) ∧ Below w.heap.size w w' := by
 obtain ⟨A, c, rfl, -⟩ := h.form
 obtain ⟨n, hn⟩ : ∃ n, p.attrs.length = n := ⟨_, rfl⟩
 have HAW : Hid (∀ W, Below w.heap.size w W → Calls Tryz.prog 14 #[] W fun e w' => e = .returned (.bool true) ∧ Below W.heap.size W w') := Lib.hid fun W hW => awake_any W (hE.under hW).env (Nat.le_trans h7 hW.size)
 have HRR : Hid (∀ W, Below w.heap.size w W → Calls Tryz.prog 21 #[.agg #[.string p.line, .string p.conn, .slice A n c]] W (RReadO p W)) := Lib.hid fun W hW => by
  have := rRead_any p _ W ((h.below hW).more hW.size) hz
  rw [hn] at this
  exact this
 have HTH : Hid (∀ W, Below w.heap.size w W → Calls Tryz.prog 23 #[.agg #[.string p.line, .string p.conn, .slice A n c]] W fun e w' => ∃ v, e = .returned (.agg #[.string p.line, .string p.conn, v]) ∧ Own w' W.heap.size 53 2 v (p.attrs.map acell) ∧ Below W.heap.size W w') := Lib.hid fun W hW => by
  have := theirs7_any p _ W ((h.below hW).more hW.size) hl
  rw [hn] at this
  exact this
 have HRD : Hid (∀ (W : World) (v : Value), Below w.heap.size w W → AttrsV W W.heap.size v p.attrs → Calls Tryz.prog 22 #[.agg #[.string p.line, .string p.conn, v]] W (ReadO p W)) := Lib.hid fun W v hW hv => read_any p v W hv hz (hE.under hW) (Nat.le_trans h7 hW.size)
 rw [hn]
 obtain ⟨ln, hln⟩ : ∃ x, p.line = x := ⟨_, rfl⟩
 obtain ⟨cn, hcn⟩ : ∃ x, p.conn = x := ⟨_, rfl⟩
 rw [hln, hcn] at HRR HTH HRD
 rw [hln, hcn]
 have HB0 : Hid (Below w.heap.size w (w.alloc (.cells #[.string ln, .string cn, .slice A n c] 32)) ∧ Whole (w.alloc (.cells #[.string ln, .string cn, .slice A n c] 32)) w.heap.size 32 #[.string ln, .string cn, .slice A n c]) := Lib.hid ⟨(Below.refl _ w).alloc (Nat.le_refl _) _, Whole.new _ _ _⟩
 obtain ⟨N, hN⟩ : ∃ N, w.heap.size = N := ⟨_, rfl⟩
 have HN := Lib.hid hN
 rw [hN] at HB0
 clear h hz hl hE h7 hN hln hcn hn
 go_enter Tryz.func4, Tryz.ntmps4
 go_upto_region 1 with fail
 simp only [HN.out]
 generalize w.alloc (.cells #[.string ln, .string cn, .slice A n c] 32) = W0 at *
 go_upto_region 3 with (go_at_call 14; (with_reducible refine (HAW.out _ (by rw [HN.out]; exact HB0.out.1)).mono ?_); rintro e w1 ⟨rfl, hb1⟩; have H1 : Hid (Below w.heap.size w w1 ∧ Whole w1 N 32 #[.string ln, .string cn, .slice A n c]) := Lib.hid ⟨by have hb0 := HB0.out.1; rw [← HN.out] at hb0; exact hb0.trans (hb1.mono hb0.size), HB0.out.2.under hb1⟩; clear hb1; dsimp only)
 clear HB0
 have a0 : w1.cell? ⟨N, 0, none⟩ = some (.string ln) := H1.out.2.cell 0
 have a1 : w1.cell? ⟨N, 1, none⟩ = some (.string cn) := H1.out.2.cell 1
 have a2 : w1.cell? ⟨N, 2, none⟩ = some (.slice A n c) := H1.out.2.cell 2
 go_upto_region 4 with (go_at_call 21; (with_reducible refine (HRR.out _ H1.out.1).mono ?_); rintro e w2 hw2; obtain ⟨m, AC, lC, kC, AE, lE, kE, AR, lR, kR, AS, lS, kS, AY, lY, kY, er, rfl, hb2, hi2, hm2⟩ := hw2.norm; clear hw2; unfold mcell; have H2 := Lib.hid (And.intro hb2 (And.intro hi2 hm2)); clear hb2 hi2 hm2; dsimp only)
 clear a0 a1 a2
 have hb3 : Below w2.heap.size w2 (w2.alloc (.cells #[.int .i64 m.kind, .int .i64 m.port, .string m.mid, .int .i64 m.dir, .slice AC lC kC, .slice AE lE kE, .slice AR lR kR, .bool m.sending, .slice AS lS kS, .slice AY lY kY, .int .i64 m.sctp] 28)) := (Below.refl _ w2).alloc (Nat.le_refl _) _
 have H3 : Hid (Below w.heap.size w (w2.alloc (.cells #[.int .i64 m.kind, .int .i64 m.port, .string m.mid, .int .i64 m.dir, .slice AC lC kC, .slice AE lE kE, .slice AR lR kR, .bool m.sending, .slice AS lS kS, .slice AY lY kY, .int .i64 m.sctp] 28)) ∧ Whole (w2.alloc (.cells #[.int .i64 m.kind, .int .i64 m.port, .string m.mid, .int .i64 m.dir, .slice AC lC kC, .slice AE lE kE, .slice AR lR kR, .bool m.sending, .slice AS lS kS, .slice AY lY kY, .int .i64 m.sctp] 28)) N 32 #[.string ln, .string cn, .slice A n c] ∧ Whole (w2.alloc (.cells #[.int .i64 m.kind, .int .i64 m.port, .string m.mid, .int .i64 m.dir, .slice AC lC kC, .slice AE lE kE, .slice AR lR kR, .bool m.sending, .slice AS lS kS, .slice AY lY kY, .int .i64 m.sctp] 28)) w2.heap.size 28 #[.int .i64 m.kind, .int .i64 m.port, .string m.mid, .int .i64 m.dir, .slice AC lC kC, .slice AE lE kE, .slice AR lR kR, .bool m.sending, .slice AS lS kS, .slice AY lY kY, .int .i64 m.sctp] ∧ MediaV (w2.alloc (.cells #[.int .i64 m.kind, .int .i64 m.port, .string m.mid, .int .i64 m.dir, .slice AC lC kC, .slice AE lE kE, .slice AR lR kR, .bool m.sending, .slice AS lS kS, .slice AY lY kY, .int .i64 m.sctp] 28)) w2.heap.size (mcell m (.slice AC lC kC) (.slice AE lE kE) (.slice AR lR kR) (.slice AS lS kS) (.slice AY lY kY)) m (.slice AC lC kC) (.slice AE lE kE) (.slice AR lR kR) (.slice AS lS kS) (.slice AY lY kY)) := Lib.hid (by
  have hb := below_chain (Nat.le_refl _) H2.out.1 hb3
  exact ⟨H1.out.1.trans (hb.mono H1.out.1.size), H1.out.2.under hb, Whole.new _ _ _, H2.out.2.2.below hb3⟩)
 have HIS := Lib.hid H2.out.2.1
 clear hb3 H2
 generalize w2.alloc (.cells #[.int .i64 m.kind, .int .i64 m.port, .string m.mid, .int .i64 m.dir, .slice AC lC kC, .slice AE lE kE, .slice AR lR kR, .bool m.sending, .slice AS lS kS, .slice AY lY kY, .int .i64 m.sctp] 28) = w3 at *
 have HG3 : Hid (w2.heap.size ≤ w3.heap.size) := Lib.hid (Nat.le_of_lt H3.out.2.2.1.lt)
 generalize w2.heap.size = g3 at *
 have a0 : w3.cell? ⟨N, 0, none⟩ = some (.string ln) := H3.out.2.1.cell 0
 have a1 : w3.cell? ⟨N, 1, none⟩ = some (.string cn) := H3.out.2.1.cell 1
 have a2 : w3.cell? ⟨N, 2, none⟩ = some (.slice A n c) := H3.out.2.1.cell 2
 go_upto_region 5 with (first
  | (go_at_call 23; (with_reducible refine (HTH.out _ H3.out.1).mono ?_); rintro e w4 ⟨v4, rfl, ho4, hb4⟩; have H4 : Hid (Below w3.heap.size w3 w4 ∧ Below w.heap.size w w4 ∧ Calls Tryz.prog 22 #[.agg #[.string ln, .string cn, v4]] w4 (ReadO p w4)) := Lib.hid (by have hb := H3.out.1.trans (hb4.mono H3.out.1.size); exact ⟨hb4, hb, HRD.out w4 v4 hb (ho4.reads (Nat.le_refl _))⟩); obtain ⟨A4, l4, k4, hv4⟩ : ∃ A l k, v4 = .slice A l k := (by obtain ⟨A, k, h, -⟩ := ho4.form; exact ⟨_, _, _, h⟩); subst hv4; clear hb4 ho4; dsimp only)
  | (go_at_call 22; (with_reducible refine H4.out.2.2.mono ?_); rintro e w5 hw5; obtain ⟨m', xAC, xlC, xkC, xAE, xlE, xkE, xAR, xlR, xkR, xAS, xlS, xkS, xAY, xlY, xkY, er', rfl, hb5, hi5, hm5⟩ := hw5.norm; clear hw5; obtain ⟨rfl, rfl⟩ := HIS.out.uniq hi5; unfold mcell; have H5 : Hid (Below w3.heap.size w3 w5 ∧ MediaV w5 w5.heap.size (mcell m (.slice xAC xlC xkC) (.slice xAE xlE xkE) (.slice xAR xlR xkR) (.slice xAS xlS xkS) (.slice xAY xlY xkY)) m (.slice xAC xlC xkC) (.slice xAE xlE xkE) (.slice xAR xlR xkR) (.slice xAS xlS xkS) (.slice xAY xlY xkY)) := Lib.hid ⟨below_chain (Nat.le_refl _) H4.out.1 hb5, hm5⟩; clear hb5 hi5 hm5; dsimp only))
 clear a0 a1 a2
 have hb6 : Below w5.heap.size w5 (w5.alloc (.cells #[.int .i64 m.kind, .int .i64 m.port, .string m.mid, .int .i64 m.dir, .slice xAC xlC xkC, .slice xAE xlE xkE, .slice xAR xlR xkR, .bool m.sending, .slice xAS xlS xkS, .slice xAY xlY xkY, .int .i64 m.sctp] 28)) := (Below.refl _ w5).alloc (Nat.le_refl _) _
 have H6 : Hid (Below w3.heap.size w3 (w5.alloc (.cells #[.int .i64 m.kind, .int .i64 m.port, .string m.mid, .int .i64 m.dir, .slice xAC xlC xkC, .slice xAE xlE xkE, .slice xAR xlR xkR, .bool m.sending, .slice xAS xlS xkS, .slice xAY xlY xkY, .int .i64 m.sctp] 28)) ∧ Whole (w5.alloc (.cells #[.int .i64 m.kind, .int .i64 m.port, .string m.mid, .int .i64 m.dir, .slice xAC xlC xkC, .slice xAE xlE xkE, .slice xAR xlR xkR, .bool m.sending, .slice xAS xlS xkS, .slice xAY xlY xkY, .int .i64 m.sctp] 28)) w5.heap.size 28 #[.int .i64 m.kind, .int .i64 m.port, .string m.mid, .int .i64 m.dir, .slice xAC xlC xkC, .slice xAE xlE xkE, .slice xAR xlR xkR, .bool m.sending, .slice xAS xlS xkS, .slice xAY xlY xkY, .int .i64 m.sctp] ∧ MediaV (w5.alloc (.cells #[.int .i64 m.kind, .int .i64 m.port, .string m.mid, .int .i64 m.dir, .slice xAC xlC xkC, .slice xAE xlE xkE, .slice xAR xlR xkR, .bool m.sending, .slice xAS xlS xkS, .slice xAY xlY xkY, .int .i64 m.sctp] 28)) w5.heap.size (mcell m (.slice xAC xlC xkC) (.slice xAE xlE xkE) (.slice xAR xlR xkR) (.slice xAS xlS xkS) (.slice xAY xlY xkY)) m (.slice xAC xlC xkC) (.slice xAE xlE xkE) (.slice xAR xlR xkR) (.slice xAS xlS xkS) (.slice xAY xlY xkY)) := Lib.hid ⟨below_chain (Nat.le_refl _) H5.out.1 hb6, Whole.new _ _ _, H5.out.2.below hb6⟩
 clear hb6 H5 H4
 generalize w5.alloc (.cells #[.int .i64 m.kind, .int .i64 m.port, .string m.mid, .int .i64 m.dir, .slice xAC xlC xkC, .slice xAE xlE xkE, .slice xAR xlR xkR, .bool m.sending, .slice xAS xlS xkS, .slice xAY xlY xkY, .int .i64 m.sctp] 28) = w6 at *
 have HG6 : Hid (w5.heap.size ≤ w6.heap.size) := Lib.hid (Nat.le_of_lt H6.out.2.1.lt)
 generalize w5.heap.size = g6 at *
 have HSA : Hid (Calls Tryz.prog 24 #[.agg #[.int .i64 m.kind, .int .i64 m.port, .string m.mid, .int .i64 m.dir, .slice xAC xlC xkC, .slice xAE xlE xkE, .slice xAR xlR xkR, .bool m.sending, .slice xAS xlS xkS, .slice xAY xlY xkY, .int .i64 m.sctp], .agg #[.int .i64 m.kind, .int .i64 m.port, .string m.mid, .int .i64 m.dir, .slice AC lC kC, .slice AE lE kE, .slice AR lR kR, .bool m.sending, .slice AS lS kS, .slice AY lY kY, .int .i64 m.sctp]] w6 fun e w' => e = .returned (.bool true) ∧ Below w6.heap.size w6 w') := Lib.hid (by
  have := same_yes m (.slice xAC xlC xkC) (.slice xAE xlE xkE) (.slice xAR xlR xkR) (.slice xAS xlS xkS) (.slice xAY xlY xkY) (.slice AC lC kC) (.slice AE lE kE) (.slice AR lR kR) (.slice AS lS kS) (.slice AY lY kY) w6 (H6.out.2.2.more HG6.out) ((H3.out.2.2.2.more HG3.out).under H6.out.1)
  unfold mcell at this
  exact this)
 have H7 : Hid (Below w.heap.size w w6 ∧ Whole w6 g3 28 #[.int .i64 m.kind, .int .i64 m.port, .string m.mid, .int .i64 m.dir, .slice AC lC kC, .slice AE lE kE, .slice AR lR kR, .bool m.sending, .slice AS lS kS, .slice AY lY kY, .int .i64 m.sctp]) := Lib.hid ⟨H3.out.1.trans (H6.out.1.mono H3.out.1.size), H3.out.2.2.1.under H6.out.1⟩
 have b0 : w6.cell? ⟨g3, 0, none⟩ = some (.int .i64 m.kind) := H7.out.2.cell 0
 have b1 : w6.cell? ⟨g3, 1, none⟩ = some (.int .i64 m.port) := H7.out.2.cell 1
 have b2 : w6.cell? ⟨g3, 2, none⟩ = some (.string m.mid) := H7.out.2.cell 2
 have b3 : w6.cell? ⟨g3, 3, none⟩ = some (.int .i64 m.dir) := H7.out.2.cell 3
 have b4 : w6.cell? ⟨g3, 4, none⟩ = some (.slice AC lC kC) := H7.out.2.cell 4
 have b5 : w6.cell? ⟨g3, 5, none⟩ = some (.slice AE lE kE) := H7.out.2.cell 5
 have b6 : w6.cell? ⟨g3, 6, none⟩ = some (.slice AR lR kR) := H7.out.2.cell 6
 have b7 : w6.cell? ⟨g3, 7, none⟩ = some (.bool m.sending) := H7.out.2.cell 7
 have b8 : w6.cell? ⟨g3, 8, none⟩ = some (.slice AS lS kS) := H7.out.2.cell 8
 have b9 : w6.cell? ⟨g3, 9, none⟩ = some (.slice AY lY kY) := H7.out.2.cell 9
 have b10 : w6.cell? ⟨g3, 10, none⟩ = some (.int .i64 m.sctp) := H7.out.2.cell 10
 have z0 : w6.cell? ⟨g6, 0, none⟩ = some (.int .i64 m.kind) := H6.out.2.1.cell 0
 have z1 : w6.cell? ⟨g6, 1, none⟩ = some (.int .i64 m.port) := H6.out.2.1.cell 1
 have z2 : w6.cell? ⟨g6, 2, none⟩ = some (.string m.mid) := H6.out.2.1.cell 2
 have z3 : w6.cell? ⟨g6, 3, none⟩ = some (.int .i64 m.dir) := H6.out.2.1.cell 3
 have z4 : w6.cell? ⟨g6, 4, none⟩ = some (.slice xAC xlC xkC) := H6.out.2.1.cell 4
 have z5 : w6.cell? ⟨g6, 5, none⟩ = some (.slice xAE xlE xkE) := H6.out.2.1.cell 5
 have z6 : w6.cell? ⟨g6, 6, none⟩ = some (.slice xAR xlR xkR) := H6.out.2.1.cell 6
 have z7 : w6.cell? ⟨g6, 7, none⟩ = some (.bool m.sending) := H6.out.2.1.cell 7
 have z8 : w6.cell? ⟨g6, 8, none⟩ = some (.slice xAS xlS xkS) := H6.out.2.1.cell 8
 have z9 : w6.cell? ⟨g6, 9, none⟩ = some (.slice xAY xlY xkY) := H6.out.2.1.cell 9
 have z10 : w6.cell? ⟨g6, 10, none⟩ = some (.int .i64 m.sctp) := H6.out.2.1.cell 10
 have hee : (er == er) = true := by simp
 rcases HIS.out with ⟨rfl, -, -⟩ | ⟨rfl, -, -⟩
 all_goals
  go_wp2_with (go_at_call 24; (with_reducible refine HSA.out.mono ?_); rintro e w7 ⟨rfl, hb7⟩; have H8 : Hid (Below w.heap.size w w7) := Lib.hid (H7.out.1.trans (hb7.mono H7.out.1.size)); clear hb7; dsimp only)
  go_ret
  exact ⟨rfl, H8.out⟩
end Go.Proofs.YtbbedhecfipdjaaGreatDoor
namespace Go.Proofs.YtbbedhecfipdjaaGreatDoor
open Go.RowKit Go.ChangeShapes Go.WideShapes Go.ChangeAt Go.Deep
set_option linter.unusedVariables false
section
variable {H : Type} {enc : TypeId × Value → H} {P : Program} {w : World} {base : Nat} {spare : Nat → Bool} {held : Bool}
theorem open_slice_fields {t e : TypeId} {fs : Array Field} {fuel : Nat} {cs : List Value} {x : DataW H × List MemPlace} (ht : P.underlying t = some (.slice e)) (he : P.underlying e = some (.struct fs))
 (hone : oneCellFields P fs = true) (hC : P.cellsOf e = fs.size) (h : DataW.trod enc P w base spare held fuel t cs = some x) :
 (cs = [.slice none 0 0] ∧ x = (.nil, [])) ∨
 ∃ (a : Addr) (len cap m : Nat) (D : Nat → DataW H) (Pl : Nat → List MemPlace), cs = [.slice (some a) len cap] ∧ base ≤ a.block ∧ len ≤ cap ∧ cap ≤ maxLen ∧ m = (if spare a.block then cap else len) ∧
   x = (.slice ((List.range len).map D) ((List.range (m - len)).map fun j => D (len + j)), MemPlace.row a (m * fs.size) ++ (List.range m).flatMap Pl) ∧
   ∀ i, i < m → ∃ (ys : List (DataW H × List MemPlace)) (n : Nat), D i = .agg (ys.map (·.1)) ∧ Pl i = ys.flatMap (·.2) ∧ ys.length = fs.size ∧
     ∀ (j : Nat) (f : Field), fs[j]? = some f → ∃ (v : Value) (y : DataW H × List MemPlace), w.cell? (a.add (i * fs.size + j)) = some v ∧ ys[j]? = some y ∧ DataW.trod enc P w base spare held n f.type [v] = some y := by
 rcases open_slice ht h with h0 | ⟨a, len, cap, m, n, D, Pl, hcs, hb, hl, hm, hmm, hx, hi⟩
 · exact .inl h0
 · refine .inr ⟨a, len, cap, m, D, Pl, hcs, hb, hl, hm, hmm, by rw [hC] at hx; exact hx, fun i him => ?_⟩
   obtain ⟨cs', hc, ht'⟩ := hi i him
   rw [hC] at hc
   obtain ⟨ys, n', hn', hy, hlen, hyl, hf⟩ := DataW.trod_struct he ht'
   obtain ⟨_, hcl, hat⟩ := World.cells?_some hc
   simp only [Prod.mk.injEq] at hy
   refine ⟨ys, n', hy.1, hy.2, hyl, fun j f hj => ?_⟩
   obtain ⟨ho, hk⟩ := hone_of hone j f hj
   have hjl : j < fs.size := (Array.getElem?_eq_some_iff.1 hj).1
   have hcell := hat j hjl
   have hv : cs'[j]? = some (cs'[j]'(by omega)) := List.getElem?_eq_getElem (by omega)
   have h1 := hf j f hj
   rw [ho, hk] at h1
   have hone' : (cs'.drop j).take 1 = [cs'[j]'(by omega)] := by
    rw [List.drop_eq_getElem_cons (by omega)]
    rfl
   rw [hone'] at h1
   have hys : ys[j]? = some (ys[j]'(by omega)) := List.getElem?_eq_getElem (by omega)
   refine ⟨_, _, ?_, hys, h1.trans hys⟩
   rw [← Go.Deep.add_add, hcell, hv]
end
theorem Tryz.bytesRsAttr : Tryz.prog.bytesOf 55 = 32 := by kernel_rfl
theorem Tryz.cellsRsPart : Tryz.prog.cellsOf 32 = 3 := by kernel_rfl
theorem Tryz.cellsStr : Tryz.prog.cellsOf 9 = 1 := by kernel_rfl
theorem Tryz.cellsRsAttrs : Tryz.prog.cellsOf 30 = 1 := by kernel_rfl
def SizA (L : List AttrS) : Prop := ∀ (i : Nat) (a : AttrS), L[i]? = some a → a.name.size ≤ 140737488351232 ∧ a.value.size ≤ 140737488351232
section
variable {H : Type} {enc : TypeId × Value → H} {W : World} {base : Nat} {sp : Nat → Bool} {held : Bool}
theorem open_attrs {fuel : Nat} {v : Value} {x : DataW H × List MemPlace} (h : DataW.trod enc Tryz.prog W base sp held fuel 30 [v] = some x) (hw : ∀ n ∈ x.1.weights Tryz.prog 30, n ≤ 140737488351232) :
 ∃ L, AttrsV W W.heap.size v L ∧ L.length * 32 ≤ 140737488351232 ∧ SizA L := by
 rcases open_slice_fields Tryz.underlying30 Tryz.underlying55 (by kernel_rfl) (by kernel_rfl) h with ⟨hcs, _⟩ | ⟨ad, len, cap, m, D, Pl, hcs, _, hl, hm, hmm, hx, hi⟩
 · simp at hcs
   subst hcs
   exact ⟨[], AttrsV.nil _ _, by simp, fun i a e => by simp at e⟩
 · simp at hcs
   subst hcs
   have hlm : len ≤ m := by rw [hmm]; split <;> omega
   have hat : ∀ i, i < len → ∃ a : AttrS, W.cell? (ad.add (i * 2)) = some (.string a.name) ∧ W.cell? (ad.add (i * 2 + 1)) = some (.string a.value) ∧ a.name.size ≤ 140737488351232 ∧ a.value.size ≤ 140737488351232 := fun i hin => by
    obtain ⟨ys, n, hD, _, hyl, hf⟩ := hi i (by omega)
    have hwi : ∀ k ∈ (D i).weights Tryz.prog 55, k ≤ 140737488351232 := fun k hk => hw k (by
     rw [hx]
     simp only [DataW.weights, Tryz.underlying30, List.mem_cons, List.mem_append]
     exact .inr (.inl (weights_mem_all (d := D i) (List.mem_map.2 ⟨i, List.mem_range.2 hin, rfl⟩) k hk)))
    obtain ⟨v0, y0, c0, g0, t0⟩ := hf 0 _ rfl
    obtain ⟨v1, y1, c1, g1, t1⟩ := hf 1 _ rfl
    obtain ⟨s0, rfl, z0⟩ := open_str t0 (fun k hk => hwi k (by
     rw [hD]
     simp only [DataW.weights, Tryz.underlying55]
     exact DataW.weights_mem_each (j := 0) rfl (by rw [List.getElem?_map, g0]; rfl) k hk))
    obtain ⟨s1, rfl, z1⟩ := open_str t1 (fun k hk => hwi k (by
     rw [hD]
     simp only [DataW.weights, Tryz.underlying55]
     exact DataW.weights_mem_each (j := 1) rfl (by rw [List.getElem?_map, g1]; rfl) k hk))
    exact ⟨⟨s0, s1⟩, c0, c1, z0, z1⟩
   obtain ⟨L, hL, hR⟩ := pick hat
   refine ⟨L, ⟨some ad, cap, by rw [hL], by omega, hm, (fun e => by cases e), fun hn => ⟨ad, rfl, ?_, fun i a e => ⟨(hR i a e).1, (hR i a e).2.1⟩⟩⟩, ?_, fun i a e => (hR i a e).2.2⟩
   · obtain ⟨a, h0, _⟩ := hat 0 (by omega)
     have := block_lt_of_cell h0
     rwa [add_block] at this
   · have := hw (m * Tryz.prog.bytesOf 55) (by
      rw [hx]
      simp only [DataW.weights, Tryz.underlying30, List.mem_cons]
      refine .inl ?_
      congr 1
      simp
      omega)
     rw [Tryz.bytesRsAttr] at this
     omega
end
section
variable {H : Type} {enc : TypeId × Value → H} {W : World} {base : Nat} {sp : Nat → Bool}
set_option maxRecDepth 100000 in
theorem open_part {fuel : Nat} {v : Value} {x : DataW H × List MemPlace} (hv : Value.okWide Tryz.prog W .any base 32 v) (h : DataW.trod enc Tryz.prog W 0 sp true fuel 32 v.cells.toList = some x) (hw : ∀ n ∈ x.1.weights Tryz.prog 32, n ≤ 140737488351232) :
 ∃ (p : PartS) (vA : Value), v = .agg #[.string p.line, .string p.conn, vA] ∧ AttrsV W W.heap.size vA p.attrs ∧ SizR p ∧ p.attrs.length * 32 ≤ 140737488351232 := by
 obtain ⟨cs, rfl, hsz⟩ := okWide_struct Tryz.underlying32 hv
 rw [Tryz.cellsRsPart] at hsz
 have h' : DataW.trod enc Tryz.prog W 0 sp true fuel 32 cs.toList = some x := h
 obtain ⟨ys, n, _, hx, _, hyl, hf⟩ := DataW.trod_struct Tryz.underlying32 h'
 have f0 : DataW.trod enc Tryz.prog W 0 sp true n 9 ((cs.toList.drop 0).take (Tryz.prog.cellsOf 9)) = ys[0]? := hf 0 _ rfl
 have f1 : DataW.trod enc Tryz.prog W 0 sp true n 9 ((cs.toList.drop 1).take (Tryz.prog.cellsOf 9)) = ys[1]? := hf 1 _ rfl
 have f2 : DataW.trod enc Tryz.prog W 0 sp true n 30 ((cs.toList.drop 2).take (Tryz.prog.cellsOf 30)) = ys[2]? := hf 2 _ rfl
 have hy3 : ys.length = 3 := hyl
 rw [Tryz.cellsStr] at f0 f1
 rw [Tryz.cellsRsAttrs] at f2
 clear hf hyl hv h h'
 obtain ⟨l⟩ := cs
 have hl : l.length = 3 := by simpa using hsz
 match l, hl with
 | [c0, c1, c2], _ =>
   match ys, hy3 with
   | [y0, y1, y2], _ =>
     simp only [List.drop_zero, List.take_succ_cons, List.take_zero, List.drop_succ_cons, List.getElem?_cons_zero, List.getElem?_cons_succ] at f0 f1 f2
     obtain ⟨s0, rfl, z0⟩ := open_str f0 (fun k hk => hw k (by
      rw [hx]
      simp only [DataW.weights, Tryz.underlying32]
      exact DataW.weights_mem_each (j := 0) rfl rfl k hk))
     obtain ⟨s1, rfl, z1⟩ := open_str f1 (fun k hk => hw k (by
      rw [hx]
      simp only [DataW.weights, Tryz.underlying32]
      exact DataW.weights_mem_each (j := 1) rfl rfl k hk))
     obtain ⟨LA, hA, hA32, hAz⟩ := open_attrs f2 (fun k hk => hw k (by
      rw [hx]
      simp only [DataW.weights, Tryz.underlying32]
      exact DataW.weights_mem_each (j := 2) rfl rfl k hk))
     refine ⟨⟨s0, s1, LA⟩, _, rfl, hA, ⟨by show s0.size ≤ _; omega, fun a ha => ?_, by show LA.length ≤ _; omega⟩, hA32⟩
     obtain ⟨i, hi⟩ := List.getElem?_of_mem ha
     have := hAz i a hi
     omega
end
end Go.Proofs.YtbbedhecfipdjaaGreatDoor
