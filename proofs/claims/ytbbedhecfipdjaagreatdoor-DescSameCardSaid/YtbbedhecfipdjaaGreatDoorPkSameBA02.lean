import Derived.Test.YtbbedhecfipdjaaGreatDoorPkDescPrintsA00
import Derived.Test.YtbbedhecfipdjaaGreatDoorPkDescPrintsA06
import Derived.Test.YtbbedhecfipdjaaGreatDoorPkDescPrintsA01
import Derived.Test.YtbbedhecfipdjaaGreatDoorPkDescPrintsA02
import Derived.Test.YtbbedhecfipdjaaGreatDoorPkDescPrintsA04
import Derived.Test.YtbbedhecfipdjaaGreatDoorPkDescPrintsA07
import Derived.Test.YtbbedhecfipdjaaGreatDoorPkDescPrintsA08
import Derived.Test.YtbbedhecfipdjaaGreatDoorPkDescPrintsA09
import Derived.Test.YtbbedhecfipdjaaGreatDoorPkDescPrintsA10
import Derived.Test.YtbbedhecfipdjaaGreatDoorPkDescPrintsA11
import Derived.Test.YtbbedhecfipdjaaGreatDoorPkDescPrintsA12
import Derived.Test.YtbbedhecfipdjaaGreatDoorPkDescPrintsA03
import Derived.Test.YtbbedhecfipdjaaGreatDoorPkDescPrintsA05
import Derived.Test.YtbbedhecfipdjaaGreatDoorPkDescPrintsA13
import Derived.Test.YtbbedhecfipdjaaGreatDoorPkDescPrintsA14
import Derived.Test.YtbbedhecfipdjaaGreatDoorPkDescPrintsA15
import Derived.Test.YtbbedhecfipdjaaGreatDoorPkDescPrintsA16
import Derived.Test.YtbbedhecfipdjaaGreatDoorPkDescPrintsA17
import Derived.Test.YtbbedhecfipdjaaGreatDoorPkSameBA01
import Derived.Test.YtbbedhecfipdjaaGreatDoorPkSameBA00
import Derived.Test.YtbbedhecfipdjaaGreatDoorProg
import Derived.Lib.IndexMore
import Derived.Lib.Join
import Derived.Shelf.Strings.Builder1
import Derived.Shelf.Strings.Builder2
import Derived.Shelf.Strings.OnBuilder
import Derived.Shelf.Small.Strs
import Derived.Shelf.Strings.BuilderF
import Derived.Shelf.Strconv.Atoi
import Derived.Shelf.Strconv.Itoa0
import Derived.Shelf.Strconv.Itoa1
import Derived.Shelf.LaysM
import Derived.Shelf.Strconv.Itoa2
import Derived.Shelf.Strconv.Itoa3
import Derived.Shelf.Strconv.AtoiErrFast
import Derived.Shelf.Strconv.ParseIntEmpty
import Derived.Shelf.Strconv.AtoiFail
import Derived.Shelf.Strconv.Clone
import Derived.Shelf.Strconv.SyntaxError
import Derived.Shelf.LaysC
import Derived.Shelf.Strconv.ToError
import Derived.Shelf.Strconv.Lower
import Derived.Shelf.Strconv.ParseUint10
import Derived.Shelf.Strconv.ParseUint10Empty
import Derived.Shelf.Strconv.ParseUint10Any
import Derived.Shelf.Strconv.ParseInt10
import Derived.Shelf.Strconv.AtoiLong
import Derived.Shelf.Strconv.AtoiInnerAll
import Derived.Shelf.Strconv.RangeError
import Derived.Shelf.Strconv.ToErrorRange
import Derived.Shelf.Strconv.AtoiAll
import Derived.Ground.MpProg
import Derived.Shelf.Pu.ParseUintPublic10
import Derived.Shelf.Strings.Search1
import Derived.Shelf.Strings.Search2
import Derived.Shelf.Strings.Search3
import Derived.Shelf.Strings.Cut
import Derived.Shelf.Strings.Count
import Derived.Shelf.Strings.Shaped
import Derived.Shelf.Strings.Prefix
import Derived.Shelf.Strings.Split
import Derived.Shelf.Unicode.DecodeSlow
import Derived.Shelf.Slices.Equal
import Derived.Lib.SmallJoins
import Derived.Lib.AppendIntMem
import Derived.Deep.Slices
import Derived.Lib.SplitLaws
namespace Go.Proofs.YtbbedhecfipdjaaGreatDoor
open Go.RowKit
set_option linter.unusedVariables false
set_option linter.unusedSimpArgs false
theorem sameBool {α : Type} (x y : α) : ∃ b : Bool, b = true ↔ x = y := by classical exact ⟨decide (x = y), by simp⟩
theorem SameB.fix {α : Type} {w w' : World} {x y : α} {e : Ending} {b0 : Bool} (h0 : b0 = true ↔ x = y) (h : SameB w x y e w') : e = .returned (.bool b0) ∧ Below w.heap.size w w' := by
 obtain ⟨b, rfl, hb, hw⟩ := h
 have : b = b0 := by rw [Bool.eq_iff_iff, hb, h0]
 exact ⟨by rw [this], hw⟩
theorem MediaS.ext' {a b : MediaS} (h1 : a.kind = b.kind) (h2 : a.port = b.port) (h3 : a.mid = b.mid) (h4 : a.dir = b.dir) (h5 : a.codecs = b.codecs) (h6 : a.exts = b.exts) (h7 : a.rids = b.rids) (h8 : a.sending = b.sending) (h9 : a.sources = b.sources) (h10 : a.crypto = b.crypto) (h11 : a.sctp = b.sctp) : a = b := by
 cases a; cases b; simp_all
theorem CodecS.ext' {a b : CodecS} (h1 : a.type = b.type) (h2 : a.name = b.name) (h3 : a.clock = b.clock) (h4 : a.chans = b.chans) (h5 : a.format = b.format) (h6 : a.feedback = b.feedback) : a = b := by
 cases a; cases b; simp_all
structure CodecV (w : World) (B : Nat) (C : Array Value) (c : CodecS) (vf : Value) : Prop where
 form : C = #[.int .i64 c.type, .string c.name, .int .i64 c.clock, .int .i64 c.chans, .string c.format, vf]
 feeds : TextsV w B vf c.feedback
theorem CodecV.below {w w' : World} {B : Nat} {C : Array Value} {c : CodecS} {vf : Value} (h : CodecV w B C c vf) (hb : Below B w w') : CodecV w' B C c vf := ⟨h.form, h.feeds.below hb⟩
theorem CodecV.more {w : World} {B B' : Nat} {C : Array Value} {c : CodecS} {vf : Value} (h : CodecV w B C c vf) (hB : B ≤ B') : CodecV w B' C c vf := ⟨h.form, h.feeds.more hB⟩
theorem CodecV.under {w w' : World} {C : Array Value} {c : CodecS} {vf : Value} (h : CodecV w w.heap.size C c vf) (hb : Below w.heap.size w w') : CodecV w' w'.heap.size C c vf := (h.below hb).more hb.size
theorem CodecV.size {w : World} {B : Nat} {C : Array Value} {c : CodecS} {vf : Value} (h : CodecV w B C c vf) : C.size = 6 := by rw [h.form]; rfl
theorem CodecV.one {w : World} {B : Nat} {C : Array Value} {c : CodecS} {vf : Value} (h : CodecV w B C c vf) : C.toList.all (·.oneCell') = true := by
 obtain ⟨A1, c1, rfl, -⟩ := Rows.form h.feeds
 rw [h.form]
 rfl
theorem CodecsV.cells {w : World} {B : Nat} {v : Value} {L : List CodecS} (h : CodecsV w B v L) {i : Nat} (hi : i < L.length) : ∃ ad c C vf, v = .slice (some ad) L.length c ∧ ad.block < B ∧ CodecV w B C (L.getD i default) vf ∧
 ∀ j u, C.toList[j]? = some u → w.cell? ((ad.add (i * 6)).add j) = some u := by
 obtain ⟨ad, c, h1, h2, _, _, q0, q1, q2, q3, q4, vf, q5, q6⟩ := Rows.at_ h (List.getElem?_eq_getElem hi)
 have e : L.getD i default = L[i] := by simp [List.getD, hi]
 rw [e]
 refine ⟨ad, c, _, vf, h1, h2, ⟨rfl, q6⟩, fun j u hu => ?_⟩
 rw [Go.Deep.add_add]
 match j, hu with
 | 0, hu => simp at hu; subst hu; exact q0
 | 1, hu => simp at hu; subst hu; exact q1
 | 2, hu => simp at hu; subst hu; exact q2
 | 3, hu => simp at hu; subst hu; exact q3
 | 4, hu => simp at hu; subst hu; exact q4
 | 5, hu => simp at hu; subst hu; exact q5
 | j + 6, hu => simp at hu
theorem two_boxes (w : World) (t : TypeId) (X Y : Array Value) : Below w.heap.size w ((w.alloc (.cells X t)).alloc (.cells Y t)) ∧ Whole ((w.alloc (.cells X t)).alloc (.cells Y t)) w.heap.size t X ∧ Whole ((w.alloc (.cells X t)).alloc (.cells Y t)) (w.heap.size + 1) t Y :=
 ⟨two_new _ _ _ _, (Whole.new w _ _).alloc _, Whole.new2 _ _ _ _⟩
set_option maxHeartbeats 3200000 in
set_option maxRecDepth 100000 in
theorem sameCodec_any (X Y : Array Value) (x y : CodecS) (vf uf : Value) (w : World) (h1 : CodecV w w.heap.size X x vf) (h2 : CodecV w w.heap.size Y y uf) : Calls Tryz.prog 124 #[.agg X, .agg Y] w (SameB w x y) := by
 obtain ⟨hb0, hx0, hy0⟩ := two_boxes w 58 X Y
 obtain ⟨A0, c0, hA0, -⟩ := Rows.form h1.feeds
 obtain ⟨D0, d0, hD0, -⟩ := Rows.form h2.feeds
 obtain ⟨n0, hn0⟩ : ∃ n, x.feedback.length = n := ⟨_, rfl⟩
 obtain ⟨m0, hm0⟩ : ∃ n, y.feedback.length = n := ⟨_, rfl⟩
 rw [hn0] at hA0
 rw [hm0] at hD0
 subst hA0 hD0
 obtain ⟨b5, hb5⟩ := sameBool x.feedback y.feedback
 have HC5 : Hid (∀ W, Below w.heap.size w W → Calls Tryz.prog 70 #[.slice A0 n0 c0, .slice D0 m0 d0] W fun e w' => e = .returned (.bool b5) ∧ Below W.heap.size W w') := Lib.hid fun W hW =>
  (equalT_any _ _ x.feedback y.feedback W ((h1.feeds.below hW).more hW.size) ((h2.feeds.below hW).more hW.size)).mono fun e w' h => h.fix hb5
 have HE : Hid (x = y ↔ x.type = y.type ∧ x.name = y.name ∧ x.clock = y.clock ∧ x.chans = y.chans ∧ x.format = y.format ∧ x.feedback = y.feedback) := Lib.hid ⟨fun e => by rw [e]; exact ⟨rfl, rfl, rfl, rfl, rfl, rfl⟩, fun ⟨h0, h1, h2, h3, h4, h5⟩ => CodecS.ext' h0 h1 h2 h3 h4 h5⟩
 have HB5 := Lib.hid hb5
 clear hb5
 have hX := h1.form
 have hY := h2.form
 have HXC : Hid (X[0]? = some (.int .i64 x.type) ∧ X[1]? = some (.string x.name) ∧ X[2]? = some (.int .i64 x.clock) ∧ X[3]? = some (.int .i64 x.chans) ∧ X[4]? = some (.string x.format) ∧ X[5]? = some (.slice A0 n0 c0)) := Lib.hid (by rw [hX]; exact ⟨rfl, rfl, rfl, rfl, rfl, rfl⟩)
 have HYC : Hid (Y[0]? = some (.int .i64 y.type) ∧ Y[1]? = some (.string y.name) ∧ Y[2]? = some (.int .i64 y.clock) ∧ Y[3]? = some (.int .i64 y.chans) ∧ Y[4]? = some (.string y.format) ∧ Y[5]? = some (.slice D0 m0 d0)) := Lib.hid (by rw [hY]; exact ⟨rfl, rfl, rfl, rfl, rfl, rfl⟩)
 have H0 := Lib.hid (And.intro hb0 (And.intro hx0 hy0))
 obtain ⟨N, hN⟩ : ∃ N, w.heap.size = N := ⟨_, rfl⟩
 rw [hN] at H0
 have HN := Lib.hid hN
 have HP0 : Hid (∀ W, Below (w.alloc (.cells X 58) |>.alloc (.cells Y 58)).heap.size (w.alloc (.cells X 58) |>.alloc (.cells Y 58)) W → W.cell? ⟨N, 0, none⟩ = some (.int .i64 x.type) ∧ W.cell? ⟨N + 1, 0, none⟩ = some (.int .i64 y.type)) := Lib.hid fun W hW => ⟨((H0.out.2.1.under hW).cell 0).trans HXC.out.1, ((H0.out.2.2.under hW).cell 0).trans HYC.out.1⟩
 have HP1 : Hid (∀ W, Below (w.alloc (.cells X 58) |>.alloc (.cells Y 58)).heap.size (w.alloc (.cells X 58) |>.alloc (.cells Y 58)) W → W.cell? ⟨N, 1, none⟩ = some (.string x.name) ∧ W.cell? ⟨N + 1, 1, none⟩ = some (.string y.name)) := Lib.hid fun W hW => ⟨((H0.out.2.1.under hW).cell 1).trans HXC.out.2.1, ((H0.out.2.2.under hW).cell 1).trans HYC.out.2.1⟩
 have HP2 : Hid (∀ W, Below (w.alloc (.cells X 58) |>.alloc (.cells Y 58)).heap.size (w.alloc (.cells X 58) |>.alloc (.cells Y 58)) W → W.cell? ⟨N, 2, none⟩ = some (.int .i64 x.clock) ∧ W.cell? ⟨N + 1, 2, none⟩ = some (.int .i64 y.clock)) := Lib.hid fun W hW => ⟨((H0.out.2.1.under hW).cell 2).trans HXC.out.2.2.1, ((H0.out.2.2.under hW).cell 2).trans HYC.out.2.2.1⟩
 have HP3 : Hid (∀ W, Below (w.alloc (.cells X 58) |>.alloc (.cells Y 58)).heap.size (w.alloc (.cells X 58) |>.alloc (.cells Y 58)) W → W.cell? ⟨N, 3, none⟩ = some (.int .i64 x.chans) ∧ W.cell? ⟨N + 1, 3, none⟩ = some (.int .i64 y.chans)) := Lib.hid fun W hW => ⟨((H0.out.2.1.under hW).cell 3).trans HXC.out.2.2.2.1, ((H0.out.2.2.under hW).cell 3).trans HYC.out.2.2.2.1⟩
 have HP4 : Hid (∀ W, Below (w.alloc (.cells X 58) |>.alloc (.cells Y 58)).heap.size (w.alloc (.cells X 58) |>.alloc (.cells Y 58)) W → W.cell? ⟨N, 4, none⟩ = some (.string x.format) ∧ W.cell? ⟨N + 1, 4, none⟩ = some (.string y.format)) := Lib.hid fun W hW => ⟨((H0.out.2.1.under hW).cell 4).trans HXC.out.2.2.2.2.1, ((H0.out.2.2.under hW).cell 4).trans HYC.out.2.2.2.2.1⟩
 have HP5 : Hid (∀ W, Below (w.alloc (.cells X 58) |>.alloc (.cells Y 58)).heap.size (w.alloc (.cells X 58) |>.alloc (.cells Y 58)) W → W.cell? ⟨N, 5, none⟩ = some (.slice A0 n0 c0) ∧ W.cell? ⟨N + 1, 5, none⟩ = some (.slice D0 m0 d0)) := Lib.hid fun W hW => ⟨((H0.out.2.1.under hW).cell 5).trans HXC.out.2.2.2.2.2, ((H0.out.2.2.under hW).cell 5).trans HYC.out.2.2.2.2.2⟩
 clear h1 h2 hx0 hy0 hN hX hY hn0 hm0
 generalize x.type = x0 at *
 generalize y.type = y0 at *
 generalize x.name = x1 at *
 generalize y.name = y1 at *
 generalize x.clock = x2 at *
 generalize y.clock = y2 at *
 generalize x.chans = x3 at *
 generalize y.chans = y3 at *
 generalize x.format = x4 at *
 generalize y.format = y4 at *
 go_enter Tryz.func124, Tryz.ntmps124
 go_upto_region 1 with fail
 simp only [HN.out, Nat.add_assoc, Nat.reduceAdd]
 have HU : Hid (∀ W, Below ((w.alloc (.cells X 58)).alloc (.cells Y 58)).heap.size ((w.alloc (.cells X 58)).alloc (.cells Y 58)) W → Below w.heap.size w W) := Lib.hid fun W hW => below_chain (Nat.le_refl _) (by have := H0.out.1; rw [← HN.out] at this; exact this) hW
 generalize ((w.alloc (.cells X 58)).alloc (.cells Y 58)) = W0 at *
 have HR := Lib.hid (Below.refl W0.heap.size W0)
 have p0W0 := (HP0.out W0 HR.out).1
 have q0W0 := (HP0.out W0 HR.out).2
 have p1W0 := (HP1.out W0 HR.out).1
 have q1W0 := (HP1.out W0 HR.out).2
 have p2W0 := (HP2.out W0 HR.out).1
 have q2W0 := (HP2.out W0 HR.out).2
 have p3W0 := (HP3.out W0 HR.out).1
 have q3W0 := (HP3.out W0 HR.out).2
 have p4W0 := (HP4.out W0 HR.out).1
 have q4W0 := (HP4.out W0 HR.out).2
 have p5W0 := (HP5.out W0 HR.out).1
 have q5W0 := (HP5.out W0 HR.out).2
 have HB0 : Hid ((x0 == y0) = true ↔ x0 = y0) := Lib.hid beq_iff_eq
 obtain ⟨b0, hb0'⟩ : ∃ b, (x0 == y0) = b := ⟨_, rfl⟩
 rw [hb0'] at HB0
 cases b0 with
 | false =>
   have HNE : Hid (¬ (x = y)) := Lib.hid (fun e => by have h := (HE.out.1 e).1; have := HB0.out.2 h; cases this)
   go_wp2_with fail
   go_ret
   exact ⟨false, rfl, ⟨fun e => (by cases e), fun e => (HNE.out e).elim⟩, HU.out _ HR.out⟩
 | true =>
   have HB1 : Hid ((x1.toList == y1.toList) = true ↔ x1 = y1) := Lib.hid toList_beq
   obtain ⟨b1, hb1'⟩ : ∃ b, (x1.toList == y1.toList) = b := ⟨_, rfl⟩
   rw [hb1'] at HB1
   cases b1 with
   | false =>
     have HNE : Hid (¬ (x = y)) := Lib.hid (fun e => by have h := (HE.out.1 e).2.1; have := HB1.out.2 h; cases this)
     go_wp2_with fail
     go_ret
     exact ⟨false, rfl, ⟨fun e => (by cases e), fun e => (HNE.out e).elim⟩, HU.out _ HR.out⟩
   | true =>
     have HB2 : Hid ((x2 == y2) = true ↔ x2 = y2) := Lib.hid beq_iff_eq
     obtain ⟨b2, hb2'⟩ : ∃ b, (x2 == y2) = b := ⟨_, rfl⟩
     rw [hb2'] at HB2
     cases b2 with
     | false =>
       have HNE : Hid (¬ (x = y)) := Lib.hid (fun e => by have h := (HE.out.1 e).2.2.1; have := HB2.out.2 h; cases this)
       go_wp2_with fail
       go_ret
       exact ⟨false, rfl, ⟨fun e => (by cases e), fun e => (HNE.out e).elim⟩, HU.out _ HR.out⟩
     | true =>
       have HB3 : Hid ((x3 == y3) = true ↔ x3 = y3) := Lib.hid beq_iff_eq
       obtain ⟨b3, hb3'⟩ : ∃ b, (x3 == y3) = b := ⟨_, rfl⟩
       rw [hb3'] at HB3
       cases b3 with
       | false =>
         have HNE : Hid (¬ (x = y)) := Lib.hid (fun e => by have h := (HE.out.1 e).2.2.2.1; have := HB3.out.2 h; cases this)
         go_wp2_with fail
         go_ret
         exact ⟨false, rfl, ⟨fun e => (by cases e), fun e => (HNE.out e).elim⟩, HU.out _ HR.out⟩
       | true =>
         have HB4 : Hid ((x4.toList == y4.toList) = true ↔ x4 = y4) := Lib.hid toList_beq
         obtain ⟨b4, hb4'⟩ : ∃ b, (x4.toList == y4.toList) = b := ⟨_, rfl⟩
         rw [hb4'] at HB4
         cases b4 with
         | false =>
           have HNE : Hid (¬ (x = y)) := Lib.hid (fun e => by have h := (HE.out.1 e).2.2.2.2.1; have := HB4.out.2 h; cases this)
           go_wp2_with fail
           go_ret
           exact ⟨false, rfl, ⟨fun e => (by cases e), fun e => (HNE.out e).elim⟩, HU.out _ HR.out⟩
         | true =>
           cases b5 with
           | false =>
             have HNE : Hid (¬ (x = y)) := Lib.hid (fun e => by have h := (HE.out.1 e).2.2.2.2.2; have := HB5.out.2 h; cases this)
             go_wp2_with (first
              | (go_at_call 70; (with_reducible refine (HC5.out _ (HU.out _ HR.out)).mono ?_); rintro e w1 ⟨rfl, hb5⟩; have H1 : Hid (Below W0.heap.size W0 w1) := Lib.hid (below_chain (Nat.le_refl _) HR.out hb5); clear hb5; dsimp only))
             go_ret
             exact ⟨false, rfl, ⟨fun e => (by cases e), fun e => (HNE.out e).elim⟩, HU.out _ H1.out⟩
           | true =>
             have HEQ : Hid (x = y) := Lib.hid (HE.out.2 ⟨HB0.out.1 rfl, HB1.out.1 rfl, HB2.out.1 rfl, HB3.out.1 rfl, HB4.out.1 rfl, HB5.out.1 rfl⟩)
             go_wp2_with (first
              | (go_at_call 70; (with_reducible refine (HC5.out _ (HU.out _ HR.out)).mono ?_); rintro e w1 ⟨rfl, hb5⟩; have H1 : Hid (Below W0.heap.size W0 w1) := Lib.hid (below_chain (Nat.le_refl _) HR.out hb5); clear hb5; dsimp only))
             go_ret
             exact ⟨true, rfl, ⟨fun _ => HEQ.out, fun _ => rfl⟩, HU.out _ H1.out⟩
set_option maxHeartbeats 3200000 in
set_option maxRecDepth 100000 in
theorem eqFC_any (v1 v2 : Value) (L M : List CodecS) (w : World) (h1 : CodecsV w w.heap.size v1 L) (h2 : CodecsV w w.heap.size v2 M) : Calls Tryz.prog 123 #[v1, v2, .func (.func 124) #[] #[]] w (SameB w L M) := by
 obtain ⟨A1, c1, rfl, hc1, hm1, _⟩ := Rows.form h1
 obtain ⟨A2, c2, rfl, hc2, hm2, _⟩ := Rows.form h2
 have H1 := Lib.hid h1
 have H2 := Lib.hid h2
 clear h1 h2
 obtain ⟨n, hn⟩ : ∃ n, L.length = n := ⟨_, rfl⟩
 obtain ⟨m, hm⟩ : ∃ m, M.length = m := ⟨_, rfl⟩
 have HN := Lib.hid hn
 have HM := Lib.hid hm
 rw [hn] at hc1
 rw [hm] at hc2
 rw [hn, hm]
 unfold maxLen at hm1 hm2
 clear hn hm
 by_cases hnm : n = m
 · subst hnm
   have hz : ((n : Int) == (n : Int)) = true := by simp
   go_enter Tryz.func123, Tryz.ntmps123
   go_wp2
   go_loopw [17] (fun s17 wr => ∃ k : Nat, k ≤ n ∧ s17 = .int .i64 k ∧ (∀ j, j < k → L[j]? = M[j]?) ∧ Below w.heap.size w wr) (fun s17 _ => n - (intOf s17).toNat)
   case atStart => exact ⟨0, Nat.zero_le _, rfl, (fun j hj => by omega), Below.refl _ w⟩
   case round =>
    obtain ⟨k, hk, rfl, hsame, hb⟩ := hrel
    have HS := Lib.hid (And.intro hsame hb)
    clear hsame
    by_cases hlt : k < n
    · obtain ⟨ad1, c1', X, vf, e1, b1, hx, xs⟩ := CodecsV.cells (H1.out.below hb) (i := k) (by rw [HN.out]; exact hlt)
      obtain ⟨ad2, c2', Y, uf, e2, b2, hy, ys⟩ := CodecsV.cells (H2.out.below hb) (i := k) (by rw [HM.out]; exact hlt)
      injection e1 with e1 e1n e1c; clear e1n e1c
      injection e2 with e2 e2n e2c; clear e2n e2c
      subst e1 e2
      have gL := getD_of (L := L) (i := k) (by rw [HN.out]; exact hlt)
      have gM := getD_of (L := M) (i := k) (by rw [HM.out]; exact hlt)
      obtain ⟨a, ha⟩ : ∃ a, L.getD k default = a := ⟨_, rfl⟩
      obtain ⟨b, hbb⟩ : ∃ b, M.getD k default = b := ⟨_, rfl⟩
      rw [ha] at hx gL
      rw [hbb] at hy gM
      have HG := Lib.hid (And.intro gL gM)
      have hk0 : (0 : Int) ≤ (k : Int) := by omega
      have hk1 : (k : Int) < (n : Int) := by omega
      have hwr := hb.size
      have HLD1 : Hid (∀ (ops : Array Oper) (rest : List Oper) (op : Oper) (act : Act) (Q : Exit → Act → World → Prop), op.guard = none → op.op = .load 58 (.tmp 20) → act.eval (.tmp 20) = .pointer (some (ad1.add (k * 6))) → wpList Tryz.prog ops Q rest (act.put op.dst (.agg X)) wr → wpList Tryz.prog ops Q (op :: rest) act wr) :=
       Lib.hid fun ops rest op act Q h1 h2 h3 h4 => wpList_load_at h1 58 (.tmp 20) h2 _ h3 X.toList _ xs Tryz.underlying58 rfl (by rw [Array.length_toList, hx.size]; exact Tryz.sizeCodec) (by rw [Array.toArray_toList]; exact h4)
      have HLD2 : Hid (∀ (W : World) (ops : Array Oper) (rest : List Oper) (op : Oper) (act : Act) (Q : Exit → Act → World → Prop), Below w.heap.size wr W → op.guard = none → op.op = .load 58 (.tmp 24) → act.eval (.tmp 24) = .pointer (some (ad2.add (k * 6))) → wpList Tryz.prog ops Q rest (act.put op.dst (.agg Y)) W → wpList Tryz.prog ops Q (op :: rest) act W) :=
       Lib.hid fun W ops rest op act Q hW h1 h2 h3 h4 => wpList_load_at h1 58 (.tmp 24) h2 _ h3 Y.toList _ (fun j u hu => (hW.cell (p := (ad2.add (k * 6)).add j) (by rw [add_block, add_block]; exact b2)).trans (ys j u hu)) Tryz.underlying58 rfl (by rw [Array.length_toList, hy.size]; exact Tryz.sizeCodec) (by rw [Array.toArray_toList]; exact h4)
      have HNEW : Hid (∀ W : World, Whole (W.alloc (.cells #[.int .i64 0, .string ⟨#[]⟩, .int .i64 0, .int .i64 0, .string ⟨#[]⟩, .slice none 0 0] 58)) W.heap.size 58 #[.int .i64 0, .string ⟨#[]⟩, .int .i64 0, .int .i64 0, .string ⟨#[]⟩, .slice none 0 0]) := Lib.hid fun W => Whole.new _ _ _
      have HXS : Hid ((X.size = 6 ∧ X.toList.all (·.oneCell') = true) ∧ Y.size = 6 ∧ Y.toList.all (·.oneCell') = true) := Lib.hid ⟨⟨hx.size, hx.one⟩, hy.size, hy.one⟩
      have HW1 : Hid (Below w.heap.size wr ((wr.alloc (.cells #[.int .i64 0, .string ⟨#[]⟩, .int .i64 0, .int .i64 0, .string ⟨#[]⟩, .slice none 0 0] 58)).setRow wr.heap.size X) ∧ Whole ((wr.alloc (.cells #[.int .i64 0, .string ⟨#[]⟩, .int .i64 0, .int .i64 0, .string ⟨#[]⟩, .slice none 0 0] 58)).setRow wr.heap.size X) wr.heap.size 58 X) := Lib.hid ⟨below_row ((Below.refl _ wr).alloc hwr _) hwr _, (HNEW.out wr).row _⟩
      have HXY := Lib.hid (And.intro hx hy)
      clear gL gM ha hbb xs ys hx hy b1 b2 hb
      go_upto_region 6 with (first
       | ((with_reducible refine HLD1.out _ _ _ _ _ ?_ ?_ ?_ ?_); (with_reducible rfl); (with_reducible rfl); rfl)
       | ((with_reducible refine wpList_storeS X ?_ 58 (.tmp 8) (.tmp 21) ?_ ?_ ?_ (HNEW.out _) Tryz.sizeCodec HXS.out.1.1 ?_ HXS.out.1.2 ?_); (with_reducible rfl); (with_reducible rfl); rfl; rfl; rfl))
      clear HLD1
      generalize ((wr.alloc (.cells #[.int .i64 0, .string ⟨#[]⟩, .int .i64 0, .int .i64 0, .string ⟨#[]⟩, .slice none 0 0] 58)).setRow wr.heap.size X) = W1 at *
      have HG1 : Hid (w.heap.size ≤ wr.heap.size) := Lib.hid hwr
      clear hwr
      generalize wr.heap.size = g1 at *
      have hW1 : w.heap.size ≤ W1.heap.size := Nat.le_trans HS.out.2.size HW1.out.1.size
      have HW2 : Hid (Below w.heap.size wr ((W1.alloc (.cells #[.int .i64 0, .string ⟨#[]⟩, .int .i64 0, .int .i64 0, .string ⟨#[]⟩, .slice none 0 0] 58)).setRow W1.heap.size Y) ∧ Whole ((W1.alloc (.cells #[.int .i64 0, .string ⟨#[]⟩, .int .i64 0, .int .i64 0, .string ⟨#[]⟩, .slice none 0 0] 58)).setRow W1.heap.size Y) W1.heap.size 58 Y ∧ Whole ((W1.alloc (.cells #[.int .i64 0, .string ⟨#[]⟩, .int .i64 0, .int .i64 0, .string ⟨#[]⟩, .slice none 0 0] 58)).setRow W1.heap.size Y) g1 58 X) := Lib.hid ⟨below_row (HW1.out.1.alloc hW1 _) hW1 _, (HNEW.out W1).row _, (HW1.out.2.alloc _).farRow (Nat.ne_of_lt HW1.out.2.lt) _⟩
      go_upto_region 7 with (first
       | ((with_reducible refine HLD2.out _ _ _ _ _ _ HW1.out.1 ?_ ?_ ?_ ?_); (with_reducible rfl); (with_reducible rfl); rfl)
       | ((with_reducible refine wpList_storeS Y ?_ 58 (.tmp 9) (.tmp 25) ?_ ?_ ?_ (HNEW.out _) Tryz.sizeCodec HXS.out.2.1 ?_ HXS.out.2.2 ?_); (with_reducible rfl); (with_reducible rfl); rfl; rfl; rfl))
      clear HLD2 HNEW
      generalize ((W1.alloc (.cells #[.int .i64 0, .string ⟨#[]⟩, .int .i64 0, .int .i64 0, .string ⟨#[]⟩, .slice none 0 0] 58)).setRow W1.heap.size Y) = W2 at *
      generalize W1.heap.size = g2 at *
      have hW2 : w.heap.size ≤ W2.heap.size := Nat.le_trans HS.out.2.size HW2.out.1.size
      obtain ⟨q, hq⟩ := sameBool a b
      have HCL : Hid (Calls Tryz.prog 124 #[.agg X, .agg Y] W2 fun e w' => e = .returned (.bool q) ∧ Below W2.heap.size W2 w') := Lib.hid ((sameCodec_any X Y a b vf uf W2 ((HXY.out.1.below HW2.out.1).more hW2) ((HXY.out.2.below HW2.out.1).more hW2)).mono fun e w' h => h.fix hq)
      have HQ := Lib.hid hq
      have HFIN : Hid (∀ W, Below W2.heap.size W2 W → Below w.heap.size w W) := Lib.hid fun W hW => (HS.out.2.trans HW2.out.1).trans (hW.mono hW2)
      clear hq hW1 hW2
      cases q with
      | true =>
        have HEQ : Hid (a = b) := Lib.hid (HQ.out.1 rfl)
        go_wp2_with (first
         | ((with_reducible refine wpList_load_all ?_ 58 (.tmp 8) ?_ HW2.out.2.2 ?_ Tryz.sizeCodec HXS.out.1.1 Tryz.underlying58 rfl ?_); (with_reducible rfl); (with_reducible rfl); rfl)
         | ((with_reducible refine wpList_load_all ?_ 58 (.tmp 9) ?_ HW2.out.2.1 ?_ Tryz.sizeCodec HXS.out.2.1 Tryz.underlying58 rfl ?_); (with_reducible rfl); (with_reducible rfl); rfl)
         | (go_at_call 124; (with_reducible refine HCL.out.mono ?_); rintro e w5 ⟨rfl, hb5⟩))
        go_roundw
        case rel =>
         refine ⟨k + 1, by omega, by go_num, fun j hj => ?_, HFIN.out _ hb5⟩
         by_cases e : j = k
         · subst e
           rw [HG.out.1, HG.out.2, HEQ.out]
         · exact HS.out.1 j (by omega)
        case measure => simp [intOf]; omega
      | false =>
        have HNE : Hid (L ≠ M) := Lib.hid (fun e => by rw [e] at HG; have := HQ.out.2 (Option.some.inj (HG.out.1.symm.trans HG.out.2)); cases this)
        go_wp2_with (first
         | ((with_reducible refine wpList_load_all ?_ 58 (.tmp 8) ?_ HW2.out.2.2 ?_ Tryz.sizeCodec HXS.out.1.1 Tryz.underlying58 rfl ?_); (with_reducible rfl); (with_reducible rfl); rfl)
         | ((with_reducible refine wpList_load_all ?_ 58 (.tmp 9) ?_ HW2.out.2.1 ?_ Tryz.sizeCodec HXS.out.2.1 Tryz.underlying58 rfl ?_); (with_reducible rfl); (with_reducible rfl); rfl)
         | (go_at_call 124; (with_reducible refine HCL.out.mono ?_); rintro e w5 ⟨rfl, hb5⟩))
        go_ret
        exact ⟨false, rfl, ⟨fun e => (by cases e), fun e => (HNE.out e).elim⟩, HFIN.out _ hb5⟩
    · obtain rfl : k = n := by omega
      have HEQ : Hid (L = M) := Lib.hid (list_same (by rw [HN.out, HM.out]) (fun j hj => HS.out.1 j (by rw [HN.out] at hj; exact hj)))
      clear hb
      go_wp2
      go_ret
      exact ⟨true, rfl, ⟨fun _ => HEQ.out, fun _ => rfl⟩, HS.out.2⟩
 · have hz : ((n : Int) == (m : Int)) = false := by rw [beq_eq_false_iff_ne]; omega
   have HNE : Hid (L ≠ M) := Lib.hid (fun e => hnm (by rw [← HN.out, ← HM.out, e]))
   clear hnm
   go_enter Tryz.func123, Tryz.ntmps123
   go_wp2
   go_ret
   exact ⟨false, rfl, ⟨fun e => (by cases e), fun e => (HNE.out e).elim⟩, Below.refl _ w⟩
set_option maxHeartbeats 3200000 in
set_option maxRecDepth 100000 in
theorem sameMedia_any (X Y : Array Value) (x y : MediaS) (vC vE vR vS vY uC uE uR uS uY : Value) (w : World) (h1 : MediaV w w.heap.size X x vC vE vR vS vY) (h2 : MediaV w w.heap.size Y y uC uE uR uS uY) : Calls Tryz.prog 72 #[.agg X, .agg Y] w (SameB w x y) := by
 obtain ⟨hb0, hx0, hy0⟩ := two_boxes w 28 X Y
 obtain ⟨A0, c0, hA0, -⟩ := Rows.form h1.codecs
 obtain ⟨D0, d0, hD0, -⟩ := Rows.form h2.codecs
 obtain ⟨n0, hn0⟩ : ∃ n, x.codecs.length = n := ⟨_, rfl⟩
 obtain ⟨m0, hm0⟩ : ∃ n, y.codecs.length = n := ⟨_, rfl⟩
 rw [hn0] at hA0
 rw [hm0] at hD0
 subst hA0 hD0
 obtain ⟨b4, hb4⟩ := sameBool x.codecs y.codecs
 have HC4 : Hid (∀ W, Below w.heap.size w W → Calls Tryz.prog 123 #[.slice A0 n0 c0, .slice D0 m0 d0, .func (.func 124) #[] #[]] W fun e w' => e = .returned (.bool b4) ∧ Below W.heap.size W w') := Lib.hid fun W hW =>
  (eqFC_any _ _ x.codecs y.codecs W ((h1.codecs.below hW).more hW.size) ((h2.codecs.below hW).more hW.size)).mono fun e w' h => h.fix hb4
 obtain ⟨A1, c1, hA1, -⟩ := Rows.form h1.exts
 obtain ⟨D1, d1, hD1, -⟩ := Rows.form h2.exts
 obtain ⟨n1, hn1⟩ : ∃ n, x.exts.length = n := ⟨_, rfl⟩
 obtain ⟨m1, hm1⟩ : ∃ n, y.exts.length = n := ⟨_, rfl⟩
 rw [hn1] at hA1
 rw [hm1] at hD1
 subst hA1 hD1
 obtain ⟨b5, hb5⟩ := sameBool x.exts y.exts
 have HC5 : Hid (∀ W, Below w.heap.size w W → Calls Tryz.prog 125 #[.slice A1 n1 c1, .slice D1 m1 d1] W fun e w' => e = .returned (.bool b5) ∧ Below W.heap.size W w') := Lib.hid fun W hW =>
  (equalE_any _ _ x.exts y.exts W ((h1.exts.below hW).more hW.size) ((h2.exts.below hW).more hW.size)).mono fun e w' h => h.fix hb5
 obtain ⟨A2, c2, hA2, -⟩ := Rows.form h1.rids
 obtain ⟨D2, d2, hD2, -⟩ := Rows.form h2.rids
 obtain ⟨n2, hn2⟩ : ∃ n, x.rids.length = n := ⟨_, rfl⟩
 obtain ⟨m2, hm2⟩ : ∃ n, y.rids.length = n := ⟨_, rfl⟩
 rw [hn2] at hA2
 rw [hm2] at hD2
 subst hA2 hD2
 obtain ⟨b6, hb6⟩ := sameBool x.rids y.rids
 have HC6 : Hid (∀ W, Below w.heap.size w W → Calls Tryz.prog 70 #[.slice A2 n2 c2, .slice D2 m2 d2] W fun e w' => e = .returned (.bool b6) ∧ Below W.heap.size W w') := Lib.hid fun W hW =>
  (equalT_any _ _ x.rids y.rids W ((h1.rids.below hW).more hW.size) ((h2.rids.below hW).more hW.size)).mono fun e w' h => h.fix hb6
 obtain ⟨A3, c3, hA3, -⟩ := Rows.form h1.sources
 obtain ⟨D3, d3, hD3, -⟩ := Rows.form h2.sources
 obtain ⟨n3, hn3⟩ : ∃ n, x.sources.length = n := ⟨_, rfl⟩
 obtain ⟨m3, hm3⟩ : ∃ n, y.sources.length = n := ⟨_, rfl⟩
 rw [hn3] at hA3
 rw [hm3] at hD3
 subst hA3 hD3
 obtain ⟨b8, hb8⟩ := sameBool x.sources y.sources
 have HC8 : Hid (∀ W, Below w.heap.size w W → Calls Tryz.prog 126 #[.slice A3 n3 c3, .slice D3 m3 d3] W fun e w' => e = .returned (.bool b8) ∧ Below W.heap.size W w') := Lib.hid fun W hW =>
  (equalU_any _ _ x.sources y.sources W ((h1.sources.below hW).more hW.size) ((h2.sources.below hW).more hW.size)).mono fun e w' h => h.fix hb8
 obtain ⟨A4, c4, hA4, -⟩ := Rows.form h1.crypto
 obtain ⟨D4, d4, hD4, -⟩ := Rows.form h2.crypto
 obtain ⟨n4, hn4⟩ : ∃ n, x.crypto.length = n := ⟨_, rfl⟩
 obtain ⟨m4, hm4⟩ : ∃ n, y.crypto.length = n := ⟨_, rfl⟩
 rw [hn4] at hA4
 rw [hm4] at hD4
 subst hA4 hD4
 obtain ⟨b9, hb9⟩ := sameBool x.crypto y.crypto
 have HC9 : Hid (∀ W, Below w.heap.size w W → Calls Tryz.prog 127 #[.slice A4 n4 c4, .slice D4 m4 d4] W fun e w' => e = .returned (.bool b9) ∧ Below W.heap.size W w') := Lib.hid fun W hW =>
  (equalY_any _ _ x.crypto y.crypto W ((h1.crypto.below hW).more hW.size) ((h2.crypto.below hW).more hW.size)).mono fun e w' h => h.fix hb9
 have HE : Hid (x = y ↔ x.kind = y.kind ∧ x.port = y.port ∧ x.mid = y.mid ∧ x.dir = y.dir ∧ x.codecs = y.codecs ∧ x.exts = y.exts ∧ x.rids = y.rids ∧ x.sending = y.sending ∧ x.sources = y.sources ∧ x.crypto = y.crypto ∧ x.sctp = y.sctp) := Lib.hid ⟨fun e => by rw [e]; exact ⟨rfl, rfl, rfl, rfl, rfl, rfl, rfl, rfl, rfl, rfl, rfl⟩, fun ⟨h0, h1, h2, h3, h4, h5, h6, h7, h8, h9, h10⟩ => MediaS.ext' h0 h1 h2 h3 h4 h5 h6 h7 h8 h9 h10⟩
 have HB4 := Lib.hid hb4
 clear hb4
 have HB5 := Lib.hid hb5
 clear hb5
 have HB6 := Lib.hid hb6
 clear hb6
 have HB8 := Lib.hid hb8
 clear hb8
 have HB9 := Lib.hid hb9
 clear hb9
 have hX := h1.form
 have hY := h2.form
 have HXC : Hid (X[0]? = some (.int .i64 x.kind) ∧ X[1]? = some (.int .i64 x.port) ∧ X[2]? = some (.string x.mid) ∧ X[3]? = some (.int .i64 x.dir) ∧ X[4]? = some (.slice A0 n0 c0) ∧ X[5]? = some (.slice A1 n1 c1) ∧ X[6]? = some (.slice A2 n2 c2) ∧ X[7]? = some (.bool x.sending) ∧ X[8]? = some (.slice A3 n3 c3) ∧ X[9]? = some (.slice A4 n4 c4) ∧ X[10]? = some (.int .i64 x.sctp)) := Lib.hid (by rw [hX]; exact ⟨rfl, rfl, rfl, rfl, rfl, rfl, rfl, rfl, rfl, rfl, rfl⟩)
 have HYC : Hid (Y[0]? = some (.int .i64 y.kind) ∧ Y[1]? = some (.int .i64 y.port) ∧ Y[2]? = some (.string y.mid) ∧ Y[3]? = some (.int .i64 y.dir) ∧ Y[4]? = some (.slice D0 m0 d0) ∧ Y[5]? = some (.slice D1 m1 d1) ∧ Y[6]? = some (.slice D2 m2 d2) ∧ Y[7]? = some (.bool y.sending) ∧ Y[8]? = some (.slice D3 m3 d3) ∧ Y[9]? = some (.slice D4 m4 d4) ∧ Y[10]? = some (.int .i64 y.sctp)) := Lib.hid (by rw [hY]; exact ⟨rfl, rfl, rfl, rfl, rfl, rfl, rfl, rfl, rfl, rfl, rfl⟩)
 have H0 := Lib.hid (And.intro hb0 (And.intro hx0 hy0))
 obtain ⟨N, hN⟩ : ∃ N, w.heap.size = N := ⟨_, rfl⟩
 rw [hN] at H0
 have HN := Lib.hid hN
 have HP0 : Hid (∀ W, Below (w.alloc (.cells X 28) |>.alloc (.cells Y 28)).heap.size (w.alloc (.cells X 28) |>.alloc (.cells Y 28)) W → W.cell? ⟨N, 0, none⟩ = some (.int .i64 x.kind) ∧ W.cell? ⟨N + 1, 0, none⟩ = some (.int .i64 y.kind)) := Lib.hid fun W hW => ⟨((H0.out.2.1.under hW).cell 0).trans HXC.out.1, ((H0.out.2.2.under hW).cell 0).trans HYC.out.1⟩
 have HP1 : Hid (∀ W, Below (w.alloc (.cells X 28) |>.alloc (.cells Y 28)).heap.size (w.alloc (.cells X 28) |>.alloc (.cells Y 28)) W → W.cell? ⟨N, 1, none⟩ = some (.int .i64 x.port) ∧ W.cell? ⟨N + 1, 1, none⟩ = some (.int .i64 y.port)) := Lib.hid fun W hW => ⟨((H0.out.2.1.under hW).cell 1).trans HXC.out.2.1, ((H0.out.2.2.under hW).cell 1).trans HYC.out.2.1⟩
 have HP2 : Hid (∀ W, Below (w.alloc (.cells X 28) |>.alloc (.cells Y 28)).heap.size (w.alloc (.cells X 28) |>.alloc (.cells Y 28)) W → W.cell? ⟨N, 2, none⟩ = some (.string x.mid) ∧ W.cell? ⟨N + 1, 2, none⟩ = some (.string y.mid)) := Lib.hid fun W hW => ⟨((H0.out.2.1.under hW).cell 2).trans HXC.out.2.2.1, ((H0.out.2.2.under hW).cell 2).trans HYC.out.2.2.1⟩
 have HP3 : Hid (∀ W, Below (w.alloc (.cells X 28) |>.alloc (.cells Y 28)).heap.size (w.alloc (.cells X 28) |>.alloc (.cells Y 28)) W → W.cell? ⟨N, 3, none⟩ = some (.int .i64 x.dir) ∧ W.cell? ⟨N + 1, 3, none⟩ = some (.int .i64 y.dir)) := Lib.hid fun W hW => ⟨((H0.out.2.1.under hW).cell 3).trans HXC.out.2.2.2.1, ((H0.out.2.2.under hW).cell 3).trans HYC.out.2.2.2.1⟩
 have HP4 : Hid (∀ W, Below (w.alloc (.cells X 28) |>.alloc (.cells Y 28)).heap.size (w.alloc (.cells X 28) |>.alloc (.cells Y 28)) W → W.cell? ⟨N, 4, none⟩ = some (.slice A0 n0 c0) ∧ W.cell? ⟨N + 1, 4, none⟩ = some (.slice D0 m0 d0)) := Lib.hid fun W hW => ⟨((H0.out.2.1.under hW).cell 4).trans HXC.out.2.2.2.2.1, ((H0.out.2.2.under hW).cell 4).trans HYC.out.2.2.2.2.1⟩
 have HP5 : Hid (∀ W, Below (w.alloc (.cells X 28) |>.alloc (.cells Y 28)).heap.size (w.alloc (.cells X 28) |>.alloc (.cells Y 28)) W → W.cell? ⟨N, 5, none⟩ = some (.slice A1 n1 c1) ∧ W.cell? ⟨N + 1, 5, none⟩ = some (.slice D1 m1 d1)) := Lib.hid fun W hW => ⟨((H0.out.2.1.under hW).cell 5).trans HXC.out.2.2.2.2.2.1, ((H0.out.2.2.under hW).cell 5).trans HYC.out.2.2.2.2.2.1⟩
 have HP6 : Hid (∀ W, Below (w.alloc (.cells X 28) |>.alloc (.cells Y 28)).heap.size (w.alloc (.cells X 28) |>.alloc (.cells Y 28)) W → W.cell? ⟨N, 6, none⟩ = some (.slice A2 n2 c2) ∧ W.cell? ⟨N + 1, 6, none⟩ = some (.slice D2 m2 d2)) := Lib.hid fun W hW => ⟨((H0.out.2.1.under hW).cell 6).trans HXC.out.2.2.2.2.2.2.1, ((H0.out.2.2.under hW).cell 6).trans HYC.out.2.2.2.2.2.2.1⟩
 have HP7 : Hid (∀ W, Below (w.alloc (.cells X 28) |>.alloc (.cells Y 28)).heap.size (w.alloc (.cells X 28) |>.alloc (.cells Y 28)) W → W.cell? ⟨N, 7, none⟩ = some (.bool x.sending) ∧ W.cell? ⟨N + 1, 7, none⟩ = some (.bool y.sending)) := Lib.hid fun W hW => ⟨((H0.out.2.1.under hW).cell 7).trans HXC.out.2.2.2.2.2.2.2.1, ((H0.out.2.2.under hW).cell 7).trans HYC.out.2.2.2.2.2.2.2.1⟩
 have HP8 : Hid (∀ W, Below (w.alloc (.cells X 28) |>.alloc (.cells Y 28)).heap.size (w.alloc (.cells X 28) |>.alloc (.cells Y 28)) W → W.cell? ⟨N, 8, none⟩ = some (.slice A3 n3 c3) ∧ W.cell? ⟨N + 1, 8, none⟩ = some (.slice D3 m3 d3)) := Lib.hid fun W hW => ⟨((H0.out.2.1.under hW).cell 8).trans HXC.out.2.2.2.2.2.2.2.2.1, ((H0.out.2.2.under hW).cell 8).trans HYC.out.2.2.2.2.2.2.2.2.1⟩
 have HP9 : Hid (∀ W, Below (w.alloc (.cells X 28) |>.alloc (.cells Y 28)).heap.size (w.alloc (.cells X 28) |>.alloc (.cells Y 28)) W → W.cell? ⟨N, 9, none⟩ = some (.slice A4 n4 c4) ∧ W.cell? ⟨N + 1, 9, none⟩ = some (.slice D4 m4 d4)) := Lib.hid fun W hW => ⟨((H0.out.2.1.under hW).cell 9).trans HXC.out.2.2.2.2.2.2.2.2.2.1, ((H0.out.2.2.under hW).cell 9).trans HYC.out.2.2.2.2.2.2.2.2.2.1⟩
 have HP10 : Hid (∀ W, Below (w.alloc (.cells X 28) |>.alloc (.cells Y 28)).heap.size (w.alloc (.cells X 28) |>.alloc (.cells Y 28)) W → W.cell? ⟨N, 10, none⟩ = some (.int .i64 x.sctp) ∧ W.cell? ⟨N + 1, 10, none⟩ = some (.int .i64 y.sctp)) := Lib.hid fun W hW => ⟨((H0.out.2.1.under hW).cell 10).trans HXC.out.2.2.2.2.2.2.2.2.2.2, ((H0.out.2.2.under hW).cell 10).trans HYC.out.2.2.2.2.2.2.2.2.2.2⟩
 clear h1 h2 hx0 hy0 hN hX hY hn0 hm0 hn1 hm1 hn2 hm2 hn3 hm3 hn4 hm4
 generalize x.kind = x0 at *
 generalize y.kind = y0 at *
 generalize x.port = x1 at *
 generalize y.port = y1 at *
 generalize x.mid = x2 at *
 generalize y.mid = y2 at *
 generalize x.dir = x3 at *
 generalize y.dir = y3 at *
 generalize x.sending = x7 at *
 generalize y.sending = y7 at *
 generalize x.sctp = x10 at *
 generalize y.sctp = y10 at *
 go_enter Tryz.func72, Tryz.ntmps72
 go_upto_region 1 with fail
 simp only [HN.out, Nat.add_assoc, Nat.reduceAdd]
 have HU : Hid (∀ W, Below ((w.alloc (.cells X 28)).alloc (.cells Y 28)).heap.size ((w.alloc (.cells X 28)).alloc (.cells Y 28)) W → Below w.heap.size w W) := Lib.hid fun W hW => below_chain (Nat.le_refl _) (by have := H0.out.1; rw [← HN.out] at this; exact this) hW
 generalize ((w.alloc (.cells X 28)).alloc (.cells Y 28)) = W0 at *
 have HR := Lib.hid (Below.refl W0.heap.size W0)
 have p0W0 := (HP0.out W0 HR.out).1
 have q0W0 := (HP0.out W0 HR.out).2
 have p1W0 := (HP1.out W0 HR.out).1
 have q1W0 := (HP1.out W0 HR.out).2
 have p2W0 := (HP2.out W0 HR.out).1
 have q2W0 := (HP2.out W0 HR.out).2
 have p3W0 := (HP3.out W0 HR.out).1
 have q3W0 := (HP3.out W0 HR.out).2
 have p4W0 := (HP4.out W0 HR.out).1
 have q4W0 := (HP4.out W0 HR.out).2
 have HB0 : Hid ((x0 == y0) = true ↔ x0 = y0) := Lib.hid beq_iff_eq
 obtain ⟨b0, hb0'⟩ : ∃ b, (x0 == y0) = b := ⟨_, rfl⟩
 rw [hb0'] at HB0
 cases b0 with
 | false =>
   have HNE : Hid (¬ (x = y)) := Lib.hid (fun e => by have h := (HE.out.1 e).1; have := HB0.out.2 h; cases this)
   go_wp2_with fail
   go_ret
   exact ⟨false, rfl, ⟨fun e => (by cases e), fun e => (HNE.out e).elim⟩, HU.out _ HR.out⟩
 | true =>
   have HB1 : Hid ((x1 == y1) = true ↔ x1 = y1) := Lib.hid beq_iff_eq
   obtain ⟨b1, hb1'⟩ : ∃ b, (x1 == y1) = b := ⟨_, rfl⟩
   rw [hb1'] at HB1
   cases b1 with
   | false =>
     have HNE : Hid (¬ (x = y)) := Lib.hid (fun e => by have h := (HE.out.1 e).2.1; have := HB1.out.2 h; cases this)
     go_wp2_with fail
     go_ret
     exact ⟨false, rfl, ⟨fun e => (by cases e), fun e => (HNE.out e).elim⟩, HU.out _ HR.out⟩
   | true =>
     have HB2 : Hid ((x2.toList == y2.toList) = true ↔ x2 = y2) := Lib.hid toList_beq
     obtain ⟨b2, hb2'⟩ : ∃ b, (x2.toList == y2.toList) = b := ⟨_, rfl⟩
     rw [hb2'] at HB2
     cases b2 with
     | false =>
       have HNE : Hid (¬ (x = y)) := Lib.hid (fun e => by have h := (HE.out.1 e).2.2.1; have := HB2.out.2 h; cases this)
       go_wp2_with fail
       go_ret
       exact ⟨false, rfl, ⟨fun e => (by cases e), fun e => (HNE.out e).elim⟩, HU.out _ HR.out⟩
     | true =>
       have HB3 : Hid ((x3 == y3) = true ↔ x3 = y3) := Lib.hid beq_iff_eq
       obtain ⟨b3, hb3'⟩ : ∃ b, (x3 == y3) = b := ⟨_, rfl⟩
       rw [hb3'] at HB3
       cases b3 with
       | false =>
         have HNE : Hid (¬ (x = y)) := Lib.hid (fun e => by have h := (HE.out.1 e).2.2.2.1; have := HB3.out.2 h; cases this)
         go_wp2_with fail
         go_ret
         exact ⟨false, rfl, ⟨fun e => (by cases e), fun e => (HNE.out e).elim⟩, HU.out _ HR.out⟩
       | true =>
         cases b4 with
         | false =>
           have HNE : Hid (¬ (x = y)) := Lib.hid (fun e => by have h := (HE.out.1 e).2.2.2.2.1; have := HB4.out.2 h; cases this)
           go_wp2_with (first
            | (go_at_call 123; (with_reducible refine (HC4.out _ (HU.out _ HR.out)).mono ?_); rintro e w1 ⟨rfl, hb4⟩; have H1 : Hid (Below W0.heap.size W0 w1) := Lib.hid (below_chain (Nat.le_refl _) HR.out hb4); clear hb4; have p5w1 := (HP5.out w1 H1.out).1; have q5w1 := (HP5.out w1 H1.out).2; dsimp only))
           go_ret
           exact ⟨false, rfl, ⟨fun e => (by cases e), fun e => (HNE.out e).elim⟩, HU.out _ H1.out⟩
         | true =>
           cases b5 with
           | false =>
             have HNE : Hid (¬ (x = y)) := Lib.hid (fun e => by have h := (HE.out.1 e).2.2.2.2.2.1; have := HB5.out.2 h; cases this)
             go_wp2_with (first
              | (go_at_call 123; (with_reducible refine (HC4.out _ (HU.out _ HR.out)).mono ?_); rintro e w1 ⟨rfl, hb4⟩; have H1 : Hid (Below W0.heap.size W0 w1) := Lib.hid (below_chain (Nat.le_refl _) HR.out hb4); clear hb4; have p5w1 := (HP5.out w1 H1.out).1; have q5w1 := (HP5.out w1 H1.out).2; dsimp only)
              | (go_at_call 125; (with_reducible refine (HC5.out _ (HU.out _ H1.out)).mono ?_); rintro e w2 ⟨rfl, hb5⟩; have H2 : Hid (Below W0.heap.size W0 w2) := Lib.hid (below_chain (Nat.le_refl _) H1.out hb5); clear hb5; have p6w2 := (HP6.out w2 H2.out).1; have q6w2 := (HP6.out w2 H2.out).2; dsimp only))
             go_ret
             exact ⟨false, rfl, ⟨fun e => (by cases e), fun e => (HNE.out e).elim⟩, HU.out _ H2.out⟩
           | true =>
             cases b6 with
             | false =>
               have HNE : Hid (¬ (x = y)) := Lib.hid (fun e => by have h := (HE.out.1 e).2.2.2.2.2.2.1; have := HB6.out.2 h; cases this)
               go_wp2_with (first
                | (go_at_call 123; (with_reducible refine (HC4.out _ (HU.out _ HR.out)).mono ?_); rintro e w1 ⟨rfl, hb4⟩; have H1 : Hid (Below W0.heap.size W0 w1) := Lib.hid (below_chain (Nat.le_refl _) HR.out hb4); clear hb4; have p5w1 := (HP5.out w1 H1.out).1; have q5w1 := (HP5.out w1 H1.out).2; dsimp only)
                | (go_at_call 125; (with_reducible refine (HC5.out _ (HU.out _ H1.out)).mono ?_); rintro e w2 ⟨rfl, hb5⟩; have H2 : Hid (Below W0.heap.size W0 w2) := Lib.hid (below_chain (Nat.le_refl _) H1.out hb5); clear hb5; have p6w2 := (HP6.out w2 H2.out).1; have q6w2 := (HP6.out w2 H2.out).2; dsimp only)
                | (go_at_call 70; (with_reducible refine (HC6.out _ (HU.out _ H2.out)).mono ?_); rintro e w3 ⟨rfl, hb6⟩; have H3 : Hid (Below W0.heap.size W0 w3) := Lib.hid (below_chain (Nat.le_refl _) H2.out hb6); clear hb6; have p7w3 := (HP7.out w3 H3.out).1; have q7w3 := (HP7.out w3 H3.out).2; have p8w3 := (HP8.out w3 H3.out).1; have q8w3 := (HP8.out w3 H3.out).2; dsimp only))
               go_ret
               exact ⟨false, rfl, ⟨fun e => (by cases e), fun e => (HNE.out e).elim⟩, HU.out _ H3.out⟩
             | true =>
               have HB7 : Hid ((x7 == y7) = true ↔ x7 = y7) := Lib.hid beq_iff_eq
               obtain ⟨b7, hb7'⟩ : ∃ b, (x7 == y7) = b := ⟨_, rfl⟩
               rw [hb7'] at HB7
               cases b7 with
               | false =>
                 have HNE : Hid (¬ (x = y)) := Lib.hid (fun e => by have h := (HE.out.1 e).2.2.2.2.2.2.2.1; have := HB7.out.2 h; cases this)
                 go_wp2_with (first
                  | (go_at_call 123; (with_reducible refine (HC4.out _ (HU.out _ HR.out)).mono ?_); rintro e w1 ⟨rfl, hb4⟩; have H1 : Hid (Below W0.heap.size W0 w1) := Lib.hid (below_chain (Nat.le_refl _) HR.out hb4); clear hb4; have p5w1 := (HP5.out w1 H1.out).1; have q5w1 := (HP5.out w1 H1.out).2; dsimp only)
                  | (go_at_call 125; (with_reducible refine (HC5.out _ (HU.out _ H1.out)).mono ?_); rintro e w2 ⟨rfl, hb5⟩; have H2 : Hid (Below W0.heap.size W0 w2) := Lib.hid (below_chain (Nat.le_refl _) H1.out hb5); clear hb5; have p6w2 := (HP6.out w2 H2.out).1; have q6w2 := (HP6.out w2 H2.out).2; dsimp only)
                  | (go_at_call 70; (with_reducible refine (HC6.out _ (HU.out _ H2.out)).mono ?_); rintro e w3 ⟨rfl, hb6⟩; have H3 : Hid (Below W0.heap.size W0 w3) := Lib.hid (below_chain (Nat.le_refl _) H2.out hb6); clear hb6; have p7w3 := (HP7.out w3 H3.out).1; have q7w3 := (HP7.out w3 H3.out).2; have p8w3 := (HP8.out w3 H3.out).1; have q8w3 := (HP8.out w3 H3.out).2; dsimp only))
                 go_ret
                 exact ⟨false, rfl, ⟨fun e => (by cases e), fun e => (HNE.out e).elim⟩, HU.out _ H3.out⟩
               | true =>
                 cases b8 with
                 | false =>
                   have HNE : Hid (¬ (x = y)) := Lib.hid (fun e => by have h := (HE.out.1 e).2.2.2.2.2.2.2.2.1; have := HB8.out.2 h; cases this)
                   go_wp2_with (first
                    | (go_at_call 123; (with_reducible refine (HC4.out _ (HU.out _ HR.out)).mono ?_); rintro e w1 ⟨rfl, hb4⟩; have H1 : Hid (Below W0.heap.size W0 w1) := Lib.hid (below_chain (Nat.le_refl _) HR.out hb4); clear hb4; have p5w1 := (HP5.out w1 H1.out).1; have q5w1 := (HP5.out w1 H1.out).2; dsimp only)
                    | (go_at_call 125; (with_reducible refine (HC5.out _ (HU.out _ H1.out)).mono ?_); rintro e w2 ⟨rfl, hb5⟩; have H2 : Hid (Below W0.heap.size W0 w2) := Lib.hid (below_chain (Nat.le_refl _) H1.out hb5); clear hb5; have p6w2 := (HP6.out w2 H2.out).1; have q6w2 := (HP6.out w2 H2.out).2; dsimp only)
                    | (go_at_call 70; (with_reducible refine (HC6.out _ (HU.out _ H2.out)).mono ?_); rintro e w3 ⟨rfl, hb6⟩; have H3 : Hid (Below W0.heap.size W0 w3) := Lib.hid (below_chain (Nat.le_refl _) H2.out hb6); clear hb6; have p7w3 := (HP7.out w3 H3.out).1; have q7w3 := (HP7.out w3 H3.out).2; have p8w3 := (HP8.out w3 H3.out).1; have q8w3 := (HP8.out w3 H3.out).2; dsimp only)
                    | (go_at_call 126; (with_reducible refine (HC8.out _ (HU.out _ H3.out)).mono ?_); rintro e w4 ⟨rfl, hb8⟩; have H4 : Hid (Below W0.heap.size W0 w4) := Lib.hid (below_chain (Nat.le_refl _) H3.out hb8); clear hb8; have p9w4 := (HP9.out w4 H4.out).1; have q9w4 := (HP9.out w4 H4.out).2; dsimp only))
                   go_ret
                   exact ⟨false, rfl, ⟨fun e => (by cases e), fun e => (HNE.out e).elim⟩, HU.out _ H4.out⟩
                 | true =>
                   cases b9 with
                   | false =>
                     have HNE : Hid (¬ (x = y)) := Lib.hid (fun e => by have h := (HE.out.1 e).2.2.2.2.2.2.2.2.2.1; have := HB9.out.2 h; cases this)
                     go_wp2_with (first
                      | (go_at_call 123; (with_reducible refine (HC4.out _ (HU.out _ HR.out)).mono ?_); rintro e w1 ⟨rfl, hb4⟩; have H1 : Hid (Below W0.heap.size W0 w1) := Lib.hid (below_chain (Nat.le_refl _) HR.out hb4); clear hb4; have p5w1 := (HP5.out w1 H1.out).1; have q5w1 := (HP5.out w1 H1.out).2; dsimp only)
                      | (go_at_call 125; (with_reducible refine (HC5.out _ (HU.out _ H1.out)).mono ?_); rintro e w2 ⟨rfl, hb5⟩; have H2 : Hid (Below W0.heap.size W0 w2) := Lib.hid (below_chain (Nat.le_refl _) H1.out hb5); clear hb5; have p6w2 := (HP6.out w2 H2.out).1; have q6w2 := (HP6.out w2 H2.out).2; dsimp only)
                      | (go_at_call 70; (with_reducible refine (HC6.out _ (HU.out _ H2.out)).mono ?_); rintro e w3 ⟨rfl, hb6⟩; have H3 : Hid (Below W0.heap.size W0 w3) := Lib.hid (below_chain (Nat.le_refl _) H2.out hb6); clear hb6; have p7w3 := (HP7.out w3 H3.out).1; have q7w3 := (HP7.out w3 H3.out).2; have p8w3 := (HP8.out w3 H3.out).1; have q8w3 := (HP8.out w3 H3.out).2; dsimp only)
                      | (go_at_call 126; (with_reducible refine (HC8.out _ (HU.out _ H3.out)).mono ?_); rintro e w4 ⟨rfl, hb8⟩; have H4 : Hid (Below W0.heap.size W0 w4) := Lib.hid (below_chain (Nat.le_refl _) H3.out hb8); clear hb8; have p9w4 := (HP9.out w4 H4.out).1; have q9w4 := (HP9.out w4 H4.out).2; dsimp only)
                      | (go_at_call 127; (with_reducible refine (HC9.out _ (HU.out _ H4.out)).mono ?_); rintro e w5 ⟨rfl, hb9⟩; have H5 : Hid (Below W0.heap.size W0 w5) := Lib.hid (below_chain (Nat.le_refl _) H4.out hb9); clear hb9; have p10w5 := (HP10.out w5 H5.out).1; have q10w5 := (HP10.out w5 H5.out).2; dsimp only))
                     go_ret
                     exact ⟨false, rfl, ⟨fun e => (by cases e), fun e => (HNE.out e).elim⟩, HU.out _ H5.out⟩
                   | true =>
                     have HB10 : Hid ((x10 == y10) = true ↔ x10 = y10) := Lib.hid beq_iff_eq
                     obtain ⟨b10, hb10'⟩ : ∃ b, (x10 == y10) = b := ⟨_, rfl⟩
                     rw [hb10'] at HB10
                     cases b10 with
                     | false =>
                       have HNE : Hid (¬ (x = y)) := Lib.hid (fun e => by have h := (HE.out.1 e).2.2.2.2.2.2.2.2.2.2; have := HB10.out.2 h; cases this)
                       go_wp2_with (first
                        | (go_at_call 123; (with_reducible refine (HC4.out _ (HU.out _ HR.out)).mono ?_); rintro e w1 ⟨rfl, hb4⟩; have H1 : Hid (Below W0.heap.size W0 w1) := Lib.hid (below_chain (Nat.le_refl _) HR.out hb4); clear hb4; have p5w1 := (HP5.out w1 H1.out).1; have q5w1 := (HP5.out w1 H1.out).2; dsimp only)
                        | (go_at_call 125; (with_reducible refine (HC5.out _ (HU.out _ H1.out)).mono ?_); rintro e w2 ⟨rfl, hb5⟩; have H2 : Hid (Below W0.heap.size W0 w2) := Lib.hid (below_chain (Nat.le_refl _) H1.out hb5); clear hb5; have p6w2 := (HP6.out w2 H2.out).1; have q6w2 := (HP6.out w2 H2.out).2; dsimp only)
                        | (go_at_call 70; (with_reducible refine (HC6.out _ (HU.out _ H2.out)).mono ?_); rintro e w3 ⟨rfl, hb6⟩; have H3 : Hid (Below W0.heap.size W0 w3) := Lib.hid (below_chain (Nat.le_refl _) H2.out hb6); clear hb6; have p7w3 := (HP7.out w3 H3.out).1; have q7w3 := (HP7.out w3 H3.out).2; have p8w3 := (HP8.out w3 H3.out).1; have q8w3 := (HP8.out w3 H3.out).2; dsimp only)
                        | (go_at_call 126; (with_reducible refine (HC8.out _ (HU.out _ H3.out)).mono ?_); rintro e w4 ⟨rfl, hb8⟩; have H4 : Hid (Below W0.heap.size W0 w4) := Lib.hid (below_chain (Nat.le_refl _) H3.out hb8); clear hb8; have p9w4 := (HP9.out w4 H4.out).1; have q9w4 := (HP9.out w4 H4.out).2; dsimp only)
                        | (go_at_call 127; (with_reducible refine (HC9.out _ (HU.out _ H4.out)).mono ?_); rintro e w5 ⟨rfl, hb9⟩; have H5 : Hid (Below W0.heap.size W0 w5) := Lib.hid (below_chain (Nat.le_refl _) H4.out hb9); clear hb9; have p10w5 := (HP10.out w5 H5.out).1; have q10w5 := (HP10.out w5 H5.out).2; dsimp only))
                       go_ret
                       exact ⟨false, rfl, ⟨fun e => (by cases e), fun e => (HNE.out e).elim⟩, HU.out _ H5.out⟩
                     | true =>
                       have HEQ : Hid (x = y) := Lib.hid (HE.out.2 ⟨HB0.out.1 rfl, HB1.out.1 rfl, HB2.out.1 rfl, HB3.out.1 rfl, HB4.out.1 rfl, HB5.out.1 rfl, HB6.out.1 rfl, HB7.out.1 rfl, HB8.out.1 rfl, HB9.out.1 rfl, HB10.out.1 rfl⟩)
                       go_wp2_with (first
                        | (go_at_call 123; (with_reducible refine (HC4.out _ (HU.out _ HR.out)).mono ?_); rintro e w1 ⟨rfl, hb4⟩; have H1 : Hid (Below W0.heap.size W0 w1) := Lib.hid (below_chain (Nat.le_refl _) HR.out hb4); clear hb4; have p5w1 := (HP5.out w1 H1.out).1; have q5w1 := (HP5.out w1 H1.out).2; dsimp only)
                        | (go_at_call 125; (with_reducible refine (HC5.out _ (HU.out _ H1.out)).mono ?_); rintro e w2 ⟨rfl, hb5⟩; have H2 : Hid (Below W0.heap.size W0 w2) := Lib.hid (below_chain (Nat.le_refl _) H1.out hb5); clear hb5; have p6w2 := (HP6.out w2 H2.out).1; have q6w2 := (HP6.out w2 H2.out).2; dsimp only)
                        | (go_at_call 70; (with_reducible refine (HC6.out _ (HU.out _ H2.out)).mono ?_); rintro e w3 ⟨rfl, hb6⟩; have H3 : Hid (Below W0.heap.size W0 w3) := Lib.hid (below_chain (Nat.le_refl _) H2.out hb6); clear hb6; have p7w3 := (HP7.out w3 H3.out).1; have q7w3 := (HP7.out w3 H3.out).2; have p8w3 := (HP8.out w3 H3.out).1; have q8w3 := (HP8.out w3 H3.out).2; dsimp only)
                        | (go_at_call 126; (with_reducible refine (HC8.out _ (HU.out _ H3.out)).mono ?_); rintro e w4 ⟨rfl, hb8⟩; have H4 : Hid (Below W0.heap.size W0 w4) := Lib.hid (below_chain (Nat.le_refl _) H3.out hb8); clear hb8; have p9w4 := (HP9.out w4 H4.out).1; have q9w4 := (HP9.out w4 H4.out).2; dsimp only)
                        | (go_at_call 127; (with_reducible refine (HC9.out _ (HU.out _ H4.out)).mono ?_); rintro e w5 ⟨rfl, hb9⟩; have H5 : Hid (Below W0.heap.size W0 w5) := Lib.hid (below_chain (Nat.le_refl _) H4.out hb9); clear hb9; have p10w5 := (HP10.out w5 H5.out).1; have q10w5 := (HP10.out w5 H5.out).2; dsimp only))
                       go_ret
                       exact ⟨true, rfl, ⟨fun _ => HEQ.out, fun _ => rfl⟩, HU.out _ H5.out⟩
set_option maxHeartbeats 3200000 in
set_option maxRecDepth 100000 in
theorem eqFM_any (v1 v2 : Value) (L M : List MediaS) (w : World) (h1 : MediasV w w.heap.size v1 L) (h2 : MediasV w w.heap.size v2 M) : Calls Tryz.prog 71 #[v1, v2, .func (.func 72) #[] #[]] w (SameB w L M) := by
 obtain ⟨A1, c1, rfl, hc1, hm1, _⟩ := Rows.form h1
 obtain ⟨A2, c2, rfl, hc2, hm2, _⟩ := Rows.form h2
 have H1 := Lib.hid h1
 have H2 := Lib.hid h2
 clear h1 h2
 obtain ⟨n, hn⟩ : ∃ n, L.length = n := ⟨_, rfl⟩
 obtain ⟨m, hm⟩ : ∃ m, M.length = m := ⟨_, rfl⟩
 have HN := Lib.hid hn
 have HM := Lib.hid hm
 rw [hn] at hc1
 rw [hm] at hc2
 rw [hn, hm]
 unfold maxLen at hm1 hm2
 clear hn hm
 by_cases hnm : n = m
 · subst hnm
   have hz : ((n : Int) == (n : Int)) = true := by simp
   go_enter Tryz.func71, Tryz.ntmps71
   go_wp2
   go_loopw [17] (fun s17 wr => ∃ k : Nat, k ≤ n ∧ s17 = .int .i64 k ∧ (∀ j, j < k → L[j]? = M[j]?) ∧ Below w.heap.size w wr) (fun s17 _ => n - (intOf s17).toNat)
   case atStart => exact ⟨0, Nat.zero_le _, rfl, (fun j hj => by omega), Below.refl _ w⟩
   case round =>
    obtain ⟨k, hk, rfl, hsame, hb⟩ := hrel
    have HS := Lib.hid (And.intro hsame hb)
    clear hsame
    by_cases hlt : k < n
    · obtain ⟨ad1, c1', X, vC, vE, vR, vS, vY, e1, b1, hx, xs⟩ := MediasV.at_ (H1.out.below hb) (i := k) (by rw [HN.out]; exact hlt)
      obtain ⟨ad2, c2', Y, uC, uE, uR, uS, uY, e2, b2, hy, ys⟩ := MediasV.at_ (H2.out.below hb) (i := k) (by rw [HM.out]; exact hlt)
      injection e1 with e1 e1n e1c; clear e1n e1c
      injection e2 with e2 e2n e2c; clear e2n e2c
      subst e1 e2
      have gL := getD_of (L := L) (i := k) (by rw [HN.out]; exact hlt)
      have gM := getD_of (L := M) (i := k) (by rw [HM.out]; exact hlt)
      obtain ⟨a, ha⟩ : ∃ a, L.getD k default = a := ⟨_, rfl⟩
      obtain ⟨b, hbb⟩ : ∃ b, M.getD k default = b := ⟨_, rfl⟩
      rw [ha] at hx gL
      rw [hbb] at hy gM
      have HG := Lib.hid (And.intro gL gM)
      have hk0 : (0 : Int) ≤ (k : Int) := by omega
      have hk1 : (k : Int) < (n : Int) := by omega
      have hwr := hb.size
      have HLD1 : Hid (∀ (ops : Array Oper) (rest : List Oper) (op : Oper) (act : Act) (Q : Exit → Act → World → Prop), op.guard = none → op.op = .load 28 (.tmp 20) → act.eval (.tmp 20) = .pointer (some (ad1.add (k * 11))) → wpList Tryz.prog ops Q rest (act.put op.dst (.agg X)) wr → wpList Tryz.prog ops Q (op :: rest) act wr) :=
       Lib.hid fun ops rest op act Q h1 h2 h3 h4 => wpList_load_at h1 28 (.tmp 20) h2 _ h3 X.toList _ xs Tryz.underlying28 rfl (by rw [Array.length_toList, hx.size]; exact Tryz.sizeMedia) (by rw [Array.toArray_toList]; exact h4)
      have HLD2 : Hid (∀ (W : World) (ops : Array Oper) (rest : List Oper) (op : Oper) (act : Act) (Q : Exit → Act → World → Prop), Below w.heap.size wr W → op.guard = none → op.op = .load 28 (.tmp 24) → act.eval (.tmp 24) = .pointer (some (ad2.add (k * 11))) → wpList Tryz.prog ops Q rest (act.put op.dst (.agg Y)) W → wpList Tryz.prog ops Q (op :: rest) act W) :=
       Lib.hid fun W ops rest op act Q hW h1 h2 h3 h4 => wpList_load_at h1 28 (.tmp 24) h2 _ h3 Y.toList _ (fun j u hu => (hW.cell (p := (ad2.add (k * 11)).add j) (by rw [add_block, add_block]; exact b2)).trans (ys j u hu)) Tryz.underlying28 rfl (by rw [Array.length_toList, hy.size]; exact Tryz.sizeMedia) (by rw [Array.toArray_toList]; exact h4)
      have HNEW : Hid (∀ W : World, Whole (W.alloc (.cells #[.int .i64 0, .int .i64 0, .string ⟨#[]⟩, .int .i64 0, .slice none 0 0, .slice none 0 0, .slice none 0 0, .bool false, .slice none 0 0, .slice none 0 0, .int .i64 0] 28)) W.heap.size 28 #[.int .i64 0, .int .i64 0, .string ⟨#[]⟩, .int .i64 0, .slice none 0 0, .slice none 0 0, .slice none 0 0, .bool false, .slice none 0 0, .slice none 0 0, .int .i64 0]) := Lib.hid fun W => Whole.new _ _ _
      have HXS : Hid ((X.size = 11 ∧ X.toList.all (·.oneCell') = true) ∧ Y.size = 11 ∧ Y.toList.all (·.oneCell') = true) := Lib.hid ⟨⟨hx.size, hx.one⟩, hy.size, hy.one⟩
      have HW1 : Hid (Below w.heap.size wr ((wr.alloc (.cells #[.int .i64 0, .int .i64 0, .string ⟨#[]⟩, .int .i64 0, .slice none 0 0, .slice none 0 0, .slice none 0 0, .bool false, .slice none 0 0, .slice none 0 0, .int .i64 0] 28)).setRow wr.heap.size X) ∧ Whole ((wr.alloc (.cells #[.int .i64 0, .int .i64 0, .string ⟨#[]⟩, .int .i64 0, .slice none 0 0, .slice none 0 0, .slice none 0 0, .bool false, .slice none 0 0, .slice none 0 0, .int .i64 0] 28)).setRow wr.heap.size X) wr.heap.size 28 X) := Lib.hid ⟨below_row ((Below.refl _ wr).alloc hwr _) hwr _, (HNEW.out wr).row _⟩
      have HXY := Lib.hid (And.intro hx hy)
      clear gL gM ha hbb xs ys hx hy b1 b2 hb
      go_upto_region 6 with (first
       | ((with_reducible refine HLD1.out _ _ _ _ _ ?_ ?_ ?_ ?_); (with_reducible rfl); (with_reducible rfl); rfl)
       | ((with_reducible refine wpList_storeS X ?_ 28 (.tmp 8) (.tmp 21) ?_ ?_ ?_ (HNEW.out _) Tryz.sizeMedia HXS.out.1.1 ?_ HXS.out.1.2 ?_); (with_reducible rfl); (with_reducible rfl); rfl; rfl; rfl))
      clear HLD1
      generalize ((wr.alloc (.cells #[.int .i64 0, .int .i64 0, .string ⟨#[]⟩, .int .i64 0, .slice none 0 0, .slice none 0 0, .slice none 0 0, .bool false, .slice none 0 0, .slice none 0 0, .int .i64 0] 28)).setRow wr.heap.size X) = W1 at *
      have HG1 : Hid (w.heap.size ≤ wr.heap.size) := Lib.hid hwr
      clear hwr
      generalize wr.heap.size = g1 at *
      have hW1 : w.heap.size ≤ W1.heap.size := Nat.le_trans HS.out.2.size HW1.out.1.size
      have HW2 : Hid (Below w.heap.size wr ((W1.alloc (.cells #[.int .i64 0, .int .i64 0, .string ⟨#[]⟩, .int .i64 0, .slice none 0 0, .slice none 0 0, .slice none 0 0, .bool false, .slice none 0 0, .slice none 0 0, .int .i64 0] 28)).setRow W1.heap.size Y) ∧ Whole ((W1.alloc (.cells #[.int .i64 0, .int .i64 0, .string ⟨#[]⟩, .int .i64 0, .slice none 0 0, .slice none 0 0, .slice none 0 0, .bool false, .slice none 0 0, .slice none 0 0, .int .i64 0] 28)).setRow W1.heap.size Y) W1.heap.size 28 Y ∧ Whole ((W1.alloc (.cells #[.int .i64 0, .int .i64 0, .string ⟨#[]⟩, .int .i64 0, .slice none 0 0, .slice none 0 0, .slice none 0 0, .bool false, .slice none 0 0, .slice none 0 0, .int .i64 0] 28)).setRow W1.heap.size Y) g1 28 X) := Lib.hid ⟨below_row (HW1.out.1.alloc hW1 _) hW1 _, (HNEW.out W1).row _, (HW1.out.2.alloc _).farRow (Nat.ne_of_lt HW1.out.2.lt) _⟩
      go_upto_region 7 with (first
       | ((with_reducible refine HLD2.out _ _ _ _ _ _ HW1.out.1 ?_ ?_ ?_ ?_); (with_reducible rfl); (with_reducible rfl); rfl)
       | ((with_reducible refine wpList_storeS Y ?_ 28 (.tmp 9) (.tmp 25) ?_ ?_ ?_ (HNEW.out _) Tryz.sizeMedia HXS.out.2.1 ?_ HXS.out.2.2 ?_); (with_reducible rfl); (with_reducible rfl); rfl; rfl; rfl))
      clear HLD2 HNEW
      generalize ((W1.alloc (.cells #[.int .i64 0, .int .i64 0, .string ⟨#[]⟩, .int .i64 0, .slice none 0 0, .slice none 0 0, .slice none 0 0, .bool false, .slice none 0 0, .slice none 0 0, .int .i64 0] 28)).setRow W1.heap.size Y) = W2 at *
      generalize W1.heap.size = g2 at *
      have hW2 : w.heap.size ≤ W2.heap.size := Nat.le_trans HS.out.2.size HW2.out.1.size
      obtain ⟨q, hq⟩ := sameBool a b
      have HCL : Hid (Calls Tryz.prog 72 #[.agg X, .agg Y] W2 fun e w' => e = .returned (.bool q) ∧ Below W2.heap.size W2 w') := Lib.hid ((sameMedia_any X Y a b vC vE vR vS vY uC uE uR uS uY W2 ((HXY.out.1.below HW2.out.1).more hW2) ((HXY.out.2.below HW2.out.1).more hW2)).mono fun e w' h => h.fix hq)
      have HQ := Lib.hid hq
      have HFIN : Hid (∀ W, Below W2.heap.size W2 W → Below w.heap.size w W) := Lib.hid fun W hW => (HS.out.2.trans HW2.out.1).trans (hW.mono hW2)
      clear hq hW1 hW2
      cases q with
      | true =>
        have HEQ : Hid (a = b) := Lib.hid (HQ.out.1 rfl)
        go_wp2_with (first
         | ((with_reducible refine wpList_load_all ?_ 28 (.tmp 8) ?_ HW2.out.2.2 ?_ Tryz.sizeMedia HXS.out.1.1 Tryz.underlying28 rfl ?_); (with_reducible rfl); (with_reducible rfl); rfl)
         | ((with_reducible refine wpList_load_all ?_ 28 (.tmp 9) ?_ HW2.out.2.1 ?_ Tryz.sizeMedia HXS.out.2.1 Tryz.underlying28 rfl ?_); (with_reducible rfl); (with_reducible rfl); rfl)
         | (go_at_call 72; (with_reducible refine HCL.out.mono ?_); rintro e w5 ⟨rfl, hb5⟩))
        go_roundw
        case rel =>
         refine ⟨k + 1, by omega, by go_num, fun j hj => ?_, HFIN.out _ hb5⟩
         by_cases e : j = k
         · subst e
           rw [HG.out.1, HG.out.2, HEQ.out]
         · exact HS.out.1 j (by omega)
        case measure => simp [intOf]; omega
      | false =>
        have HNE : Hid (L ≠ M) := Lib.hid (fun e => by rw [e] at HG; have := HQ.out.2 (Option.some.inj (HG.out.1.symm.trans HG.out.2)); cases this)
        go_wp2_with (first
         | ((with_reducible refine wpList_load_all ?_ 28 (.tmp 8) ?_ HW2.out.2.2 ?_ Tryz.sizeMedia HXS.out.1.1 Tryz.underlying28 rfl ?_); (with_reducible rfl); (with_reducible rfl); rfl)
         | ((with_reducible refine wpList_load_all ?_ 28 (.tmp 9) ?_ HW2.out.2.1 ?_ Tryz.sizeMedia HXS.out.2.1 Tryz.underlying28 rfl ?_); (with_reducible rfl); (with_reducible rfl); rfl)
         | (go_at_call 72; (with_reducible refine HCL.out.mono ?_); rintro e w5 ⟨rfl, hb5⟩))
        go_ret
        exact ⟨false, rfl, ⟨fun e => (by cases e), fun e => (HNE.out e).elim⟩, HFIN.out _ hb5⟩
    · obtain rfl : k = n := by omega
      have HEQ : Hid (L = M) := Lib.hid (list_same (by rw [HN.out, HM.out]) (fun j hj => HS.out.1 j (by rw [HN.out] at hj; exact hj)))
      clear hb
      go_wp2
      go_ret
      exact ⟨true, rfl, ⟨fun _ => HEQ.out, fun _ => rfl⟩, HS.out.2⟩
 · have hz : ((n : Int) == (m : Int)) = false := by rw [beq_eq_false_iff_ne]; omega
   have HNE : Hid (L ≠ M) := Lib.hid (fun e => hnm (by rw [← HN.out, ← HM.out, e]))
   clear hnm
   go_enter Tryz.func71, Tryz.ntmps71
   go_wp2
   go_ret
   exact ⟨false, rfl, ⟨fun e => (by cases e), fun e => (HNE.out e).elim⟩, Below.refl _ w⟩
set_option maxHeartbeats 3200000 in
set_option maxRecDepth 100000 in
theorem deSame_any (X Y : Array Value) (x y : DescS) (vB vM uB uM : Value) (w : World) (h1 : DescV w w.heap.size X x vB vM) (h2 : DescV w w.heap.size Y y uB uM) : Calls Tryz.prog 35 #[.agg X, .agg Y] w (SameB w x y) := by
 obtain ⟨hb0, hx0, hy0⟩ := two_boxes w 62 X Y
 obtain ⟨A0, c0, hA0, -⟩ := Rows.form h1.bundle
 obtain ⟨D0, d0, hD0, -⟩ := Rows.form h2.bundle
 obtain ⟨n0, hn0⟩ : ∃ n, x.bundle.length = n := ⟨_, rfl⟩
 obtain ⟨m0, hm0⟩ : ∃ n, y.bundle.length = n := ⟨_, rfl⟩
 rw [hn0] at hA0
 rw [hm0] at hD0
 subst hA0 hD0
 obtain ⟨b2, hb2⟩ := sameBool x.bundle y.bundle
 have HC2 : Hid (∀ W, Below w.heap.size w W → Calls Tryz.prog 70 #[.slice A0 n0 c0, .slice D0 m0 d0] W fun e w' => e = .returned (.bool b2) ∧ Below W.heap.size W w') := Lib.hid fun W hW =>
  (equalT_any _ _ x.bundle y.bundle W ((h1.bundle.below hW).more hW.size) ((h2.bundle.below hW).more hW.size)).mono fun e w' h => h.fix hb2
 obtain ⟨A1, c1, hA1, -⟩ := Rows.form h1.media
 obtain ⟨D1, d1, hD1, -⟩ := Rows.form h2.media
 obtain ⟨n1, hn1⟩ : ∃ n, x.media.length = n := ⟨_, rfl⟩
 obtain ⟨m1, hm1⟩ : ∃ n, y.media.length = n := ⟨_, rfl⟩
 rw [hn1] at hA1
 rw [hm1] at hD1
 subst hA1 hD1
 obtain ⟨b5, hb5⟩ := sameBool x.media y.media
 have HC5 : Hid (∀ W, Below w.heap.size w W → Calls Tryz.prog 71 #[.slice A1 n1 c1, .slice D1 m1 d1, .func (.func 72) #[] #[]] W fun e w' => e = .returned (.bool b5) ∧ Below W.heap.size W w') := Lib.hid fun W hW =>
  (eqFM_any _ _ x.media y.media W ((h1.media.below hW).more hW.size) ((h2.media.below hW).more hW.size)).mono fun e w' h => h.fix hb5
 have HE : Hid (x = y ↔ x.id = y.id ∧ x.ver = y.ver ∧ x.bundle = y.bundle ∧ x.name = y.name ∧ x.pass = y.pass ∧ x.media = y.media) := Lib.hid ⟨fun e => by rw [e]; exact ⟨rfl, rfl, rfl, rfl, rfl, rfl⟩, fun ⟨h0, h1, h2, h3, h4, h5⟩ => DescS.ext' h0 h1 h2 h3 h4 h5⟩
 have HB2 := Lib.hid hb2
 clear hb2
 have HB5 := Lib.hid hb5
 clear hb5
 have hX := h1.form
 have hY := h2.form
 have HXC : Hid (X[0]? = some (.int .u64 x.id) ∧ X[1]? = some (.int .u64 x.ver) ∧ X[2]? = some (.slice A0 n0 c0) ∧ X[3]? = some (.string x.name) ∧ X[4]? = some (.string x.pass) ∧ X[5]? = some (.slice A1 n1 c1)) := Lib.hid (by rw [hX]; exact ⟨rfl, rfl, rfl, rfl, rfl, rfl⟩)
 have HYC : Hid (Y[0]? = some (.int .u64 y.id) ∧ Y[1]? = some (.int .u64 y.ver) ∧ Y[2]? = some (.slice D0 m0 d0) ∧ Y[3]? = some (.string y.name) ∧ Y[4]? = some (.string y.pass) ∧ Y[5]? = some (.slice D1 m1 d1)) := Lib.hid (by rw [hY]; exact ⟨rfl, rfl, rfl, rfl, rfl, rfl⟩)
 have H0 := Lib.hid (And.intro hb0 (And.intro hx0 hy0))
 obtain ⟨N, hN⟩ : ∃ N, w.heap.size = N := ⟨_, rfl⟩
 rw [hN] at H0
 have HN := Lib.hid hN
 have HP0 : Hid (∀ W, Below (w.alloc (.cells X 62) |>.alloc (.cells Y 62)).heap.size (w.alloc (.cells X 62) |>.alloc (.cells Y 62)) W → W.cell? ⟨N, 0, none⟩ = some (.int .u64 x.id) ∧ W.cell? ⟨N + 1, 0, none⟩ = some (.int .u64 y.id)) := Lib.hid fun W hW => ⟨((H0.out.2.1.under hW).cell 0).trans HXC.out.1, ((H0.out.2.2.under hW).cell 0).trans HYC.out.1⟩
 have HP1 : Hid (∀ W, Below (w.alloc (.cells X 62) |>.alloc (.cells Y 62)).heap.size (w.alloc (.cells X 62) |>.alloc (.cells Y 62)) W → W.cell? ⟨N, 1, none⟩ = some (.int .u64 x.ver) ∧ W.cell? ⟨N + 1, 1, none⟩ = some (.int .u64 y.ver)) := Lib.hid fun W hW => ⟨((H0.out.2.1.under hW).cell 1).trans HXC.out.2.1, ((H0.out.2.2.under hW).cell 1).trans HYC.out.2.1⟩
 have HP2 : Hid (∀ W, Below (w.alloc (.cells X 62) |>.alloc (.cells Y 62)).heap.size (w.alloc (.cells X 62) |>.alloc (.cells Y 62)) W → W.cell? ⟨N, 2, none⟩ = some (.slice A0 n0 c0) ∧ W.cell? ⟨N + 1, 2, none⟩ = some (.slice D0 m0 d0)) := Lib.hid fun W hW => ⟨((H0.out.2.1.under hW).cell 2).trans HXC.out.2.2.1, ((H0.out.2.2.under hW).cell 2).trans HYC.out.2.2.1⟩
 have HP3 : Hid (∀ W, Below (w.alloc (.cells X 62) |>.alloc (.cells Y 62)).heap.size (w.alloc (.cells X 62) |>.alloc (.cells Y 62)) W → W.cell? ⟨N, 3, none⟩ = some (.string x.name) ∧ W.cell? ⟨N + 1, 3, none⟩ = some (.string y.name)) := Lib.hid fun W hW => ⟨((H0.out.2.1.under hW).cell 3).trans HXC.out.2.2.2.1, ((H0.out.2.2.under hW).cell 3).trans HYC.out.2.2.2.1⟩
 have HP4 : Hid (∀ W, Below (w.alloc (.cells X 62) |>.alloc (.cells Y 62)).heap.size (w.alloc (.cells X 62) |>.alloc (.cells Y 62)) W → W.cell? ⟨N, 4, none⟩ = some (.string x.pass) ∧ W.cell? ⟨N + 1, 4, none⟩ = some (.string y.pass)) := Lib.hid fun W hW => ⟨((H0.out.2.1.under hW).cell 4).trans HXC.out.2.2.2.2.1, ((H0.out.2.2.under hW).cell 4).trans HYC.out.2.2.2.2.1⟩
 have HP5 : Hid (∀ W, Below (w.alloc (.cells X 62) |>.alloc (.cells Y 62)).heap.size (w.alloc (.cells X 62) |>.alloc (.cells Y 62)) W → W.cell? ⟨N, 5, none⟩ = some (.slice A1 n1 c1) ∧ W.cell? ⟨N + 1, 5, none⟩ = some (.slice D1 m1 d1)) := Lib.hid fun W hW => ⟨((H0.out.2.1.under hW).cell 5).trans HXC.out.2.2.2.2.2, ((H0.out.2.2.under hW).cell 5).trans HYC.out.2.2.2.2.2⟩
 clear h1 h2 hx0 hy0 hN hX hY hn0 hm0 hn1 hm1
 generalize x.id = x0 at *
 generalize y.id = y0 at *
 generalize x.ver = x1 at *
 generalize y.ver = y1 at *
 generalize x.name = x3 at *
 generalize y.name = y3 at *
 generalize x.pass = x4 at *
 generalize y.pass = y4 at *
 go_enter Tryz.func35, Tryz.ntmps35
 go_upto_region 1 with fail
 simp only [HN.out, Nat.add_assoc, Nat.reduceAdd]
 have HU : Hid (∀ W, Below ((w.alloc (.cells X 62)).alloc (.cells Y 62)).heap.size ((w.alloc (.cells X 62)).alloc (.cells Y 62)) W → Below w.heap.size w W) := Lib.hid fun W hW => below_chain (Nat.le_refl _) (by have := H0.out.1; rw [← HN.out] at this; exact this) hW
 generalize ((w.alloc (.cells X 62)).alloc (.cells Y 62)) = W0 at *
 have HR := Lib.hid (Below.refl W0.heap.size W0)
 have p0W0 := (HP0.out W0 HR.out).1
 have q0W0 := (HP0.out W0 HR.out).2
 have p1W0 := (HP1.out W0 HR.out).1
 have q1W0 := (HP1.out W0 HR.out).2
 have p2W0 := (HP2.out W0 HR.out).1
 have q2W0 := (HP2.out W0 HR.out).2
 have HB0 : Hid (((x0 : Int) == (y0 : Int)) = true ↔ x0 = y0) := Lib.hid (by rw [beq_iff_eq]; omega)
 obtain ⟨b0, hb0'⟩ : ∃ b, ((x0 : Int) == (y0 : Int)) = b := ⟨_, rfl⟩
 rw [hb0'] at HB0
 cases b0 with
 | false =>
   have HNE : Hid (¬ (x = y)) := Lib.hid (fun e => by have h := (HE.out.1 e).1; have := HB0.out.2 h; cases this)
   go_wp2_with fail
   go_ret
   exact ⟨false, rfl, ⟨fun e => (by cases e), fun e => (HNE.out e).elim⟩, HU.out _ HR.out⟩
 | true =>
   have HB1 : Hid (((x1 : Int) == (y1 : Int)) = true ↔ x1 = y1) := Lib.hid (by rw [beq_iff_eq]; omega)
   obtain ⟨b1, hb1'⟩ : ∃ b, ((x1 : Int) == (y1 : Int)) = b := ⟨_, rfl⟩
   rw [hb1'] at HB1
   cases b1 with
   | false =>
     have HNE : Hid (¬ (x = y)) := Lib.hid (fun e => by have h := (HE.out.1 e).2.1; have := HB1.out.2 h; cases this)
     go_wp2_with fail
     go_ret
     exact ⟨false, rfl, ⟨fun e => (by cases e), fun e => (HNE.out e).elim⟩, HU.out _ HR.out⟩
   | true =>
     cases b2 with
     | false =>
       have HNE : Hid (¬ (x = y)) := Lib.hid (fun e => by have h := (HE.out.1 e).2.2.1; have := HB2.out.2 h; cases this)
       go_wp2_with (first
        | (go_at_call 70; (with_reducible refine (HC2.out _ (HU.out _ HR.out)).mono ?_); rintro e w1 ⟨rfl, hb2⟩; have H1 : Hid (Below W0.heap.size W0 w1) := Lib.hid (below_chain (Nat.le_refl _) HR.out hb2); clear hb2; have p3w1 := (HP3.out w1 H1.out).1; have q3w1 := (HP3.out w1 H1.out).2; have p4w1 := (HP4.out w1 H1.out).1; have q4w1 := (HP4.out w1 H1.out).2; have p5w1 := (HP5.out w1 H1.out).1; have q5w1 := (HP5.out w1 H1.out).2; dsimp only))
       go_ret
       exact ⟨false, rfl, ⟨fun e => (by cases e), fun e => (HNE.out e).elim⟩, HU.out _ H1.out⟩
     | true =>
       have HB3 : Hid ((x3.toList == y3.toList) = true ↔ x3 = y3) := Lib.hid toList_beq
       obtain ⟨b3, hb3'⟩ : ∃ b, (x3.toList == y3.toList) = b := ⟨_, rfl⟩
       rw [hb3'] at HB3
       cases b3 with
       | false =>
         have HNE : Hid (¬ (x = y)) := Lib.hid (fun e => by have h := (HE.out.1 e).2.2.2.1; have := HB3.out.2 h; cases this)
         go_wp2_with (first
          | (go_at_call 70; (with_reducible refine (HC2.out _ (HU.out _ HR.out)).mono ?_); rintro e w1 ⟨rfl, hb2⟩; have H1 : Hid (Below W0.heap.size W0 w1) := Lib.hid (below_chain (Nat.le_refl _) HR.out hb2); clear hb2; have p3w1 := (HP3.out w1 H1.out).1; have q3w1 := (HP3.out w1 H1.out).2; have p4w1 := (HP4.out w1 H1.out).1; have q4w1 := (HP4.out w1 H1.out).2; have p5w1 := (HP5.out w1 H1.out).1; have q5w1 := (HP5.out w1 H1.out).2; dsimp only))
         go_ret
         exact ⟨false, rfl, ⟨fun e => (by cases e), fun e => (HNE.out e).elim⟩, HU.out _ H1.out⟩
       | true =>
         have HB4 : Hid ((x4.toList == y4.toList) = true ↔ x4 = y4) := Lib.hid toList_beq
         obtain ⟨b4, hb4'⟩ : ∃ b, (x4.toList == y4.toList) = b := ⟨_, rfl⟩
         rw [hb4'] at HB4
         cases b4 with
         | false =>
           have HNE : Hid (¬ (x = y)) := Lib.hid (fun e => by have h := (HE.out.1 e).2.2.2.2.1; have := HB4.out.2 h; cases this)
           go_wp2_with (first
            | (go_at_call 70; (with_reducible refine (HC2.out _ (HU.out _ HR.out)).mono ?_); rintro e w1 ⟨rfl, hb2⟩; have H1 : Hid (Below W0.heap.size W0 w1) := Lib.hid (below_chain (Nat.le_refl _) HR.out hb2); clear hb2; have p3w1 := (HP3.out w1 H1.out).1; have q3w1 := (HP3.out w1 H1.out).2; have p4w1 := (HP4.out w1 H1.out).1; have q4w1 := (HP4.out w1 H1.out).2; have p5w1 := (HP5.out w1 H1.out).1; have q5w1 := (HP5.out w1 H1.out).2; dsimp only))
           go_ret
           exact ⟨false, rfl, ⟨fun e => (by cases e), fun e => (HNE.out e).elim⟩, HU.out _ H1.out⟩
         | true =>
           cases b5 with
           | false =>
             have HNE : Hid (¬ (x = y)) := Lib.hid (fun e => by have h := (HE.out.1 e).2.2.2.2.2; have := HB5.out.2 h; cases this)
             go_wp2_with (first
              | (go_at_call 70; (with_reducible refine (HC2.out _ (HU.out _ HR.out)).mono ?_); rintro e w1 ⟨rfl, hb2⟩; have H1 : Hid (Below W0.heap.size W0 w1) := Lib.hid (below_chain (Nat.le_refl _) HR.out hb2); clear hb2; have p3w1 := (HP3.out w1 H1.out).1; have q3w1 := (HP3.out w1 H1.out).2; have p4w1 := (HP4.out w1 H1.out).1; have q4w1 := (HP4.out w1 H1.out).2; have p5w1 := (HP5.out w1 H1.out).1; have q5w1 := (HP5.out w1 H1.out).2; dsimp only)
              | (go_at_call 71; (with_reducible refine (HC5.out _ (HU.out _ H1.out)).mono ?_); rintro e w2 ⟨rfl, hb5⟩; have H2 : Hid (Below W0.heap.size W0 w2) := Lib.hid (below_chain (Nat.le_refl _) H1.out hb5); clear hb5; dsimp only))
             go_ret
             exact ⟨false, rfl, ⟨fun e => (by cases e), fun e => (HNE.out e).elim⟩, HU.out _ H2.out⟩
           | true =>
             have HEQ : Hid (x = y) := Lib.hid (HE.out.2 ⟨HB0.out.1 rfl, HB1.out.1 rfl, HB2.out.1 rfl, HB3.out.1 rfl, HB4.out.1 rfl, HB5.out.1 rfl⟩)
             go_wp2_with (first
              | (go_at_call 70; (with_reducible refine (HC2.out _ (HU.out _ HR.out)).mono ?_); rintro e w1 ⟨rfl, hb2⟩; have H1 : Hid (Below W0.heap.size W0 w1) := Lib.hid (below_chain (Nat.le_refl _) HR.out hb2); clear hb2; have p3w1 := (HP3.out w1 H1.out).1; have q3w1 := (HP3.out w1 H1.out).2; have p4w1 := (HP4.out w1 H1.out).1; have q4w1 := (HP4.out w1 H1.out).2; have p5w1 := (HP5.out w1 H1.out).1; have q5w1 := (HP5.out w1 H1.out).2; dsimp only)
              | (go_at_call 71; (with_reducible refine (HC5.out _ (HU.out _ H1.out)).mono ?_); rintro e w2 ⟨rfl, hb5⟩; have H2 : Hid (Below W0.heap.size W0 w2) := Lib.hid (below_chain (Nat.le_refl _) H1.out hb5); clear hb5; dsimp only))
             go_ret
             exact ⟨true, rfl, ⟨fun _ => HEQ.out, fun _ => rfl⟩, HU.out _ H2.out⟩
end Go.Proofs.YtbbedhecfipdjaaGreatDoor
