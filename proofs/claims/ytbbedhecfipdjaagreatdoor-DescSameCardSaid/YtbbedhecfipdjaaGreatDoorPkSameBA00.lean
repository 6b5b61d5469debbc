import Derived.Test.YtbbedhecfipdjaaGreatDoorPkDescPrintsA00
import Derived.Test.YtbbedhecfipdjaaGreatDoorPkDescPrintsA06
import Derived.Test.YtbbedhecfipdjaaGreatDoorPkDescPrintsA01
import Derived.Test.YtbbedhecfipdjaaGreatDoorPkDescPrintsA02
import Derived.Test.YtbbedhecfipdjaaGreatDoorPkDescPrintsA04
import Derived.Test.YtbbedhecfipdjaaGreatDoorPkDescPrintsA07
import Derived.Test.YtbbedhecfipdjaaGreatDoorPkDescPrintsA08
import Derived.Test.YtbbedhecfipdjaaGreatDoorPkDescPrintsA09
import Derived.Test.YtbbedhecfipdjaaGreatDoorPkDescPrintsA10
import Derived.Test.YtbbedhecfipdjaaGreatDoorPkDescPrintsA11
import Derived.Test.YtbbedhecfipdjaaGreatDoorPkDescPrintsA12
import Derived.Test.YtbbedhecfipdjaaGreatDoorPkDescPrintsA03
import Derived.Test.YtbbedhecfipdjaaGreatDoorPkDescPrintsA05
import Derived.Test.YtbbedhecfipdjaaGreatDoorPkDescPrintsA13
import Derived.Test.YtbbedhecfipdjaaGreatDoorPkDescPrintsA14
import Derived.Test.YtbbedhecfipdjaaGreatDoorPkDescPrintsA15
import Derived.Test.YtbbedhecfipdjaaGreatDoorPkDescPrintsA16
import Derived.Test.YtbbedhecfipdjaaGreatDoorPkDescPrintsA17
import Derived.OrdersHeld
import Derived.WalkKit
import Derived.Lib.Hide
import Derived.Test.YtbbedhecfipdjaaGreatDoorProg
import Derived.Deep.RegionHeld3
import Derived.Deep.MidRow
import Derived.ProofKit
import Derived.WalkSpells
import Derived.Below
import Derived.Deep.Draws
import Derived.Laws.Rows
import Derived.ArgAppend
import Derived.Laws.IdiomCopy
import Derived.Maps.AppendAt
import Derived.Deep.RegionLaw
import Derived.OwnWalk
import Derived.Outline
import Derived.Handy
import Derived.LoopTactic
import Derived.RegionTactic
import Derived.ChangeAlike
import Derived.BigRegion
import Derived.Deep.QuietTactic
import Derived.BigQuiet
import Derived.Deep.DeepMust
import Derived.Deep.CutRange
import Derived.Deep.DeepCutAuto
import Derived.Deep.LoopGhost
import Derived.StillTailTactics
import Derived.Laws.AppendOwnNone
import Derived.Lib.AppendZeros
import Derived.Laws.CopyOwn
import Derived.Laws.BytesArg
import Derived.Shelf.Abstract
import Derived.Laws.StructEq
import Derived.Lib.IndexMore
import Derived.Lib.Join
import Derived.Shelf.Strings.Builder1
import Derived.Shelf.Strings.Builder2
import Derived.Shelf.Strings.OnBuilder
import Derived.Shelf.Small.Strs
import Derived.Shelf.Strings.BuilderF
import Derived.Shelf.Strconv.Atoi
import Derived.Shelf.Strconv.Itoa0
import Derived.Shelf.Strconv.Itoa1
import Derived.Shelf.LaysM
import Derived.Shelf.Strconv.Itoa2
import Derived.Shelf.Strconv.Itoa3
import Derived.Shelf.Strconv.AtoiErrFast
import Derived.Shelf.Strconv.ParseIntEmpty
import Derived.Shelf.Strconv.AtoiFail
import Derived.Shelf.Strconv.Clone
import Derived.Shelf.Strconv.SyntaxError
import Derived.Shelf.LaysC
import Derived.Shelf.Strconv.ToError
import Derived.Shelf.Strconv.Lower
import Derived.Shelf.Strconv.ParseUint10
import Derived.Shelf.Strconv.ParseUint10Empty
import Derived.Shelf.Strconv.ParseUint10Any
import Derived.Shelf.Strconv.ParseInt10
import Derived.Shelf.Strconv.AtoiLong
import Derived.Shelf.Strconv.AtoiInnerAll
import Derived.Shelf.Strconv.RangeError
import Derived.Shelf.Strconv.ToErrorRange
import Derived.Shelf.Strconv.AtoiAll
import Derived.Ground.MpProg
import Derived.Shelf.Pu.ParseUintPublic10
import Derived.Shelf.Strings.Search1
import Derived.Shelf.Strings.Search2
import Derived.Shelf.Strings.Search3
import Derived.Shelf.Strings.Cut
import Derived.Shelf.Strings.Count
import Derived.Shelf.Strings.Shaped
import Derived.Shelf.Strings.Prefix
import Derived.Shelf.Strings.Split
import Derived.Shelf.Unicode.DecodeSlow
import Derived.Shelf.Slices.Equal
import Derived.Lib.SmallJoins
import Derived.Lib.AppendIntMem
import Derived.Deep.Slices
import Derived.RangeFuncNested
import Derived.Deep.CutBlock
import Derived.Great.BuildSlice
import Derived.RangeFuncBound
import Derived.RangeFuncCalls
import Derived.RangeFuncLeaves
import Derived.OwnWalkIn
import Derived.TacticsInMore
import Derived.LoopNIn
import Derived.LoopIn
namespace Go.Proofs.YtbbedhecfipdjaaGreatDoor
open Go.RowKit
set_option linter.unusedVariables false
set_option linter.unusedSimpArgs false
theorem toList_bne {a b : ByteArray} : (a.toList == b.toList) = false ↔ a ≠ b := by
 rw [← Bool.not_eq_true, Ne, toList_beq]
theorem Tryz.sizeU8 (w : World) : (sizeOf 5).run Tryz.prog w = .ok 1 w := by kernel_rfl
theorem cry_part0 : ∀ (k0 k1 k2 k3 k4 k5 k6 k7 k8 k9 k10 k11 k12 k13 k14 k15 k16 k17 k18 k19 k20 k21 k22 k23 k24 k25 k26 k27 k28 k29 : UInt8) (z : Int) (w : World), (part 3 (#[.int .i64 z, .int .u8 (k0.toNat : Int), .int .u8 (k1.toNat : Int), .int .u8 (k2.toNat : Int), .int .u8 (k3.toNat : Int), .int .u8 (k4.toNat : Int), .int .u8 (k5.toNat : Int), .int .u8 (k6.toNat : Int), .int .u8 (k7.toNat : Int), .int .u8 (k8.toNat : Int), .int .u8 (k9.toNat : Int), .int .u8 (k10.toNat : Int), .int .u8 (k11.toNat : Int), .int .u8 (k12.toNat : Int), .int .u8 (k13.toNat : Int), .int .u8 (k14.toNat : Int), .int .u8 (k15.toNat : Int), .int .u8 (k16.toNat : Int), .int .u8 (k17.toNat : Int), .int .u8 (k18.toNat : Int), .int .u8 (k19.toNat : Int), .int .u8 (k20.toNat : Int), .int .u8 (k21.toNat : Int), .int .u8 (k22.toNat : Int), .int .u8 (k23.toNat : Int), .int .u8 (k24.toNat : Int), .int .u8 (k25.toNat : Int), .int .u8 (k26.toNat : Int), .int .u8 (k27.toNat : Int), .int .u8 (k28.toNat : Int), .int .u8 (k29.toNat : Int)] : Array Value) 0).run Tryz.prog w = .ok (.int .i64 z) w := by intros; kernel_rfl
theorem cry_part1 : ∀ (k0 k1 k2 k3 k4 k5 k6 k7 k8 k9 k10 k11 k12 k13 k14 k15 k16 k17 k18 k19 k20 k21 k22 k23 k24 k25 k26 k27 k28 k29 : UInt8) (z : Int) (w : World), (part 86 (#[.int .i64 z, .int .u8 (k0.toNat : Int), .int .u8 (k1.toNat : Int), .int .u8 (k2.toNat : Int), .int .u8 (k3.toNat : Int), .int .u8 (k4.toNat : Int), .int .u8 (k5.toNat : Int), .int .u8 (k6.toNat : Int), .int .u8 (k7.toNat : Int), .int .u8 (k8.toNat : Int), .int .u8 (k9.toNat : Int), .int .u8 (k10.toNat : Int), .int .u8 (k11.toNat : Int), .int .u8 (k12.toNat : Int), .int .u8 (k13.toNat : Int), .int .u8 (k14.toNat : Int), .int .u8 (k15.toNat : Int), .int .u8 (k16.toNat : Int), .int .u8 (k17.toNat : Int), .int .u8 (k18.toNat : Int), .int .u8 (k19.toNat : Int), .int .u8 (k20.toNat : Int), .int .u8 (k21.toNat : Int), .int .u8 (k22.toNat : Int), .int .u8 (k23.toNat : Int), .int .u8 (k24.toNat : Int), .int .u8 (k25.toNat : Int), .int .u8 (k26.toNat : Int), .int .u8 (k27.toNat : Int), .int .u8 (k28.toNat : Int), .int .u8 (k29.toNat : Int)] : Array Value) 1).run Tryz.prog w = .ok (.agg #[.int .u8 (k0.toNat : Int), .int .u8 (k1.toNat : Int), .int .u8 (k2.toNat : Int), .int .u8 (k3.toNat : Int), .int .u8 (k4.toNat : Int), .int .u8 (k5.toNat : Int), .int .u8 (k6.toNat : Int), .int .u8 (k7.toNat : Int), .int .u8 (k8.toNat : Int), .int .u8 (k9.toNat : Int), .int .u8 (k10.toNat : Int), .int .u8 (k11.toNat : Int), .int .u8 (k12.toNat : Int), .int .u8 (k13.toNat : Int), .int .u8 (k14.toNat : Int), .int .u8 (k15.toNat : Int), .int .u8 (k16.toNat : Int), .int .u8 (k17.toNat : Int), .int .u8 (k18.toNat : Int), .int .u8 (k19.toNat : Int), .int .u8 (k20.toNat : Int), .int .u8 (k21.toNat : Int), .int .u8 (k22.toNat : Int), .int .u8 (k23.toNat : Int), .int .u8 (k24.toNat : Int), .int .u8 (k25.toNat : Int), .int .u8 (k26.toNat : Int), .int .u8 (k27.toNat : Int), .int .u8 (k28.toNat : Int), .int .u8 (k29.toNat : Int)]) w := by intros; kernel_rfl
set_option maxRecDepth 10000 in
theorem cry_p0 (z : Int) (k : Tx) (hk : k.length = 30) (w : World) : (part 3 (cryC ⟨z, k⟩).toArray 0).run Tryz.prog w = .ok (.int .i64 z) w := by
 match k, hk with
 | [k0, k1, k2, k3, k4, k5, k6, k7, k8, k9, k10, k11, k12, k13, k14, k15, k16, k17, k18, k19, k20, k21, k22, k23, k24, k25, k26, k27, k28, k29], _ => exact cry_part0 k0 k1 k2 k3 k4 k5 k6 k7 k8 k9 k10 k11 k12 k13 k14 k15 k16 k17 k18 k19 k20 k21 k22 k23 k24 k25 k26 k27 k28 k29 z w
set_option maxRecDepth 10000 in
theorem cry_p1 (z : Int) (k : Tx) (hk : k.length = 30) (w : World) : (part 86 (cryC ⟨z, k⟩).toArray 1).run Tryz.prog w = .ok (.agg (keyC k).toArray) w := by
 match k, hk with
 | [k0, k1, k2, k3, k4, k5, k6, k7, k8, k9, k10, k11, k12, k13, k14, k15, k16, k17, k18, k19, k20, k21, k22, k23, k24, k25, k26, k27, k28, k29], _ => exact cry_part1 k0 k1 k2 k3 k4 k5 k6 k7 k8 k9 k10 k11 k12 k13 k14 k15 k16 k17 k18 k19 k20 k21 k22 k23 k24 k25 k26 k27 k28 k29 z w
theorem cry_fields : (Tryz.prog.fieldsOf 88).toList.map (fun f => (f.type, f.offset)) = [(3, 0), (86, 1)] := by kernel_rfl
theorem cry_names : (Tryz.prog.fieldsOf 88).toList.all (fun f => f.name != "_") = true := by kernel_rfl
theorem crypto_guard : Tryz.prog.eqGuardType Tryz.prog.depth 88 = false := by kernel_rfl
theorem ext_guard : Tryz.prog.eqGuardType Tryz.prog.depth 84 = false := by kernel_rfl
theorem key_eq (d : Nat) (k k' : Tx) (hk : k.length = 30) (hk' : k'.length = 30) (w : World) : (Op.equalIn (d + 2) 86 (.agg (keyC k).toArray) (.agg (keyC k').toArray)).run Tryz.prog w = .ok (decide (k = k')) w := by
 have e : decide (k = k') = decide (∀ i ∈ List.range' 0 30 1, k[i]? = k'[i]?) := by
  rw [decide_eq_decide]
  constructor
  · intro h; subst h; exact fun i hi => rfl
  · intro h
    apply List.ext_getElem?
    intro i
    by_cases hi : i < 30
    · exact h i (by simp [List.mem_range'_1, hi])
    · rw [List.getElem?_eq_none (by omega), List.getElem?_eq_none (by omega)]
 rw [e, Op.equalIn]
 simp only [Sem.run_bind, run_underlying Tryz.underlying86, Result.andThen_ok, Tryz.sizeU8, Std.Legacy.Range.forIn_eq_forIn_range', Std.Legacy.Range.size, Nat.sub_zero, Nat.add_sub_cancel, Nat.div_one]
 have hl : ∀ i ∈ List.range' 0 30 1, i < 30 := fun i hi => by simpa using (List.mem_range'_1.1 hi).2
 generalize List.range' 0 30 1 = l at hl ⊢
 induction l with
 | nil => simp
 | cons i l ih =>
   have hi : i < 30 := hl i (by simp)
   have hki : i < k.length := by omega
   have hki' : i < k'.length := by omega
   have px : (part 5 (keyC k).toArray (i * 1)).run Tryz.prog w = .ok (.int .u8 (k[i].toNat : Int)) w := by
    have : (keyC k).toArray[i]? = some (.int .u8 (k[i].toNat : Int)) := by simp [keyC, List.getElem?_eq_getElem hki]
    simp [part, isAgg, run_underlying Tryz.underlying5, this]
   have py : (part 5 (keyC k').toArray (i * 1)).run Tryz.prog w = .ok (.int .u8 (k'[i].toNat : Int)) w := by
    have : (keyC k').toArray[i]? = some (.int .u8 (k'[i].toNat : Int)) := by simp [keyC, List.getElem?_eq_getElem hki']
    simp [part, isAgg, run_underlying Tryz.underlying5, this]
   have pe : (Op.equalIn (d + 1) 5 (.int .u8 (k[i].toNat : Int)) (.int .u8 (k'[i].toNat : Int))).run Tryz.prog w = .ok (((k[i].toNat : Int)) == (k'[i].toNat : Int)) w := by
    rw [run_equalIn_int w d 5 .u8 .u8 _ _ Tryz.underlying5]
   by_cases heq : k[i] = k'[i]
   · have hq : (((k[i].toNat : Int)) == (k'[i].toNat : Int)) = true := by rw [heq]; simp
     rw [hq] at pe
     have e2 : decide (∀ j ∈ i :: l, k[j]? = k'[j]?) = decide (∀ j ∈ l, k[j]? = k'[j]?) := by
      rw [decide_eq_decide]
      constructor
      · exact fun h j hj => h j (by simp [hj])
      · intro h j hj
        rcases List.mem_cons.1 hj with rfl | hj
        · rw [List.getElem?_eq_getElem hki, List.getElem?_eq_getElem hki', heq]
        · exact h j hj
     rw [e2]
     simp only [List.forIn_cons, Sem.run_bind, px, py, pe, Result.andThen_ok, Bool.not_true, Bool.false_eq_true, if_false, Sem.run_pure]
     exact ih fun j hj => hl j (by simp [hj])
   · have hq : (((k[i].toNat : Int)) == (k'[i].toNat : Int)) = false := by
      rw [beq_eq_false_iff_ne]
      intro h
      exact heq (UInt8.toNat_inj.1 (by omega))
     rw [hq] at pe
     have e2 : decide (∀ j ∈ i :: l, k[j]? = k'[j]?) = false := by
      rw [decide_eq_false_iff_not]
      intro h
      have := h i (by simp)
      rw [List.getElem?_eq_getElem hki, List.getElem?_eq_getElem hki'] at this
      exact heq (Option.some.inj this)
     rw [e2]
     simp only [List.forIn_cons, Sem.run_bind, px, py, pe, Result.andThen_ok, Bool.not_false, if_true, Sem.run_pure]
theorem int_eq (d : Nat) (z z' : Int) (w : World) : (Op.equalIn (d + 1) 3 (.int .i64 z) (.int .i64 z')).run Tryz.prog w = .ok (z == z') w := by
 rw [run_equalIn_int w d 3 .i64 .i64 _ _ Tryz.underlying3]
theorem two_eqY (d : Nat) (X Y : Array Value) (l : List Field) (hf : l.map (fun f => (f.type, f.offset)) = [(3, 0), (86, 1)]) (hn : l.all (fun f => f.name != "_") = true) (z z' : Int) (k k' : Tx) (hk : k.length = 30) (hk' : k'.length = 30) (w : World)
 (p0 : (part 3 X 0).run Tryz.prog w = .ok (.int .i64 z) w) (p1 : (part 86 X 1).run Tryz.prog w = .ok (.agg (keyC k).toArray) w)
 (q0 : (part 3 Y 0).run Tryz.prog w = .ok (.int .i64 z') w) (q1 : (part 86 Y 1).run Tryz.prog w = .ok (.agg (keyC k').toArray) w) : (Op.eqFields (d + 2) X Y l).run Tryz.prog w = .ok (z == z' && decide (k = k')) w := by
 have e0 := int_eq (d + 1) z z' w
 have e1 := key_eq d k k' hk hk' w
 have hlen : l.length = 2 := by
  have := congrArg List.length hf
  simpa using this
 obtain ⟨f, g, rfl⟩ : ∃ f g, l = [f, g] := by
  rcases l with _ | ⟨f, _ | ⟨g, _ | ⟨_, _⟩⟩⟩
  · simp at hlen
  · simp at hlen
  · exact ⟨f, g, rfl⟩
  · simp at hlen
 have h0 := congrArg (fun l => l[0]?) hf
 have h1 := congrArg (fun l => l[1]?) hf
 simp only [List.map_cons, List.map_nil, List.getElem?_cons_zero, List.getElem?_cons_succ, Option.some.injEq, Prod.mk.injEq] at h0 h1
 obtain ⟨f1, f2⟩ := h0
 obtain ⟨g1, g2⟩ := h1
 simp only [List.all_cons, List.all_nil, Bool.and_true, Bool.and_eq_true, bne_iff_ne] at hn
 obtain ⟨f3, g3⟩ := hn
 rw [← f1, ← f2] at p0 q0
 rw [← g1, ← g2] at p1 q1
 rw [← f1] at e0
 rw [← g1] at e1
 clear f1 f2 g1 g2 hf hlen
 obtain ⟨b0, hb0⟩ : ∃ b, (z == z') = b := ⟨_, rfl⟩
 obtain ⟨b1, hb1⟩ : ∃ b, decide (k = k') = b := ⟨_, rfl⟩
 rw [hb0] at e0 ⊢
 rw [hb1] at e1 ⊢
 clear hb0 hb1
 unfold Op.eqFields
 split
 · cases b0 with
   | false => simp only [Sem.run_bind, p0, q0, e0, Result.andThen_ok, Bool.not_false, if_true, Sem.run_pure, Bool.false_and]
   | true =>
     simp only [Sem.run_bind, p0, q0, e0, Result.andThen_ok, Bool.not_true, Bool.false_eq_true, if_false, Bool.true_and]
     unfold Op.eqFields
     split
     · cases b1 with
       | false => simp only [Sem.run_bind, p1, q1, e1, Result.andThen_ok, Bool.not_false, if_true, Sem.run_pure]
       | true =>
         simp only [Sem.run_bind, p1, q1, e1, Result.andThen_ok, Bool.not_true, Bool.false_eq_true, if_false]
         unfold Op.eqFields
         rw [Sem.run_pure]
     · next h => exact absurd g3 h
 · next h => exact absurd f3 h
theorem CryptoS.ext' {a b : CryptoS} (h1 : a.tag = b.tag) (h2 : a.key = b.key) : a = b := by cases a; cases b; simp_all
instance : DecidableEq CryptoS := fun a b => if h : a.tag = b.tag ∧ a.key = b.key then isTrue (CryptoS.ext' h.1 h.2) else isFalse fun e => h (by rw [e]; exact ⟨rfl, rfl⟩)
theorem crypto_eq (x y : CryptoS) (hk : x.key.length = 30) (hk' : y.key.length = 30) (w : World) : (Op.equalIn 10000 88 (.agg (cryC x).toArray) (.agg (cryC y).toArray)).run Tryz.prog w = .ok (decide (x = y)) w := by
 obtain ⟨z, k⟩ := x
 obtain ⟨z', k'⟩ := y
 have hd : decide ((⟨z, k⟩ : CryptoS) = ⟨z', k'⟩) = (z == z' && decide (k = k')) := by
  rw [Bool.eq_iff_iff]
  simp
 have p0 := cry_p0 z k hk w
 have p1 := cry_p1 z k hk w
 have q0 := cry_p0 z' k' hk' w
 have q1 := cry_p1 z' k' hk' w
 rw [hd]
 clear hd
 generalize (cryC ⟨z, k⟩).toArray = X at *
 generalize (cryC ⟨z', k'⟩).toArray = Y at *
 have e : ∀ d, d = 9999 → (Op.equalIn (d + 1) 88 (.agg X) (.agg Y)).run Tryz.prog w = .ok (z == z' && decide (k = k')) w := fun d hd => by
  rw [run_equalIn_agg w d 88 X Y (by kernel_rfl) (by kernel_rfl)]
  obtain ⟨e, rfl⟩ : ∃ e, d = e + 2 := ⟨d - 2, by omega⟩
  exact two_eqY e X Y _ cry_fields cry_names z z' k k' hk hk' w p0 p1 q0 q1
 exact e 9999 rfl
theorem ExtS.ext' {a b : ExtS} (h1 : a.id = b.id) (h2 : a.uri = b.uri) : a = b := by cases a; cases b; simp_all
theorem ext_eq (x y : ExtS) (w : World) : (Op.equalIn 10000 84 (.agg #[.int .i64 x.id, .string x.uri]) (.agg #[.int .i64 y.id, .string y.uri])).run Tryz.prog w = .ok (x.id == y.id && x.uri.toList == y.uri.toList) w := by
 go_simp
 by_cases h1 : x.id = y.id <;> by_cases h2 : x.uri.toList = y.uri.toList <;> simp [h1, h2]
end Go.Proofs.YtbbedhecfipdjaaGreatDoor
