import Derived.Test.YtbbedhecfipdjaaGreatDoorPkAttrOrderA00
import Derived.Test.YtbbedhecfipdjaaGreatDoorPkAttrOrderA01
import Derived.Test.YtbbedhecfipdjaaGreatDoorPkAttrOrderA02
import Derived.Test.YtbbedhecfipdjaaGreatDoorPkAttrOrderA03
import Derived.Test.YtbbedhecfipdjaaGreatDoorPkAttrOrderA04
import Derived.Test.YtbbedhecfipdjaaGreatDoorPkAttrOrderA05
import Derived.Test.YtbbedhecfipdjaaGreatDoorPkAttrOrderA06
import Derived.Test.YtbbedhecfipdjaaGreatDoorPkAttrOrderA07
import Derived.Test.YtbbedhecfipdjaaGreatDoorPkAttrOrderA08
import Derived.Test.YtbbedhecfipdjaaGreatDoorPkAttrOrderA09
import Derived.Test.YtbbedhecfipdjaaGreatDoorPkAttrOrderA10
import Derived.Test.YtbbedhecfipdjaaGreatDoorPkAttrOrderA11
import Derived.Test.YtbbedhecfipdjaaGreatDoorPkAttrOrderA12
import Derived.Test.YtbbedhecfipdjaaGreatDoorPkAttrOrderA13
import Derived.Test.YtbbedhecfipdjaaGreatDoorPkAttrOrderA27
import Derived.Test.YtbbedhecfipdjaaGreatDoorPkAttrOrderA25
import Derived.Test.YtbbedhecfipdjaaGreatDoorPkAttrOrderA29
import Derived.OrdersHeld
import Derived.WalkKit
import Derived.Lib.Hide
import Derived.Test.YtbbedhecfipdjaaGreatDoorProg
import Derived.Deep.RegionHeld3
import Derived.Deep.MidRow
import Derived.ProofKit
import Derived.WalkSpells
import Derived.Below
import Derived.Deep.Draws
import Derived.Laws.Rows
import Derived.ArgAppend
import Derived.Laws.IdiomCopy
import Derived.Maps.AppendAt
import Derived.Deep.RegionLaw
import Derived.OwnWalk
import Derived.Outline
import Derived.Handy
import Derived.LoopTactic
import Derived.RegionTactic
import Derived.ChangeAlike
import Derived.BigRegion
import Derived.Deep.QuietTactic
import Derived.BigQuiet
import Derived.Deep.DeepMust
import Derived.Deep.CutRange
import Derived.Deep.DeepCutAuto
import Derived.Deep.LoopGhost
import Derived.StillTailTactics
import Derived.Laws.AppendOwnNone
import Derived.Lib.AppendZeros
import Derived.Laws.CopyOwn
import Derived.Laws.BytesArg
import Derived.Shelf.Abstract
import Derived.Laws.StructEq
import Derived.Lib.IndexMore
import Derived.Lib.Join
import Derived.Shelf.Strings.Builder1
import Derived.Shelf.Strings.Builder2
import Derived.Shelf.Strings.OnBuilder
import Derived.Shelf.Small.Strs
import Derived.Shelf.Strings.BuilderF
import Derived.Shelf.Strconv.Atoi
import Derived.Shelf.Strconv.Itoa0
import Derived.Shelf.Strconv.Itoa1
import Derived.Shelf.LaysM
import Derived.Shelf.Strconv.Itoa2
import Derived.Shelf.Strconv.Itoa3
import Derived.Shelf.Strconv.AtoiErrFast
import Derived.Shelf.Strconv.ParseIntEmpty
import Derived.Shelf.Strconv.AtoiFail
import Derived.Shelf.Strconv.Clone
import Derived.Shelf.Strconv.SyntaxError
import Derived.Shelf.LaysC
import Derived.Shelf.Strconv.ToError
import Derived.Shelf.Strconv.Lower
import Derived.Shelf.Strconv.ParseUint10
import Derived.Shelf.Strconv.ParseUint10Empty
import Derived.Shelf.Strconv.ParseUint10Any
import Derived.Shelf.Strconv.ParseInt10
import Derived.Shelf.Strconv.AtoiLong
import Derived.Shelf.Strconv.AtoiInnerAll
import Derived.Shelf.Strconv.RangeError
import Derived.Shelf.Strconv.ToErrorRange
import Derived.Shelf.Strconv.AtoiAll
import Derived.Ground.MpProg
import Derived.Shelf.Pu.ParseUintPublic10
import Derived.Shelf.Strings.Search1
import Derived.Shelf.Strings.Search2
import Derived.Shelf.Strings.Search3
import Derived.Shelf.Strings.Cut
import Derived.Shelf.Strings.Count
import Derived.Shelf.Strings.Shaped
import Derived.Shelf.Strings.Prefix
import Derived.Shelf.Strings.Split
import Derived.Shelf.Unicode.DecodeSlow
import Derived.Shelf.Slices.Equal
import Derived.Lib.SmallJoins
import Derived.Lib.AppendIntMem
import Derived.Deep.Slices
import Derived.RangeFuncNested
import Derived.Deep.CutBlock
import Derived.Great.BuildSlice
import Derived.RangeFuncBound
import Derived.RangeFuncCalls
import Derived.RangeFuncLeaves
import Derived.OwnWalkIn
import Derived.TacticsInMore
import Derived.LoopNIn
import Derived.LoopIn
namespace Go.Proofs.YtbbedhecfipdjaaGreatDoor
open Go.RowKit
set_option linter.unusedVariables false
set_option linter.unusedSimpArgs false
theorem dirW_known (d : Int) : knownN.contains (dirW d) = true := by
 unfold dirW
 split
 · decide
 · split
   · decide
   · split <;> decide
theorem known_bs {n : Tx} {v : ByteArray} (h : knownN.contains n = true) : known ⟨bs n, v⟩ = true := by
 unfold known
 rw [tx_bs]
 exact h
theorem attrsC_known (c : CodecS) : ∀ a ∈ attrsC c, known a = true := by
 intro a ha
 unfold attrsC formatA at ha
 rw [List.mem_cons, List.mem_append] at ha
 rcases ha with rfl | ha | ha
 · exact known_bs (by decide)
 · split at ha
   · cases ha
   · rw [List.mem_singleton] at ha
     subst ha
     exact known_bs (by decide)
 · obtain ⟨f, _, rfl⟩ := List.mem_map.1 ha
   exact known_bs (by decide)
theorem attrsM_known (m : MediaS) : (attrsM m).filter known = attrsM m := by
 rw [List.filter_eq_self]
 intro a ha
 unfold attrsM attrsR at ha
 simp only [List.mem_cons, List.mem_append] at ha
 rcases ha with rfl | rfl | ha | ha | (ha | ha) | ha | ha | ha
 · exact known_bs (by decide)
 · exact known_bs (dirW_known _)
 · obtain ⟨c, _, hc⟩ := List.mem_flatMap.1 ha
   exact attrsC_known c a hc
 · obtain ⟨x, _, rfl⟩ := List.mem_map.1 ha
   exact known_bs (by decide)
 · obtain ⟨x, _, rfl⟩ := List.mem_map.1 ha
   exact known_bs (by decide)
 · split at ha
   · cases ha
   · rw [List.mem_singleton] at ha
     subst ha
     exact known_bs (by decide)
 · obtain ⟨x, _, rfl⟩ := List.mem_map.1 ha
   exact known_bs (by decide)
 · obtain ⟨x, _, rfl⟩ := List.mem_map.1 ha
   exact known_bs (by decide)
 · split at ha
   · rw [List.mem_singleton] at ha
     subst ha
     exact known_bs (by decide)
   · cases ha
theorem isM_part {m : MediaS} (h : mayM m = true) : IsM (partM m) m := ⟨h, (tx_bs _).symm, rfl, (attrsM_known m).symm⟩
theorem wpList_appendL {ops : Array Oper} {rest : List Oper} {o : Oper} {a : Act} {w : World} {Q : Exit → Act → World → Prop} {base : Nat} {v : Value} {K L : List AttrS} {ad : Addr} {n c : Nat} (hgd : o.guard = none) (s y : Operand) (ho : o.op = .call { callee := .builtin .append, args := #[s, y], argTypes := #[36, 36] })
 (hs : a.eval s = v) (hown : Own w base 53 2 v (K.map acell)) (hy : a.eval y = .slice (some ad) n c) (hn : L.length = n) (hL : ∀ i x, L[i]? = some x → w.cell? (ad.add (i * 2)) = some (.string x.name) ∧ w.cell? (ad.add (i * 2 + 1)) = some (.string x.value)) (hk : K.length + L.length ≤ 1000000) (hbase : base ≤ w.heap.size)
 (h : ∀ v' w', Own w' base 53 2 v' ((K ++ L).map acell) → w.grownBy w' v.ownBlock → (v'.ownBlock = v.ownBlock ∨ v'.ownBlock = some w.heap.size) → wpList Tryz.prog ops Q rest (a.put o.dst v') w') : wpList Tryz.prog ops Q (o :: rest) a w := by
 obtain ⟨i0, hi0, hz0, hz1, hz2⟩ := info_parts Tryz.infoSAttr
 have hfl : ((L.map acell).flatten).length = n * 2 := by
  rw [flatten_len (sz := 2) (fun r hr => by obtain ⟨x, _, rfl⟩ := List.mem_map.1 hr; rfl), List.length_map, hn]
 obtain ⟨v', w', hrun, h2, h3, _, h5⟩ := run_append_own_at (P := Tryz.prog) w base 36 o.type 53 i0 _ 2 32 Tryz.underlying36 hi0 hz0 hz1 hz2 rfl (by omega) v (K.map acell).length (K.map acell).flatten hown.1 ad n c (L.map acell).flatten hfl
  (fun j u hj => by
    have hjl : j < n * 2 := by rw [← hfl]; exact (List.getElem?_eq_some_iff.1 hj).1
    have hi : j / 2 < L.length := by omega
    have hx := List.getElem?_eq_getElem hi
    have hm : (L.map acell)[j / 2]? = some (acell L[j / 2]) := by rw [List.getElem?_map, hx]; rfl
    have hf := flatten_at (sz := 2) (rs := L.map acell) (fun r hr => by obtain ⟨x, _, rfl⟩ := List.mem_map.1 hr; rfl) hm (Nat.mod_lt j (by omega : 0 < 2))
    rw [show j / 2 * 2 + j % 2 = j by omega] at hf
    rw [hf] at hj
    obtain ⟨c0, c1⟩ := hL (j / 2) _ hx
    have e2 : j = j / 2 * 2 + j % 2 := by omega
    rcases (show j % 2 = 0 ∨ j % 2 = 1 by omega) with h0 | h0
    · rw [h0] at hj
      obtain rfl := Option.some.inj hj
      rw [h0, Nat.add_zero] at e2
      rw [congrArg ad.add e2]
      exact c0
    · rw [h0] at hj
      obtain rfl := Option.some.inj hj
      rw [h0] at e2
      rw [congrArg ad.add e2]
      exact c1)
  (fun u hu => by
    obtain ⟨r, hr, hur⟩ := List.mem_flatten.1 hu
    obtain ⟨x, _, rfl⟩ := List.mem_map.1 hr
    simp [acell] at hur
    rcases hur with rfl | rfl <;> rfl)
  (by unfold maxLen; rw [List.length_map]; omega) (by rw [List.length_map]; omega) hbase
 refine wpList_plain hgd fun _ hK => ?_
 unfold Oper.wp execOp
 simp only [ho, resolve, invoke, builtin, Sem.run_bind, Sem.run_pure, Result.andThen_ok, List.map_toArray, List.map_cons, List.map_nil, hs, hy, hrun]
 refine hK _ _ (h v' w' ⟨?_, fun r hr => by obtain ⟨x, _, rfl⟩ := List.mem_map.1 hr; rfl⟩ h3 h5)
 rw [List.map_append, List.flatten_append, List.length_append, List.length_map, List.length_map, hn]
 rw [List.length_map] at h2
 exact h2
set_option maxHeartbeats 6400000 in
set_option maxRecDepth 100000 in
theorem back_walk (M : Array Value) (m : MediaS) (vC vE vR vS vY : Value) (s1 s2 : ByteArray) (at_ : Int) (w : World) (h : MediaV w w.heap.size M m vC vE vR vS vY) (hz : SizM m) (hs1 : s1.size ≤ 140737488355328) (hs2 : s2.size ≤ 140737488355328) (ha : (Lit.int .i64 at_).wf = true) (hE : EnvR w) (h7 : 7 ≤ w.heap.size) :
 Calls Tryz.prog 5 #[.agg M, .string s1, .string s2, .int .i64 at_] w fun e w' => e = .returned (.bool true) ∧ Below w.heap.size w w' := by
 obtain rfl : M = mcell m vC vE vR vS vY := h.form
 obtain ⟨AC, lC, kC, rfl⟩ : ∃ A l k, vC = .slice A l k := by obtain ⟨A, k, h, -⟩ := Rows.form h.codecs; exact ⟨_, _, _, h⟩
 obtain ⟨AE, lE, kE, rfl⟩ : ∃ A l k, vE = .slice A l k := by obtain ⟨A, k, h, -⟩ := Rows.form h.exts; exact ⟨_, _, _, h⟩
 obtain ⟨AR, lR, kR, rfl⟩ : ∃ A l k, vR = .slice A l k := by obtain ⟨A, k, h, -⟩ := Rows.form h.rids; exact ⟨_, _, _, h⟩
 obtain ⟨AS, lS, kS, rfl⟩ : ∃ A l k, vS = .slice A l k := by obtain ⟨A, k, h, -⟩ := Rows.form h.sources; exact ⟨_, _, _, h⟩
 obtain ⟨AY, lY, kY, rfl⟩ : ∃ A l k, vY = .slice A l k := by obtain ⟨A, k, h, -⟩ := Rows.form h.crypto; exact ⟨_, _, _, h⟩
 have hb0 : Below w.heap.size w (w.alloc (.cells (mcell m (.slice AC lC kC) (.slice AE lE kE) (.slice AR lR kR) (.slice AS lS kS) (.slice AY lY kY)) 28)) := (Below.refl _ w).alloc (Nat.le_refl _) _
 have H0 := Lib.hid (And.intro hb0 (Whole.new w 28 (mcell m (.slice AC lC kC) (.slice AE lE kE) (.slice AR lR kR) (.slice AS lS kS) (.slice AY lY kY))))
 have HU : Hid (∀ W, Below w.heap.size w W → MediaV W W.heap.size (mcell m (.slice AC lC kC) (.slice AE lE kE) (.slice AR lR kR) (.slice AS lS kS) (.slice AY lY kY)) m (.slice AC lC kC) (.slice AE lE kE) (.slice AR lR kR) (.slice AS lS kS) (.slice AY lY kY) ∧ EnvR W ∧ 7 ≤ W.heap.size) := Lib.hid fun W hW => ⟨h.under hW, hE.under hW, Nat.le_trans h7 hW.size⟩
 have HZ := Lib.hid hz
 have HS2 := Lib.hid hs2
 have HAW : Hid (∀ W, Below w.heap.size w W → Calls Tryz.prog 14 #[] W fun e w' => e = .returned (.bool true) ∧ Below W.heap.size W w') := Lib.hid fun W hW => awake_any W (hE.under hW).env (Nat.le_trans h7 hW.size)
 have HWR : Hid (∀ W, Below w.heap.size w W → Calls Tryz.prog 16 #[.agg (mcell m (.slice AC lC kC) (.slice AE lE kE) (.slice AR lR kR) (.slice AS lS kS) (.slice AY lY kY))] W (WriteO 53 W m)) := Lib.hid fun W hW => write_any _ m _ _ _ _ _ W (h.under hW) hz (hE.under hW).env (Nat.le_trans h7 hW.size)
 have HRD : Hid (∀ (W : World) (p : PartS) (vp : Value), Below w.heap.size w W → AttrsV W W.heap.size vp p.attrs → SizR p → Calls Tryz.prog 22 #[.agg #[.string p.line, .string p.conn, vp]] W (ReadO p W)) := Lib.hid fun W p vp hW hv hp => read_any p vp W hv hp (hE.under hW) (Nat.le_trans h7 hW.size)
 have HSA : Hid (∀ (W : World) (uC uE uR uS uY : Value), Below w.heap.size w W → MediaV W W.heap.size (mcell m uC uE uR uS uY) m uC uE uR uS uY → Calls Tryz.prog 24 #[.agg (mcell m uC uE uR uS uY), .agg (mcell m (.slice AC lC kC) (.slice AE lE kE) (.slice AR lR kR) (.slice AS lS kS) (.slice AY lY kY))] W fun e w' => e = .returned (.bool true) ∧ Below W.heap.size W w') := Lib.hid fun W uC uE uR uS uY hW hm => same_yes m uC uE uR uS uY _ _ _ _ _ W hm (h.under hW)
 clear h hz hE h7 hb0 hs1 hs2
 unfold mcell at H0 HWR HSA ⊢
 obtain ⟨N, hN⟩ : ∃ N, w.heap.size = N := ⟨_, rfl⟩
 have HN := Lib.hid hN
 rw [hN] at H0
 clear hN
 go_enter Tryz.func5, Tryz.ntmps5
 go_upto_region 1 with fail
 simp only [HN.out]
 generalize w.alloc (.cells #[.int .i64 m.kind, .int .i64 m.port, .string m.mid, .int .i64 m.dir, .slice AC lC kC, .slice AE lE kE, .slice AR lR kR, .bool m.sending, .slice AS lS kS, .slice AY lY kY, .int .i64 m.sctp] 28) = W0 at *
 have HB0 : Hid (Below w.heap.size w W0) := Lib.hid (by rw [HN.out]; exact H0.out.1)
 go_upto_region 3 with (go_at_call 14; (with_reducible refine (HAW.out _ HB0.out).mono ?_); rintro e w1 ⟨rfl, hb1⟩; have H1 : Hid (Below w.heap.size w w1 ∧ Whole w1 N 28 #[.int .i64 m.kind, .int .i64 m.port, .string m.mid, .int .i64 m.dir, .slice AC lC kC, .slice AE lE kE, .slice AR lR kR, .bool m.sending, .slice AS lS kS, .slice AY lY kY, .int .i64 m.sctp]) := Lib.hid ⟨HB0.out.trans (hb1.mono HB0.out.size), H0.out.2.under hb1⟩; clear hb1; dsimp only)
 have b0 : w1.cell? ⟨N, 0, none⟩ = some (.int .i64 m.kind) := H1.out.2.cell 0
 have b1 : w1.cell? ⟨N, 1, none⟩ = some (.int .i64 m.port) := H1.out.2.cell 1
 have b2 : w1.cell? ⟨N, 2, none⟩ = some (.string m.mid) := H1.out.2.cell 2
 have b3 : w1.cell? ⟨N, 3, none⟩ = some (.int .i64 m.dir) := H1.out.2.cell 3
 have b4 : w1.cell? ⟨N, 4, none⟩ = some (.slice AC lC kC) := H1.out.2.cell 4
 have b5 : w1.cell? ⟨N, 5, none⟩ = some (.slice AE lE kE) := H1.out.2.cell 5
 have b6 : w1.cell? ⟨N, 6, none⟩ = some (.slice AR lR kR) := H1.out.2.cell 6
 have b7 : w1.cell? ⟨N, 7, none⟩ = some (.bool m.sending) := H1.out.2.cell 7
 have b8 : w1.cell? ⟨N, 8, none⟩ = some (.slice AS lS kS) := H1.out.2.cell 8
 have b9 : w1.cell? ⟨N, 9, none⟩ = some (.slice AY lY kY) := H1.out.2.cell 9
 have b10 : w1.cell? ⟨N, 10, none⟩ = some (.int .i64 m.sctp) := H1.out.2.cell 10
 go_upto_region 4 with (go_at_call 16; (with_reducible refine (HWR.out _ H1.out.1).mono ?_); rintro e w2 hw2; obtain ⟨vo, rfl, ho2, hb2⟩ := hw2.part; obtain ⟨Ao, co, hvo, -⟩ := Own.form ho2; rw [List.length_map] at hvo; subst hvo; have H2 := Lib.hid (And.intro ho2 hb2); clear hw2 ho2 hb2; dsimp only)
 clear b0 b1 b2 b3 b4 b5 b6 b7 b8 b9 b10
 by_cases hmm : mayM m = true
 · have hp : partW m = partM m := by unfold partW; rw [if_pos hmm]
   have he : errW m = 0 := by unfold errW; rw [if_pos hmm]
   have hIS := isM_part hmm
   have hSR := sizR_part hmm HZ.out.typed
   have hAT : (partM m).attrs = attrsM m := rfl
   have hfew : (partM m).attrs.length ≤ 64 := attrsM_few hmm
   rw [hp] at H2
   rw [hp, he]
   generalize partM m = p at *
   clear hp he hmm
   obtain ⟨n, hn⟩ : ∃ n, p.attrs.length = n := ⟨_, rfl⟩
   rw [hn] at H2 hfew ⊢
   obtain ⟨a0, r0, ha0⟩ : ∃ a0 r0, p.attrs = a0 :: r0 := ⟨_, _, hAT⟩
   obtain ⟨go, co', hvo, -, -, -, hco, -⟩ := H2.out.1.at_ (i := 0) (r := acell a0) (by rw [ha0]; rfl)
   rw [List.length_map, hn] at hvo hco
   injection hvo with e1 e2 e3
   clear e2
   subst e1 e3
   clear ha0
   have hb3 : Below w2.heap.size w2 (w2.alloc (.cells #[.string p.line, .string p.conn, .slice (some ⟨go, 0, none⟩) n co] 38)) := (Below.refl _ w2).alloc (Nat.le_refl _) _
   have H3 : Hid (Below w1.heap.size w1 (w2.alloc (.cells #[.string p.line, .string p.conn, .slice (some ⟨go, 0, none⟩) n co] 38)) ∧ Whole (w2.alloc (.cells #[.string p.line, .string p.conn, .slice (some ⟨go, 0, none⟩) n co] 38)) w2.heap.size 38 #[.string p.line, .string p.conn, .slice (some ⟨go, 0, none⟩) n co] ∧ Own (w2.alloc (.cells #[.string p.line, .string p.conn, .slice (some ⟨go, 0, none⟩) n co] 38)) w1.heap.size 53 2 (.slice (some ⟨go, 0, none⟩) n co) (p.attrs.map acell)) := Lib.hid
    ⟨below_chain (Nat.le_refl _) H2.out.2 hb3, Whole.new _ _ _, H2.out.1.under hb3⟩
   clear hb3
   have HB12 : Hid (w1.heap.size ≤ w2.heap.size) := Lib.hid H2.out.2.size
   generalize w2.alloc (.cells #[.string p.line, .string p.conn, .slice (some ⟨go, 0, none⟩) n co] 38) = w3 at *
   have HG9 : Hid (w.heap.size ≤ w2.heap.size) := Lib.hid (Nat.le_trans H1.out.1.size HB12.out)
   generalize w2.heap.size = g9 at *
   have HP := Lib.hid (And.intro hIS (And.intro hSR (And.intro hAT (And.intro hfew hn))))
   have HB3 : Hid (Below w.heap.size w w3) := Lib.hid (H1.out.1.trans (H3.out.1.mono H1.out.1.size))
   have HR1 : Hid (Calls Tryz.prog 22 #[.agg #[.string p.line, .string p.conn, .slice (some ⟨go, 0, none⟩) n co]] w3 (ReadO p w3)) := Lib.hid (HRD.out w3 p _ HB3.out (H3.out.2.2.reads (Nat.le_refl _)) hSR)
   clear H2 hIS hSR hAT
   have p0 : w3.cell? ⟨g9, 0, none⟩ = some (.string p.line) := H3.out.2.1.cell 0
   have p1 : w3.cell? ⟨g9, 1, none⟩ = some (.string p.conn) := H3.out.2.1.cell 1
   have p2 : w3.cell? ⟨g9, 2, none⟩ = some (.slice (some ⟨go, 0, none⟩) n co) := H3.out.2.1.cell 2
   go_upto_region 7 with (go_at_call 22; (with_reducible refine HR1.out.mono ?_); rintro e w4 hw4; obtain ⟨xC, xE, xR, xS, xY, xb, xcs, rfl, hb4, xM⟩ := hw4.is HP.out.1 HZ.out.typed; clear hw4; obtain ⟨xAC, xlC, xkC, rfl⟩ : ∃ A l k, xC = .slice A l k := (by obtain ⟨A, k, h, -⟩ := xM.hC.form; exact ⟨_, _, _, h⟩); obtain ⟨xAE, xlE, xkE, rfl⟩ : ∃ A l k, xE = .slice A l k := (by obtain ⟨A, k, h, -⟩ := xM.hE.form; exact ⟨_, _, _, h⟩); obtain ⟨xAR, xlR, xkR, rfl⟩ : ∃ A l k, xR = .slice A l k := (by obtain ⟨A, k, h, -⟩ := xM.hR.form; exact ⟨_, _, _, h⟩); obtain ⟨xAS, xlS, xkS, rfl⟩ : ∃ A l k, xS = .slice A l k := (by obtain ⟨A, k, h, -⟩ := xM.hS.form; exact ⟨_, _, _, h⟩); obtain ⟨xAY, xlY, xkY, rfl⟩ : ∃ A l k, xY = .slice A l k := (by obtain ⟨A, k, h, -⟩ := xM.hY.form; exact ⟨_, _, _, h⟩); unfold mcell; have H4 := Lib.hid (And.intro hb4 xM); clear hb4 xM; dsimp only)
   have hb5 : Below w4.heap.size w4 (w4.alloc (.cells #[.int .i64 m.kind, .int .i64 m.port, .string m.mid, .int .i64 m.dir, .slice xAC xlC xkC, .slice xAE xlE xkE, .slice xAR xlR xkR, .bool m.sending, .slice xAS xlS xkS, .slice xAY xlY xkY, .int .i64 m.sctp] 28)) := (Below.refl _ w4).alloc (Nat.le_refl _) _
   have H5 : Hid (Below w3.heap.size w3 (w4.alloc (.cells #[.int .i64 m.kind, .int .i64 m.port, .string m.mid, .int .i64 m.dir, .slice xAC xlC xkC, .slice xAE xlE xkE, .slice xAR xlR xkR, .bool m.sending, .slice xAS xlS xkS, .slice xAY xlY xkY, .int .i64 m.sctp] 28)) ∧ Whole (w4.alloc (.cells #[.int .i64 m.kind, .int .i64 m.port, .string m.mid, .int .i64 m.dir, .slice xAC xlC xkC, .slice xAE xlE xkE, .slice xAR xlR xkR, .bool m.sending, .slice xAS xlS xkS, .slice xAY xlY xkY, .int .i64 m.sctp] 28)) w4.heap.size 28 #[.int .i64 m.kind, .int .i64 m.port, .string m.mid, .int .i64 m.dir, .slice xAC xlC xkC, .slice xAE xlE xkE, .slice xAR xlR xkR, .bool m.sending, .slice xAS xlS xkS, .slice xAY xlY xkY, .int .i64 m.sctp] ∧ MediaV (w4.alloc (.cells #[.int .i64 m.kind, .int .i64 m.port, .string m.mid, .int .i64 m.dir, .slice xAC xlC xkC, .slice xAE xlE xkE, .slice xAR xlR xkR, .bool m.sending, .slice xAS xlS xkS, .slice xAY xlY xkY, .int .i64 m.sctp] 28)) (w4.alloc (.cells #[.int .i64 m.kind, .int .i64 m.port, .string m.mid, .int .i64 m.dir, .slice xAC xlC xkC, .slice xAE xlE xkE, .slice xAR xlR xkR, .bool m.sending, .slice xAS xlS xkS, .slice xAY xlY xkY, .int .i64 m.sctp] 28)).heap.size #[.int .i64 m.kind, .int .i64 m.port, .string m.mid, .int .i64 m.dir, .slice xAC xlC xkC, .slice xAE xlE xkE, .slice xAR xlR xkR, .bool m.sending, .slice xAS xlS xkS, .slice xAY xlY xkY, .int .i64 m.sctp] m (.slice xAC xlC xkC) (.slice xAE xlE xkE) (.slice xAR xlR xkR) (.slice xAS xlS xkS) (.slice xAY xlY xkY)) := Lib.hid
    ⟨below_chain (Nat.le_refl _) H4.out.1 hb5, Whole.new _ _ _, H4.out.2.media.under hb5⟩
   clear hb5 H4
   generalize w4.alloc (.cells #[.int .i64 m.kind, .int .i64 m.port, .string m.mid, .int .i64 m.dir, .slice xAC xlC xkC, .slice xAE xlE xkE, .slice xAR xlR xkR, .bool m.sending, .slice xAS xlS xkS, .slice xAY xlY xkY, .int .i64 m.sctp] 28) = w5 at *
   generalize w4.heap.size = g11 at *
   have HB5 : Hid (Below w.heap.size w w5) := Lib.hid (HB3.out.trans (H5.out.1.mono HB3.out.size))
   have HM5 : Hid (Whole w5 N 28 #[.int .i64 m.kind, .int .i64 m.port, .string m.mid, .int .i64 m.dir, .slice AC lC kC, .slice AE lE kE, .slice AR lR kR, .bool m.sending, .slice AS lS kS, .slice AY lY kY, .int .i64 m.sctp] ∧ Whole w5 g9 38 #[.string p.line, .string p.conn, .slice (some ⟨go, 0, none⟩) n co]) := Lib.hid ⟨(H1.out.2.under H3.out.1).under H5.out.1, H3.out.2.1.under H5.out.1⟩
   have HC5 : Hid (Calls Tryz.prog 24 #[.agg #[.int .i64 m.kind, .int .i64 m.port, .string m.mid, .int .i64 m.dir, .slice xAC xlC xkC, .slice xAE xlE xkE, .slice xAR xlR xkR, .bool m.sending, .slice xAS xlS xkS, .slice xAY xlY xkY, .int .i64 m.sctp], .agg #[.int .i64 m.kind, .int .i64 m.port, .string m.mid, .int .i64 m.dir, .slice AC lC kC, .slice AE lE kE, .slice AR lR kR, .bool m.sending, .slice AS lS kS, .slice AY lY kY, .int .i64 m.sctp]] w5 fun e w' => e = .returned (.bool true) ∧ Below w5.heap.size w5 w') := Lib.hid (HSA.out w5 _ _ _ _ _ HB5.out H5.out.2.2)
   have z0 : w5.cell? ⟨g11, 0, none⟩ = some (.int .i64 m.kind) := H5.out.2.1.cell 0
   have z1 : w5.cell? ⟨g11, 1, none⟩ = some (.int .i64 m.port) := H5.out.2.1.cell 1
   have z2 : w5.cell? ⟨g11, 2, none⟩ = some (.string m.mid) := H5.out.2.1.cell 2
   have z3 : w5.cell? ⟨g11, 3, none⟩ = some (.int .i64 m.dir) := H5.out.2.1.cell 3
   have z4 : w5.cell? ⟨g11, 4, none⟩ = some (.slice xAC xlC xkC) := H5.out.2.1.cell 4
   have z5 : w5.cell? ⟨g11, 5, none⟩ = some (.slice xAE xlE xkE) := H5.out.2.1.cell 5
   have z6 : w5.cell? ⟨g11, 6, none⟩ = some (.slice xAR xlR xkR) := H5.out.2.1.cell 6
   have z7 : w5.cell? ⟨g11, 7, none⟩ = some (.bool m.sending) := H5.out.2.1.cell 7
   have z8 : w5.cell? ⟨g11, 8, none⟩ = some (.slice xAS xlS xkS) := H5.out.2.1.cell 8
   have z9 : w5.cell? ⟨g11, 9, none⟩ = some (.slice xAY xlY xkY) := H5.out.2.1.cell 9
   have z10 : w5.cell? ⟨g11, 10, none⟩ = some (.int .i64 m.sctp) := H5.out.2.1.cell 10
   have b0 : w5.cell? ⟨N, 0, none⟩ = some (.int .i64 m.kind) := HM5.out.1.cell 0
   have b1 : w5.cell? ⟨N, 1, none⟩ = some (.int .i64 m.port) := HM5.out.1.cell 1
   have b2 : w5.cell? ⟨N, 2, none⟩ = some (.string m.mid) := HM5.out.1.cell 2
   have b3 : w5.cell? ⟨N, 3, none⟩ = some (.int .i64 m.dir) := HM5.out.1.cell 3
   have b4 : w5.cell? ⟨N, 4, none⟩ = some (.slice AC lC kC) := HM5.out.1.cell 4
   have b5 : w5.cell? ⟨N, 5, none⟩ = some (.slice AE lE kE) := HM5.out.1.cell 5
   have b6 : w5.cell? ⟨N, 6, none⟩ = some (.slice AR lR kR) := HM5.out.1.cell 6
   have b7 : w5.cell? ⟨N, 7, none⟩ = some (.bool m.sending) := HM5.out.1.cell 7
   have b8 : w5.cell? ⟨N, 8, none⟩ = some (.slice AS lS kS) := HM5.out.1.cell 8
   have b9 : w5.cell? ⟨N, 9, none⟩ = some (.slice AY lY kY) := HM5.out.1.cell 9
   have b10 : w5.cell? ⟨N, 10, none⟩ = some (.int .i64 m.sctp) := HM5.out.1.cell 10
   have HKN := Lib.hid (fun W => known_any s1 W)
   clear p0 p1 p2 HR1
   cases hk : knownN.contains (tx s1) with
   | true =>
     rw [hk] at HKN
     clear hk
     go_wp2_with (first
      | (go_at_call 24; (with_reducible refine HC5.out.mono ?_); rintro e w6 ⟨rfl, hb6⟩; have H6 : Hid (Below w.heap.size w w6) := Lib.hid (HB5.out.trans (hb6.mono HB5.out.size)); clear hb6; dsimp only)
      | (go_at_call 25; (with_reducible refine (HKN.out _).mono ?_); rintro e w7 ⟨rfl, hb7⟩; have H7 : Hid (Below w.heap.size w w7) := Lib.hid (H6.out.trans (hb7.mono H6.out.size)); clear hb7; dsimp only))
     go_ret
     exact ⟨rfl, H7.out⟩
   | false =>
     rw [hk] at HKN
     have HKF : Hid (∀ v, known ⟨s1, v⟩ = false) := Lib.hid fun v => hk
     clear hk
     go_upto_region 11 with (first
      | (go_at_call 24; (with_reducible refine HC5.out.mono ?_); rintro e w6 ⟨rfl, hb6⟩; have H6 : Hid (Below w5.heap.size w5 w6) := Lib.hid hb6; clear hb6; dsimp only)
      | (go_at_call 25; (with_reducible refine (HKN.out _).mono ?_); rintro e w7 ⟨rfl, hb7⟩; have H7 : Hid (Below w5.heap.size w5 w7) := Lib.hid (below_chain (Nat.le_refl _) H6.out hb7); clear hb7; dsimp only))
     have HP7 : Hid (Whole w7 g9 38 #[.string p.line, .string p.conn, .slice (some ⟨go, 0, none⟩) n co]) := Lib.hid (HM5.out.2.under H7.out)
     have p2 : w7.cell? ⟨g9, 2, none⟩ = some (.slice (some ⟨go, 0, none⟩) n co) := HP7.out.cell 2
     have hni : (n : Int) ≤ 64 := by omega
     clear z0 b0 z1 b1 z2 b2 z3 b3 z4 b4 z5 b5 z6 b6 z7 b7 z8 b8 z9 b9 z10 b10
     go_upto_region 12 with fail
     have hr0 : 0 ≤ (IntKind.u64.wrap at_).tmod ((n : Int) + 1) ∧ (IntKind.u64.wrap at_).tmod ((n : Int) + 1) ≤ n := by
      have h0 : 0 ≤ IntKind.u64.wrap at_ := by
       unfold IntKind.wrap
       simp [IntKind.bits, IntKind.signed]
       omega
      rw [Int.tmod_eq_emod_of_nonneg h0]
      have h1 := Int.emod_nonneg (IntKind.u64.wrap at_) (show ((n : Int) + 1) ≠ 0 by omega)
      have h2 := Int.emod_lt_of_pos (IntKind.u64.wrap at_) (show (0 : Int) < (n : Int) + 1 by omega)
      omega
     obtain ⟨k, hk, hkn⟩ : ∃ k : Nat, wrap64 ((IntKind.u64.wrap at_).tmod ((n : Int) + 1)) = (k : Int) ∧ k ≤ n := by
      generalize (IntKind.u64.wrap at_).tmod ((n : Int) + 1) = r at *
      refine ⟨r.toNat, ?_, by omega⟩
      have : wrap64 r = r := by unfold wrap64; omega
      omega
     clear hr0
     simp only [hk]
     clear hk
     have HKN2 := Lib.hid hkn
     have hk1 : (k : Int) ≤ (n : Int) := by omega
     have hk2 : (k : Int) ≤ (co : Int) := by omega
     have hk3 : (0 : Int) ≤ (k : Int) := by omega
     have hk4 : (n : Int) ≤ (co : Int) := by omega
     have HROW : Hid (∀ W, Below w7.heap.size w7 W → ∀ i x, p.attrs[i]? = some x → W.cell? ((⟨go, 0, none⟩ : Addr).add (i * 2)) = some (.string x.name) ∧ W.cell? ((⟨go, 0, none⟩ : Addr).add (i * 2 + 1)) = some (.string x.value)) := Lib.hid fun W hW i x hx => by
      have ho := (((H3.out.2.2.under H5.out.1).under H7.out).under hW)
      obtain ⟨g', c', e1, -, -, -, -, -, hat, -⟩ := ho.at_ (i := i) (r := acell x) (by rw [List.getElem?_map, hx]; rfl)
      injection e1 with e1 _ _
      obtain rfl : go = g' := by injection e1 with e1; injection e1
      rw [Addr.add_lit, Addr.add_lit, Nat.zero_add, Nat.zero_add]
      exact ⟨(hat 0 (by decide)), (hat 1 (by decide))⟩
     have HE8 : Hid (Own (w7.alloc (.cells #[] 53)) w7.heap.size 53 2 (.slice (some ⟨w7.heap.size, 0, none⟩) 0 0) (([] : List AttrS).map acell) ∧ Below w7.heap.size w7 (w7.alloc (.cells #[] 53)) ∧ Whole (w7.alloc (.cells #[] 53)) g9 38 #[.string p.line, .string p.conn, .slice (some ⟨go, 0, none⟩) n co] ∧ w7.heap.size ≤ (w7.alloc (.cells #[] 53)).heap.size) := Lib.hid
      ⟨⟨⟨rfl, .inr ⟨w7.heap.size, 0, #[], rfl, Nat.le_refl _, Whole.new w7 53 #[], Nat.le_refl _, by unfold maxLen; omega, rfl, rfl⟩⟩, fun r hr => by cases hr⟩, (Below.refl _ w7).alloc (Nat.le_refl _) _, HP7.out.alloc _, by rw [World.size_alloc]; omega⟩
     have p2a : (w7.alloc (.cells #[] 53)).cell? ⟨g9, 2, none⟩ = some (.slice (some ⟨go, 0, none⟩) n co) := HE8.out.2.2.1.cell 2
     go_upto_region 13 with (at_builtin; refine wpList_appendL (K := []) (L := p.attrs.take k) (ad := ⟨go, 0, none⟩) rfl (.tmp 57) (.tmp 61) rfl rfl HE8.out.1 rfl (by rw [List.length_take]; have := HP.out.2.2.2.2; omega) (fun i x hx => HROW.out _ HE8.out.2.1 i x (by rw [List.getElem?_take] at hx; split at hx; exact hx; cases hx)) (by rw [List.length_take]; simp; omega) HE8.out.2.2.2 ?_; intro v8 w8 ho8 hg8 hn8; have H8 : Hid (Own w8 w7.heap.size 53 2 v8 ((p.attrs.take k).map acell) ∧ Below w7.heap.size w7 w8 ∧ Whole w8 g9 38 #[.string p.line, .string p.conn, .slice (some ⟨go, 0, none⟩) n co]) := Lib.hid ⟨by rw [List.nil_append] at ho8; exact ho8, HE8.out.2.1.grown hg8 HE8.out.2.2.2 (fun j hj => (HE8.out.1.lt hj).1), HE8.out.2.2.1.grown hg8 (fun e => (HE8.out.1.apart HE8.out.2.2.1 (by decide)) e.symm)⟩; obtain ⟨A8, l8, k8, hv8⟩ : ∃ A l k, v8 = .slice A l k := (by obtain ⟨A, k, h, -⟩ := ho8.form; exact ⟨_, _, _, h⟩); subst hv8; clear ho8 hg8 hn8)
     have HA9 : Hid (Own (w8.alloc (.cells #[.string s1, .string s2] 53)) w7.heap.size 53 2 (.slice A8 l8 k8) ((p.attrs.take k).map acell) ∧ Whole (w8.alloc (.cells #[.string s1, .string s2] 53)) w8.heap.size 53 #[.string s1, .string s2] ∧ Below w7.heap.size w7 (w8.alloc (.cells #[.string s1, .string s2] 53)) ∧ Whole (w8.alloc (.cells #[.string s1, .string s2] 53)) g9 38 #[.string p.line, .string p.conn, .slice (some ⟨go, 0, none⟩) n co] ∧ w7.heap.size ≤ (w8.alloc (.cells #[.string s1, .string s2] 53)).heap.size) := Lib.hid
      ⟨H8.out.1.alloc _, Whole.new _ _ _, H8.out.2.1.alloc H8.out.2.1.size _, H8.out.2.2.alloc _, by rw [World.size_alloc]; have := H8.out.2.1.size; omega⟩
     clear p2 p2a
     go_upto_region 14 with (at_builtin; refine wpList_appendE (r := [.string s1, .string s2]) rfl (.tmp 63) (.tmp 67) rfl Tryz.underlying36 Tryz.infoSAttr rfl (Nat.zero_lt_succ _) rfl HA9.out.1 rfl HA9.out.2.1 rfl (fun u hu => by simp at hu; rcases hu with rfl | rfl <;> rfl) (by rw [List.length_map, List.length_take]; omega) (by rw [List.length_map, List.length_take]; omega) HA9.out.2.2.2.2 ?_; intro v9 w9 ho9 hg9 hn9; have H9 : Hid (Own w9 w7.heap.size 53 2 v9 ((p.attrs.take k ++ ([⟨s1, s2⟩] : List AttrS)).map acell) ∧ Below w7.heap.size w7 w9 ∧ Whole w9 g9 38 #[.string p.line, .string p.conn, .slice (some ⟨go, 0, none⟩) n co]) := Lib.hid ⟨by rw [List.map_append]; exact ho9, HA9.out.2.2.1.grown hg9 HA9.out.2.2.2.2 (fun j hj => (HA9.out.1.lt hj).1), HA9.out.2.2.2.1.grown hg9 (fun e => (HA9.out.1.apart HA9.out.2.2.2.1 (by decide)) e.symm)⟩; obtain ⟨A9, l9, k9, hv9⟩ : ∃ A l k, v9 = .slice A l k := (by obtain ⟨A, k, h, -⟩ := ho9.form; exact ⟨_, _, _, h⟩); subst hv9; clear ho9 hg9 hn9)
     have q2 : w9.cell? ⟨g9, 2, none⟩ = some (.slice (some ⟨go, 0, none⟩) n co) := H9.out.2.2.cell 2
     by_cases hck : co = k
     · skip
       subst hck
       have HDR : Hid (p.attrs.drop co = []) := Lib.hid (by rw [List.drop_eq_nil_iff]; have := HP.out.2.2.2.2; omega)
       go_upto_region 15 with (at_builtin; refine wpList_appendL (K := p.attrs.take co ++ ([⟨s1, s2⟩] : List AttrS)) (L := ([] : List AttrS)) (ad := ⟨go, 0, none⟩) rfl (.tmp 69) (.tmp 73) rfl rfl H9.out.1 rfl rfl (fun i x hx => by cases hx) (by rw [List.length_append, List.length_take]; simp; omega) H9.out.2.1.size ?_; intro v10 w10 ho10 hg10 hn10; have hx10 : Whole w10 g9 38 #[.string p.line, .string p.conn, .slice (some ⟨go, 0, none⟩) n co] := H9.out.2.2.grown hg10 (fun e => (H9.out.1.apart H9.out.2.2 (by decide)) e.symm); have H10 : Hid (Own w10 w7.heap.size 53 2 v10 (((p.attrs.take co ++ ([⟨s1, s2⟩] : List AttrS)) ++ p.attrs.drop co).map acell) ∧ Below w7.heap.size w7 w10 ∧ Whole w10 g9 38 #[.string p.line, .string p.conn, .slice (some ⟨go, 0, none⟩) n co]) := Lib.hid ⟨by rw [HDR.out]; exact ho10, H9.out.2.1.grown hg10 H9.out.2.1.size (fun j hj => (H9.out.1.lt hj).1), hx10⟩; obtain ⟨A10, l10, k10, hv10, hl10⟩ : ∃ A l kk, v10 = .slice A l kk ∧ (((p.attrs.take co ++ ([⟨s1, s2⟩] : List AttrS)) ++ p.attrs.drop co).length) = l := (by obtain ⟨A, kk, h, -⟩ := H10.out.1.form; rw [List.length_map] at h; exact ⟨_, _, _, h, rfl⟩); subst hv10; have HL10 := Lib.hid hl10; clear hl10; have x10 : w10.cell? ⟨g9, 2, none⟩ = some (.slice (some ⟨go, 0, none⟩) n co) := hx10.cell 2; have y10 := hx10.frz 2; clear ho10 hg10 hn10 hx10)
       obtain ⟨L, hL⟩ : ∃ L, (p.attrs.take co ++ ([⟨s1, s2⟩] : List AttrS)) ++ p.attrs.drop co = L := ⟨_, rfl⟩
       have HLL : Hid (L.filter known = attrsM m ∧ (∀ a ∈ L, a.value.size ≤ 140737488355328) ∧ L.length ≤ 140737488355328) := Lib.hid (by
        have hat := HP.out.2.2.1
        have hf := HP.out.1.2.2.2
        rw [← hL]
        refine ⟨?_, ?_, ?_⟩
        · rw [List.filter_append, List.filter_append, List.filter_cons, if_neg (by rw [HKF.out]; decide), List.filter_nil, List.append_nil, ← List.filter_append, List.take_append_drop]
          exact hf.symm
        · intro a ha
          rw [List.mem_append, List.mem_append, List.mem_singleton] at ha
          rcases ha with (ha | rfl) | ha
          · exact HP.out.2.1.values a (List.mem_of_mem_take ha)
          · exact HS2.out
          · exact HP.out.2.1.values a (List.mem_of_mem_drop ha)
        · simp only [List.length_append, List.length_take, List.length_drop, List.length_singleton]
          have := HP.out.2.2.2.2
          omega)
       rw [hL] at H10 HL10
       clear hL q2
       have H11 : Hid (Own (w10.setCell ⟨g9, 2, none⟩ (.slice A10 l10 k10)) w7.heap.size 53 2 (.slice A10 l10 k10) (L.map acell) ∧ Whole (w10.setCell ⟨g9, 2, none⟩ (.slice A10 l10 k10)) g9 38 #[.string p.line, .string p.conn, .slice A10 l10 k10] ∧ Whole (w10.setCell ⟨g9, 2, none⟩ (.slice A10 l10 k10)) N 28 #[.int .i64 m.kind, .int .i64 m.port, .string m.mid, .int .i64 m.dir, .slice AC lC kC, .slice AE lE kE, .slice AR lR kR, .bool m.sending, .slice AS lS kS, .slice AY lY kY, .int .i64 m.sctp] ∧ Below w.heap.size w (w10.setCell ⟨g9, 2, none⟩ (.slice A10 l10 k10))) := Lib.hid (by
        have hm7 := HM5.out.1.under H7.out
        have hb7 : Below w.heap.size w w7 := HB5.out.trans (H7.out.mono HB5.out.size)
        have hg9 : w.heap.size ≤ g9 := HG9.out
        refine ⟨H10.out.1.far (p := ⟨g9, 2, none⟩) (H10.out.1.apart H10.out.2.2 (by decide)) _, H10.out.2.2.set 2 _, (hm7.under H10.out.2.1).far (p := ⟨g9, 2, none⟩) ((hm7.under H10.out.2.1).ne H10.out.2.2 (by decide)) _, (hb7.trans (H10.out.2.1.mono hb7.size)).setCell (p := ⟨g9, 2, none⟩) hg9 _⟩)
       generalize w10.setCell ⟨g9, 2, none⟩ (.slice A10 l10 k10) = w11 at *
       have HR2 : Hid (Calls Tryz.prog 22 #[.agg #[.string p.line, .string p.conn, .slice A10 l10 k10]] w11 (ReadO ⟨p.line, p.conn, L⟩ w11)) := Lib.hid (HRD.out w11 ⟨p.line, p.conn, L⟩ _ H11.out.2.2.2 (H11.out.1.reads (Nat.le_refl _)) ⟨HP.out.2.1.line, HLL.out.2.1, HLL.out.2.2⟩)
       have HI2 : Hid (IsM ⟨p.line, p.conn, L⟩ m) := Lib.hid ⟨HP.out.1.1, HP.out.1.2.1, HP.out.1.2.2.1, HLL.out.1.symm⟩
       have p0 : w11.cell? ⟨g9, 0, none⟩ = some (.string p.line) := H11.out.2.1.cell 0
       have p1 : w11.cell? ⟨g9, 1, none⟩ = some (.string p.conn) := H11.out.2.1.cell 1
       have p2 : w11.cell? ⟨g9, 2, none⟩ = some (.slice A10 l10 k10) := H11.out.2.1.cell 2
       clear x10 y10
       go_upto_region 16 with (go_at_call 22; (with_reducible refine HR2.out.mono ?_); rintro e w12 hw12; obtain ⟨yC, yE, yR, yS, yY, yb, ycs, rfl, hb12, yM⟩ := hw12.is HI2.out HZ.out.typed; clear hw12; obtain ⟨yAC, ylC, ykC, rfl⟩ : ∃ A l k, yC = .slice A l k := (by obtain ⟨A, k, h, -⟩ := yM.hC.form; exact ⟨_, _, _, h⟩); obtain ⟨yAE, ylE, ykE, rfl⟩ : ∃ A l k, yE = .slice A l k := (by obtain ⟨A, k, h, -⟩ := yM.hE.form; exact ⟨_, _, _, h⟩); obtain ⟨yAR, ylR, ykR, rfl⟩ : ∃ A l k, yR = .slice A l k := (by obtain ⟨A, k, h, -⟩ := yM.hR.form; exact ⟨_, _, _, h⟩); obtain ⟨yAS, ylS, ykS, rfl⟩ : ∃ A l k, yS = .slice A l k := (by obtain ⟨A, k, h, -⟩ := yM.hS.form; exact ⟨_, _, _, h⟩); obtain ⟨yAY, ylY, ykY, rfl⟩ : ∃ A l k, yY = .slice A l k := (by obtain ⟨A, k, h, -⟩ := yM.hY.form; exact ⟨_, _, _, h⟩); unfold mcell; have H12 := Lib.hid (And.intro hb12 yM); clear hb12 yM; dsimp only)
       have hb13 : Below w12.heap.size w12 (w12.alloc (.cells #[.int .i64 m.kind, .int .i64 m.port, .string m.mid, .int .i64 m.dir, .slice yAC ylC ykC, .slice yAE ylE ykE, .slice yAR ylR ykR, .bool m.sending, .slice yAS ylS ykS, .slice yAY ylY ykY, .int .i64 m.sctp] 28)) := (Below.refl _ w12).alloc (Nat.le_refl _) _
       have H13 : Hid (Below w11.heap.size w11 (w12.alloc (.cells #[.int .i64 m.kind, .int .i64 m.port, .string m.mid, .int .i64 m.dir, .slice yAC ylC ykC, .slice yAE ylE ykE, .slice yAR ylR ykR, .bool m.sending, .slice yAS ylS ykS, .slice yAY ylY ykY, .int .i64 m.sctp] 28)) ∧ Whole (w12.alloc (.cells #[.int .i64 m.kind, .int .i64 m.port, .string m.mid, .int .i64 m.dir, .slice yAC ylC ykC, .slice yAE ylE ykE, .slice yAR ylR ykR, .bool m.sending, .slice yAS ylS ykS, .slice yAY ylY ykY, .int .i64 m.sctp] 28)) w12.heap.size 28 #[.int .i64 m.kind, .int .i64 m.port, .string m.mid, .int .i64 m.dir, .slice yAC ylC ykC, .slice yAE ylE ykE, .slice yAR ylR ykR, .bool m.sending, .slice yAS ylS ykS, .slice yAY ylY ykY, .int .i64 m.sctp] ∧ MediaV (w12.alloc (.cells #[.int .i64 m.kind, .int .i64 m.port, .string m.mid, .int .i64 m.dir, .slice yAC ylC ykC, .slice yAE ylE ykE, .slice yAR ylR ykR, .bool m.sending, .slice yAS ylS ykS, .slice yAY ylY ykY, .int .i64 m.sctp] 28)) (w12.alloc (.cells #[.int .i64 m.kind, .int .i64 m.port, .string m.mid, .int .i64 m.dir, .slice yAC ylC ykC, .slice yAE ylE ykE, .slice yAR ylR ykR, .bool m.sending, .slice yAS ylS ykS, .slice yAY ylY ykY, .int .i64 m.sctp] 28)).heap.size #[.int .i64 m.kind, .int .i64 m.port, .string m.mid, .int .i64 m.dir, .slice yAC ylC ykC, .slice yAE ylE ykE, .slice yAR ylR ykR, .bool m.sending, .slice yAS ylS ykS, .slice yAY ylY ykY, .int .i64 m.sctp] m (.slice yAC ylC ykC) (.slice yAE ylE ykE) (.slice yAR ylR ykR) (.slice yAS ylS ykS) (.slice yAY ylY ykY)) := Lib.hid
        ⟨below_chain (Nat.le_refl _) H12.out.1 hb13, Whole.new _ _ _, H12.out.2.media.under hb13⟩
       clear hb13 H12 p0 p1 p2
       generalize w12.alloc (.cells #[.int .i64 m.kind, .int .i64 m.port, .string m.mid, .int .i64 m.dir, .slice yAC ylC ykC, .slice yAE ylE ykE, .slice yAR ylR ykR, .bool m.sending, .slice yAS ylS ykS, .slice yAY ylY ykY, .int .i64 m.sctp] 28) = w13 at *
       generalize w12.heap.size = g14 at *
       have HB13 : Hid (Below w.heap.size w w13) := Lib.hid (H11.out.2.2.2.trans (H13.out.1.mono H11.out.2.2.2.size))
       have HC13 : Hid (Calls Tryz.prog 24 #[.agg #[.int .i64 m.kind, .int .i64 m.port, .string m.mid, .int .i64 m.dir, .slice yAC ylC ykC, .slice yAE ylE ykE, .slice yAR ylR ykR, .bool m.sending, .slice yAS ylS ykS, .slice yAY ylY ykY, .int .i64 m.sctp], .agg #[.int .i64 m.kind, .int .i64 m.port, .string m.mid, .int .i64 m.dir, .slice AC lC kC, .slice AE lE kE, .slice AR lR kR, .bool m.sending, .slice AS lS kS, .slice AY lY kY, .int .i64 m.sctp]] w13 fun e w' => e = .returned (.bool true) ∧ Below w13.heap.size w13 w') := Lib.hid (HSA.out w13 _ _ _ _ _ HB13.out H13.out.2.2)
       have HN13 := Lib.hid (H11.out.2.2.1.under H13.out.1)
       have z0 : w13.cell? ⟨g14, 0, none⟩ = some (.int .i64 m.kind) := H13.out.2.1.cell 0
       have z1 : w13.cell? ⟨g14, 1, none⟩ = some (.int .i64 m.port) := H13.out.2.1.cell 1
       have z2 : w13.cell? ⟨g14, 2, none⟩ = some (.string m.mid) := H13.out.2.1.cell 2
       have z3 : w13.cell? ⟨g14, 3, none⟩ = some (.int .i64 m.dir) := H13.out.2.1.cell 3
       have z4 : w13.cell? ⟨g14, 4, none⟩ = some (.slice yAC ylC ykC) := H13.out.2.1.cell 4
       have z5 : w13.cell? ⟨g14, 5, none⟩ = some (.slice yAE ylE ykE) := H13.out.2.1.cell 5
       have z6 : w13.cell? ⟨g14, 6, none⟩ = some (.slice yAR ylR ykR) := H13.out.2.1.cell 6
       have z7 : w13.cell? ⟨g14, 7, none⟩ = some (.bool m.sending) := H13.out.2.1.cell 7
       have z8 : w13.cell? ⟨g14, 8, none⟩ = some (.slice yAS ylS ykS) := H13.out.2.1.cell 8
       have z9 : w13.cell? ⟨g14, 9, none⟩ = some (.slice yAY ylY ykY) := H13.out.2.1.cell 9
       have z10 : w13.cell? ⟨g14, 10, none⟩ = some (.int .i64 m.sctp) := H13.out.2.1.cell 10
       have b0 : w13.cell? ⟨N, 0, none⟩ = some (.int .i64 m.kind) := HN13.out.cell 0
       have b1 : w13.cell? ⟨N, 1, none⟩ = some (.int .i64 m.port) := HN13.out.cell 1
       have b2 : w13.cell? ⟨N, 2, none⟩ = some (.string m.mid) := HN13.out.cell 2
       have b3 : w13.cell? ⟨N, 3, none⟩ = some (.int .i64 m.dir) := HN13.out.cell 3
       have b4 : w13.cell? ⟨N, 4, none⟩ = some (.slice AC lC kC) := HN13.out.cell 4
       have b5 : w13.cell? ⟨N, 5, none⟩ = some (.slice AE lE kE) := HN13.out.cell 5
       have b6 : w13.cell? ⟨N, 6, none⟩ = some (.slice AR lR kR) := HN13.out.cell 6
       have b7 : w13.cell? ⟨N, 7, none⟩ = some (.bool m.sending) := HN13.out.cell 7
       have b8 : w13.cell? ⟨N, 8, none⟩ = some (.slice AS lS kS) := HN13.out.cell 8
       have b9 : w13.cell? ⟨N, 9, none⟩ = some (.slice AY lY kY) := HN13.out.cell 9
       have b10 : w13.cell? ⟨N, 10, none⟩ = some (.int .i64 m.sctp) := HN13.out.cell 10
       go_wp2_with (go_at_call 24; (with_reducible refine HC13.out.mono ?_); rintro e w14 ⟨rfl, hb14⟩; have H14 : Hid (Below w.heap.size w w14) := Lib.hid (HB13.out.trans (hb14.mono HB13.out.size)); clear hb14; dsimp only)
       go_ret
       exact ⟨rfl, H14.out⟩
     · skip
       have hck1 : (k : Int) ≠ (co : Int) := by omega
       go_upto_region 15 with (at_builtin; refine wpList_appendL (K := p.attrs.take k ++ ([⟨s1, s2⟩] : List AttrS)) (L := (p.attrs.drop k)) (ad := ⟨go, k * 2, none⟩) rfl (.tmp 69) (.tmp 73) rfl rfl H9.out.1 rfl (by rw [List.length_drop]; have := HP.out.2.2.2.2; omega) (fun i x hx => by rw [List.getElem?_drop] at hx; have := HROW.out _ H9.out.2.1 (k + i) x hx; rw [Addr.add_lit, Addr.add_lit, Nat.zero_add, Nat.zero_add] at this; rw [Addr.add_lit, Addr.add_lit, show k * 2 + i * 2 = (k + i) * 2 by omega, show k * 2 + (i * 2 + 1) = (k + i) * 2 + 1 by omega]; exact this) (by rw [List.length_append, List.length_take, List.length_drop]; simp; omega) H9.out.2.1.size ?_; intro v10 w10 ho10 hg10 hn10; have hx10 : Whole w10 g9 38 #[.string p.line, .string p.conn, .slice (some ⟨go, 0, none⟩) n co] := H9.out.2.2.grown hg10 (fun e => (H9.out.1.apart H9.out.2.2 (by decide)) e.symm); have H10 : Hid (Own w10 w7.heap.size 53 2 v10 (((p.attrs.take k ++ ([⟨s1, s2⟩] : List AttrS)) ++ p.attrs.drop k).map acell) ∧ Below w7.heap.size w7 w10 ∧ Whole w10 g9 38 #[.string p.line, .string p.conn, .slice (some ⟨go, 0, none⟩) n co]) := Lib.hid ⟨ho10, H9.out.2.1.grown hg10 H9.out.2.1.size (fun j hj => (H9.out.1.lt hj).1), hx10⟩; obtain ⟨A10, l10, k10, hv10, hl10⟩ : ∃ A l kk, v10 = .slice A l kk ∧ (((p.attrs.take k ++ ([⟨s1, s2⟩] : List AttrS)) ++ p.attrs.drop k).length) = l := (by obtain ⟨A, kk, h, -⟩ := H10.out.1.form; rw [List.length_map] at h; exact ⟨_, _, _, h, rfl⟩); subst hv10; have HL10 := Lib.hid hl10; clear hl10; have x10 : w10.cell? ⟨g9, 2, none⟩ = some (.slice (some ⟨go, 0, none⟩) n co) := hx10.cell 2; have y10 := hx10.frz 2; clear ho10 hg10 hn10 hx10)
       obtain ⟨L, hL⟩ : ∃ L, (p.attrs.take k ++ ([⟨s1, s2⟩] : List AttrS)) ++ p.attrs.drop k = L := ⟨_, rfl⟩
       have HLL : Hid (L.filter known = attrsM m ∧ (∀ a ∈ L, a.value.size ≤ 140737488355328) ∧ L.length ≤ 140737488355328) := Lib.hid (by
        have hat := HP.out.2.2.1
        have hf := HP.out.1.2.2.2
        rw [← hL]
        refine ⟨?_, ?_, ?_⟩
        · rw [List.filter_append, List.filter_append, List.filter_cons, if_neg (by rw [HKF.out]; decide), List.filter_nil, List.append_nil, ← List.filter_append, List.take_append_drop]
          exact hf.symm
        · intro a ha
          rw [List.mem_append, List.mem_append, List.mem_singleton] at ha
          rcases ha with (ha | rfl) | ha
          · exact HP.out.2.1.values a (List.mem_of_mem_take ha)
          · exact HS2.out
          · exact HP.out.2.1.values a (List.mem_of_mem_drop ha)
        · simp only [List.length_append, List.length_take, List.length_drop, List.length_singleton]
          have := HP.out.2.2.2.2
          omega)
       rw [hL] at H10 HL10
       clear hL q2
       have H11 : Hid (Own (w10.setCell ⟨g9, 2, none⟩ (.slice A10 l10 k10)) w7.heap.size 53 2 (.slice A10 l10 k10) (L.map acell) ∧ Whole (w10.setCell ⟨g9, 2, none⟩ (.slice A10 l10 k10)) g9 38 #[.string p.line, .string p.conn, .slice A10 l10 k10] ∧ Whole (w10.setCell ⟨g9, 2, none⟩ (.slice A10 l10 k10)) N 28 #[.int .i64 m.kind, .int .i64 m.port, .string m.mid, .int .i64 m.dir, .slice AC lC kC, .slice AE lE kE, .slice AR lR kR, .bool m.sending, .slice AS lS kS, .slice AY lY kY, .int .i64 m.sctp] ∧ Below w.heap.size w (w10.setCell ⟨g9, 2, none⟩ (.slice A10 l10 k10))) := Lib.hid (by
        have hm7 := HM5.out.1.under H7.out
        have hb7 : Below w.heap.size w w7 := HB5.out.trans (H7.out.mono HB5.out.size)
        have hg9 : w.heap.size ≤ g9 := HG9.out
        refine ⟨H10.out.1.far (p := ⟨g9, 2, none⟩) (H10.out.1.apart H10.out.2.2 (by decide)) _, H10.out.2.2.set 2 _, (hm7.under H10.out.2.1).far (p := ⟨g9, 2, none⟩) ((hm7.under H10.out.2.1).ne H10.out.2.2 (by decide)) _, (hb7.trans (H10.out.2.1.mono hb7.size)).setCell (p := ⟨g9, 2, none⟩) hg9 _⟩)
       generalize w10.setCell ⟨g9, 2, none⟩ (.slice A10 l10 k10) = w11 at *
       have HR2 : Hid (Calls Tryz.prog 22 #[.agg #[.string p.line, .string p.conn, .slice A10 l10 k10]] w11 (ReadO ⟨p.line, p.conn, L⟩ w11)) := Lib.hid (HRD.out w11 ⟨p.line, p.conn, L⟩ _ H11.out.2.2.2 (H11.out.1.reads (Nat.le_refl _)) ⟨HP.out.2.1.line, HLL.out.2.1, HLL.out.2.2⟩)
       have HI2 : Hid (IsM ⟨p.line, p.conn, L⟩ m) := Lib.hid ⟨HP.out.1.1, HP.out.1.2.1, HP.out.1.2.2.1, HLL.out.1.symm⟩
       have p0 : w11.cell? ⟨g9, 0, none⟩ = some (.string p.line) := H11.out.2.1.cell 0
       have p1 : w11.cell? ⟨g9, 1, none⟩ = some (.string p.conn) := H11.out.2.1.cell 1
       have p2 : w11.cell? ⟨g9, 2, none⟩ = some (.slice A10 l10 k10) := H11.out.2.1.cell 2
       clear x10 y10
       go_upto_region 16 with (go_at_call 22; (with_reducible refine HR2.out.mono ?_); rintro e w12 hw12; obtain ⟨yC, yE, yR, yS, yY, yb, ycs, rfl, hb12, yM⟩ := hw12.is HI2.out HZ.out.typed; clear hw12; obtain ⟨yAC, ylC, ykC, rfl⟩ : ∃ A l k, yC = .slice A l k := (by obtain ⟨A, k, h, -⟩ := yM.hC.form; exact ⟨_, _, _, h⟩); obtain ⟨yAE, ylE, ykE, rfl⟩ : ∃ A l k, yE = .slice A l k := (by obtain ⟨A, k, h, -⟩ := yM.hE.form; exact ⟨_, _, _, h⟩); obtain ⟨yAR, ylR, ykR, rfl⟩ : ∃ A l k, yR = .slice A l k := (by obtain ⟨A, k, h, -⟩ := yM.hR.form; exact ⟨_, _, _, h⟩); obtain ⟨yAS, ylS, ykS, rfl⟩ : ∃ A l k, yS = .slice A l k := (by obtain ⟨A, k, h, -⟩ := yM.hS.form; exact ⟨_, _, _, h⟩); obtain ⟨yAY, ylY, ykY, rfl⟩ : ∃ A l k, yY = .slice A l k := (by obtain ⟨A, k, h, -⟩ := yM.hY.form; exact ⟨_, _, _, h⟩); unfold mcell; have H12 := Lib.hid (And.intro hb12 yM); clear hb12 yM; dsimp only)
       have hb13 : Below w12.heap.size w12 (w12.alloc (.cells #[.int .i64 m.kind, .int .i64 m.port, .string m.mid, .int .i64 m.dir, .slice yAC ylC ykC, .slice yAE ylE ykE, .slice yAR ylR ykR, .bool m.sending, .slice yAS ylS ykS, .slice yAY ylY ykY, .int .i64 m.sctp] 28)) := (Below.refl _ w12).alloc (Nat.le_refl _) _
       have H13 : Hid (Below w11.heap.size w11 (w12.alloc (.cells #[.int .i64 m.kind, .int .i64 m.port, .string m.mid, .int .i64 m.dir, .slice yAC ylC ykC, .slice yAE ylE ykE, .slice yAR ylR ykR, .bool m.sending, .slice yAS ylS ykS, .slice yAY ylY ykY, .int .i64 m.sctp] 28)) ∧ Whole (w12.alloc (.cells #[.int .i64 m.kind, .int .i64 m.port, .string m.mid, .int .i64 m.dir, .slice yAC ylC ykC, .slice yAE ylE ykE, .slice yAR ylR ykR, .bool m.sending, .slice yAS ylS ykS, .slice yAY ylY ykY, .int .i64 m.sctp] 28)) w12.heap.size 28 #[.int .i64 m.kind, .int .i64 m.port, .string m.mid, .int .i64 m.dir, .slice yAC ylC ykC, .slice yAE ylE ykE, .slice yAR ylR ykR, .bool m.sending, .slice yAS ylS ykS, .slice yAY ylY ykY, .int .i64 m.sctp] ∧ MediaV (w12.alloc (.cells #[.int .i64 m.kind, .int .i64 m.port, .string m.mid, .int .i64 m.dir, .slice yAC ylC ykC, .slice yAE ylE ykE, .slice yAR ylR ykR, .bool m.sending, .slice yAS ylS ykS, .slice yAY ylY ykY, .int .i64 m.sctp] 28)) (w12.alloc (.cells #[.int .i64 m.kind, .int .i64 m.port, .string m.mid, .int .i64 m.dir, .slice yAC ylC ykC, .slice yAE ylE ykE, .slice yAR ylR ykR, .bool m.sending, .slice yAS ylS ykS, .slice yAY ylY ykY, .int .i64 m.sctp] 28)).heap.size #[.int .i64 m.kind, .int .i64 m.port, .string m.mid, .int .i64 m.dir, .slice yAC ylC ykC, .slice yAE ylE ykE, .slice yAR ylR ykR, .bool m.sending, .slice yAS ylS ykS, .slice yAY ylY ykY, .int .i64 m.sctp] m (.slice yAC ylC ykC) (.slice yAE ylE ykE) (.slice yAR ylR ykR) (.slice yAS ylS ykS) (.slice yAY ylY ykY)) := Lib.hid
        ⟨below_chain (Nat.le_refl _) H12.out.1 hb13, Whole.new _ _ _, H12.out.2.media.under hb13⟩
       clear hb13 H12 p0 p1 p2
       generalize w12.alloc (.cells #[.int .i64 m.kind, .int .i64 m.port, .string m.mid, .int .i64 m.dir, .slice yAC ylC ykC, .slice yAE ylE ykE, .slice yAR ylR ykR, .bool m.sending, .slice yAS ylS ykS, .slice yAY ylY ykY, .int .i64 m.sctp] 28) = w13 at *
       generalize w12.heap.size = g14 at *
       have HB13 : Hid (Below w.heap.size w w13) := Lib.hid (H11.out.2.2.2.trans (H13.out.1.mono H11.out.2.2.2.size))
       have HC13 : Hid (Calls Tryz.prog 24 #[.agg #[.int .i64 m.kind, .int .i64 m.port, .string m.mid, .int .i64 m.dir, .slice yAC ylC ykC, .slice yAE ylE ykE, .slice yAR ylR ykR, .bool m.sending, .slice yAS ylS ykS, .slice yAY ylY ykY, .int .i64 m.sctp], .agg #[.int .i64 m.kind, .int .i64 m.port, .string m.mid, .int .i64 m.dir, .slice AC lC kC, .slice AE lE kE, .slice AR lR kR, .bool m.sending, .slice AS lS kS, .slice AY lY kY, .int .i64 m.sctp]] w13 fun e w' => e = .returned (.bool true) ∧ Below w13.heap.size w13 w') := Lib.hid (HSA.out w13 _ _ _ _ _ HB13.out H13.out.2.2)
       have HN13 := Lib.hid (H11.out.2.2.1.under H13.out.1)
       have z0 : w13.cell? ⟨g14, 0, none⟩ = some (.int .i64 m.kind) := H13.out.2.1.cell 0
       have z1 : w13.cell? ⟨g14, 1, none⟩ = some (.int .i64 m.port) := H13.out.2.1.cell 1
       have z2 : w13.cell? ⟨g14, 2, none⟩ = some (.string m.mid) := H13.out.2.1.cell 2
       have z3 : w13.cell? ⟨g14, 3, none⟩ = some (.int .i64 m.dir) := H13.out.2.1.cell 3
       have z4 : w13.cell? ⟨g14, 4, none⟩ = some (.slice yAC ylC ykC) := H13.out.2.1.cell 4
       have z5 : w13.cell? ⟨g14, 5, none⟩ = some (.slice yAE ylE ykE) := H13.out.2.1.cell 5
       have z6 : w13.cell? ⟨g14, 6, none⟩ = some (.slice yAR ylR ykR) := H13.out.2.1.cell 6
       have z7 : w13.cell? ⟨g14, 7, none⟩ = some (.bool m.sending) := H13.out.2.1.cell 7
       have z8 : w13.cell? ⟨g14, 8, none⟩ = some (.slice yAS ylS ykS) := H13.out.2.1.cell 8
       have z9 : w13.cell? ⟨g14, 9, none⟩ = some (.slice yAY ylY ykY) := H13.out.2.1.cell 9
       have z10 : w13.cell? ⟨g14, 10, none⟩ = some (.int .i64 m.sctp) := H13.out.2.1.cell 10
       have b0 : w13.cell? ⟨N, 0, none⟩ = some (.int .i64 m.kind) := HN13.out.cell 0
       have b1 : w13.cell? ⟨N, 1, none⟩ = some (.int .i64 m.port) := HN13.out.cell 1
       have b2 : w13.cell? ⟨N, 2, none⟩ = some (.string m.mid) := HN13.out.cell 2
       have b3 : w13.cell? ⟨N, 3, none⟩ = some (.int .i64 m.dir) := HN13.out.cell 3
       have b4 : w13.cell? ⟨N, 4, none⟩ = some (.slice AC lC kC) := HN13.out.cell 4
       have b5 : w13.cell? ⟨N, 5, none⟩ = some (.slice AE lE kE) := HN13.out.cell 5
       have b6 : w13.cell? ⟨N, 6, none⟩ = some (.slice AR lR kR) := HN13.out.cell 6
       have b7 : w13.cell? ⟨N, 7, none⟩ = some (.bool m.sending) := HN13.out.cell 7
       have b8 : w13.cell? ⟨N, 8, none⟩ = some (.slice AS lS kS) := HN13.out.cell 8
       have b9 : w13.cell? ⟨N, 9, none⟩ = some (.slice AY lY kY) := HN13.out.cell 9
       have b10 : w13.cell? ⟨N, 10, none⟩ = some (.int .i64 m.sctp) := HN13.out.cell 10
       go_wp2_with (go_at_call 24; (with_reducible refine HC13.out.mono ?_); rintro e w14 ⟨rfl, hb14⟩; have H14 : Hid (Below w.heap.size w w14) := Lib.hid (HB13.out.trans (hb14.mono HB13.out.size)); clear hb14; dsimp only)
       go_ret
       exact ⟨rfl, H14.out⟩
 · have hp : partW m = ⟨bs [], bs [], []⟩ := by unfold partW; rw [if_neg hmm]
   have he : errW m = 1 := by unfold errW; rw [if_neg hmm]
   rw [hp] at H2
   rw [hp, he]
   simp only [List.length_nil] at H2 ⊢
   have hb3 : Below w2.heap.size w2 (w2.alloc (.cells #[.string (bs []), .string (bs []), .slice Ao 0 co] 38)) := (Below.refl _ w2).alloc (Nat.le_refl _) _
   have H3 : Hid (Below w.heap.size w (w2.alloc (.cells #[.string (bs []), .string (bs []), .slice Ao 0 co] 38)) ∧ Whole (w2.alloc (.cells #[.string (bs []), .string (bs []), .slice Ao 0 co] 38)) w2.heap.size 38 #[.string (bs []), .string (bs []), .slice Ao 0 co]) := Lib.hid
    ⟨H1.out.1.trans ((below_chain (Nat.le_refl _) H2.out.2 hb3).mono H1.out.1.size), Whole.new _ _ _⟩
   clear hb3 hp he hmm
   generalize w2.alloc (.cells #[.string (bs []), .string (bs []), .slice Ao 0 co] 38) = w3 at *
   generalize w2.heap.size = g9 at *
   have p2 : w3.cell? ⟨g9, 2, none⟩ = some (.slice Ao 0 co) := H3.out.2.cell 2
   go_wp2
   go_ret
   exact ⟨rfl, H3.out.1⟩
end Go.Proofs.YtbbedhecfipdjaaGreatDoor
