import Derived.Test.YtbbedhecfipdjaaGreatDoorPkDescPrintsA00
import Derived.Test.YtbbedhecfipdjaaGreatDoorPkDescPrintsA01
import Derived.Test.YtbbedhecfipdjaaGreatDoorPkDescPrintsA02
import Derived.Test.YtbbedhecfipdjaaGreatDoorPkDescPrintsA03
import Derived.Test.YtbbedhecfipdjaaGreatDoorPkDescPrintsA04
import Derived.Test.YtbbedhecfipdjaaGreatDoorPkDescPrintsA05
import Derived.Test.YtbbedhecfipdjaaGreatDoorPkDescPrintsA06
import Derived.Test.YtbbedhecfipdjaaGreatDoorPkDescPrintsA07
import Derived.Test.YtbbedhecfipdjaaGreatDoorPkDescPrintsA08
import Derived.Test.YtbbedhecfipdjaaGreatDoorPkDescPrintsA09
import Derived.Test.YtbbedhecfipdjaaGreatDoorPkDescPrintsA10
import Derived.Test.YtbbedhecfipdjaaGreatDoorPkDescPrintsA11
import Derived.Test.YtbbedhecfipdjaaGreatDoorPkDescPrintsA12
import Derived.Test.YtbbedhecfipdjaaGreatDoorPkDescPrintsA13
import Derived.Test.YtbbedhecfipdjaaGreatDoorPkDescPrintsA14
import Derived.Test.YtbbedhecfipdjaaGreatDoorPkDescPrintsA15
import Derived.Test.YtbbedhecfipdjaaGreatDoorPkDescPrintsA16
import Derived.Test.YtbbedhecfipdjaaGreatDoorPkDescPrintsA17
import Derived.Test.YtbbedhecfipdjaaGreatDoorPkDescPrintsA18
import Derived.Test.YtbbedhecfipdjaaGreatDoorPkDescPrintsA19
import Derived.Test.YtbbedhecfipdjaaGreatDoorPkDescPrintsA20
import Derived.Test.YtbbedhecfipdjaaGreatDoorPkDescPrintsA21
import Derived.Test.YtbbedhecfipdjaaGreatDoorPkDescPrintsA22
import Derived.Test.YtbbedhecfipdjaaGreatDoorPkDescPrintsA23
import Derived.Test.YtbbedhecfipdjaaGreatDoorPkDescPrintsA24
import Derived.Test.YtbbedhecfipdjaaGreatDoorPkDescPrintsA25
import Derived.Test.YtbbedhecfipdjaaGreatDoorPkDescPrintsA26
import Derived.OrdersHeld
import Derived.WalkKit
import Derived.Lib.Hide
import Derived.Test.YtbbedhecfipdjaaGreatDoorProg
import Derived.Deep.RegionHeld3
import Derived.Deep.MidRow
import Derived.ProofKit
import Derived.WalkSpells
import Derived.Below
import Derived.Deep.Draws
import Derived.Laws.Rows
import Derived.ArgAppend
import Derived.Laws.IdiomCopy
import Derived.Maps.AppendAt
import Derived.Deep.RegionLaw
import Derived.OwnWalk
import Derived.Outline
import Derived.Handy
import Derived.LoopTactic
import Derived.RegionTactic
import Derived.ChangeAlike
import Derived.BigRegion
import Derived.Deep.QuietTactic
import Derived.BigQuiet
import Derived.Deep.DeepMust
import Derived.Deep.CutRange
import Derived.Deep.DeepCutAuto
import Derived.Deep.LoopGhost
import Derived.StillTailTactics
import Derived.Laws.AppendOwnNone
import Derived.Lib.AppendZeros
import Derived.Laws.CopyOwn
import Derived.Laws.BytesArg
import Derived.Shelf.Abstract
import Derived.Laws.StructEq
import Derived.Lib.IndexMore
import Derived.Lib.Join
import Derived.Shelf.Strings.Builder1
import Derived.Shelf.Strings.Builder2
import Derived.Shelf.Strings.OnBuilder
import Derived.Shelf.Small.Strs
import Derived.Shelf.Strings.BuilderF
import Derived.Shelf.Strconv.Atoi
import Derived.Shelf.Strconv.Itoa0
import Derived.Shelf.Strconv.Itoa1
import Derived.Shelf.LaysM
import Derived.Shelf.Strconv.Itoa2
import Derived.Shelf.Strconv.Itoa3
import Derived.Shelf.Strconv.AtoiErrFast
import Derived.Shelf.Strconv.ParseIntEmpty
import Derived.Shelf.Strconv.AtoiFail
import Derived.Shelf.Strconv.Clone
import Derived.Shelf.Strconv.SyntaxError
import Derived.Shelf.LaysC
import Derived.Shelf.Strconv.ToError
import Derived.Shelf.Strconv.Lower
import Derived.Shelf.Strconv.ParseUint10
import Derived.Shelf.Strconv.ParseUint10Empty
import Derived.Shelf.Strconv.ParseUint10Any
import Derived.Shelf.Strconv.ParseInt10
import Derived.Shelf.Strconv.AtoiLong
import Derived.Shelf.Strconv.AtoiInnerAll
import Derived.Shelf.Strconv.RangeError
import Derived.Shelf.Strconv.ToErrorRange
import Derived.Shelf.Strconv.AtoiAll
import Derived.Ground.MpProg
import Derived.Shelf.Pu.ParseUintPublic10
import Derived.Shelf.Strings.Search1
import Derived.Shelf.Strings.Search2
import Derived.Shelf.Strings.Search3
import Derived.Shelf.Strings.Cut
import Derived.Shelf.Strings.Count
import Derived.Shelf.Strings.Shaped
import Derived.Shelf.Strings.Prefix
import Derived.Shelf.Strings.Split
import Derived.Shelf.Unicode.DecodeSlow
import Derived.Shelf.Slices.Equal
import Derived.Lib.SmallJoins
import Derived.Lib.AppendIntMem
import Derived.Deep.Slices
import Derived.Lib.SplitLaws
import Derived.Deep.Fields
import Derived.OpenShut
import Derived.ChangeOld
import Derived.ChangeSame
import Derived.SizedLaws
import Derived.HandedShaped
import Derived.WalkMore
import Derived.RangeFuncNested
import Derived.Deep.CutBlock
import Derived.Great.BuildSlice
import Derived.RangeFuncBound
import Derived.RangeFuncCalls
import Derived.RangeFuncLeaves
import Derived.OwnWalkIn
import Derived.TacticsInMore
import Derived.LoopNIn
import Derived.LoopIn
namespace Go.Proofs.YtbbedhecfipdjaaGreatDoor
open Go.RowKit
set_option linter.unusedVariables false
set_option linter.unusedSimpArgs false
section
variable {w : World} {base : Nat} {e : TypeId} {sz : Nat} {v : Value} {ks rs : List (List Value)}
theorem run_appendRows {T : TypeId} {z : Value} {by_ : Nat} (ty : TypeId) (hT : Tryz.prog.underlying T = some (.slice e)) (hi : (Tryz.prog.info? e).map (fun i => (i.zero, i.size, i.bytes)) = some (some z, sz, by_)) (hz : z.cells.size = sz) (hsz : 0 < sz) (hown : Own w base e sz v ks)
 {A : Option Addr} {n c : Nat} (hA : A = none → c = 0) (hnc : n ≤ c) (hn : rs.length = n) (hr : ∀ r ∈ rs, r.length = sz) (hu : ∀ r ∈ rs, ∀ u ∈ r, u.oneCell' = true)
 (hL : ∀ ad, A = some ad → ∀ i r, rs[i]? = some r → ∀ j, j < sz → w.cell? (ad.add (i * sz + j)) = r[j]?) (h63 : (ks.length + n) * by_ ≤ 140737488355328) (h64 : ks.length + n ≤ 140737488355328) (hbase : base ≤ w.heap.size) :
 ∃ v' w', (Builtin.append_ #[T, T] ty #[v, .slice A n c]).run Tryz.prog w = .ok v' w' ∧ Own w' base e sz v' (ks ++ rs) ∧ w.grownBy w' v.ownBlock ∧ (v'.ownBlock = v.ownBlock ∨ v'.ownBlock = some w.heap.size) := by
 obtain ⟨i0, hi0, hz0, hz1, hz2⟩ := info_parts hi
 cases A with
 | none =>
   have hc := hA rfl
   subst hc
   obtain rfl : n = 0 := by omega
   obtain rfl : rs = [] := List.eq_nil_of_length_eq_zero hn
   refine ⟨v, w, run_append_owned_none (P := Tryz.prog) (w := w) base T ty e i0 sz hT hi0 v ks.length ks.flatten hown.1, by rw [List.append_nil]; exact hown, ⟨rfl, rfl, rfl, Nat.le_refl _, fun _ _ _ => rfl⟩, .inl rfl⟩
 | some ad =>
   have hfl : rs.flatten.length = n * sz := by rw [flatten_len hr, hn]
   obtain ⟨v', w', hrun, h2, h3, _, h5⟩ := run_append_own_at (P := Tryz.prog) w base T ty e i0 z sz by_ hT hi0 hz0 hz1 hz2 hz (by omega) v ks.length ks.flatten hown.1 ad n c rs.flatten hfl
    (fun j u hj => by
      have hjl : j < n * sz := by rw [← hfl]; exact (List.getElem?_eq_some_iff.1 hj).1
      have hq : j / sz < rs.length := by rw [hn]; exact Nat.div_lt_of_lt_mul (by rw [Nat.mul_comm]; exact hjl)
      have hx := List.getElem?_eq_getElem hq
      have hm : j % sz < sz := Nat.mod_lt j hsz
      have hf := flatten_at hr hx hm
      have e2 : j / sz * sz + j % sz = j := Nat.div_add_mod' j sz
      rw [e2] at hf
      have := hL ad rfl (j / sz) _ hx (j % sz) hm
      rw [e2] at this
      rw [this, ← hf]
      exact hj)
    (fun u hu2 => by
      obtain ⟨r, hr2, hur⟩ := List.mem_flatten.1 hu2
      exact hu r hr2 u hur) (by unfold maxLen; omega) h63 hbase
   refine ⟨v', w', hrun, ⟨?_, fun q hq => ?_⟩, h3, h5⟩
   · rw [List.flatten_append, List.length_append, hn]
     exact h2
   · rcases List.mem_append.1 hq with hq | hq
     · exact hown.2 q hq
     · exact hr q hq
theorem wp_appendRows {o : Oper} {a : Act} {K : Act → World → Prop} {Q : Exit → Act → World → Prop} {T : TypeId} {z : Value} {by_ : Nat} (s y : Operand) (ho : o.op = .call { callee := .builtin .append, args := #[s, y], argTypes := #[T, T] })
 (hT : Tryz.prog.underlying T = some (.slice e)) (hi : (Tryz.prog.info? e).map (fun i => (i.zero, i.size, i.bytes)) = some (some z, sz, by_)) (hz : z.cells.size = sz) (hsz : 0 < sz) (hs : a.eval s = v) (hown : Own w base e sz v ks)
 {A : Option Addr} {n c : Nat} (hy : a.eval y = .slice A n c) (hA : A = none → c = 0) (hnc : n ≤ c) (hn : rs.length = n) (hr : ∀ r ∈ rs, r.length = sz) (hu : ∀ r ∈ rs, ∀ u ∈ r, u.oneCell' = true)
 (hL : ∀ ad, A = some ad → ∀ i r, rs[i]? = some r → ∀ j, j < sz → w.cell? (ad.add (i * sz + j)) = r[j]?) (h63 : (ks.length + n) * by_ ≤ 140737488355328) (h64 : ks.length + n ≤ 140737488355328) (hbase : base ≤ w.heap.size)
 (h : ∀ v' w', Own w' base e sz v' (ks ++ rs) → w.grownBy w' v.ownBlock → (v'.ownBlock = v.ownBlock ∨ v'.ownBlock = some w.heap.size) → K (a.put o.dst v') w') : o.wp Tryz.prog a w K Q := by
 obtain ⟨v', w', hrun, h2, h3, h4⟩ := run_appendRows o.type hT hi hz hsz hown hA hnc hn hr hu hL h63 h64 hbase
 unfold Oper.wp execOp
 simp only [ho, resolve, invoke, builtin, Sem.run_bind, Sem.run_pure, Result.andThen_ok, List.map_toArray, List.map_cons, List.map_nil, hs, hy, hrun]
 exact h v' w' h2 h3 h4
theorem wpList_appendRows {ops : Array Oper} {rest : List Oper} {o : Oper} {a : Act} {Q : Exit → Act → World → Prop} (hgd : o.guard = none) {T : TypeId} {z : Value} {by_ : Nat} (s y : Operand) (ho : o.op = .call { callee := .builtin .append, args := #[s, y], argTypes := #[T, T] })
 (hT : Tryz.prog.underlying T = some (.slice e)) (hi : (Tryz.prog.info? e).map (fun i => (i.zero, i.size, i.bytes)) = some (some z, sz, by_)) (hz : z.cells.size = sz) (hsz : 0 < sz) (hs : a.eval s = v) (hown : Own w base e sz v ks)
 {A : Option Addr} {n c : Nat} (hy : a.eval y = .slice A n c) (hA : A = none → c = 0) (hnc : n ≤ c) (hn : rs.length = n) (hr : ∀ r ∈ rs, r.length = sz) (hu : ∀ r ∈ rs, ∀ u ∈ r, u.oneCell' = true)
 (hL : ∀ ad, A = some ad → ∀ i r, rs[i]? = some r → ∀ j, j < sz → w.cell? (ad.add (i * sz + j)) = r[j]?) (h63 : (ks.length + n) * by_ ≤ 140737488355328) (h64 : ks.length + n ≤ 140737488355328) (hbase : base ≤ w.heap.size)
 (h : ∀ v' w', Own w' base e sz v' (ks ++ rs) → w.grownBy w' v.ownBlock → (v'.ownBlock = v.ownBlock ∨ v'.ownBlock = some w.heap.size) → wpList Tryz.prog ops Q rest (a.put o.dst v') w') : wpList Tryz.prog ops Q (o :: rest) a w :=
 wpList_plain hgd fun _ hK => wp_appendRows s y ho hT hi hz hsz hs hown hy hA hnc hn hr hu hL h63 h64 hbase fun v' w' h2 h3 h4 => hK _ _ (h v' w' h2 h3 h4)
end
theorem goodM_mid {m : MediaS} (h : goodM m = true) {s : ByteArray} (hs : wordP 1 16 (tx s) = true) : goodM { m with mid := s } = true := by
 unfold goodM goodHead at h ⊢
 simp only [Bool.and_eq_true] at h ⊢
 exact ⟨⟨⟨⟨h.1.1.1.1, hs⟩, h.1.1.2⟩, h.1.2⟩, h.2⟩
theorem nodup_twin {L : List Tx} (h : L.Nodup) {i k : Nat} {a b : Tx} (hi : L[i]? = some a) (hk : L[k]? = some b) : decide (L.set i b).Nodup = decide (i = k) := by
 have hil := (List.getElem?_eq_some_iff.1 hi).1
 have hkl := (List.getElem?_eq_some_iff.1 hk).1
 by_cases e : i = k
 · subst e
   have : a = b := by rw [hi] at hk; exact Option.some.inj hk
   subst this
   have e2 : L.set i a = L := by
    apply List.ext_getElem?
    intro j
    rw [List.getElem?_set]
    split
    · next h2 =>
      subst h2
      exact hi.symm
    · rfl
   rw [e2]
   simp [h]
 · have : ¬ (L.set i b).Nodup := by
    intro hn
    have g1 : (L.set i b)[i]? = some b := by rw [List.getElem?_set_self hil]
    have g2 : (L.set i b)[k]? = some b := by rw [List.getElem?_set_ne e, hk]
    obtain ⟨l1, e1⟩ := List.getElem?_eq_some_iff.1 g1
    obtain ⟨l2, e2⟩ := List.getElem?_eq_some_iff.1 g2
    have hp := List.pairwise_iff_getElem.1 hn
    rcases Nat.lt_or_gt_of_ne e with hlt | hlt
    · exact hp i k l1 l2 hlt (by rw [e1, e2])
    · exact hp k i l2 l1 hlt (by rw [e1, e2])
   simp [this, e]
theorem twin_good {d : DescS} (hg : goodD d = true) {i k : Nat} {a b : MediaS} (hi : d.media[i]? = some a) (hk : d.media[k]? = some b) : goodD { d with bundle := [], media := d.media.set i { a with mid := b.mid } } = decide (i = k) := by
 obtain ⟨h1, h2, h3, h4, h5, h6, h7⟩ := goodD_parts hg
 have hmap : (d.media.set i { a with mid := b.mid }).map midT = (d.media.map midT).set i (midT b) := by rw [List.map_set]; rfl
 have ha := h4 a (List.mem_of_getElem? hi)
 have hb := h4 b (List.mem_of_getElem? hk)
 have hall : (d.media.set i { a with mid := b.mid }).all goodM = true := by
  rw [List.all_eq_true]
  intro x hx
  rcases List.mem_or_eq_of_mem_set hx with hx | rfl
  · exact h4 x hx
  · exact goodM_mid ha (goodM_parts hb).2.1
 have hn := nodup_twin h5 (i := i) (k := k) (a := midT a) (b := midT b) (by rw [List.getElem?_map, hi]; rfl) (by rw [List.getElem?_map, hk]; rfl)
 unfold goodD goodDM goodDB unlike
 show (wordP 4 32 (tx d.name) && wordP 22 32 (tx d.pass) && decide ((d.media.set i { a with mid := b.mid }).length ≤ 8) && ((d.media.set i { a with mid := b.mid }).all goodM && decide ((d.media.set i { a with mid := b.mid }).map midT).Nodup) && (true && decide (([] : List Tx)).Nodup)) = _
 rw [h1, h2, List.length_set, hall, hmap, hn]
 simp [h3]
theorem lost_bad {d : DescS} (hg : goodD d = true) {s : ByteArray} (hs : 17 ≤ s.size) : goodD { d with bundle := d.bundle ++ [s] } = false := by
 rw [Bool.eq_false_iff]
 intro h
 obtain ⟨_, _, _, h4, _, h6, _⟩ := goodD_parts h
 obtain ⟨m, hm, e⟩ := h6 s (by simp)
 have := (wordP_len (goodM_parts (h4 m hm)).2.1).2
 have e2 : (midT m).length = s.size := by rw [e, tx_length]
 unfold midT at e2
 omega
theorem MediasV.rows11 {w : World} {B n c : Nat} {A : Option Addr} {L : List MediaS} (h : MediasV w B (.slice A n c) L) (hn : L.length = n) : ∃ rs : List (List Value), rs.length = n ∧ (∀ r ∈ rs, r.length = 11) ∧ (∀ r ∈ rs, ∀ u ∈ r, u.oneCell' = true) ∧
 (∀ (i : Nat) (r : List Value) (m : MediaS), rs[i]? = some r → L[i]? = some m → ∃ vC vE vR vS vY, MediaV w B r.toArray m vC vE vR vS vY) ∧ ∀ ad, A = some ad → ∀ (i : Nat) (r : List Value), rs[i]? = some r → ∀ j, j < 11 → w.cell? (ad.add (i * 11 + j)) = r[j]? := by
 have hat : ∀ i, i < n → ∃ r : List Value, r.length = 11 ∧ (∀ u ∈ r, u.oneCell' = true) ∧ (∀ m, L[i]? = some m → ∃ vC vE vR vS vY, MediaV w B r.toArray m vC vE vR vS vY) ∧ ∀ ad, A = some ad → ∀ j, j < 11 → w.cell? (ad.add (i * 11 + j)) = r[j]? := fun i hi => by
  have hx := List.getElem?_eq_getElem (l := L) (i := i) (by omega)
  obtain ⟨ad, c', e1, _, _, _, M, vC, vE, vR, vS, vY, hM, hc⟩ := Rows.at_ h hx
  injection e1 with e1 e1n e1c
  refine ⟨M.toList, by rw [Array.length_toList, hM.size], fun u hu => List.all_eq_true.1 hM.one u hu, fun m hm => ?_, fun ad' ha j hj => ?_⟩
  · rw [hx] at hm
    obtain rfl := Option.some.inj hm
    exact ⟨vC, vE, vR, vS, vY, by rw [Array.toArray_toList]; exact hM⟩
  · rw [e1] at ha
    obtain rfl := Option.some.inj ha
    rw [Array.getElem?_toList]
    exact hc j hj
 obtain ⟨rs, hl, hR⟩ := pick hat
 refine ⟨rs, hl, fun r hr => ?_, fun r hr => ?_, fun i r m hi hm => (hR i r hi).2.2.1 m hm, fun ad ha i r hi => (hR i r hi).2.2.2 ad ha⟩
 · obtain ⟨i, hi⟩ := List.getElem?_of_mem hr
   exact (hR i r hi).1
 · obtain ⟨i, hi⟩ := List.getElem?_of_mem hr
   exact (hR i r hi).2.1
theorem own_medias {W w : World} {base B : Nat} {v : Value} {rs : List (List Value)} {L : List MediaS} (h : Own W base 28 11 v rs) (hl : L.length = rs.length) (hv : ∀ (i : Nat) (r : List Value) (m : MediaS), rs[i]? = some r → L[i]? = some m → ∃ vC vE vR vS vY, MediaV w B r.toArray m vC vE vR vS vY) (hb : Below B w W) (hB : B ≤ W.heap.size) : MediasV W W.heap.size v L :=
 h.rows (Nat.le_refl _) hl fun i r x f hr hx hf => by
  obtain ⟨vC, vE, vR, vS, vY, hM⟩ := hv i r x hr hx
  exact ⟨r.toArray, vC, vE, vR, vS, vY, (hM.below hb).more hB, fun j hj => by rw [hf j hj, List.getElem?_toArray]⟩
theorem media_mid {w : World} {B : Nat} {r : List Value} {m : MediaS} {vC vE vR vS vY : Value} (h : MediaV w B r.toArray m vC vE vR vS vY) (s : ByteArray) : MediaV w B (r.set 2 (.string s)).toArray { m with mid := s } vC vE vR vS vY := by
 have hf := h.form
 have e : r = [.int .i64 m.kind, .int .i64 m.port, .string m.mid, .int .i64 m.dir, vC, vE, vR, .bool m.sending, vS, vY, .int .i64 m.sctp] := by
  have := congrArg Array.toList hf
  simpa using this
 refine ⟨?_, h.codecs, h.exts, h.rids, h.sources, h.crypto⟩
 rw [e]
 rfl
theorem Tryz.infoMedia : (Tryz.prog.info? 28).map (fun i => (i.zero, i.size, i.bytes)) = some (some (.agg #[.int .i64 0, .int .i64 0, .string ⟨#[]⟩, .int .i64 0, .slice none 0 0, .slice none 0 0, .slice none 0 0, .bool false, .slice none 0 0, .slice none 0 0, .int .i64 0]), 11, 176) := by kernel_rfl
theorem own_emptyT {b : Nat} (W0 : World) (t : TypeId) (sz : Nat) (hb : b ≤ W0.heap.size) : Own (W0.alloc (.cells #[] t)) b t sz (.slice (some ⟨W0.heap.size, 0, none⟩) 0 0) [] :=
 ⟨⟨by simp, .inr ⟨W0.heap.size, 0, #[], rfl, hb, Whole.new W0 t #[], Nat.le_refl _, by unfold maxLen; omega, by simp, by simp⟩⟩, fun r hr => by cases hr⟩
theorem idx_modM (n : Nat) (i0 : Int) (h1 : 1 ≤ n) (h64 : n ≤ 64) : ∃ i : Nat, IntKind.i64.wrap ((IntKind.u64.wrap i0).tmod (n : Int)) = (i : Int) ∧ i < n := by
 have h0 : 0 ≤ IntKind.u64.wrap i0 := by
  unfold IntKind.wrap
  simp [IntKind.bits, IntKind.signed]
  omega
 rw [Int.tmod_eq_emod_of_nonneg h0]
 have h1 := Int.emod_nonneg (IntKind.u64.wrap i0) (show (n : Int) ≠ 0 by omega)
 have h2 := Int.emod_lt_of_pos (IntKind.u64.wrap i0) (show (0 : Int) < (n : Int) by omega)
 generalize IntKind.u64.wrap i0 % (n : Int) = r at *
 refine ⟨r.toNat, ?_, by omega⟩
 unfold IntKind.wrap
 simp [IntKind.bits, IntKind.signed]
 omega
theorem two_descs (w : World) (c : Array Value) : Below w.heap.size w ((w.alloc (.cells c 62)).alloc (.cells c 62)).drew ∧ Whole ((w.alloc (.cells c 62)).alloc (.cells c 62)).drew w.heap.size 62 c ∧ Whole ((w.alloc (.cells c 62)).alloc (.cells c 62)).drew (w.heap.size + 1) 62 c := by
 have h1 := (Whole.new w 62 c)
 have h2 := (Whole.new (w.alloc (.cells c 62)) 62 c)
 rw [World.size_alloc] at h2
 have b1 := (Below.refl w.heap.size w).alloc (Nat.le_refl _) (.cells c 62)
 have b2 := b1.alloc b1.size (.cells c 62)
 exact ⟨b2.drew, (h1.alloc _).drew, h2.drew⟩
set_option maxHeartbeats 12800000 in
set_option maxRecDepth 100000 in
theorem mids8_walk (D : Array Value) (d : DescS) (vB vM : Value) (i0 k0 : Int) (w : World) (h : DescV w w.heap.size D d vB vM) (hz : SizD d) (hi0 : (Lit.int .i64 i0).wf = true) (hk0 : (Lit.int .i64 k0).wf = true) (hE : Env w) (h7 : 7 ≤ w.heap.size) :
 Calls Tryz.prog 13 #[.agg D, .int .i64 i0, .int .i64 k0] w fun e w' => e = .returned (.bool true) ∧ Below w.heap.size w w' := by
 obtain ⟨AB, cB, hvB, hcB, hmB, hAB⟩ := Rows.form h.bundle
 obtain ⟨AM, cM, hvM, hcM, hmM, hAM⟩ := Rows.form h.media
 obtain rfl := h.form
 obtain ⟨n, hn⟩ : ∃ n, d.bundle.length = n := ⟨_, rfl⟩
 obtain ⟨nM, hnM⟩ : ∃ n, d.media.length = n := ⟨_, rfl⟩
 rw [hn] at hvB hcB
 rw [hnM] at hvM hcM
 subst hvB hvM
 have HMV := Lib.hid h.media
 have HTV := Lib.hid h.bundle
 have HDF := Lib.hid h
 have hb0 : Below w.heap.size w (w.alloc (.cells #[.int .u64 d.id, .int .u64 d.ver, .slice AB n cB, .string d.name, .string d.pass, .slice AM nM cM] 62)) := (Below.refl _ w).alloc (Nat.le_refl _) _
 have H0 := Lib.hid (And.intro hb0 (Whole.new w 62 #[.int .u64 d.id, .int .u64 d.ver, .slice AB n cB, .string d.name, .string d.pass, .slice AM nM cM]))
 have HAW : Hid (∀ W, Below w.heap.size w W → Calls Tryz.prog 27 #[] W fun e w' => e = .returned (.bool true) ∧ Below W.heap.size W w') := Lib.hid fun W hW => awake8_any W (hE.under hW) (Nat.le_trans h7 hW.size)
 have HPR : Hid (∀ (W : World) (D : Array Value) (e : DescS) (vB vM : Value), Below w.heap.size w W → DescV W W.heap.size D e vB vM → SizD e → Calls Tryz.prog 29 #[.agg D] W (PrintDO W e)) := Lib.hid fun W D e vB vM hW hD hs => dePrint_any D e vB vM W hD hs (hE.under hW) (Nat.le_trans h7 hW.size)
 have HRG : Hid (∀ W, Below w.heap.size w W → Calls Tryz.prog 31 #[.agg #[.int .u64 d.id, .int .u64 d.ver, .slice AB n cB, .string d.name, .string d.pass, .slice AM nM cM]] W fun e w' => e = .returned (.bool (goodD d)) ∧ Below W.heap.size W w') := Lib.hid fun W hW => r8Good_any _ d _ _ W (h.under hW) hz
 have HKB : Hid (∀ W W', Below w.heap.size w W → Below W.heap.size W W' → Below w.heap.size w W') := Lib.hid fun W W' h1 h2 => h1.trans (h2.mono h1.size)
 have HZ := Lib.hid hz
 have HNB := Lib.hid hn
 have HNM := Lib.hid hnM
 have HAB := Lib.hid hAB
 have HAM := Lib.hid hAM
 obtain ⟨gd, hgd⟩ : ∃ b, goodD d = b := ⟨_, rfl⟩
 rw [hgd] at HRG
 have HGD := Lib.hid hgd
 obtain ⟨N, hN⟩ : ∃ N, w.heap.size = N := ⟨_, rfl⟩
 have HN := Lib.hid hN
 rw [hN] at H0 HAW HPR HRG HKB HMV HTV HDF
 have hcMi : (nM : Int) ≤ (cM : Int) := by omega
 unfold maxLen at hmM hmB
 clear h hz hE h7 hb0 hn hnM hN hgd hAB hAM hi0 hk0
 go_enter Tryz.func13, Tryz.ntmps13
 go_upto_region 1 with fail
 simp only [HN.out]
 generalize w.alloc (.cells #[.int .u64 d.id, .int .u64 d.ver, .slice AB n cB, .string d.name, .string d.pass, .slice AM nM cM] 62) = w0 at *
 go_upto_region 3 with (go_at_call 27; (with_reducible refine (HAW.out _ H0.out.1).mono ?_); rintro e w1 ⟨rfl, hb1⟩; have H1 : Hid (Below N w w1 ∧ Whole w1 N 62 #[.int .u64 d.id, .int .u64 d.ver, .slice AB n cB, .string d.name, .string d.pass, .slice AM nM cM]) := Lib.hid ⟨HKB.out _ _ H0.out.1 hb1, H0.out.2.under hb1⟩; clear hb1; dsimp only)
 have c5 : w1.cell? ⟨N, 5, none⟩ = some (.slice AM nM cM) := H1.out.2.cell 5
 by_cases h2 : nM < 2
 · have hd : decide ((nM : Int) < 2) = true := by simp; omega
   have hd2 : (nM : Int) < 2 := by omega
   clear h2
   go_wp2
   go_ret
   exact ⟨rfl, by rw [HN.out]; exact H1.out.1⟩
 · have hd : decide ((nM : Int) < 2) = false := by simp; omega
   have hd2 : ¬ (nM : Int) < 2 := by omega
   have HN2 : Hid (2 ≤ nM) := Lib.hid (by omega)
   clear h2
   cases gd with
   | false =>
     go_wp2_with (first
      | ((with_reducible refine wpList_load_allG ?_ 62 (.tmp 3) ?_ H1.out.2 ?_ Tryz.sizeDesc ?_ Tryz.underlying62 ?_ ?_); rfl; (with_reducible rfl); rfl; rfl; rfl)
      | (go_at_call 31; (with_reducible refine (HRG.out _ H1.out.1).mono ?_); rintro e w2 ⟨rfl, hb2⟩; have H2 : Hid (Below N w w2) := Lib.hid (HKB.out _ _ H1.out.1 hb2); clear hb2; dsimp only))
     go_ret
     exact ⟨rfl, by rw [HN.out]; exact H2.out⟩
   | true =>
     have HF8 : Hid (nM ≤ 8 ∧ n ≤ 8) := Lib.hid ⟨by rw [← HNM.out]; exact (goodD_parts HGD.out).2.2.1, by rw [← HNB.out]; exact goodD_few HGD.out⟩
     go_upto_region 6 with (first
      | ((with_reducible refine wpList_load_allG ?_ 62 (.tmp 3) ?_ H1.out.2 ?_ Tryz.sizeDesc ?_ Tryz.underlying62 ?_ ?_); rfl; (with_reducible rfl); rfl; rfl; rfl)
      | (go_at_call 31; (with_reducible refine (HRG.out _ H1.out.1).mono ?_); rintro e w2 ⟨rfl, hb2⟩; have H2 : Hid (Below N w w2 ∧ Whole w2 N 62 #[.int .u64 d.id, .int .u64 d.ver, .slice AB n cB, .string d.name, .string d.pass, .slice AM nM cM]) := Lib.hid ⟨HKB.out _ _ H1.out.1 hb2, H1.out.2.under hb2⟩; clear hb2; dsimp only))
     clear c5 hd hd2 HRG HAW
     have hni : (nM : Int) ≤ 64 := by have := HF8.out.1; omega
     have hn0 : (1 : Int) ≤ (nM : Int) := by have := HN2.out; omega
     have hnz : (nM : Int) ≠ 0 := by omega
     have hn00 : (nM = 0) = False := by simp; omega
     have hwn : IntKind.u64.wrap (nM : Int) = (nM : Int) := by unfold IntKind.wrap; simp [IntKind.bits, IntKind.signed]; omega
     go_cut [1, 2] (fun s1 s2 wc => ∃ i k : Nat, s1 = .int .i64 (i : Int) ∧ s2 = .int .i64 (k : Int) ∧ i < nM ∧ k < nM ∧ Below w2.heap.size w2 wc)
     case first =>
      go_region_held3 (fun _ => True) (trivial) (first | fail)
      obtain ⟨i, hi, hin⟩ := idx_modM nM i0 (by have := HN2.out; omega) (by have := HF8.out.1; omega)
      obtain ⟨k, hk, hkn⟩ := idx_modM nM k0 (by have := HN2.out; omega) (by have := HF8.out.1; omega)
      simp only [hi, hk]
      go_wp2
      go_meet
      exact ⟨i, k, rfl, rfl, hin, hkn, (Below.refl _ w2).drew⟩
     case rest =>
     generalize wc = w3 at *
     obtain ⟨i, k, rfl, rfl, hin, hkn, hb3⟩ := hcut
     have H3 : Hid (Below N w w3 ∧ Whole w3 N 62 #[.int .u64 d.id, .int .u64 d.ver, .slice AB n cB, .string d.name, .string d.pass, .slice AM nM cM]) := Lib.hid ⟨HKB.out _ _ H2.out.1 hb3, H2.out.2.under hb3⟩
     have HIK := Lib.hid (And.intro hin hkn)
     clear hb3 hin hkn hnz hn00 hwn H2 H1
     have q0 : w3.cell? ⟨N, 0, none⟩ = some (.int .u64 d.id) := H3.out.2.cell 0
     have q1 : w3.cell? ⟨N, 1, none⟩ = some (.int .u64 d.ver) := H3.out.2.cell 1
     have q2 : w3.cell? ⟨N, 2, none⟩ = some (.slice AB n cB) := H3.out.2.cell 2
     have q3 : w3.cell? ⟨N, 3, none⟩ = some (.string d.name) := H3.out.2.cell 3
     have q4 : w3.cell? ⟨N, 4, none⟩ = some (.string d.pass) := H3.out.2.cell 4
     have q5 : w3.cell? ⟨N, 5, none⟩ = some (.slice AM nM cM) := H3.out.2.cell 5
     go_upto_region 7 with fail
     go_cut [8, 9] (fun s8 s9 wc => ∃ g1 g2, s8 = .pointer (some ⟨g1, 0, none⟩) ∧ s9 = .pointer (some ⟨g2, 0, none⟩) ∧ Below w3.heap.size w3 wc ∧ w3.heap.size ≤ g1 ∧ w3.heap.size ≤ g2 ∧ g1 ≠ g2 ∧ Whole wc g1 62 #[.int .u64 d.id, .int .u64 d.ver, .slice AB n cB, .string d.name, .string d.pass, .slice AM nM cM] ∧ Whole wc g2 62 #[.int .u64 d.id, .int .u64 d.ver, .slice AB n cB, .string d.name, .string d.pass, .slice AM nM cM])
     case first =>
      go_region_held3 (fun W => W.cell? ⟨N, 0, none⟩ = some (.int .u64 d.id) ∧ W.cell? ⟨N, 1, none⟩ = some (.int .u64 d.ver) ∧ W.cell? ⟨N, 2, none⟩ = some (.slice AB n cB) ∧ W.cell? ⟨N, 3, none⟩ = some (.string d.name) ∧ W.cell? ⟨N, 4, none⟩ = some (.string d.pass) ∧ W.cell? ⟨N, 5, none⟩ = some (.slice AM nM cM)) (refine ⟨?_, ?_, ?_, ?_, ?_, ?_⟩ <;> first | assumption | (simp only [World.cell?_drew]; assumption) | exact Go.Lib.cell?_alloc_some _ (by assumption) | exact Go.Lib.cell?_alloc_some _ (Go.Lib.cell?_alloc_some _ (by assumption))) (first | fail)
      all_goals
       go_wp2
       go_meet
       refine ⟨_, _, rfl, rfl, (two_descs w3 _).1, by omega, by omega, by omega, ?_, ?_⟩ <;> first | exact (two_descs w3 _).2.1 | exact (two_descs w3 _).2.2
     case rest =>
     generalize wc = w4 at *
     obtain ⟨g1, g2, rfl, rfl, hb4, hg1, hg2, h12, hw1, hw2⟩ := hcut
     have H4 : Hid (Below N w w4 ∧ Whole w4 N 62 #[.int .u64 d.id, .int .u64 d.ver, .slice AB n cB, .string d.name, .string d.pass, .slice AM nM cM] ∧ Whole w4 g1 62 #[.int .u64 d.id, .int .u64 d.ver, .slice AB n cB, .string d.name, .string d.pass, .slice AM nM cM] ∧ Whole w4 g2 62 #[.int .u64 d.id, .int .u64 d.ver, .slice AB n cB, .string d.name, .string d.pass, .slice AM nM cM]) := Lib.hid ⟨HKB.out _ _ H3.out.1 hb4, H3.out.2.under hb4, hw1, hw2⟩
     have HG : Hid (N < g1 ∧ N < g2 ∧ g1 ≠ g2) := Lib.hid (by have := H3.out.2.lt; omega)
     clear hb4 hg1 hg2 h12 hw1 hw2 q0 q1 q2 q3 q4 q5 H3
     obtain ⟨ad, c', M0, vC0, vE0, vR0, vS0, vY0, e1, had, -, -⟩ := MediasV.at_ HMV.out (i := 0) (by rw [HNM.out]; have := HN2.out; omega)
     injection e1 with e1 e1n e1c
     clear e1n e1c
     subst e1
     obtain ⟨rs, hrl, hr11, hr1, hrv, hrc⟩ := MediasV.rows11 HMV.out HNM.out
     have HRS := Lib.hid (And.intro hrl (And.intro hr11 (And.intro hr1 hrv)))
     have HRC : Hid (∀ W, Below N w W → ∀ (i : Nat) (r : List Value), rs[i]? = some r → ∀ j, j < 11 → W.cell? (ad.add (i * 11 + j)) = r[j]?) := Lib.hid fun W hW i r hi j hj => (hW.cell (p := ad.add (i * 11 + j)) (by rw [add_block]; exact had)).trans (hrc ad rfl i r hi j hj)
     obtain ⟨ma, hma⟩ : ∃ m, d.media[i]? = some m := ⟨_, List.getElem?_eq_getElem (by rw [HNM.out]; exact HIK.out.1)⟩
     obtain ⟨mb, hmb⟩ : ∃ m, d.media[k]? = some m := ⟨_, List.getElem?_eq_getElem (by rw [HNM.out]; exact HIK.out.2)⟩
     obtain ⟨ri, hri⟩ : ∃ r, rs[i]? = some r := ⟨_, List.getElem?_eq_getElem (by rw [hrl]; exact HIK.out.1)⟩
     obtain ⟨rk, hrk⟩ : ∃ r, rs[k]? = some r := ⟨_, List.getElem?_eq_getElem (by rw [hrl]; exact HIK.out.2)⟩
     have HRI := Lib.hid hri
     have HMA := Lib.hid hma
     have HMB := Lib.hid hmb
     have HR2 : Hid (ri[2]? = some (.string ma.mid) ∧ rk[2]? = some (.string mb.mid)) := Lib.hid (by
      obtain ⟨_, _, _, _, _, h1⟩ := hrv i ri ma hri hma
      obtain ⟨_, _, _, _, _, h2⟩ := hrv k rk mb hrk hmb
      have e1 := h1.form
      have e2 := h2.form
      rw [← List.getElem?_toArray, ← List.getElem?_toArray, e1, e2]
      exact ⟨rfl, rfl⟩)
     have HAD : Hid (∀ j : Nat, ad.add (j * 11 + 2) = ⟨(ad.add (j * 11)).block, (ad.add (j * 11)).off + 2, none⟩) := Lib.hid fun j => add_next _ _ 2 (by decide)
     have HCI : Hid (∀ W, Below N w W → W.cell? ⟨(ad.add (i * 11)).block, (ad.add (i * 11)).off + 2, none⟩ = some (.string ma.mid)) := Lib.hid fun W hW => by rw [← HAD.out, HRC.out W hW i ri hri 2 (by decide)]; exact HR2.out.1
     have HCK : Hid (∀ W, Below N w W → W.cell? ⟨(ad.add (k * 11)).block, (ad.add (k * 11)).off + 2, none⟩ = some (.string mb.mid)) := Lib.hid fun W hW => by rw [← HAD.out, HRC.out W hW k rk hrk 2 (by decide)]; exact HR2.out.2
     have hms : ma.mid.size ≤ 16 := by
      have := (wordP_len (goodM_parts ((goodD_parts HGD.out).2.2.2.1 ma (List.mem_of_getElem? hma))).2.1).2
      rwa [tx_length] at this
     obtain ⟨r0, hr0⟩ : ∃ r, rs[0]? = some r := ⟨_, List.getElem?_eq_getElem (by rw [hrl]; have := HN2.out; omega)⟩
     have HR0 := Lib.hid hr0
     have p5 : (w4.alloc (.cells #[] 28)).cell? ⟨N, 5, none⟩ = some (.slice (some ad) nM cM) := (H4.out.2.1.alloc _).cell 5
     have HE9 := Lib.hid (own_emptyT w4 28 11 (Nat.le_refl _))
     have HNA : Hid (w4.heap.size ≤ (w4.alloc (.cells #[] 28)).heap.size ∧ N ≤ w4.heap.size) := Lib.hid (by rw [World.size_alloc]; have := H4.out.2.1.lt; omega)
     have HRA : Hid (∀ ad', some ad = some ad' → ∀ (i : Nat) (r : List Value), rs[i]? = some r → ∀ j, j < 11 → (w4.alloc (.cells #[] 28)).cell? (ad'.add (i * 11 + j)) = r[j]?) := Lib.hid fun ad' ha i r hi j hj => by
      obtain rfl := Option.some.inj ha
      exact HRC.out _ (H4.out.1.alloc HNA.out.2 _) i r hi j hj
     have hk8 := HF8.out.1
     have hn8 := HF8.out.2
     clear had hrl hr11 hr1 hrv hrc hma hmb hri hrk hr0
     go_upto_region 9 with (at_builtin; refine wpList_appendRows (ks := []) (rs := rs) (base := w4.heap.size) rfl (.tmp 38) (.tmp 40) rfl Tryz.underlying60 Tryz.infoMedia rfl (Nat.zero_lt_succ _) rfl HE9.out rfl (fun e => by cases e) hcM HRS.out.1 HRS.out.2.1 HRS.out.2.2.1 HRA.out (by simp only [List.length_nil]; omega) (by simp only [List.length_nil]; omega) HNA.out.1 ?_; intro v5 w5 ho5 hg5 hn5; rw [List.nil_append] at ho5; have hb5 : Below w4.heap.size w4 w5 := ((Below.refl _ w4).alloc (Nat.le_refl _) _).grown hg5 HNA.out.1 (fun j hj => (Own.lt HE9.out hj).1); obtain ⟨gA, kX, hv5, -, hgA, -⟩ := ho5.at_ HR0.out; rw [HRS.out.1] at hv5; subst hv5; have H5 : Hid (Below w4.heap.size w4 w5 ∧ Own w5 w4.heap.size 28 11 (.slice (some ⟨gA, 0, none⟩) nM kX) rs ∧ w4.heap.size ≤ gA) := Lib.hid ⟨hb5, ho5, hgA⟩; have x5 : w5.cell? ⟨g1, 5, none⟩ = some (.slice (some ad) nM cM) := (H4.out.2.2.1.under hb5).cell 5; have y5 := (H4.out.2.2.1.under hb5).frz 5; clear ho5 hg5 hn5 hb5 hgA)
     have HL : Hid (g1 < w4.heap.size ∧ g2 < w4.heap.size ∧ w4.heap.size ≤ gA) := Lib.hid ⟨H4.out.2.2.1.lt, H4.out.2.2.2.lt, H5.out.2.2⟩
     have H6 : Hid (Below N w (w5.setCell ⟨g1, 5, none⟩ (.slice (some ⟨gA, 0, none⟩) nM kX)) ∧ Whole (w5.setCell ⟨g1, 5, none⟩ (.slice (some ⟨gA, 0, none⟩) nM kX)) N 62 #[.int .u64 d.id, .int .u64 d.ver, .slice AB n cB, .string d.name, .string d.pass, .slice (some ad) nM cM] ∧ Whole (w5.setCell ⟨g1, 5, none⟩ (.slice (some ⟨gA, 0, none⟩) nM kX)) g1 62 #[.int .u64 d.id, .int .u64 d.ver, .slice AB n cB, .string d.name, .string d.pass, .slice (some ⟨gA, 0, none⟩) nM kX] ∧ Whole (w5.setCell ⟨g1, 5, none⟩ (.slice (some ⟨gA, 0, none⟩) nM kX)) g2 62 #[.int .u64 d.id, .int .u64 d.ver, .slice AB n cB, .string d.name, .string d.pass, .slice (some ad) nM cM] ∧ Own (w5.setCell ⟨g1, 5, none⟩ (.slice (some ⟨gA, 0, none⟩) nM kX)) w4.heap.size 28 11 (.slice (some ⟨gA, 0, none⟩) nM kX) rs) := Lib.hid (by
      have hg := HG.out
      have h1 := H4.out.2.2.1.under H5.out.1
      refine ⟨(H4.out.1.trans (H5.out.1.mono HNA.out.2)).setCell (p := ⟨g1, 5, none⟩) (by show N ≤ g1; omega) _, (H4.out.2.1.under H5.out.1).far (p := ⟨g1, 5, none⟩) (by show N ≠ g1; omega) _, h1.set 5 _, (H4.out.2.2.2.under H5.out.1).far (p := ⟨g1, 5, none⟩) (by show g2 ≠ g1; omega) _, H5.out.2.1.far (p := ⟨g1, 5, none⟩) (H5.out.2.1.apart h1 (by decide)) _⟩)
     clear x5 y5 p5 HE9 HRA H5 H4
     generalize w5.setCell ⟨g1, 5, none⟩ (.slice (some ⟨gA, 0, none⟩) nM kX) = w6 at *
     have HB6 : Hid (∀ W, Only (fun j => j = gA) w6 W → Below N w W) := Lib.hid fun W hW => H6.out.1.trans (hW.below (fun j hj => by have h1 := HL.out; have h2 := HNA.out.2; have h3 : j = gA := hj; omega) (Nat.le_of_lt H6.out.2.1.lt))
     have HF1 : Hid (∀ W, Only (fun j => j = gA) w6 W → W.cell? ⟨g1, 5, none⟩ = some (.slice (some ⟨gA, 0, none⟩) nM kX)) := Lib.hid fun W h => (H6.out.2.2.1.only h (fun e => by have h1 := HL.out; have h3 : g1 = gA := e; omega)).cell 5
     have HF5 : Hid (∀ W, Only (fun j => j = gA) w6 W → W.cell? ⟨N, 5, none⟩ = some (.slice (some ad) nM cM)) := Lib.hid fun W h => (H6.out.2.1.only h (fun e => by have h1 := HL.out; have h2 := HG.out; have h3 : N = gA := e; omega)).cell 5
     have HFK : Hid (∀ W, Only (fun j => j = gA) w6 W → W.cell? ⟨(ad.add (k * 11)).block, (ad.add (k * 11)).off + 2, none⟩ = some (.string mb.mid)) := Lib.hid fun W h => HCK.out W (HB6.out W h)
     have hi1 : (i : Int) < (nM : Int) := by have := HIK.out.1; omega
     have hi2 : (0 : Int) ≤ (i : Int) := by omega
     have hk1 : (k : Int) < (nM : Int) := by have := HIK.out.2; omega
     have hk2 : (0 : Int) ≤ (k : Int) := by omega
     have HR6 : Hid (Only (fun j => j = gA) w6 w6.drew) := Lib.hid (Only.refl _ _).drew
     have HO7 : Hid (Own w6.drew w4.heap.size 28 11 (.slice (some ⟨gA, 0, none⟩) nM kX) rs) := Lib.hid H6.out.2.2.2.2.drew
     go_cut [] (fun wc => Only (fun j => j = gA) w6 wc ∧ Own wc w4.heap.size 28 11 (.slice (some ⟨gA, 0, none⟩) nM kX) (rs.set i (ri.set 2 (.string mb.mid))))
     case first =>
      refine wp_region_held_drew (S := fun W => Only (fun j => j = gA) w6 W) (by kernel_rfl) HR6.out (fun hHeld => ?_)
      generalize w6.drew = w8 at hHeld HO7 ⊢
      have HO8 := Lib.hid HO7.out
      obtain ⟨g', c'', e1, -, -, -, -, -, hat, hfz⟩ := HO8.out.at_ HRI.out
      injection e1 with e1 e1n e1c
      obtain rfl : gA = g' := by injection e1 with e1; injection e1
      have xA : w8.cell? ⟨gA, i * 11 + 2, none⟩ = some (.string ma.mid) := (hat 2 (by decide)).trans HR2.out.1
      have yA : w8.frozen? ⟨gA, i * 11 + 2, none⟩ = false := hfz _
      clear e1 e1n e1c hat hfz
      refine wpAnyH_take (i := 0) (v := _) rfl (by as_aux_lemma => kernel_rfl) (by as_aux_lemma => kernel_rfl) (by as_aux_lemma => kernel_rfl) (fun _ _ _ h => h) (Or.inl ⟨by rfl, fun w h => by have e0 := HF1.out w h; have e1 := HF5.out w h; have e2 := HFK.out w h; clear h; go_simp; (try with_reducible rfl)⟩) (by assumption) ?_
      simp only [Act.put, List.getElem_toArray, List.getElem_cons_succ, List.getElem_cons_zero, List.setIfInBounds_toArray, List.set_cons_succ, List.set_cons_zero]
      refine wpAnyH_take (i := 1) (v := _) rfl (by as_aux_lemma => kernel_rfl) (by as_aux_lemma => kernel_rfl) (by as_aux_lemma => kernel_rfl) (fun _ _ _ h => h) (Or.inl ⟨by rfl, fun w h => by have e0 := HF1.out w h; have e1 := HF5.out w h; have e2 := HFK.out w h; clear h; go_simp; (try with_reducible rfl)⟩) (by assumption) ?_
      simp only [Act.put, List.getElem_toArray, List.getElem_cons_succ, List.getElem_cons_zero, List.setIfInBounds_toArray, List.set_cons_succ, List.set_cons_zero]
      refine wpAnyH_take (i := 2) (v := _) rfl (by as_aux_lemma => kernel_rfl) (by as_aux_lemma => kernel_rfl) (by as_aux_lemma => kernel_rfl) (fun _ _ _ h => h) (Or.inl ⟨by rfl, fun w h => by have e0 := HF1.out w h; have e1 := HF5.out w h; have e2 := HFK.out w h; clear h; go_simp; (try with_reducible rfl)⟩) (by assumption) ?_
      simp only [Act.put, List.getElem_toArray, List.getElem_cons_succ, List.getElem_cons_zero, List.setIfInBounds_toArray, List.set_cons_succ, List.set_cons_zero]
      refine wpAnyH_take (i := 3) (v := _) rfl (by as_aux_lemma => kernel_rfl) (by as_aux_lemma => kernel_rfl) (by as_aux_lemma => kernel_rfl) (fun _ _ _ h => h) (Or.inl ⟨by rfl, fun w h => by have e0 := HF1.out w h; have e1 := HF5.out w h; have e2 := HFK.out w h; clear h; go_simp; (try with_reducible rfl)⟩) (by assumption) ?_
      simp only [Act.put, List.getElem_toArray, List.getElem_cons_succ, List.getElem_cons_zero, List.setIfInBounds_toArray, List.set_cons_succ, List.set_cons_zero]
      refine wpAnyH_take (i := 4) (v := _) rfl (by as_aux_lemma => kernel_rfl) (by as_aux_lemma => kernel_rfl) (by as_aux_lemma => kernel_rfl) (fun _ _ _ h => h) (Or.inl ⟨by rfl, fun w h => by have e0 := HF1.out w h; have e1 := HF5.out w h; have e2 := HFK.out w h; clear h; go_simp; (try with_reducible rfl)⟩) (by assumption) ?_
      simp only [Act.put, List.getElem_toArray, List.getElem_cons_succ, List.getElem_cons_zero, List.setIfInBounds_toArray, List.set_cons_succ, List.set_cons_zero]
      refine wpAnyH_take (i := 5) (v := _) rfl (by as_aux_lemma => kernel_rfl) (by as_aux_lemma => kernel_rfl) (by as_aux_lemma => kernel_rfl) (fun _ _ _ h => h) (Or.inl ⟨by rfl, fun w h => by have e0 := HF1.out w h; have e1 := HF5.out w h; have e2 := HFK.out w h; clear h; go_simp; (try with_reducible rfl)⟩) (by assumption) ?_
      simp only [Act.put, List.getElem_toArray, List.getElem_cons_succ, List.getElem_cons_zero, List.setIfInBounds_toArray, List.set_cons_succ, List.set_cons_zero]
      refine wpAnyH_take (i := 6) (v := _) rfl (by as_aux_lemma => kernel_rfl) (by as_aux_lemma => kernel_rfl) (by as_aux_lemma => kernel_rfl) (fun _ _ _ h => h) (Or.inl ⟨by rfl, fun w h => by have e0 := HF1.out w h; have e1 := HF5.out w h; have e2 := HFK.out w h; clear h; go_simp; (try with_reducible rfl)⟩) (by assumption) ?_
      simp only [Act.put, List.getElem_toArray, List.getElem_cons_succ, List.getElem_cons_zero, List.setIfInBounds_toArray, List.set_cons_succ, List.set_cons_zero]
      refine wpAnyH_take (i := 7) (v := _) rfl (by as_aux_lemma => kernel_rfl) (by as_aux_lemma => kernel_rfl) (by as_aux_lemma => kernel_rfl) (fun _ _ _ h => h) (Or.inl ⟨by rfl, fun w h => by have e0 := HF1.out w h; have e1 := HF5.out w h; have e2 := HFK.out w h; clear h; go_simp; (try with_reducible rfl)⟩) (by assumption) ?_
      simp only [Act.put, List.getElem_toArray, List.getElem_cons_succ, List.getElem_cons_zero, List.setIfInBounds_toArray, List.set_cons_succ, List.set_cons_zero]
      refine wpAnyH_take (i := 8) (v := _) rfl (by as_aux_lemma => kernel_rfl) (by as_aux_lemma => kernel_rfl) (by as_aux_lemma => kernel_rfl) (fun _ _ _ h => h) (Or.inl ⟨by rfl, fun w h => by have e0 := HF1.out w h; have e1 := HF5.out w h; have e2 := HFK.out w h; clear h; go_simp; (try with_reducible rfl)⟩) (by assumption) ?_
      simp only [Act.put, List.getElem_toArray, List.getElem_cons_succ, List.getElem_cons_zero, List.setIfInBounds_toArray, List.set_cons_succ, List.set_cons_zero]
      refine wpAnyH_take (i := 9) (v := _) rfl (by as_aux_lemma => kernel_rfl) (by as_aux_lemma => kernel_rfl) (by as_aux_lemma => kernel_rfl) (fun _ _ _ h => h) (Or.inl ⟨by rfl, fun w h => by have e0 := HF1.out w h; have e1 := HF5.out w h; have e2 := HFK.out w h; clear h; go_simp; (try with_reducible rfl)⟩) (by assumption) ?_
      simp only [Act.put, List.getElem_toArray, List.getElem_cons_succ, List.getElem_cons_zero, List.setIfInBounds_toArray, List.set_cons_succ, List.set_cons_zero]
      refine wpAnyH_take (i := 10) (v := _) rfl (by as_aux_lemma => kernel_rfl) (by as_aux_lemma => kernel_rfl) (by as_aux_lemma => kernel_rfl) (fun _ _ _ h => h) (Or.inl ⟨by rfl, fun w h => by have e0 := HF1.out w h; have e1 := HF5.out w h; have e2 := HFK.out w h; clear h; go_simp; (try with_reducible rfl)⟩) (by assumption) ?_
      simp only [Act.put, List.getElem_toArray, List.getElem_cons_succ, List.getElem_cons_zero, List.setIfInBounds_toArray, List.set_cons_succ, List.set_cons_zero]
      refine wpAnyH_ready (rs := [11]) (by as_aux_lemma => kernel_rfl) (by simp) ?_
      refine (AllReadyH.cons (i := 11) rfl (fun K hK => ?_) AllReadyH.nil)
      go_simp
      have hon := HO8.out.put (g := gA) rfl HRI.out (show 2 < 11 by decide) (.string mb.mid)
      have hbn := hHeld.setCell (p := ⟨gA, i * 11 + 2, none⟩) (.inl rfl) (.string mb.mid)
      have HO9 := Lib.hid hon
      refine hK.out _ _ hbn (fun hHeld' => ?_)
      clear hbn hon
      clear hK K hHeld
      have hHeld := hHeld'
      clear hHeld'
      try simp only [Act.put]
      refine wpAnyH_done (by as_aux_lemma => kernel_rfl) ?_ _
      have HL := Lib.hid (And.intro hHeld HO9.out)
      clear hHeld
      go_wp2
      go_meet
      exact ⟨HL.out.1, HL.out.2⟩
     case rest =>
     obtain ⟨hon7, how7⟩ := hcut
     generalize wc = w7 at *
     have H7 : Hid (Below N w w7 ∧ Whole w7 N 62 #[.int .u64 d.id, .int .u64 d.ver, .slice AB n cB, .string d.name, .string d.pass, .slice (some ad) nM cM] ∧ Whole w7 g1 62 #[.int .u64 d.id, .int .u64 d.ver, .slice AB n cB, .string d.name, .string d.pass, .slice (some ⟨gA, 0, none⟩) nM kX] ∧ Whole w7 g2 62 #[.int .u64 d.id, .int .u64 d.ver, .slice AB n cB, .string d.name, .string d.pass, .slice (some ad) nM cM] ∧ Own w7 w4.heap.size 28 11 (.slice (some ⟨gA, 0, none⟩) nM kX) (rs.set i (ri.set 2 (.string mb.mid)))) := Lib.hid (by
      have h1 := HL.out
      have h2 := HG.out
      exact ⟨HB6.out _ hon7, H6.out.2.1.only hon7 (fun e => by have h3 : N = gA := e; omega), H6.out.2.2.1.only hon7 (fun e => by have h3 : g1 = gA := e; omega), H6.out.2.2.2.1.only hon7 (fun e => by have h3 : g2 = gA := e; omega), how7⟩)
     clear hon7 how7 HF1 HF5 HFK HR6 HO7 HB6 H6
     have x2 : w7.cell? ⟨g1, 2, none⟩ = some (.slice AB n cB) := H7.out.2.2.1.cell 2
     have y2 := H7.out.2.2.1.frz 2
     go_upto_region 11 with fail
     have H9 : Hid (Below N w (w7.setCell ⟨g1, 2, none⟩ (.slice none 0 0)) ∧ Whole (w7.setCell ⟨g1, 2, none⟩ (.slice none 0 0)) N 62 #[.int .u64 d.id, .int .u64 d.ver, .slice AB n cB, .string d.name, .string d.pass, .slice (some ad) nM cM] ∧ Whole (w7.setCell ⟨g1, 2, none⟩ (.slice none 0 0)) g1 62 #[.int .u64 d.id, .int .u64 d.ver, .slice none 0 0, .string d.name, .string d.pass, .slice (some ⟨gA, 0, none⟩) nM kX] ∧ Whole (w7.setCell ⟨g1, 2, none⟩ (.slice none 0 0)) g2 62 #[.int .u64 d.id, .int .u64 d.ver, .slice AB n cB, .string d.name, .string d.pass, .slice (some ad) nM cM] ∧ Own (w7.setCell ⟨g1, 2, none⟩ (.slice none 0 0)) w4.heap.size 28 11 (.slice (some ⟨gA, 0, none⟩) nM kX) (rs.set i (ri.set 2 (.string mb.mid)))) := Lib.hid (by
      have h2 := HG.out
      exact ⟨H7.out.1.setCell (p := ⟨g1, 2, none⟩) (by show N ≤ g1; omega) _, H7.out.2.1.far (p := ⟨g1, 2, none⟩) (by show N ≠ g1; omega) _, H7.out.2.2.1.set 2 _, H7.out.2.2.2.1.far (p := ⟨g1, 2, none⟩) (by show g2 ≠ g1; omega) _, H7.out.2.2.2.2.far (p := ⟨g1, 2, none⟩) (H7.out.2.2.2.2.apart H7.out.2.2.1 (by decide)) _⟩)
     clear x2 y2 H7
     generalize w7.setCell ⟨g1, 2, none⟩ (.slice none 0 0) = w9 at *
     have HSE11 : Hid (w9.heap.size = w9.heap.size) := Lib.hid rfl
     have HSZ11 : Hid (∀ W, Only (fun j => j = g2) w9 W → w9.heap.size ≤ W.heap.size) := Lib.hid fun W h => h.size
     have HB9 : Hid (∀ W, Only (fun j => j = g2) w9 W → Below N w W) := Lib.hid fun W hW => H9.out.1.trans (hW.below (fun j hj => by have h2 := HG.out; have h3 : j = g2 := hj; omega) (Nat.le_of_lt H9.out.2.1.lt))
     have HXN : Hid (∀ W, Only (fun j => j = g2) w9 W → Whole W N 62 #[.int .u64 d.id, .int .u64 d.ver, .slice AB n cB, .string d.name, .string d.pass, .slice (some ad) nM cM]) := Lib.hid fun W h => H9.out.2.1.only h (fun e => by have h2 := HG.out; have h3 : N = g2 := e; omega)
     have HF2 : Hid (∀ W, Only (fun j => j = g2) w9 W → W.cell? ⟨N, 2, none⟩ = some (.slice AB n cB)) := Lib.hid fun W h => (HXN.out W h).cell 2
     have HF5 : Hid (∀ W, Only (fun j => j = g2) w9 W → W.cell? ⟨N, 5, none⟩ = some (.slice (some ad) nM cM)) := Lib.hid fun W h => (HXN.out W h).cell 5
     have HFI : Hid (∀ W, Only (fun j => j = g2) w9 W → W.cell? ⟨(ad.add (i * 11)).block, (ad.add (i * 11)).off + 2, none⟩ = some (.string ma.mid)) := Lib.hid fun W h => HCI.out W (HB9.out W h)
     have HBU : Hid ((AB = none → cB = 0) ∧ n ≤ cB ∧ (d.bundle.map tcell).length = n ∧ (∀ r ∈ d.bundle.map tcell, r.length = 1) ∧ (∀ r ∈ d.bundle.map tcell, ∀ u ∈ r, u.oneCell' = true)) := Lib.hid ⟨HAB.out, hcB, by rw [List.length_map, HNB.out], fun r hr => by obtain ⟨x, _, rfl⟩ := List.mem_map.1 hr; rfl, fun r hr u hu => by obtain ⟨x, _, rfl⟩ := List.mem_map.1 hr; simp [tcell] at hu; rw [hu]; rfl⟩
     have HRB : Hid (∀ W, Only (fun j => j = g2) w9 W → ∀ ad', AB = some ad' → ∀ (i : Nat) (r : List Value), (d.bundle.map tcell)[i]? = some r → ∀ j, j < 1 → W.cell? (ad'.add (i * 1 + j)) = r[j]?) := Lib.hid fun W hW ad' ha i r hi j hj => by
      obtain ⟨x, hx, rfl⟩ := Option.map_eq_some_iff.1 (by rw [← List.getElem?_map]; exact hi)
      obtain ⟨ad2, c2, e2, _, _, _, h3⟩ := Rows.at_ (HTV.out.below (HB9.out W hW)) hx
      injection e2 with e2 e2n e2c
      rw [ha] at e2
      obtain rfl := Option.some.inj e2
      obtain rfl : j = 0 := by omega
      exact h3
     have HR11 : Hid (Only (fun j => j = g2) w9 w9.drew) := Lib.hid (Only.refl _ _).drew
     have HP0 : Hid (Whole w9.drew g2 62 #[.int .u64 d.id, .int .u64 d.ver, .slice AB n cB, .string d.name, .string d.pass, .slice (some ad) nM cM]) := Lib.hid H9.out.2.2.2.1.drew
     have qs : ¬ 9223372036854775807 < 16 + ma.mid.size := by omega
     go_cut [] (fun wc => ∃ (A7 : Option Addr) (l7 c7 : Nat), Only (fun j => j = g2) w9 wc ∧ Whole wc g2 62 #[.int .u64 d.id, .int .u64 d.ver, .slice A7 l7 c7, .string d.name, .string d.pass, .slice (some ad) nM cM] ∧ Own wc w9.heap.size 9 1 (.slice A7 l7 c7) ((d.bundle ++ ([(⟨#[110, 111, 110, 101, 45, 111, 102, 45, 116, 104, 101, 105, 114, 115, 45, 45]⟩ ++ ma.mid)] : List ByteArray)).map tcell))
     case first =>
      refine wp_region_held_drew (S := fun W => Only (fun j => j = g2) w9 W) (by kernel_rfl) HR11.out (fun hHeld => ?_)
      generalize w9.drew = w011 at hHeld HP0 ⊢
      refine wpAnyH_take (i := 1) (v := _) rfl (by as_aux_lemma => kernel_rfl) (by as_aux_lemma => kernel_rfl) (by as_aux_lemma => kernel_rfl) (fun _ _ _ h => h) (Or.inl ⟨by rfl, fun w h => by have e0 := HF2.out w h; have e1 := HF5.out w h; have e2 := HFI.out w h; clear h; go_simp; (try with_reducible rfl)⟩) (by assumption) ?_
      simp only [Act.put, List.getElem_toArray, List.getElem_cons_succ, List.getElem_cons_zero, List.setIfInBounds_toArray, List.set_cons_succ, List.set_cons_zero]
      refine wpAnyH_take (i := 2) (v := _) rfl (by as_aux_lemma => kernel_rfl) (by as_aux_lemma => kernel_rfl) (by as_aux_lemma => kernel_rfl) (fun _ _ _ h => h) (Or.inl ⟨by rfl, fun w h => by have e0 := HF2.out w h; have e1 := HF5.out w h; have e2 := HFI.out w h; clear h; go_simp; (try with_reducible rfl)⟩) (by assumption) ?_
      simp only [Act.put, List.getElem_toArray, List.getElem_cons_succ, List.getElem_cons_zero, List.setIfInBounds_toArray, List.set_cons_succ, List.set_cons_zero]
      refine wpAnyH_take (i := 4) (v := _) rfl (by as_aux_lemma => kernel_rfl) (by as_aux_lemma => kernel_rfl) (by as_aux_lemma => kernel_rfl) (fun _ _ _ h => h) (Or.inl ⟨by rfl, fun w h => by have e0 := HF2.out w h; have e1 := HF5.out w h; have e2 := HFI.out w h; clear h; go_simp; (try with_reducible rfl)⟩) (by assumption) ?_
      simp only [Act.put, List.getElem_toArray, List.getElem_cons_succ, List.getElem_cons_zero, List.setIfInBounds_toArray, List.set_cons_succ, List.set_cons_zero]
      refine wpAnyH_take (i := 5) (v := _) rfl (by as_aux_lemma => kernel_rfl) (by as_aux_lemma => kernel_rfl) (by as_aux_lemma => kernel_rfl) (fun _ _ _ h => h) (Or.inl ⟨by rfl, fun w h => by have e0 := HF2.out w h; have e1 := HF5.out w h; have e2 := HFI.out w h; clear h; go_simp; (try with_reducible rfl)⟩) (by assumption) ?_
      simp only [Act.put, List.getElem_toArray, List.getElem_cons_succ, List.getElem_cons_zero, List.setIfInBounds_toArray, List.set_cons_succ, List.set_cons_zero]
      refine wpAnyH_take (i := 6) (v := _) rfl (by as_aux_lemma => kernel_rfl) (by as_aux_lemma => kernel_rfl) (by as_aux_lemma => kernel_rfl) (fun _ _ _ h => h) (Or.inl ⟨by rfl, fun w h => by have e0 := HF2.out w h; have e1 := HF5.out w h; have e2 := HFI.out w h; clear h; go_simp; (try with_reducible rfl)⟩) (by assumption) ?_
      simp only [Act.put, List.getElem_toArray, List.getElem_cons_succ, List.getElem_cons_zero, List.setIfInBounds_toArray, List.set_cons_succ, List.set_cons_zero]
      refine wpAnyH_take (i := 7) (v := _) rfl (by as_aux_lemma => kernel_rfl) (by as_aux_lemma => kernel_rfl) (by as_aux_lemma => kernel_rfl) (fun _ _ _ h => h) (Or.inl ⟨by rfl, fun w h => by have e0 := HF2.out w h; have e1 := HF5.out w h; have e2 := HFI.out w h; clear h; go_simp; (try with_reducible rfl)⟩) (by assumption) ?_
      simp only [Act.put, List.getElem_toArray, List.getElem_cons_succ, List.getElem_cons_zero, List.setIfInBounds_toArray, List.set_cons_succ, List.set_cons_zero]
      refine wpAnyH_take (i := 8) (v := _) rfl (by as_aux_lemma => kernel_rfl) (by as_aux_lemma => kernel_rfl) (by as_aux_lemma => kernel_rfl) (fun _ _ _ h => h) (Or.inl ⟨by rfl, fun w h => by have e0 := HF2.out w h; have e1 := HF5.out w h; have e2 := HFI.out w h; clear h; go_simp; (try with_reducible rfl)⟩) (by assumption) ?_
      simp only [Act.put, List.getElem_toArray, List.getElem_cons_succ, List.getElem_cons_zero, List.setIfInBounds_toArray, List.set_cons_succ, List.set_cons_zero]
      refine wpAnyH_take (i := 9) (v := _) rfl (by as_aux_lemma => kernel_rfl) (by as_aux_lemma => kernel_rfl) (by as_aux_lemma => kernel_rfl) (fun _ _ _ h => h) (Or.inl ⟨by rfl, fun w h => by have e0 := HF2.out w h; have e1 := HF5.out w h; have e2 := HFI.out w h; clear h; go_simp; (try with_reducible rfl)⟩) (by assumption) ?_
      simp only [Act.put, List.getElem_toArray, List.getElem_cons_succ, List.getElem_cons_zero, List.setIfInBounds_toArray, List.set_cons_succ, List.set_cons_zero]
      refine wpAnyH_take (i := 10) (v := _) rfl (by as_aux_lemma => kernel_rfl) (by as_aux_lemma => kernel_rfl) (by as_aux_lemma => kernel_rfl) (fun _ _ _ h => h) (Or.inl ⟨by rfl, fun w h => by have e0 := HF2.out w h; have e1 := HF5.out w h; have e2 := HFI.out w h; clear h; go_simp; (try with_reducible rfl)⟩) (by assumption) ?_
      simp only [Act.put, List.getElem_toArray, List.getElem_cons_succ, List.getElem_cons_zero, List.setIfInBounds_toArray, List.set_cons_succ, List.set_cons_zero]
      refine wpAnyH_ready (rs := [0, 11]) (by as_aux_lemma => kernel_rfl) (by simp) ?_
      refine (AllReadyH.cons (i := 0) rfl (fun K hK => ?_) (AllReadyH.cons (i := 11) rfl (fun K hK => ?_) AllReadyH.nil))
      · go_simp
        have hbn := hHeld.alloc (.cells #[] 9)
        have HE1 := Lib.hid (own_emptyT w011 9 1 (HSZ11.out _ hHeld))
        have HP1 := Lib.hid (HP0.out.alloc (.cells #[] 9))
        refine hK.out _ _ hbn (fun hHeld' => ?_)
        clear hbn HP0
        clear hK K hHeld
        have hHeld := hHeld'
        clear hHeld'
        try simp only [Act.put]
        generalize w011.alloc (.cells #[] 9) = x0 at hHeld HE1 HP1 ⊢
        generalize w011.heap.size = gE at hHeld HE1 HP1 ⊢
        refine wpAnyH_ready (rs := [3, 11]) (by as_aux_lemma => kernel_rfl) (by simp) ?_
        refine (AllReadyH.cons (i := 3) rfl (fun K hK => ?_) (AllReadyH.cons (i := 11) rfl (fun K hK => ?_) AllReadyH.nil))
        · refine step_of rfl (wp_appendRows (base := w9.heap.size) (ks := []) (rs := d.bundle.map tcell) (.tmp 55) (.tmp 57) rfl Tryz.underlying24 Tryz.infoStr rfl (Nat.zero_lt_succ _) rfl HE1.out rfl HBU.out.1 HBU.out.2.1 HBU.out.2.2.1 HBU.out.2.2.2.1 HBU.out.2.2.2.2 (HRB.out _ hHeld) (by simp only [List.length_nil]; omega) (by simp only [List.length_nil]; omega) (HSZ11.out _ hHeld) ?_)
          intro v5 x3 ho5 hg5 hn5
          rw [List.nil_append] at ho5
          have hbn := hHeld.grown hg5 (fun j hj => .inr (by rw [HSE11.out]; exact (Own.lt HE1.out hj).1))
          obtain ⟨A5', c5', hv5, -⟩ := Own.form ho5
          generalize (d.bundle.map tcell).length = l5' at hv5
          subst hv5
          have HO52 := Lib.hid (ho5)
          have HP2 := Lib.hid (HP1.out.grown hg5 (fun e => (Own.apart HE1.out HP1.out (by decide)) e.symm))
          refine hK.out _ _ hbn (fun hHeld' => ?_)
          clear ho5 hg5 hn5 hbn HP1 HE1
          clear hK K hHeld
          have hHeld := hHeld'
          clear hHeld'
          try simp only [Act.put]
          refine wpAnyH_ready (rs := [11]) (by as_aux_lemma => kernel_rfl) (by simp) ?_
          refine (AllReadyH.cons (i := 11) rfl (fun K hK => ?_) AllReadyH.nil)
          go_simp
          have hbn := hHeld.alloc (.cells #[.string (⟨#[110, 111, 110, 101, 45, 111, 102, 45, 116, 104, 101, 105, 114, 115, 45, 45]⟩ ++ ma.mid)] 9)
          have HB3 := Lib.hid (Whole.new x3 9 #[.string (⟨#[110, 111, 110, 101, 45, 111, 102, 45, 116, 104, 101, 105, 114, 115, 45, 45]⟩ ++ ma.mid)])
          have HP3 := Lib.hid (HP2.out.alloc (.cells #[.string (⟨#[110, 111, 110, 101, 45, 111, 102, 45, 116, 104, 101, 105, 114, 115, 45, 45]⟩ ++ ma.mid)] 9))
          have HO53 := Lib.hid (Own.alloc HO52.out (.cells #[.string (⟨#[110, 111, 110, 101, 45, 111, 102, 45, 116, 104, 101, 105, 114, 115, 45, 45]⟩ ++ ma.mid)] 9))
          refine hK.out _ _ hbn (fun hHeld' => ?_)
          clear hbn HP2 HO52
          clear hK K hHeld
          have hHeld := hHeld'
          clear hHeld'
          try simp only [Act.put]
          generalize x3.alloc (.cells #[.string (⟨#[110, 111, 110, 101, 45, 111, 102, 45, 116, 104, 101, 105, 114, 115, 45, 45]⟩ ++ ma.mid)] 9) = x11 at hHeld HB3 HP3 HO53 ⊢
          generalize x3.heap.size = gB at hHeld HB3 HP3 HO53 ⊢
          refine wpAnyH_ready (rs := [12]) (by as_aux_lemma => kernel_rfl) (by simp) ?_
          refine (AllReadyH.cons (i := 12) rfl (fun K hK => ?_) AllReadyH.nil)
          refine step_of rfl (wp_appendE (base := w9.heap.size) (rs := d.bundle.map tcell) (r := [.string (⟨#[110, 111, 110, 101, 45, 111, 102, 45, 116, 104, 101, 105, 114, 115, 45, 45]⟩ ++ ma.mid)]) (.tmp 58) (.tmp 66) rfl Tryz.underlying24 Tryz.infoStr rfl (Nat.zero_lt_succ _) rfl HO53.out rfl HB3.out rfl (fun u hu => by simp at hu; rcases hu with rfl; rfl) (by rw [List.length_map, HNB.out]; omega) (by rw [List.length_map, HNB.out]; omega) (HSZ11.out _ hHeld) ?_)
          intro v6 x12 ho6 hg6 hn6
          have ho6 : Own x12 w9.heap.size 9 1 v6 ((d.bundle ++ ([(⟨#[110, 111, 110, 101, 45, 111, 102, 45, 116, 104, 101, 105, 114, 115, 45, 45]⟩ ++ ma.mid)] : List ByteArray)).map tcell) := by rw [List.map_append]; exact ho6
          have hbn := hHeld.grown hg6 (fun j hj => .inr (by rw [HSE11.out]; exact (Own.lt HO53.out hj).1))
          obtain ⟨A6', c6', hv6, -⟩ := Own.form ho6
          generalize ((d.bundle ++ ([(⟨#[110, 111, 110, 101, 45, 111, 102, 45, 116, 104, 101, 105, 114, 115, 45, 45]⟩ ++ ma.mid)] : List ByteArray)).map tcell).length = l6' at hv6
          subst hv6
          have HO64 := Lib.hid (ho6)
          have HP4 := Lib.hid (HP3.out.grown hg6 (fun e => (Own.apart HO53.out HP3.out (by decide)) e.symm))
          refine hK.out _ _ hbn (fun hHeld' => ?_)
          clear ho6 hg6 hn6 hbn HP3 HO53 HB3
          clear hK K hHeld
          have hHeld := hHeld'
          clear hHeld'
          try simp only [Act.put]
          refine wpAnyH_take (i := 13) (v := _) rfl (by as_aux_lemma => kernel_rfl) (by as_aux_lemma => kernel_rfl) (by as_aux_lemma => kernel_rfl) (fun _ _ _ h => h) (Or.inl ⟨by rfl, fun w h => by have e0 := HF2.out w h; have e1 := HF5.out w h; have e2 := HFI.out w h; clear h; go_simp; (try with_reducible rfl)⟩) (by assumption) ?_
          simp only [Act.put, List.getElem_toArray, List.getElem_cons_succ, List.getElem_cons_zero, List.setIfInBounds_toArray, List.set_cons_succ, List.set_cons_zero]
          refine wpAnyH_ready (rs := [14]) (by as_aux_lemma => kernel_rfl) (by simp) ?_
          refine (AllReadyH.cons (i := 14) rfl (fun K hK => ?_) AllReadyH.nil)
          have x9 := HP4.out.cell 2
          have y9 := HP4.out.frz 2
          simp only [List.getElem?_toArray, List.getElem?_cons_succ, List.getElem?_cons_zero] at x9
          go_simp
          clear x9 y9
          have hbn := hHeld.setCell (p := ⟨g2, 2, none⟩) (.inl rfl) (.slice A6' l6' c6')
          have HFIN := Lib.hid (And.intro (HP4.out.set 2 (.slice A6' l6' c6')) (HO64.out.far (p := ⟨g2, 2, none⟩) (HO64.out.apart HP4.out (by decide)) (.slice A6' l6' c6')))
          refine hK.out _ _ hbn (fun hHeld' => ?_)
          clear hbn
          clear hK K hHeld
          have hHeld := hHeld'
          clear hHeld'
          try simp only [Act.put]
          refine wpAnyH_done (by as_aux_lemma => kernel_rfl) ?_ _
          have HL := Lib.hid hHeld
          clear hHeld
          go_wp2
          go_meet
          exact ⟨_, _, _, HL.out, HFIN.out.1, HFIN.out.2⟩
        · go_simp
          have hbn := hHeld.alloc (.cells #[.string (⟨#[110, 111, 110, 101, 45, 111, 102, 45, 116, 104, 101, 105, 114, 115, 45, 45]⟩ ++ ma.mid)] 9)
          have HB2 := Lib.hid (Whole.new x0 9 #[.string (⟨#[110, 111, 110, 101, 45, 111, 102, 45, 116, 104, 101, 105, 114, 115, 45, 45]⟩ ++ ma.mid)])
          have HP2 := Lib.hid (HP1.out.alloc (.cells #[.string (⟨#[110, 111, 110, 101, 45, 111, 102, 45, 116, 104, 101, 105, 114, 115, 45, 45]⟩ ++ ma.mid)] 9))
          have HE2 := Lib.hid (Own.alloc HE1.out (.cells #[.string (⟨#[110, 111, 110, 101, 45, 111, 102, 45, 116, 104, 101, 105, 114, 115, 45, 45]⟩ ++ ma.mid)] 9))
          have HNEB := Lib.hid (show x0.heap.size ≠ gE from fun e => Nat.ne_of_lt (Own.lt HE1.out rfl).2 e.symm)
          refine hK.out _ _ hbn (fun hHeld' => ?_)
          clear hbn HP1 HE1
          clear hK K hHeld
          have hHeld := hHeld'
          clear hHeld'
          try simp only [Act.put]
          generalize x0.alloc (.cells #[.string (⟨#[110, 111, 110, 101, 45, 111, 102, 45, 116, 104, 101, 105, 114, 115, 45, 45]⟩ ++ ma.mid)] 9) = x11 at hHeld HB2 HP2 HE2 ⊢
          generalize x0.heap.size = gB at hHeld HNEB HB2 HP2 HE2 ⊢
          refine wpAnyH_ready (rs := [3]) (by as_aux_lemma => kernel_rfl) (by simp) ?_
          refine (AllReadyH.cons (i := 3) rfl (fun K hK => ?_) AllReadyH.nil)
          refine step_of rfl (wp_appendRows (base := w9.heap.size) (ks := []) (rs := d.bundle.map tcell) (.tmp 55) (.tmp 57) rfl Tryz.underlying24 Tryz.infoStr rfl (Nat.zero_lt_succ _) rfl HE2.out rfl HBU.out.1 HBU.out.2.1 HBU.out.2.2.1 HBU.out.2.2.2.1 HBU.out.2.2.2.2 (HRB.out _ hHeld) (by simp only [List.length_nil]; omega) (by simp only [List.length_nil]; omega) (HSZ11.out _ hHeld) ?_)
          intro v5 x3 ho5 hg5 hn5
          rw [List.nil_append] at ho5
          have hbn := hHeld.grown hg5 (fun j hj => .inr (by rw [HSE11.out]; exact (Own.lt HE2.out hj).1))
          obtain ⟨A5', c5', hv5, -⟩ := Own.form ho5
          generalize (d.bundle.map tcell).length = l5' at hv5
          subst hv5
          have HO53 := Lib.hid (ho5)
          have HP3 := Lib.hid (HP2.out.grown hg5 (fun e => (Own.apart HE2.out HP2.out (by decide)) e.symm))
          have HB3 := Lib.hid (HB2.out.grown hg5 (fun e => HNEB.out (by injection e)))
          refine hK.out _ _ hbn (fun hHeld' => ?_)
          clear ho5 hg5 hn5 hbn HP2 HE2 HB2
          clear hK K hHeld
          have hHeld := hHeld'
          clear hHeld'
          try simp only [Act.put]
          clear HNEB
          refine wpAnyH_ready (rs := [12]) (by as_aux_lemma => kernel_rfl) (by simp) ?_
          refine (AllReadyH.cons (i := 12) rfl (fun K hK => ?_) AllReadyH.nil)
          refine step_of rfl (wp_appendE (base := w9.heap.size) (rs := d.bundle.map tcell) (r := [.string (⟨#[110, 111, 110, 101, 45, 111, 102, 45, 116, 104, 101, 105, 114, 115, 45, 45]⟩ ++ ma.mid)]) (.tmp 58) (.tmp 66) rfl Tryz.underlying24 Tryz.infoStr rfl (Nat.zero_lt_succ _) rfl HO53.out rfl HB3.out rfl (fun u hu => by simp at hu; rcases hu with rfl; rfl) (by rw [List.length_map, HNB.out]; omega) (by rw [List.length_map, HNB.out]; omega) (HSZ11.out _ hHeld) ?_)
          intro v6 x12 ho6 hg6 hn6
          have ho6 : Own x12 w9.heap.size 9 1 v6 ((d.bundle ++ ([(⟨#[110, 111, 110, 101, 45, 111, 102, 45, 116, 104, 101, 105, 114, 115, 45, 45]⟩ ++ ma.mid)] : List ByteArray)).map tcell) := by rw [List.map_append]; exact ho6
          have hbn := hHeld.grown hg6 (fun j hj => .inr (by rw [HSE11.out]; exact (Own.lt HO53.out hj).1))
          obtain ⟨A6', c6', hv6, -⟩ := Own.form ho6
          generalize ((d.bundle ++ ([(⟨#[110, 111, 110, 101, 45, 111, 102, 45, 116, 104, 101, 105, 114, 115, 45, 45]⟩ ++ ma.mid)] : List ByteArray)).map tcell).length = l6' at hv6
          subst hv6
          have HO64 := Lib.hid (ho6)
          have HP4 := Lib.hid (HP3.out.grown hg6 (fun e => (Own.apart HO53.out HP3.out (by decide)) e.symm))
          refine hK.out _ _ hbn (fun hHeld' => ?_)
          clear ho6 hg6 hn6 hbn HP3 HO53 HB3
          clear hK K hHeld
          have hHeld := hHeld'
          clear hHeld'
          try simp only [Act.put]
          refine wpAnyH_take (i := 13) (v := _) rfl (by as_aux_lemma => kernel_rfl) (by as_aux_lemma => kernel_rfl) (by as_aux_lemma => kernel_rfl) (fun _ _ _ h => h) (Or.inl ⟨by rfl, fun w h => by have e0 := HF2.out w h; have e1 := HF5.out w h; have e2 := HFI.out w h; clear h; go_simp; (try with_reducible rfl)⟩) (by assumption) ?_
          simp only [Act.put, List.getElem_toArray, List.getElem_cons_succ, List.getElem_cons_zero, List.setIfInBounds_toArray, List.set_cons_succ, List.set_cons_zero]
          refine wpAnyH_ready (rs := [14]) (by as_aux_lemma => kernel_rfl) (by simp) ?_
          refine (AllReadyH.cons (i := 14) rfl (fun K hK => ?_) AllReadyH.nil)
          have x9 := HP4.out.cell 2
          have y9 := HP4.out.frz 2
          simp only [List.getElem?_toArray, List.getElem?_cons_succ, List.getElem?_cons_zero] at x9
          go_simp
          clear x9 y9
          have hbn := hHeld.setCell (p := ⟨g2, 2, none⟩) (.inl rfl) (.slice A6' l6' c6')
          have HFIN := Lib.hid (And.intro (HP4.out.set 2 (.slice A6' l6' c6')) (HO64.out.far (p := ⟨g2, 2, none⟩) (HO64.out.apart HP4.out (by decide)) (.slice A6' l6' c6')))
          refine hK.out _ _ hbn (fun hHeld' => ?_)
          clear hbn
          clear hK K hHeld
          have hHeld := hHeld'
          clear hHeld'
          try simp only [Act.put]
          refine wpAnyH_done (by as_aux_lemma => kernel_rfl) ?_ _
          have HL := Lib.hid hHeld
          clear hHeld
          go_wp2
          go_meet
          exact ⟨_, _, _, HL.out, HFIN.out.1, HFIN.out.2⟩
      · go_simp
        have hbn := hHeld.alloc (.cells #[.string (⟨#[110, 111, 110, 101, 45, 111, 102, 45, 116, 104, 101, 105, 114, 115, 45, 45]⟩ ++ ma.mid)] 9)
        have HB1 := Lib.hid (Whole.new w011 9 #[.string (⟨#[110, 111, 110, 101, 45, 111, 102, 45, 116, 104, 101, 105, 114, 115, 45, 45]⟩ ++ ma.mid)])
        have HP1 := Lib.hid (HP0.out.alloc (.cells #[.string (⟨#[110, 111, 110, 101, 45, 111, 102, 45, 116, 104, 101, 105, 114, 115, 45, 45]⟩ ++ ma.mid)] 9))
        refine hK.out _ _ hbn (fun hHeld' => ?_)
        clear hbn HP0
        clear hK K hHeld
        have hHeld := hHeld'
        clear hHeld'
        try simp only [Act.put]
        generalize w011.alloc (.cells #[.string (⟨#[110, 111, 110, 101, 45, 111, 102, 45, 116, 104, 101, 105, 114, 115, 45, 45]⟩ ++ ma.mid)] 9) = x11 at hHeld HB1 HP1 ⊢
        generalize w011.heap.size = gB at hHeld HB1 HP1 ⊢
        refine wpAnyH_ready (rs := [0]) (by as_aux_lemma => kernel_rfl) (by simp) ?_
        refine (AllReadyH.cons (i := 0) rfl (fun K hK => ?_) AllReadyH.nil)
        go_simp
        have hbn := hHeld.alloc (.cells #[] 9)
        have HE2 := Lib.hid (own_emptyT x11 9 1 (HSZ11.out _ hHeld))
        have HP2 := Lib.hid (HP1.out.alloc (.cells #[] 9))
        have HB2 := Lib.hid (HB1.out.alloc (.cells #[] 9))
        have HNEB := Lib.hid (show gB ≠ x11.heap.size from Nat.ne_of_lt HB1.out.lt)
        refine hK.out _ _ hbn (fun hHeld' => ?_)
        clear hbn HP1 HB1
        clear hK K hHeld
        have hHeld := hHeld'
        clear hHeld'
        try simp only [Act.put]
        generalize x11.alloc (.cells #[] 9) = x0 at hHeld HE2 HP2 HB2 ⊢
        generalize x11.heap.size = gE at hHeld HNEB HE2 HP2 HB2 ⊢
        refine wpAnyH_ready (rs := [3]) (by as_aux_lemma => kernel_rfl) (by simp) ?_
        refine (AllReadyH.cons (i := 3) rfl (fun K hK => ?_) AllReadyH.nil)
        refine step_of rfl (wp_appendRows (base := w9.heap.size) (ks := []) (rs := d.bundle.map tcell) (.tmp 55) (.tmp 57) rfl Tryz.underlying24 Tryz.infoStr rfl (Nat.zero_lt_succ _) rfl HE2.out rfl HBU.out.1 HBU.out.2.1 HBU.out.2.2.1 HBU.out.2.2.2.1 HBU.out.2.2.2.2 (HRB.out _ hHeld) (by simp only [List.length_nil]; omega) (by simp only [List.length_nil]; omega) (HSZ11.out _ hHeld) ?_)
        intro v5 x3 ho5 hg5 hn5
        rw [List.nil_append] at ho5
        have hbn := hHeld.grown hg5 (fun j hj => .inr (by rw [HSE11.out]; exact (Own.lt HE2.out hj).1))
        obtain ⟨A5', c5', hv5, -⟩ := Own.form ho5
        generalize (d.bundle.map tcell).length = l5' at hv5
        subst hv5
        have HO53 := Lib.hid (ho5)
        have HP3 := Lib.hid (HP2.out.grown hg5 (fun e => (Own.apart HE2.out HP2.out (by decide)) e.symm))
        have HB3 := Lib.hid (HB2.out.grown hg5 (fun e => HNEB.out (by injection e)))
        refine hK.out _ _ hbn (fun hHeld' => ?_)
        clear ho5 hg5 hn5 hbn HP2 HE2 HB2
        clear hK K hHeld
        have hHeld := hHeld'
        clear hHeld'
        try simp only [Act.put]
        clear HNEB
        refine wpAnyH_ready (rs := [12]) (by as_aux_lemma => kernel_rfl) (by simp) ?_
        refine (AllReadyH.cons (i := 12) rfl (fun K hK => ?_) AllReadyH.nil)
        refine step_of rfl (wp_appendE (base := w9.heap.size) (rs := d.bundle.map tcell) (r := [.string (⟨#[110, 111, 110, 101, 45, 111, 102, 45, 116, 104, 101, 105, 114, 115, 45, 45]⟩ ++ ma.mid)]) (.tmp 58) (.tmp 66) rfl Tryz.underlying24 Tryz.infoStr rfl (Nat.zero_lt_succ _) rfl HO53.out rfl HB3.out rfl (fun u hu => by simp at hu; rcases hu with rfl; rfl) (by rw [List.length_map, HNB.out]; omega) (by rw [List.length_map, HNB.out]; omega) (HSZ11.out _ hHeld) ?_)
        intro v6 x12 ho6 hg6 hn6
        have ho6 : Own x12 w9.heap.size 9 1 v6 ((d.bundle ++ ([(⟨#[110, 111, 110, 101, 45, 111, 102, 45, 116, 104, 101, 105, 114, 115, 45, 45]⟩ ++ ma.mid)] : List ByteArray)).map tcell) := by rw [List.map_append]; exact ho6
        have hbn := hHeld.grown hg6 (fun j hj => .inr (by rw [HSE11.out]; exact (Own.lt HO53.out hj).1))
        obtain ⟨A6', c6', hv6, -⟩ := Own.form ho6
        generalize ((d.bundle ++ ([(⟨#[110, 111, 110, 101, 45, 111, 102, 45, 116, 104, 101, 105, 114, 115, 45, 45]⟩ ++ ma.mid)] : List ByteArray)).map tcell).length = l6' at hv6
        subst hv6
        have HO64 := Lib.hid (ho6)
        have HP4 := Lib.hid (HP3.out.grown hg6 (fun e => (Own.apart HO53.out HP3.out (by decide)) e.symm))
        refine hK.out _ _ hbn (fun hHeld' => ?_)
        clear ho6 hg6 hn6 hbn HP3 HO53 HB3
        clear hK K hHeld
        have hHeld := hHeld'
        clear hHeld'
        try simp only [Act.put]
        refine wpAnyH_take (i := 13) (v := _) rfl (by as_aux_lemma => kernel_rfl) (by as_aux_lemma => kernel_rfl) (by as_aux_lemma => kernel_rfl) (fun _ _ _ h => h) (Or.inl ⟨by rfl, fun w h => by have e0 := HF2.out w h; have e1 := HF5.out w h; have e2 := HFI.out w h; clear h; go_simp; (try with_reducible rfl)⟩) (by assumption) ?_
        simp only [Act.put, List.getElem_toArray, List.getElem_cons_succ, List.getElem_cons_zero, List.setIfInBounds_toArray, List.set_cons_succ, List.set_cons_zero]
        refine wpAnyH_ready (rs := [14]) (by as_aux_lemma => kernel_rfl) (by simp) ?_
        refine (AllReadyH.cons (i := 14) rfl (fun K hK => ?_) AllReadyH.nil)
        have x9 := HP4.out.cell 2
        have y9 := HP4.out.frz 2
        simp only [List.getElem?_toArray, List.getElem?_cons_succ, List.getElem?_cons_zero] at x9
        go_simp
        clear x9 y9
        have hbn := hHeld.setCell (p := ⟨g2, 2, none⟩) (.inl rfl) (.slice A6' l6' c6')
        have HFIN := Lib.hid (And.intro (HP4.out.set 2 (.slice A6' l6' c6')) (HO64.out.far (p := ⟨g2, 2, none⟩) (HO64.out.apart HP4.out (by decide)) (.slice A6' l6' c6')))
        refine hK.out _ _ hbn (fun hHeld' => ?_)
        clear hbn
        clear hK K hHeld
        have hHeld := hHeld'
        clear hHeld'
        try simp only [Act.put]
        refine wpAnyH_done (by as_aux_lemma => kernel_rfl) ?_ _
        have HL := Lib.hid hHeld
        clear hHeld
        go_wp2
        go_meet
        exact ⟨_, _, _, HL.out, HFIN.out.1, HFIN.out.2⟩
     case rest =>
     obtain ⟨A7, l7, c7, hon10, hx10, ho10⟩ := hcut
     generalize wc = w10 at *
     have HU10 : Hid (Below N w w10) := Lib.hid (HB9.out _ hon10)
     have HT10 : Hid (Whole w10 g1 62 #[.int .u64 d.id, .int .u64 d.ver, .slice none 0 0, .string d.name, .string d.pass, .slice (some ⟨gA, 0, none⟩) nM kX] ∧ Whole w10 g2 62 #[.int .u64 d.id, .int .u64 d.ver, .slice A7 l7 c7, .string d.name, .string d.pass, .slice (some ad) nM cM]) := Lib.hid ⟨H9.out.2.2.1.only hon10 (fun e => by have h2 := HG.out; have h3 : g1 = g2 := e; omega), hx10⟩
     obtain ⟨sl, hsl⟩ : ∃ s, (⟨#[110, 111, 110, 101, 45, 111, 102, 45, 116, 104, 101, 105, 114, 115, 45, 45]⟩ ++ ma.mid) = s := ⟨_, rfl⟩
     have hsz : 17 ≤ sl.size ∧ sl.size ≤ 32 := by
      have := (wordP_len (goodM_parts ((goodD_parts HGD.out).2.2.2.1 ma (List.mem_of_getElem? HMA.out))).2.1).1
      rw [tx_length] at this
      rw [← hsl]
      have e : ((⟨#[110, 111, 110, 101, 45, 111, 102, 45, 116, 104, 101, 105, 114, 115, 45, 45]⟩ ++ ma.mid) : ByteArray).size = 16 + ma.mid.size := by rw [← tx_length, tx_append, List.length_append, tx_length]; rfl
      omega
     rw [hsl] at ho10
     have HLB : Hid (goodD { d with bundle := d.bundle ++ [sl] } = false) := Lib.hid (lost_bad HGD.out hsz.1)
     have HTG : Hid (goodD { d with bundle := [], media := d.media.set i { ma with mid := mb.mid } } = decide (i = k)) := Lib.hid (twin_good HGD.out HMA.out HMB.out)
     have HUW : Hid (∀ W, Below w10.heap.size w10 W → Below N w W) := Lib.hid fun W hW => HU10.out.trans (hW.mono (Nat.le_trans (by have := H9.out.2.1.lt; omega) (HSZ11.out _ hon10)))
     have HSL : Hid (SizD { d with bundle := d.bundle ++ [sl] }) := Lib.hid ⟨HZ.out.name, HZ.out.pass, fun b hb => by
      rcases List.mem_append.1 hb with hb | hb
      · exact HZ.out.words b hb
      · rw [List.mem_singleton] at hb
        subst hb
        omega, by show (d.bundle ++ [sl]).length ≤ _; rw [List.length_append, List.length_singleton, HNB.out]; omega, HZ.out.few, HZ.out.media, HZ.out.ids⟩
     have HST : Hid (SizD { d with bundle := [], media := d.media.set i { ma with mid := mb.mid } }) := Lib.hid ⟨HZ.out.name, HZ.out.pass, fun b hb => (by cases hb), Nat.zero_le _, by show (d.media.set i _).length ≤ _; rw [List.length_set]; exact HZ.out.few, fun m hm => by
      rcases List.mem_or_eq_of_mem_set hm with hm | rfl
      · exact HZ.out.media m hm
      · have h1 := HZ.out.media ma (List.mem_of_getElem? HMA.out)
        have h2 := HZ.out.media mb (List.mem_of_getElem? HMB.out)
        exact ⟨h2.mid, h1.names, h1.feeds, h1.uris, h1.rids, h1.typed, h1.counts⟩, HZ.out.ids⟩
     have HOB : Hid (Own w10 w9.heap.size 9 1 (.slice A7 l7 c7) ((d.bundle ++ [sl]).map tcell)) := Lib.hid ho10
     have HDL : Hid (∀ W, Below w10.heap.size w10 W → DescV W W.heap.size #[.int .u64 d.id, .int .u64 d.ver, .slice A7 l7 c7, .string d.name, .string d.pass, .slice (some ad) nM cM] { d with bundle := d.bundle ++ [sl] } (.slice A7 l7 c7) (.slice (some ad) nM cM)) := Lib.hid fun W hW => ⟨rfl, Own.texts (HOB.out.under hW) (Nat.le_refl _), (HMV.out.below (HUW.out W hW)).more (by have h1 := (HUW.out W hW).size; rw [HN.out] at h1; exact h1)⟩
     have HOM : Hid (Own w10 w4.heap.size 28 11 (.slice (some ⟨gA, 0, none⟩) nM kX) (rs.set i (ri.set 2 (.string mb.mid)))) := Lib.hid (H9.out.2.2.2.2.keep fun g' cs hg' hw => hw.only hon10 (fun e => (H9.out.2.2.2.2.apart H9.out.2.2.2.1 (by decide)) (by rw [hg', e])))
     have HDT : Hid (∀ W, Below w10.heap.size w10 W → DescV W W.heap.size #[.int .u64 d.id, .int .u64 d.ver, .slice none 0 0, .string d.name, .string d.pass, .slice (some ⟨gA, 0, none⟩) nM kX] { d with bundle := [], media := d.media.set i { ma with mid := mb.mid } } (.slice none 0 0) (.slice (some ⟨gA, 0, none⟩) nM kX)) := Lib.hid fun W hW => ⟨rfl, Rows.nil _ _ _ _, own_medias (HOM.out.under hW) (by rw [List.length_set, List.length_set, HRS.out.1, HNM.out]) (fun j r m hr hm => by
      rw [List.getElem?_set] at hr hm
      by_cases hji : i = j
      · subst hji
        have hl1 : i < rs.length := (List.getElem?_eq_some_iff.1 HRI.out).1
        have hl2 : i < d.media.length := (List.getElem?_eq_some_iff.1 HMA.out).1
        rw [if_pos rfl, if_pos hl1] at hr
        rw [if_pos rfl, if_pos hl2] at hm
        obtain rfl := Option.some.inj hr
        obtain rfl := Option.some.inj hm
        obtain ⟨vC, vE, vR, vS, vY, hM⟩ := HRS.out.2.2.2 i ri ma HRI.out HMA.out
        exact ⟨vC, vE, vR, vS, vY, media_mid hM mb.mid⟩
      · rw [if_neg hji] at hr hm
        exact HRS.out.2.2.2 j r m hr hm) (HUW.out W hW) (by have h1 := (HUW.out W hW).size; rw [HN.out] at h1; exact h1)⟩
     have HB10 : Hid (Below w10.heap.size w10 w10) := Lib.hid (Below.refl _ _)
     have HPL : Hid (Calls Tryz.prog 29 #[.agg #[.int .u64 d.id, .int .u64 d.ver, .slice A7 l7 c7, .string d.name, .string d.pass, .slice (some ad) nM cM]] w10 (PrintDO w10 { d with bundle := d.bundle ++ [sl] })) := Lib.hid (HPR.out w10 _ _ _ _ HU10.out (HDL.out _ HB10.out) HSL.out)
     have HNT : Hid (PrD { d with bundle := d.bundle ++ [sl] } ⟨#[]⟩ 1) := Lib.hid (PrD.none fun h => by have h1 := h.1; rw [HLB.out] at h1; cases h1)
     have HG1 : Hid (∀ W, Below w10.heap.size w10 W → Calls Tryz.prog 30 #[.agg #[.int .u64 d.id, .int .u64 d.ver, .slice none 0 0, .string d.name, .string d.pass, .slice (some ⟨gA, 0, none⟩) nM kX]] W fun e w' => e = .returned (.bool (decide (i = k))) ∧ Below W.heap.size W w') := Lib.hid fun W hW => by
      have h := deGood_any _ _ _ _ W (HDT.out W hW) HST.out
      rw [HTG.out] at h
      exact h
     have HG2 : Hid (∀ W, Below w10.heap.size w10 W → Calls Tryz.prog 30 #[.agg #[.int .u64 d.id, .int .u64 d.ver, .slice A7 l7 c7, .string d.name, .string d.pass, .slice (some ad) nM cM]] W fun e w' => e = .returned (.bool false) ∧ Below W.heap.size W w') := Lib.hid fun W hW => by
      have h := deGood_any _ _ _ _ W (HDL.out W hW) HSL.out
      rw [HLB.out] at h
      exact h
     have HW1 : Hid (∀ W, Below w10.heap.size w10 W → Whole W g1 62 #[.int .u64 d.id, .int .u64 d.ver, .slice none 0 0, .string d.name, .string d.pass, .slice (some ⟨gA, 0, none⟩) nM kX]) := Lib.hid fun W hW => HT10.out.1.under hW
     have HW2 : Hid (∀ W, Below w10.heap.size w10 W → Whole W g2 62 #[.int .u64 d.id, .int .u64 d.ver, .slice A7 l7 c7, .string d.name, .string d.pass, .slice (some ad) nM cM]) := Lib.hid fun W hW => HT10.out.2.under hW
     have HV10 := Lib.hid (HW2.out _ HB10.out)
     clear hon10 hx10 ho10 H9 hsl hsz HPR HDL HDT HOB HOM hms qs hk8 hn8 hcMi hi1 hi2 hk1 hk2
     go_upto_region 13 with (first
      | ((with_reducible refine wpList_load_all ?_ 62 (.tmp 9) ?_ HV10.out ?_ Tryz.sizeDesc ?_ Tryz.underlying62 ?_ ?_); (with_reducible rfl); (with_reducible rfl); rfl; rfl; rfl)
      | (go_at_call 29; (with_reducible refine HPL.out.mono ?_); rintro e w11 ⟨t, er, rfl, hpr, hb11⟩; obtain ⟨rfl, rfl⟩ := PrD.one hpr HNT.out; have H11 : Hid (Below w10.heap.size w10 w11) := Lib.hid hb11; clear hpr hb11; dsimp only))
     have HV11 := Lib.hid (HW1.out _ H11.out)
     by_cases hik : i = k
     · subst hik
       have hd : decide (i = i) = true := by simp
       rw [hd] at HG1
       clear hd
       go_wp2_with (first
        | ((with_reducible refine wpList_load_all ?_ 62 (.tmp 8) ?_ HV11.out ?_ Tryz.sizeDesc ?_ Tryz.underlying62 ?_ ?_); (with_reducible rfl); (with_reducible rfl); rfl; rfl; rfl)
        | (go_at_call 30; (with_reducible refine (HG1.out _ H11.out).mono ?_); rintro e w12 ⟨rfl, hb12⟩; have H12 : Hid (Below w10.heap.size w10 w12) := Lib.hid (below_chain (Nat.le_refl _) H11.out hb12); clear hb12; have HV12 := Lib.hid (HW2.out _ H12.out); dsimp only)
        | ((with_reducible refine wpList_load_allG ?_ 62 (.tmp 9) ?_ HV12.out ?_ Tryz.sizeDesc ?_ Tryz.underlying62 ?_ ?_); rfl; (with_reducible rfl); rfl; rfl; rfl)
        | (go_at_call 30; (with_reducible refine (HG2.out _ H12.out).mono ?_); rintro e w13 ⟨rfl, hb13⟩; have H13 : Hid (Below w10.heap.size w10 w13) := Lib.hid (below_chain (Nat.le_refl _) H12.out hb13); clear hb13; dsimp only))
       go_ret
       exact ⟨rfl, by rw [HN.out]; exact HUW.out _ H13.out⟩
     · have hd : decide (i = k) = false := by simp [hik]
       rw [hd] at HG1
       have hq : ((i : Int) == (k : Int)) = false := by rw [beq_eq_false_iff_ne]; omega
       clear hd hik
       go_wp2_with (first
        | ((with_reducible refine wpList_load_all ?_ 62 (.tmp 8) ?_ HV11.out ?_ Tryz.sizeDesc ?_ Tryz.underlying62 ?_ ?_); (with_reducible rfl); (with_reducible rfl); rfl; rfl; rfl)
        | (go_at_call 30; (with_reducible refine (HG1.out _ H11.out).mono ?_); rintro e w12 ⟨rfl, hb12⟩; have H12 : Hid (Below w10.heap.size w10 w12) := Lib.hid (below_chain (Nat.le_refl _) H11.out hb12); clear hb12; have HV12 := Lib.hid (HW2.out _ H12.out); dsimp only)
        | ((with_reducible refine wpList_load_allG ?_ 62 (.tmp 9) ?_ HV12.out ?_ Tryz.sizeDesc ?_ Tryz.underlying62 ?_ ?_); rfl; (with_reducible rfl); rfl; rfl; rfl)
        | (go_at_call 30; (with_reducible refine (HG2.out _ H12.out).mono ?_); rintro e w13 ⟨rfl, hb13⟩; have H13 : Hid (Below w10.heap.size w10 w13) := Lib.hid (below_chain (Nat.le_refl _) H12.out hb13); clear hb13; dsimp only))
       go_ret
       exact ⟨rfl, by rw [HN.out]; exact HUW.out _ H13.out⟩
end Go.Proofs.YtbbedhecfipdjaaGreatDoor
