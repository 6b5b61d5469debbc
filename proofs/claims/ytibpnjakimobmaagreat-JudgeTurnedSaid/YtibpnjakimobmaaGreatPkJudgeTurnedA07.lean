import Derived.Test.YtibpnjakimobmaaGreatPkJudgeTurnedA00
import Derived.Deep.Slices
import Derived.Deep.Fields
import Derived.OpenShut
import Derived.ChangeOld
import Derived.ChangeSame
import Derived.SizedLaws
import Derived.HandedShaped
import Derived.Test.YtibpnjakimobmaaGreatPkJudgeTurnedA03
import Derived.Test.YtibpnjakimobmaaGreatPkJudgeTurnedA06
import Derived.Test.YtibpnjakimobmaaGreatPkJudgeTurnedA01
import Derived.Deep.CutBlock
import Derived.Great.Walk
import Derived.Great.BuildSlice
namespace Go.Proofs.YtibpnjakimobmaaGreat
open Go.RowKit
set_option linter.unusedVariables false
set_option linter.unusedSimpArgs false
section
variable {w : World} {base : Nat} {e : TypeId} {sz : Nat} {v : Value} {ks rs : List (List Value)}
theorem run_appendRows {T : TypeId} {z : Value} {by_ : Nat} (ty : TypeId) (hT : Tryz.prog.underlying T = some (.slice e)) (hi : (Tryz.prog.info? e).map (fun i => (i.zero, i.size, i.bytes)) = some (some z, sz, by_)) (hz : z.cells.size = sz) (hsz : 0 < sz) (hown : Own w base e sz v ks)
 {A : Option Addr} {n c : Nat} (hA : A = none → c = 0) (hnc : n ≤ c) (hn : rs.length = n) (hr : ∀ r ∈ rs, r.length = sz) (hu : ∀ r ∈ rs, ∀ u ∈ r, u.oneCell' = true)
 (hL : ∀ ad, A = some ad → ∀ i r, rs[i]? = some r → ∀ j, j < sz → w.cell? (ad.add (i * sz + j)) = r[j]?) (h63 : (ks.length + n) * by_ ≤ 140737488355328) (h64 : ks.length + n ≤ 140737488355328) (hbase : base ≤ w.heap.size) :
 ∃ v' w', (Builtin.append_ #[T, T] ty #[v, .slice A n c]).run Tryz.prog w = .ok v' w' ∧ Own w' base e sz v' (ks ++ rs) ∧ w.grownBy w' v.ownBlock ∧ (v'.ownBlock = v.ownBlock ∨ v'.ownBlock = some w.heap.size) := by
 obtain ⟨i0, hi0, hz0, hz1, hz2⟩ := info_parts hi
 cases A with
 | none =>
   have hc := hA rfl
   subst hc
   obtain rfl : n = 0 := by omega
   obtain rfl : rs = [] := List.eq_nil_of_length_eq_zero hn
   refine ⟨v, w, run_append_owned_none (P := Tryz.prog) (w := w) base T ty e i0 sz hT hi0 v ks.length ks.flatten hown.1, by rw [List.append_nil]; exact hown, ⟨rfl, rfl, rfl, Nat.le_refl _, fun _ _ _ => rfl⟩, .inl rfl⟩
 | some ad =>
   have hfl : rs.flatten.length = n * sz := by rw [flatten_len hr, hn]
   obtain ⟨v', w', hrun, h2, h3, _, h5⟩ := run_append_own_at (P := Tryz.prog) w base T ty e i0 z sz by_ hT hi0 hz0 hz1 hz2 hz (by omega) v ks.length ks.flatten hown.1 ad n c rs.flatten hfl
    (fun j u hj => by
      have hjl : j < n * sz := by rw [← hfl]; exact (List.getElem?_eq_some_iff.1 hj).1
      have hq : j / sz < rs.length := by rw [hn]; exact Nat.div_lt_of_lt_mul (by rw [Nat.mul_comm]; exact hjl)
      have hx := List.getElem?_eq_getElem hq
      have hm : j % sz < sz := Nat.mod_lt j hsz
      have hf := flatten_at hr hx hm
      have e2 : j / sz * sz + j % sz = j := Nat.div_add_mod' j sz
      rw [e2] at hf
      have := hL ad rfl (j / sz) _ hx (j % sz) hm
      rw [e2] at this
      rw [this, ← hf]
      exact hj)
    (fun u hu2 => by
      obtain ⟨r, hr2, hur⟩ := List.mem_flatten.1 hu2
      exact hu r hr2 u hur) (by unfold maxLen; omega) h63 hbase
   refine ⟨v', w', hrun, ⟨?_, fun q hq => ?_⟩, h3, h5⟩
   · rw [List.flatten_append, List.length_append, hn]
     exact h2
   · rcases List.mem_append.1 hq with hq | hq
     · exact hown.2 q hq
     · exact hr q hq
theorem wp_appendRows {o : Oper} {a : Act} {K : Act → World → Prop} {Q : Exit → Act → World → Prop} {T : TypeId} {z : Value} {by_ : Nat} (s y : Operand) (ho : o.op = .call { callee := .builtin .append, args := #[s, y], argTypes := #[T, T] })
 (hT : Tryz.prog.underlying T = some (.slice e)) (hi : (Tryz.prog.info? e).map (fun i => (i.zero, i.size, i.bytes)) = some (some z, sz, by_)) (hz : z.cells.size = sz) (hsz : 0 < sz) (hs : a.eval s = v) (hown : Own w base e sz v ks)
 {A : Option Addr} {n c : Nat} (hy : a.eval y = .slice A n c) (hA : A = none → c = 0) (hnc : n ≤ c) (hn : rs.length = n) (hr : ∀ r ∈ rs, r.length = sz) (hu : ∀ r ∈ rs, ∀ u ∈ r, u.oneCell' = true)
 (hL : ∀ ad, A = some ad → ∀ i r, rs[i]? = some r → ∀ j, j < sz → w.cell? (ad.add (i * sz + j)) = r[j]?) (h63 : (ks.length + n) * by_ ≤ 140737488355328) (h64 : ks.length + n ≤ 140737488355328) (hbase : base ≤ w.heap.size)
 (h : ∀ v' w', Own w' base e sz v' (ks ++ rs) → w.grownBy w' v.ownBlock → (v'.ownBlock = v.ownBlock ∨ v'.ownBlock = some w.heap.size) → K (a.put o.dst v') w') : o.wp Tryz.prog a w K Q := by
 obtain ⟨v', w', hrun, h2, h3, h4⟩ := run_appendRows o.type hT hi hz hsz hown hA hnc hn hr hu hL h63 h64 hbase
 unfold Oper.wp execOp
 simp only [ho, resolve, invoke, builtin, Sem.run_bind, Sem.run_pure, Result.andThen_ok, List.map_toArray, List.map_cons, List.map_nil, hs, hy, hrun]
 exact h v' w' h2 h3 h4
theorem wpList_appendRows {ops : Array Oper} {rest : List Oper} {o : Oper} {a : Act} {Q : Exit → Act → World → Prop} (hgd : o.guard = none) {T : TypeId} {z : Value} {by_ : Nat} (s y : Operand) (ho : o.op = .call { callee := .builtin .append, args := #[s, y], argTypes := #[T, T] })
 (hT : Tryz.prog.underlying T = some (.slice e)) (hi : (Tryz.prog.info? e).map (fun i => (i.zero, i.size, i.bytes)) = some (some z, sz, by_)) (hz : z.cells.size = sz) (hsz : 0 < sz) (hs : a.eval s = v) (hown : Own w base e sz v ks)
 {A : Option Addr} {n c : Nat} (hy : a.eval y = .slice A n c) (hA : A = none → c = 0) (hnc : n ≤ c) (hn : rs.length = n) (hr : ∀ r ∈ rs, r.length = sz) (hu : ∀ r ∈ rs, ∀ u ∈ r, u.oneCell' = true)
 (hL : ∀ ad, A = some ad → ∀ i r, rs[i]? = some r → ∀ j, j < sz → w.cell? (ad.add (i * sz + j)) = r[j]?) (h63 : (ks.length + n) * by_ ≤ 140737488355328) (h64 : ks.length + n ≤ 140737488355328) (hbase : base ≤ w.heap.size)
 (h : ∀ v' w', Own w' base e sz v' (ks ++ rs) → w.grownBy w' v.ownBlock → (v'.ownBlock = v.ownBlock ∨ v'.ownBlock = some w.heap.size) → wpList Tryz.prog ops Q rest (a.put o.dst v') w') : wpList Tryz.prog ops Q (o :: rest) a w :=
 wpList_plain hgd fun _ hK => wp_appendRows s y ho hT hi hz hsz hs hown hy hA hnc hn hr hu hL h63 h64 hbase fun v' w' h2 h3 h4 => hK _ _ (h v' w' h2 h3 h4)
end
def MaxL (w : World) : Prop := ∃ m, w.cell? ⟨0, 0, none⟩ = some (.int .i64 m)
theorem MaxL.under {w w' : World} (h : MaxL w) (hb : Below w.heap.size w w') : MaxL w' := by
 obtain ⟨m, hm⟩ := h
 exact ⟨m, (hb.cell (p := ⟨0, 0, none⟩) (block_lt_of_cell hm)).trans hm⟩
theorem MaxL.below {w w' : World} {B : Nat} (h : MaxL w) (hb : Below B w w') (hB : 0 < B) : MaxL w' := by
 obtain ⟨m, hm⟩ := h
 exact ⟨m, (hb.cell (p := ⟨0, 0, none⟩) hB).trans hm⟩
theorem MaxL.lt {w : World} (h : MaxL w) : 0 < w.heap.size := by
 obtain ⟨m, hm⟩ := h
 exact block_lt_of_cell hm
end Go.Proofs.YtibpnjakimobmaaGreat
namespace Go.Proofs.YtibpnjakimobmaaGreat
open Go.RowKit Go.ChangeShapes Go.WideShapes Go.ChangeAt Go.Deep
set_option linter.unusedVariables false
section
variable {H : Type} {enc : TypeId × Value → H} {P : Program} {w : World} {base : Nat} {spare : Nat → Bool} {held : Bool}
theorem weights_mem_all {e : TypeId} {ds : List (DataW H)} {d : DataW H} (h : d ∈ ds) : ∀ n ∈ d.weights P e, n ∈ DataW.weightsAll P e ds := by
 induction ds with
 | nil => cases h
 | cons d0 r ih =>
   intro n hn
   simp only [DataW.weightsAll, List.mem_append]
   rcases List.mem_cons.1 h with rfl | h
   · exact .inl hn
   · exact .inr (ih h n hn)
end
theorem pick {α : Type} {n : Nat} {R : Nat → α → Prop} (h : ∀ i, i < n → ∃ a, R i a) : ∃ L : List α, L.length = n ∧ ∀ i a, L[i]? = some a → R i a := by
 induction n with
 | zero => exact ⟨[], rfl, fun i a e => by simp at e⟩
 | succ n ih =>
   obtain ⟨L, hL, hl⟩ := ih (fun i hi => h i (by omega))
   obtain ⟨a, ha⟩ := h n (by omega)
   refine ⟨L ++ [a], by simp [hL], fun i b e => ?_⟩
   rw [List.getElem?_append] at e
   split at e
   · exact hl i b e
   · next hn =>
     have hlt := (List.getElem?_eq_some_iff.1 e).1
     have hi : i = n := by simp at hlt; omega
     subst hi
     rw [hL, Nat.sub_self] at e
     obtain rfl : a = b := by simpa using e
     exact ha
section
variable {H : Type} {enc : TypeId × Value → H} {W : World} {base : Nat} {sp : Nat → Bool} {held : Bool}
theorem open_str {fuel : Nat} {v : Value} {x : DataW H × List MemPlace} (h : DataW.trod enc Tryz.prog W base sp held fuel 9 [v] = some x) (hw : ∀ n ∈ x.1.weights Tryz.prog 9, n ≤ 140737488351232) :
 ∃ s : ByteArray, v = .string s ∧ s.size ≤ 140737488351232 := by
 obtain ⟨s, e, hx, _⟩ := DataW.trod_string Tryz.underlying9 h
 refine ⟨s, by simpa using e, ?_⟩
 have := hw s.data.toList.length (by rw [hx]; simp [DataW.weights])
 rw [Array.length_toList] at this
 exact this
end
end Go.Proofs.YtibpnjakimobmaaGreat
namespace Go.Proofs.YtibpnjakimobmaaGreat
open Go.RowKit
set_option linter.unusedVariables false
set_option linter.unusedSimpArgs false
theorem MediasV.rows11 {w : World} {B n c : Nat} {A : Option Addr} {L : List MediaS} (h : MediasV w B (.slice A n c) L) (hn : L.length = n) : ∃ rs : List (List Value), rs.length = n ∧ (∀ r ∈ rs, r.length = 11) ∧ (∀ r ∈ rs, ∀ u ∈ r, u.oneCell' = true) ∧
 (∀ (i : Nat) (r : List Value) (m : MediaS), rs[i]? = some r → L[i]? = some m → ∃ vC vE vR vS vY, MediaV w B r.toArray m vC vE vR vS vY) ∧ ∀ ad, A = some ad → ∀ (i : Nat) (r : List Value), rs[i]? = some r → ∀ j, j < 11 → w.cell? (ad.add (i * 11 + j)) = r[j]? := by
 have hat : ∀ i, i < n → ∃ r : List Value, r.length = 11 ∧ (∀ u ∈ r, u.oneCell' = true) ∧ (∀ m, L[i]? = some m → ∃ vC vE vR vS vY, MediaV w B r.toArray m vC vE vR vS vY) ∧ ∀ ad, A = some ad → ∀ j, j < 11 → w.cell? (ad.add (i * 11 + j)) = r[j]? := fun i hi => by
  have hx := List.getElem?_eq_getElem (l := L) (i := i) (by omega)
  obtain ⟨ad, c', e1, _, _, _, M, vC, vE, vR, vS, vY, hM, hc⟩ := Rows.at_ h hx
  injection e1 with e1 e1n e1c
  refine ⟨M.toList, by rw [Array.length_toList, hM.size], fun u hu => List.all_eq_true.1 hM.one u hu, fun m hm => ?_, fun ad' ha j hj => ?_⟩
  · rw [hx] at hm
    obtain rfl := Option.some.inj hm
    exact ⟨vC, vE, vR, vS, vY, by rw [Array.toArray_toList]; exact hM⟩
  · rw [e1] at ha
    obtain rfl := Option.some.inj ha
    rw [Array.getElem?_toList]
    exact hc j hj
 obtain ⟨rs, hl, hR⟩ := pick hat
 refine ⟨rs, hl, fun r hr => ?_, fun r hr => ?_, fun i r m hi hm => (hR i r hi).2.2.1 m hm, fun ad ha i r hi => (hR i r hi).2.2.2 ad ha⟩
 · obtain ⟨i, hi⟩ := List.getElem?_of_mem hr
   exact (hR i r hi).1
 · obtain ⟨i, hi⟩ := List.getElem?_of_mem hr
   exact (hR i r hi).2.1
theorem CodecsV.rows6 {w : World} {B n c : Nat} {A : Option Addr} {L : List CodecS} (h : CodecsV w B (.slice A n c) L) (hn : L.length = n) : ∃ rs : List (List Value), rs.length = n ∧ (∀ r ∈ rs, r.length = 6) ∧ (∀ r ∈ rs, ∀ u ∈ r, u.oneCell' = true) ∧
 (∀ (i : Nat) (r : List Value) (x : CodecS), rs[i]? = some r → L[i]? = some x → ∃ vf, r = [.int .i64 x.type, .string x.name, .int .i64 x.clock, .int .i64 x.chans, .string x.format, vf] ∧ TextsV w B vf x.feedback) ∧ ∀ ad, A = some ad → ∀ (i : Nat) (r : List Value), rs[i]? = some r → ∀ j, j < 6 → w.cell? (ad.add (i * 6 + j)) = r[j]? := by
 have hat : ∀ i, i < n → ∃ r : List Value, r.length = 6 ∧ (∀ u ∈ r, u.oneCell' = true) ∧ (∀ x, L[i]? = some x → ∃ vf, r = [.int .i64 x.type, .string x.name, .int .i64 x.clock, .int .i64 x.chans, .string x.format, vf] ∧ TextsV w B vf x.feedback) ∧ ∀ ad, A = some ad → ∀ j, j < 6 → w.cell? (ad.add (i * 6 + j)) = r[j]? := fun i hi => by
  have hx := List.getElem?_eq_getElem (l := L) (i := i) (by omega)
  obtain ⟨ad, c', e1, _, _, _, h0, h1, h2, h3, h4, vf, h5, hf⟩ := Rows.at_ h hx
  injection e1 with e1 e1n e1c
  refine ⟨[.int .i64 L[i].type, .string L[i].name, .int .i64 L[i].clock, .int .i64 L[i].chans, .string L[i].format, vf], rfl, fun u hu => ?_, fun x hx2 => ?_, fun ad' ha j hj => ?_⟩
  · simp only [List.mem_cons, List.not_mem_nil, or_false] at hu
    rcases hu with rfl | rfl | rfl | rfl | rfl | rfl
    · rfl
    · rfl
    · rfl
    · rfl
    · rfl
    · exact Rows.one hf
  · rw [hx] at hx2
    obtain rfl := Option.some.inj hx2
    exact ⟨vf, rfl, hf⟩
  · rw [e1] at ha
    obtain rfl := Option.some.inj ha
    match j, hj with
    | 0, _ => exact h0
    | 1, _ => exact h1
    | 2, _ => exact h2
    | 3, _ => exact h3
    | 4, _ => exact h4
    | 5, _ => exact h5
 obtain ⟨rs, hl, hR⟩ := pick hat
 refine ⟨rs, hl, fun r hr => ?_, fun r hr => ?_, fun i r x hi hx => (hR i r hi).2.2.1 x hx, fun ad ha i r hi => (hR i r hi).2.2.2 ad ha⟩
 · obtain ⟨i, hi⟩ := List.getElem?_of_mem hr
   exact (hR i r hi).1
 · obtain ⟨i, hi⟩ := List.getElem?_of_mem hr
   exact (hR i r hi).2.1
theorem TextsV.rows1 {w : World} {B n c : Nat} {A : Option Addr} {L : List ByteArray} (h : TextsV w B (.slice A n c) L) (hn : L.length = n) : (L.map fun s => [Value.string s]).length = n ∧ (∀ r ∈ L.map fun s => [Value.string s], r.length = 1) ∧ (∀ r ∈ L.map fun s => [Value.string s], ∀ u ∈ r, u.oneCell' = true) ∧
 ∀ ad, A = some ad → ∀ (i : Nat) (r : List Value), (L.map fun s => [Value.string s])[i]? = some r → ∀ j, j < 1 → w.cell? (ad.add (i * 1 + j)) = r[j]? := by
 refine ⟨by rw [List.length_map, hn], fun r hr => ?_, fun r hr u hu => ?_, fun ad ha i r hr j hj => ?_⟩
 · obtain ⟨s, -, rfl⟩ := List.mem_map.1 hr
   rfl
 · obtain ⟨s, -, rfl⟩ := List.mem_map.1 hr
   simp only [List.mem_singleton] at hu
   subst hu
   rfl
 · obtain rfl : j = 0 := by omega
   rw [List.getElem?_map] at hr
   obtain ⟨s, hs, rfl⟩ := Option.map_eq_some_iff.1 hr
   have hil := (List.getElem?_eq_some_iff.1 hs).1
   obtain ⟨ad', c', e1, hlt, hc⟩ := h.at_ hil
   injection e1 with e1 _ _
   rw [ha] at e1
   obtain rfl := Option.some.inj e1
   have e2 : L.getD i default = s := by rw [List.getD_eq_getElem?_getD, hs]; rfl
   rw [e2] at hc
   rw [Nat.mul_one, Nat.add_zero]
   exact hc
def Held (w : World) (T : Nat → Prop) (Q : World → Prop) : Prop := ∀ W, Only T w W → Q W
theorem Held.step {w w' : World} {T T' U : Nat → Prop} {Q : World → Prop} (h : Held w T Q) (k : Only U w w') (hu : ∀ j, U j → T j ∨ w.heap.size ≤ j) (hs : ∀ j, T' j → T j ∨ w.heap.size ≤ j) : Held w' T' Q := fun W hW => h W (((Only.refl T w).next k (fun j hj => hu j hj)).next hW hs)
theorem Held.under {w w' : World} {T : Nat → Prop} {Q : World → Prop} (h : Held w T Q) (hb : Below w.heap.size w w') : Held w' T Q := h.step (U := fun _ => False) ⟨hb.os, hb.tape, hb.output, hb.size, fun k hk _ => hb.block k hk⟩ (fun _ e => e.elim) (fun j hj => .inl hj)
theorem Held.mono {w : World} {T T' : Nat → Prop} {Q : World → Prop} (h : Held w T Q) (hs : ∀ j, T' j → T j ∨ w.heap.size ≤ j) : Held w T' Q := h.step (Only.refl (fun _ => False) w) (fun _ e => e.elim) hs
theorem Held.only {w w' : World} {T : Nat → Prop} {Q : World → Prop} (h : Held w T Q) (k : Only T w w') : Held w' T Q := h.step k (fun _ e => .inl e) (fun _ e => .inl e)
theorem Held.imp {w : World} {T : Nat → Prop} {Q Q' : World → Prop} (h : Held w T Q) (hq : ∀ W, Q W → Q' W) : Held w T Q' := fun W hW => hq W (h W hW)
theorem Only.trans {S : Nat → Prop} {a w w' : World} (h : Only S a w) (k : Only S w w') : Only S a w' := h.next k (fun _ e => .inl e)
theorem Tryz.sizeConfig : (Tryz.prog.info? 29).map (·.size) = some 3 := by kernel_rfl
structure ConfV (w : World) (B : Nat) (K : Array Value) (c : ConfigS) (vC vE : Value) : Prop where
 form : K = #[vC, vE, .bool c.data]
 codecs : CodecsV w B vC c.codecs
 exts : TextsV w B vE c.exts
section
variable {w w' : World} {B B' : Nat} {K : Array Value} {c : ConfigS} {vC vE : Value}
theorem ConfV.below (h : ConfV w B K c vC vE) (hb : Below B w w') : ConfV w' B K c vC vE := ⟨h.form, h.codecs.below hb, h.exts.below hb⟩
theorem ConfV.more (h : ConfV w B K c vC vE) (hB : B ≤ B') : ConfV w B' K c vC vE := ⟨h.form, h.codecs.more hB, h.exts.more hB⟩
theorem ConfV.under (h : ConfV w w.heap.size K c vC vE) (hb : Below w.heap.size w w') : ConfV w' w'.heap.size K c vC vE := (h.below hb).more hb.size
theorem ConfV.size (h : ConfV w B K c vC vE) : K.size = 3 := by rw [h.form]; rfl
end
structure SizC (c : ConfigS) : Prop where
 codecs : c.codecs.length ≤ 1759218604390
 exts : c.exts.length ≤ 8796093021952
 feeds : ∀ x ∈ c.codecs, x.feedback.length ≤ 140737488355328
def ComF (c : ConfigS) (o : CodecS) (r : Int) : Prop := (∃ (k : Nat) (x : CodecS), r = k ∧ c.codecs[k]? = some x ∧ ownC c o = some x) ∨ (r = -1 ∧ ownC c o = none)
theorem find_at {α : Type} [Inhabited α] {q : α → Bool} : ∀ {L : List α} {k : Nat} {x : α}, L[k]? = some x → (∀ j, j < k → q (L.getD j default) = false) → q x = true → L.find? q = some x
 | [], k, x, h, _, _ => by cases h
 | a :: L, 0, x, h, _, hq => by
   obtain rfl := Option.some.inj h
   rw [List.find?_cons, hq]
 | a :: L, k + 1, x, h, hno, hq => by
   rw [List.find?_cons, show q a = false from hno 0 (by omega)]
   exact find_at (k := k) h (fun j hj => hno (j + 1) (by omega)) hq
theorem find_no {α : Type} [Inhabited α] {q : α → Bool} : ∀ {L : List α} {n : Nat}, L.length = n → (∀ j, j < n → q (L.getD j default) = false) → L.find? q = none
 | [], _, _, _ => rfl
 | a :: L, n, hn, h => by
   rw [List.find?_cons, show q a = false from h 0 (by rw [← hn]; simp)]
   exact find_no (n := n - 1) (by rw [← hn]; simp) (fun j hj => h (j + 1) (by omega))
structure Fix (w W : World) (b : Nat) (D M K Y Z : Array Value) : Prop where
 low : Below b w W
 d : Whole W b 26 D
 m : Whole W (b + 1) 44 M
 k : Whole W (b + 2) 29 K
 y : Whole W (b + 3) 30 Y
 z : Whole W (b + 4) 44 Z
section
variable {w W W' : World} {b : Nat} {D M K Y Z : Array Value}
theorem Fix.le (h : Fix w W b D M K Y Z) : b + 5 ≤ W.heap.size := h.z.lt
theorem Fix.only {T : Nat → Prop} (h : Fix w W b D M K Y Z) (k : Only T W W') (hT : ∀ j, T j → b + 5 ≤ j) : Fix w W' b D M K Y Z :=
 ⟨h.low.trans (k.below (fun j hj => by have := hT j hj; omega) (by have := h.le; omega)), h.d.only k (fun e => by have := hT _ e; omega), h.m.only k (fun e => by have := hT _ e; omega), h.k.only k (fun e => by have := hT _ e; omega), h.y.only k (fun e => by have := hT _ e; omega), h.z.only k (fun e => by have := hT _ e; omega)⟩
theorem Fix.under (h : Fix w W b D M K Y Z) (hb : Below W.heap.size W W') : Fix w W' b D M K Y Z :=
 ⟨h.low.trans (hb.mono (by have := h.le; omega)), h.d.under hb, h.m.under hb, h.k.under hb, h.y.under hb, h.z.under hb⟩
end
theorem Held.texts {w : World} {base : Nat} {v : Value} {L : List ByteArray} {T : Nat → Prop} (h : Own w base 9 1 v (L.map tcell)) (hT : ∀ k, v.ownBlock = some k → ¬ T k) : Held w T (fun W => TextsV W W.heap.size v L) := fun W hW => (h.keep fun g cs hg hw => hw.only hW (hT g hg)).texts (Nat.le_refl _)
theorem boxesKC (w : World) (K C : Array Value) : Below w.heap.size w ((w.alloc (.cells K 29)).alloc (.cells C 47)) ∧ Whole ((w.alloc (.cells K 29)).alloc (.cells C 47)) w.heap.size 29 K ∧ Whole ((w.alloc (.cells K 29)).alloc (.cells C 47)) (w.heap.size + 1) 47 C :=
 ⟨two_new _ _ _ _, (Whole.new w _ _).alloc _, Whole.new2 _ _ _ _⟩
theorem boxesDMK (w : World) (D M K : Array Value) : Below w.heap.size w (((w.alloc (.cells D 26)).alloc (.cells M 44)).alloc (.cells K 29)) ∧ Whole (((w.alloc (.cells D 26)).alloc (.cells M 44)).alloc (.cells K 29)) w.heap.size 26 D ∧ Whole (((w.alloc (.cells D 26)).alloc (.cells M 44)).alloc (.cells K 29)) (w.heap.size + 1) 44 M ∧ Whole (((w.alloc (.cells D 26)).alloc (.cells M 44)).alloc (.cells K 29)) (w.heap.size + 2) 29 K := by
 have h2 := Whole.new2 w (.cells D 26) 44 M
 have h3 := Whole.new ((w.alloc (.cells D 26)).alloc (.cells M 44)) 29 K
 rw [World.size_alloc, World.size_alloc] at h3
 exact ⟨(two_new _ _ _ _).alloc (two_new 26 44 D M).size _, ((Whole.new w _ _).alloc _).alloc _, h2.alloc _, h3⟩
set_option maxHeartbeats 3200000 in
set_option maxRecDepth 100000 in
theorem r9common_any (K C : Array Value) (c : ConfigS) (o : CodecS) (vC vE : Value) (w : World) (hK : ConfV w w.heap.size K c vC vE) (hs : SizC c) (h1 : C[1]? = some (.string o.name)) (h2 : C[2]? = some (.int .i64 o.clock)) (h3 : C[3]? = some (.int .i64 o.chans)) :
 Calls Tryz.prog 18 #[.agg K, .agg C] w fun e w' => ∃ r : Int, e = .returned (.int .i64 r) ∧ ComF c o r ∧ Below w.heap.size w w' := by
 obtain ⟨hb0, hbk, hbc⟩ := boxesKC w K C
 obtain ⟨A, kc, rfl, hcA, hmA, -⟩ := Rows.form hK.codecs
 obtain ⟨n, hn⟩ : ∃ n, c.codecs.length = n := ⟨_, rfl⟩
 have hn2 : n ≤ 1759218604390 := by rw [← hn]; exact hs.codecs
 rw [hn] at hK
 have HK0 : Hid (K[0]? = some (.slice A n kc)) := Lib.hid (by rw [hK.form]; rfl)
 have HCV := Lib.hid hK.codecs
 have HE := Lib.hid hn
 have HC := Lib.hid (And.intro h1 (And.intro h2 h3))
 obtain ⟨q, hq⟩ : ∃ q : CodecS → Bool, (fun y : CodecS => y.name.toList == o.name.toList && (y.clock == o.clock && y.chans == o.chans)) = q := ⟨_, rfl⟩
 have HQ : Hid (ownC c o = c.codecs.find? q) := Lib.hid (by
  unfold ownC
  congr 1
  funext y
  rw [← hq]
  unfold alikeC
  show _ = (y.name.toList == o.name.toList && (y.clock == o.clock && y.chans == o.chans))
  rw [toList_tx, toList_tx, Bool.eq_iff_iff]
  simp [and_assoc])
 have HQ2 : Hid (∀ y : CodecS, q y = (y.name.toList == o.name.toList && (y.clock == o.clock && y.chans == o.chans))) := Lib.hid fun y => by rw [← hq]
 obtain ⟨N, hN⟩ : ∃ N, w.heap.size = N := ⟨_, rfl⟩
 have H0 := Lib.hid (And.intro hb0 (And.intro hbk hbc))
 rw [hN] at H0 HCV
 have HN := Lib.hid hN
 clear hb0 hbk hbc hK hs h1 h2 h3 hn hq hN
 go_enter Tryz.func18, Tryz.ntmps18
 go_upto_region 1 with fail
 simp only [HN.out, Nat.add_assoc, Nat.reduceAdd]
 generalize ((w.alloc (.cells K 29)).alloc (.cells C 47)) = W0 at *
 have k0 : W0.cell? ⟨N, 0, none⟩ = some (.slice A n kc) := (H0.out.2.1.cell 0).trans HK0.out
 go_wp2
 clear k0
 go_loopw [9] (fun s9 wr => ∃ k : Nat, k ≤ n ∧ s9 = .int .i64 k ∧ (∀ j, j < k → q (c.codecs.getD j default) = false) ∧ Below W0.heap.size W0 wr) (fun s9 _ => n - (intOf s9).toNat)
 case atStart => exact ⟨0, by omega, rfl, (fun j hj => by omega), Below.refl _ _⟩
 case round =>
  obtain ⟨k, hk, rfl, hno, hb⟩ := hrel
  have HS := Lib.hid (And.intro hno hb)
  have HBN : Hid (Below N w wr) := Lib.hid (H0.out.1.trans (hb.mono (Nat.le_of_lt H0.out.2.1.lt)))
  have k0 : wr.cell? ⟨N, 0, none⟩ = some (.slice A n kc) := ((H0.out.2.1.under hb).cell 0).trans HK0.out
  have o1 : wr.cell? ⟨N + 1, 1, none⟩ = some (.string o.name) := ((H0.out.2.2.under hb).cell 1).trans HC.out.1
  have o2 : wr.cell? ⟨N + 1, 2, none⟩ = some (.int .i64 o.clock) := ((H0.out.2.2.under hb).cell 2).trans HC.out.2.1
  have o3 : wr.cell? ⟨N + 1, 3, none⟩ = some (.int .i64 o.chans) := ((H0.out.2.2.under hb).cell 3).trans HC.out.2.2
  clear hno hb
  by_cases hlt : k < n
  · have hlt' : k < c.codecs.length := by rw [HE.out]; exact hlt
    obtain ⟨ad, c', vf, e1, had, c0, c1, c2, c3, c4, c5, -⟩ := (HCV.out.below HBN.out).at_ hlt'
    injection e1 with e1 e1n e1c
    clear e1n e1c
    subst e1
    obtain ⟨x, hx⟩ : ∃ x, c.codecs.getD k default = x := ⟨_, rfl⟩
    rw [hx] at c1 c2 c3
    have HX : Hid (c.codecs.getD k default = x ∧ c.codecs[k]? = some x) := Lib.hid ⟨hx, by rw [← hx]; exact getD_of hlt'⟩
    obtain ⟨b1, hb1⟩ : ∃ b, (x.name.toList == o.name.toList) = b := ⟨_, rfl⟩
    obtain ⟨b2, hb2⟩ : ∃ b, (x.clock == o.clock) = b := ⟨_, rfl⟩
    obtain ⟨b3, hb3⟩ : ∃ b, (x.chans == o.chans) = b := ⟨_, rfl⟩
    have HB : Hid (q x = (b1 && (b2 && b3))) := Lib.hid (by rw [HQ2.out, hb1, hb2, hb3])
    have hk0 : (0 : Int) ≤ (k : Int) := by omega
    have hk1 : (k : Int) < (n : Int) := by omega
    have HNX : Hid (q x = false → ∀ m, (∃ k' : Nat, k' ≤ n ∧ Value.int .i64 ((k : Int) + 1) = .int .i64 k' ∧ (∀ j, j < k' → q (c.codecs.getD j default) = false) ∧ Below W0.heap.size W0 (wr.drewN m))) := Lib.hid fun hf m => ⟨k + 1, by omega, by go_num, fun j hj => by
     by_cases e : j = k
     · subst e
       rw [HX.out.1]
       exact hf
     · exact HS.out.1 j (by omega), below_drewN' HS.out.2 _⟩
    clear hx hlt' had c0 c4 c5
    cases b1 with
    | false =>
      go_upto_region 4 with fail
      go_quiet (fail)
      go_wp2
      go_roundw
      case rel => exact HNX.out HB.out _
      case measure => simp [intOf]; omega
    | true =>
      cases b2 with
      | false =>
        go_upto_region 4 with fail
        go_quiet (fail)
        go_wp2
        go_roundw
        case rel => exact HNX.out HB.out _
        case measure => simp [intOf]; omega
      | true =>
        cases b3 with
        | false =>
          go_upto_region 4 with fail
          go_quiet (fail)
          go_wp2
          go_roundw
          case rel => exact HNX.out HB.out _
          case measure => simp [intOf]; omega
        | true =>
          go_upto_region 4 with fail
          go_quiet (fail)
          go_wp2
          go_ret
          exact ⟨_, rfl, .inl ⟨k, x, rfl, HX.out.2, by rw [HQ.out]; exact find_at HX.out.2 HS.out.1 HB.out⟩, by rw [HN.out]; exact below_drewN' HBN.out _⟩
  · have e : k = n := by omega
    subst e
    go_wp2
    go_ret
    exact ⟨_, rfl, .inr ⟨rfl, by rw [HQ.out]; exact find_no HE.out HS.out.1⟩, by rw [HN.out]; exact HBN.out⟩
theorem common_next {c : ConfigS} {L : List CodecS} {i : Nat} {x : CodecS} (h : L[i]? = some x) : commonC c (L.take (i + 1)) = commonC c (L.take i) ++ (match ownC c x with | none => [] | some y => [withF x y]) := by
 unfold commonC
 rw [List.take_add_one, h, List.filterMap_append]
 congr 1
 cases hq : ownC c x <;> simp [hq]
set_option maxHeartbeats 6400000 in
set_option maxRecDepth 100000 in
theorem r9refused_any (D M K : Array Value) (d : DescS) (m : MediaS) (c : ConfigS) (vB vM vC vE vR vS vY kC kE : Value) (w : World) (hD : DescV w w.heap.size D d vB vM) (hM : MediaV w w.heap.size M m vC vE vR vS vY) (hK : ConfV w w.heap.size K c kC kE) (hs : SizC c) (hlb : d.bundle.length ≤ 8796093021952) (hz : SizM m) :
 Calls Tryz.prog 17 #[.agg D, .agg M, .agg K] w fun e w' => e = .returned (.bool (!takenA d.bundle c m)) ∧ Below w.heap.size w w' := by
 obtain ⟨hb0, hbd, hbm, hbk⟩ := boxesDMK w D M K
 obtain ⟨AB, cB, rfl, -⟩ := Rows.form hD.bundle
 obtain ⟨AC, cC, rfl, hcC, hmC, -⟩ := Rows.form hM.codecs
 obtain ⟨AY, cY, rfl, -⟩ := Rows.form hM.crypto
 obtain ⟨nB, hnB⟩ : ∃ n, d.bundle.length = n := ⟨_, rfl⟩
 obtain ⟨nC, hnC⟩ : ∃ n, m.codecs.length = n := ⟨_, rfl⟩
 obtain ⟨nY, hnY⟩ : ∃ n, m.crypto.length = n := ⟨_, rfl⟩
 rw [hnB] at hD hlb
 rw [hnC, hnY] at hM
 have hc47 : nC ≤ 1759218604390 := by rw [← hnC]; exact hz.counts.1
 have HD2 : Hid (D[2]? = some (.slice AB nB cB)) := Lib.hid (by rw [hD.form]; rfl)
 have HMC : Hid (M[0]? = some (.int .i64 m.kind) ∧ M[1]? = some (.int .i64 m.port) ∧ M[2]? = some (.string m.mid) ∧ M[4]? = some (.slice AC nC cC) ∧ M[9]? = some (.slice AY nY cY)) := Lib.hid (by rw [hM.form]; exact ⟨rfl, rfl, rfl, rfl, rfl⟩)
 have HK2 : Hid (K[2]? = some (.bool c.data)) := Lib.hid (by rw [hK.form]; rfl)
 have HL := Lib.hid (And.intro hnB (And.intro hnC hnY))
 have HTB := Lib.hid hD.bundle
 have HCV := Lib.hid hM.codecs
 have HKV := Lib.hid hK
 have HKS : Hid ((Tryz.prog.info? 29).map (·.size) = some K.toList.length) := Lib.hid (by rw [Tryz.sizeConfig, Array.length_toList, hK.size])
 have HSC := Lib.hid hs
 have HIN : Hid (∀ W, Below w.heap.size w W → Calls Tryz.prog 13 #[.slice AB nB cB, .string m.mid] W fun e w' => e = .returned (.int .i64 (placeT d.bundle m.mid)) ∧ w' = W) := Lib.hid fun W hW => rIn_q AB nB cB m.mid d.bundle W ((hD.bundle.below hW).more hW.size) hnB (by omega)
 obtain ⟨bp, hbp⟩ : ∃ b, (m.port == 0) = b := ⟨_, rfl⟩
 have HR : Hid ((!takenA d.bundle c m) = (bp || (!inT d.bundle m.mid || !ableA c m))) := Lib.hid (by
  unfold takenA
  rw [← hbp, Bool.eq_iff_iff]
  simp
  by_cases h : m.port = 0 <;> simp [h])
 generalize (!takenA d.bundle c m) = r at *
 obtain ⟨N, hN⟩ : ∃ N, w.heap.size = N := ⟨_, rfl⟩
 have H0 := Lib.hid (And.intro hb0 (And.intro hbd (And.intro hbm hbk)))
 rw [hN] at H0 HTB HCV HKV HIN
 have HN := Lib.hid hN
 clear hb0 hbd hbm hbk hD hM hK hs hnB hnC hnY hN hlb hz
 go_enter Tryz.func17, Tryz.ntmps17
 go_upto_region 1 with fail
 simp only [HN.out, Nat.add_assoc, Nat.reduceAdd]
 generalize (((w.alloc (.cells D 26)).alloc (.cells M 44)).alloc (.cells K 29)) = W0 at *
 have HN0 : Hid (N ≤ W0.heap.size) := Lib.hid (Nat.le_of_lt H0.out.2.1.lt)
 have d2 : W0.cell? ⟨N, 2, none⟩ = some (.slice AB nB cB) := (H0.out.2.1.cell 2).trans HD2.out
 have m0 : W0.cell? ⟨N + 1, 0, none⟩ = some (.int .i64 m.kind) := (H0.out.2.2.1.cell 0).trans HMC.out.1
 have m1 : W0.cell? ⟨N + 1, 1, none⟩ = some (.int .i64 m.port) := (H0.out.2.2.1.cell 1).trans HMC.out.2.1
 have m2 : W0.cell? ⟨N + 1, 2, none⟩ = some (.string m.mid) := (H0.out.2.2.1.cell 2).trans HMC.out.2.2.1
 have m4 : W0.cell? ⟨N + 1, 4, none⟩ = some (.slice AC nC cC) := (H0.out.2.2.1.cell 4).trans HMC.out.2.2.2.1
 have k2 : W0.cell? ⟨N + 2, 2, none⟩ = some (.bool c.data) := (H0.out.2.2.2.cell 2).trans HK2.out
 cases bp with
 | true =>
   go_wp2
   go_ret
   exact ⟨ret_bool (by rw [HR.out]; rfl), by rw [HN.out]; exact H0.out.1⟩
 | false =>
   have HI0 := Lib.hid (HIN.out W0 H0.out.1)
   cases hin : inT d.bundle m.mid with
   | false =>
     have hp := place_out hin
     rw [hin] at HR
     clear hin
     generalize placeT d.bundle m.mid = pl at *
     go_wp2_with (go_at_call 13; (with_reducible refine HI0.out.mono ?_); rintro e w1 ⟨rfl, rfl⟩)
     go_ret
     exact ⟨ret_bool (by rw [HR.out]; rfl), by rw [HN.out]; exact H0.out.1⟩
   | true =>
     have hp := place_in hin
     rw [hin] at HR
     clear hin
     have HR2 : Hid (r = !ableA c m) := Lib.hid (by rw [HR.out]; simp)
     clear HR
     generalize placeT d.bundle m.mid = pl at *
     by_cases h3 : m.kind = 3
     · have h3' : (m.kind == 3) = true := by simpa using h3
       have HR3 : Hid (r = !c.data) := Lib.hid (by rw [HR2.out]; unfold ableA; rw [if_pos h3])
       clear h3
       generalize m.kind = mk at *
       go_wp2_with (go_at_call 13; (with_reducible refine HI0.out.mono ?_); rintro e w1 ⟨rfl, rfl⟩)
       go_ret
       exact ⟨ret_bool HR3.out.symm, by rw [HN.out]; exact H0.out.1⟩
     · have h3' : (m.kind == 3) = false := by simpa using h3
       have HR3 : Hid (r = ((commonC c m.codecs).isEmpty || m.crypto.isEmpty)) := Lib.hid (by rw [HR2.out]; unfold ableA; rw [if_neg h3]; simp)
       clear h3 HR2
       generalize m.kind = mk at *
       go_upto_region 5 with (go_at_call 13; (with_reducible refine HI0.out.mono ?_); rintro e W0 ⟨rfl, rfl⟩)
       go_wp2
       clear d2 m0 m1 m2 m4 k2
       go_loopw [29, 7] (fun s29 s7 wr => ∃ i t : Nat, i ≤ nC ∧ t ≤ i ∧ s29 = .int .i64 (i : Int) ∧ s7 = .int .i64 (t : Int) ∧ ((t = 0 ↔ commonC c (m.codecs.take i) = []) ∧ Below W0.heap.size W0 wr)) (fun s29 _ _ => nC - (intOf s29).toNat)
       case atStart => exact ⟨0, 0, Nat.zero_le _, Nat.le_refl _, rfl, rfl, ⟨fun _ => rfl, fun _ => rfl⟩, Below.refl _ _⟩
       case round =>
        obtain ⟨i, t, hi, hti, rfl, rfl, hst⟩ := hrel
        have HT := Lib.hid hst
        clear hst
        have HBN : Hid (Below N w wr) := Lib.hid (H0.out.1.trans (HT.out.2.mono HN0.out))
        have HNR : Hid (N ≤ wr.heap.size) := Lib.hid (Nat.le_trans HN0.out HT.out.2.size)
        by_cases hlt : i < nC
        · obtain ⟨ad, c', C, vf, e1, had, hC, hcs⟩ := (HCV.out.below HBN.out).cells (i := i) (by rw [HL.out.2.1]; exact hlt)
          injection e1 with e1 e1n e1c
          clear e1n e1c
          subst e1
          obtain ⟨x, hx⟩ : ∃ s, m.codecs.getD i default = s := ⟨_, rfl⟩
          have hxi : m.codecs[i]? = some x := by rw [← hx]; exact getD_of (by rw [HL.out.2.1]; exact hlt)
          rw [hx] at hC
          have HNX := Lib.hid (common_next (c := c) hxi)
          have hi0 : (0 : Int) ≤ (i : Int) := by omega
          have hi1 : (i : Int) < (nC : Int) := by omega
          have HA5 : Hid (∀ W, Below wr.heap.size wr W → W.cell? ⟨N + 1, 4, none⟩ = some (.slice (some ad) nC cC)) := Lib.hid fun W hW => ((H0.out.2.2.1.under (HT.out.2.trans (hW.mono HT.out.2.size))).cell 4).trans HMC.out.2.2.2.1
          have HKL : Hid (∀ W, Below wr.heap.size wr W → ∀ j u, K.toList[j]? = some u → W.cell? ((⟨N + 2, 0, none⟩ : Addr).add j) = some u) := Lib.hid fun W hW j u hu => by
           rw [Addr.add_lit, Nat.zero_add, (H0.out.2.2.2.under (HT.out.2.trans (hW.mono HT.out.2.size))).cell j, ← Array.getElem?_toList]
           exact hu
          have HCL : Hid (∀ W, Below wr.heap.size wr W → ∀ j u, C.toList[j]? = some u → W.cell? ((ad.add (i * 6)).add j) = some u) := Lib.hid fun W hW j u hu => (hW.cell (p := (ad.add (i * 6)).add j) (by rw [add_block, add_block]; exact Nat.lt_of_lt_of_le had HNR.out)).trans (hcs j u hu)
          have HCS : Hid ((Tryz.prog.info? 47).map (·.size) = some C.toList.length) := Lib.hid (by rw [Array.length_toList, hC.size]; exact Tryz.sizeCodec)
          have HCC : Hid (C[1]? = some (.string x.name) ∧ C[2]? = some (.int .i64 x.clock) ∧ C[3]? = some (.int .i64 x.chans)) := Lib.hid (by rw [hC.form]; exact ⟨rfl, rfl, rfl⟩)
          have HCO : Hid (∀ W, Below wr.heap.size wr W → Calls Tryz.prog 18 #[.agg K, .agg C] W fun e w' => ∃ r : Int, e = .returned (.int .i64 r) ∧ ComF c x r ∧ Below W.heap.size W w') := Lib.hid fun W hW => r9common_any K C c x _ _ W ((HKV.out.below (HBN.out.trans (hW.mono HNR.out))).more (Nat.le_trans HNR.out hW.size)) HSC.out HCC.out.1 HCC.out.2.1 HCC.out.2.2
          have HKB : Hid (∀ W W', Below wr.heap.size wr W → Below W.heap.size W W' → Below wr.heap.size wr W') := Lib.hid fun W W' h1 h2 => h1.trans (h2.mono h1.size)
          have HDR : Hid (Below wr.heap.size wr wr.drew) := Lib.hid (Below.refl _ _).drew
          clear hx hxi hC hcs had
          go_upto_region 9 with fail
          refine wp_region_held_drew (S := fun W => Below wr.heap.size wr W) (by kernel_rfl) HDR.out (fun hHeld => ?_)
          refine wpAnyH_take (i := 0) (v := _) rfl (by as_aux_lemma => kernel_rfl) (by as_aux_lemma => kernel_rfl) (by as_aux_lemma => kernel_rfl) (fun _ _ _ h => h) (yieldsIf_load_at (by rfl) 29 (.tmp 5) rfl ⟨N + 2, 0, none⟩ rfl K.toList _ (fun w h => HKL.out w h) Tryz.underlying29 rfl HKS.out) (by assumption) ?_
          simp only [Act.put, List.getElem_toArray, List.getElem_cons_succ, List.getElem_cons_zero, List.setIfInBounds_toArray, List.set_cons_succ, List.set_cons_zero]
          refine wpAnyH_take (i := 1) (v := _) rfl (by as_aux_lemma => kernel_rfl) (by as_aux_lemma => kernel_rfl) (by as_aux_lemma => kernel_rfl) (fun _ _ _ h => h) (Or.inl ⟨by rfl, fun w h => by have e0 := HA5.out w h; clear h; go_simp; (try with_reducible rfl)⟩) (by assumption) ?_
          simp only [Act.put, List.getElem_toArray, List.getElem_cons_succ, List.getElem_cons_zero, List.setIfInBounds_toArray, List.set_cons_succ, List.set_cons_zero]
          refine wpAnyH_take (i := 2) (v := _) rfl (by as_aux_lemma => kernel_rfl) (by as_aux_lemma => kernel_rfl) (by as_aux_lemma => kernel_rfl) (fun _ _ _ h => h) (Or.inl ⟨by rfl, fun w h => by have e0 := HA5.out w h; clear h; go_simp; (try with_reducible rfl)⟩) (by assumption) ?_
          simp only [Act.put, List.getElem_toArray, List.getElem_cons_succ, List.getElem_cons_zero, List.setIfInBounds_toArray, List.set_cons_succ, List.set_cons_zero]
          refine wpAnyH_take (i := 3) (v := _) rfl (by as_aux_lemma => kernel_rfl) (by as_aux_lemma => kernel_rfl) (by as_aux_lemma => kernel_rfl) (fun _ _ _ h => h) (Or.inl ⟨by rfl, fun w h => by have e0 := HA5.out w h; clear h; go_simp; (try with_reducible rfl)⟩) (by assumption) ?_
          simp only [Act.put, List.getElem_toArray, List.getElem_cons_succ, List.getElem_cons_zero, List.setIfInBounds_toArray, List.set_cons_succ, List.set_cons_zero]
          refine wpAnyH_take (i := 4) (v := _) rfl (by as_aux_lemma => kernel_rfl) (by as_aux_lemma => kernel_rfl) (by as_aux_lemma => kernel_rfl) (fun _ _ _ h => h) (Or.inl ⟨by rfl, fun w h => by have e0 := HA5.out w h; clear h; go_simp; (try with_reducible rfl)⟩) (by assumption) ?_
          simp only [Act.put, List.getElem_toArray, List.getElem_cons_succ, List.getElem_cons_zero, List.setIfInBounds_toArray, List.set_cons_succ, List.set_cons_zero]
          refine wpAnyH_take (i := 5) (v := _) rfl (by as_aux_lemma => kernel_rfl) (by as_aux_lemma => kernel_rfl) (by as_aux_lemma => kernel_rfl) (fun _ _ _ h => h) (yieldsIf_load_at (by rfl) 47 (.tmp 36) rfl (ad.add (i * 6)) rfl C.toList _ (fun w h => HCL.out w h) Tryz.underlying47 rfl HCS.out) (by assumption) ?_
          simp only [Act.put, List.getElem_toArray, List.getElem_cons_succ, List.getElem_cons_zero, List.setIfInBounds_toArray, List.set_cons_succ, List.set_cons_zero]
          refine wpAnyH_ready (rs := [6]) (by as_aux_lemma => kernel_rfl) (by simp) ?_
          refine AllReadyH.cons (i := 6) rfl (fun K hK => ?_) AllReadyH.nil
          go_simp
          refine (HCO.out _ hHeld).mono ?_
          rintro e w3 ⟨ri, rfl, hri, hb3⟩
          have HRI := Lib.hid hri
          refine hK.out _ _ (HKB.out _ _ hHeld hb3) (fun hHeld4 => ?_)
          clear hK K hHeld hb3 hri
          have hHeld := hHeld4
          clear hHeld4
          try simp only [Act.put]
          refine wpAnyH_take (i := 7) (v := _) rfl (by as_aux_lemma => kernel_rfl) (by as_aux_lemma => kernel_rfl) (by as_aux_lemma => kernel_rfl) (fun _ _ _ h => h) (Or.inl ⟨by rfl, fun w h => by have e0 := HA5.out w h; clear h; go_simp; (try with_reducible rfl)⟩) (by assumption) ?_
          simp only [Act.put, List.getElem_toArray, List.getElem_cons_succ, List.getElem_cons_zero, List.setIfInBounds_toArray, List.set_cons_succ, List.set_cons_zero]
          refine wpAnyH_done (by as_aux_lemma => kernel_rfl) ?_ _
          have HFIN := Lib.hid (HT.out.2.trans (hHeld.mono HT.out.2.size))
          clear hHeld
          rcases HRI.out with ⟨k, y, rfl, hky, hoy⟩ | ⟨rfl, hoy⟩
          · have hk0 : (0 : Int) ≤ (k : Int) := by omega
            rw [hoy] at HNX
            clear hky hoy
            go_wp2
            go_roundw
            case rel => exact ⟨i + 1, t + 1, by omega, by omega, by go_num, by go_num, ⟨fun h => by omega, fun h => by rw [HNX.out] at h; simp at h⟩, HFIN.out⟩
            case measure => simp [intOf]; omega
          · have hm1 : ¬ (0 : Int) ≤ -1 := by omega
            rw [hoy] at HNX
            clear hoy
            go_wp2
            go_roundw
            case rel => exact ⟨i + 1, t, by omega, by omega, by go_num, rfl, by rw [HNX.out]; simpa using HT.out.1, HFIN.out⟩
            case measure => simp [intOf]; omega
        · obtain rfl : i = nC := by omega
          have hce : (t = 0 ↔ commonC c m.codecs = []) := by
           have := HT.out.1
           rwa [List.take_of_length_le (by rw [HL.out.2.1]; exact Nat.le_refl _)] at this
          have y9 : wr.cell? ⟨N + 1, 9, none⟩ = some (.slice AY nY cY) := ((H0.out.2.2.1.under HT.out.2).cell 9).trans HMC.out.2.2.2.2
          have HYE : Hid (m.crypto.isEmpty = ((nY : Int) == 0)) := Lib.hid (by
           rw [← HL.out.2.2]
           cases m.crypto with
           | nil => rfl
           | cons a l => show false = _; rw [eq_comm, beq_eq_false_iff_ne]; simp; omega)
          by_cases ht0 : t = 0
          · have hq : ((t : Int) == 0) = true := by rw [ht0]; rfl
            have HQ : Hid (r = true) := Lib.hid (by rw [HR3.out, hce.1 ht0]; rfl)
            clear hce ht0
            go_wp2
            go_ret
            exact ⟨ret_bool HQ.out.symm, by rw [HN.out]; exact HBN.out⟩
          · have hq : ((t : Int) == 0) = false := by rw [beq_eq_false_iff_ne]; omega
            have HQ : Hid (r = ((nY : Int) == 0)) := Lib.hid (by
             rw [HR3.out, HYE.out]
             cases hcc : commonC c m.codecs with
             | nil => exact absurd (hce.2 hcc) ht0
             | cons a l => rfl)
            clear hce ht0
            obtain ⟨yb, hyb⟩ : ∃ b, ((nY : Int) == 0) = b := ⟨_, rfl⟩
            rw [hyb] at HQ
            go_wp2
            go_ret
            exact ⟨ret_bool HQ.out.symm, by rw [HN.out]; exact HBN.out⟩
def partW (m : MediaS) : PartS := if mayM m = true then partM m else ⟨bs [], bs [], []⟩
def errW (m : MediaS) : Int := if mayM m = true then 0 else 1
theorem WriteO.part {E : TypeId} {w w' : World} {m : MediaS} {e : Ending} (h : WriteO E w m e w') : ∃ v, e = .returned (.tuple #[.agg #[.string (partW m).line, .string (partW m).conn, v], .int .i64 (errW m)]) ∧ Own w' w.heap.size E 2 v ((partW m).attrs.map acell) ∧ Below w.heap.size w w' := by
 obtain ⟨P, rfl, hb, hy, hn⟩ := h
 unfold partW errW
 by_cases hm : mayM m = true
 · obtain ⟨v, rfl, ho⟩ := hy hm
   rw [if_pos hm, if_pos hm]
   exact ⟨v, rfl, ho, hb⟩
 · have hm' : mayM m = false := by simpa using hm
   obtain rfl := hn hm'
   rw [if_neg hm, if_neg hm]
   exact ⟨.slice none 0 0, rfl, Own.nil _ _ _ _, hb⟩
end Go.Proofs.YtibpnjakimobmaaGreat
namespace Go.Proofs.YtibpnjakimobmaaGreat
open Go.RowKit Go.Shelf
set_option linter.unusedVariables false
set_option linter.unusedSimpArgs false
theorem MW.zero {base bm : Nat} {W : World} (h : Whole W bm 44 zeroM) (hb : base ≤ bm) : MW base bm 0 W MediaS.zero [] (.slice none 0 0) (.slice none 0 0) (.slice none 0 0) (.slice none 0 0) (.slice none 0 0) :=
 ⟨rfl, h, Own.nil _ _ _ _, (fun c hc => by cases hc), Own.nil _ _ _ _, Own.nil _ _ _ _, Own.nil _ _ _ _, Own.nil _ _ _ _, (by simp), hb,
  ⟨by decide, (fun c hc => by cases hc), (fun c hc => by cases hc), (fun c hc => by cases hc), (fun c hc => by cases hc), ⟨(fun c hc => by cases hc), (fun c hc => by cases hc)⟩, by decide⟩,
  (by simp [MediaS.zero])⟩
attribute [local go_sem] Oper.semAt_some
end Go.Proofs.YtibpnjakimobmaaGreat
namespace Go.Proofs.YtibpnjakimobmaaGreat
open Go.RowKit
set_option linter.unusedVariables false
set_option linter.unusedSimpArgs false
section
variable {w0 W W' : World} {P : Array Value} {ln cn : ByteArray} {L : List AttrS} {m0 : MediaS}
end
theorem wpList_allocR {ops : Array Oper} {rest : List Oper} {op : Oper} {a : Act} {w : World} {Q : Exit → Act → World → Prop} (hgd : op.guard = none) {t : TypeId} (ho : op.op = .alloc t) {v : Value} {w' : World} (hr : (Instr.alloc t true (.tuple #[])).run Tryz.prog w = .ok v w')
 (h : wpList Tryz.prog ops Q rest (a.put op.dst v) w') : wpList Tryz.prog ops Q (op :: rest) a w :=
 Go.Great.wpList_runTo hgd op.dst rfl v w' (by
  unfold execOp
  simp only [ho, Sem.run_bind, hr, Result.andThen_ok, Sem.run_pure]) h
theorem alloc_cry (W : World) : (Instr.alloc 51 true (.tuple #[])).run Tryz.prog W = .ok (.pointer (some ⟨W.heap.size, 0, none⟩)) (W.alloc (.cells (#[.int .i64 0] ++ zKey) 51)) := by kernel_rfl
theorem zcry_size : ∀ z : Int, ((#[.int .i64 z] : Array Value) ++ zKey).size = 31 := by intros; kernel_rfl
theorem zcry_letter : ∃ Z : Array Value, (∀ W : World, (Instr.alloc 51 true (.tuple #[])).run Tryz.prog W = .ok (.pointer (some ⟨W.heap.size, 0, none⟩)) (W.alloc (.cells Z 51))) ∧ Z.size = 31 := ⟨_, alloc_cry, zcry_size 0⟩
section
variable {m : MediaS} {nm vl : ByteArray}
end
abbrev zKey9 : Array Value := #[.int .u8 0, .int .u8 0, .int .u8 0, .int .u8 0, .int .u8 0, .int .u8 0, .int .u8 0, .int .u8 0, .int .u8 0, .int .u8 0, .int .u8 0, .int .u8 0, .int .u8 0, .int .u8 0, .int .u8 0, .int .u8 0, .int .u8 0, .int .u8 0, .int .u8 0, .int .u8 0, .int .u8 0, .int .u8 0, .int .u8 0, .int .u8 0, .int .u8 0, .int .u8 0, .int .u8 0, .int .u8 0, .int .u8 0, .int .u8 0]
theorem Tryz.infoCrypto9 : (Tryz.prog.info? 51).map (fun i => (i.zero, i.size, i.bytes)) = some (some (.agg (#[.int .i64 0] ++ zKey9)), 31, 40) := by kernel_rfl
theorem built_cry9 : ∀ (k0 k1 k2 k3 k4 k5 k6 k7 k8 k9 k10 k11 k12 k13 k14 k15 k16 k17 k18 k19 k20 k21 k22 k23 k24 k25 k26 k27 k28 k29 z : Int), Tryz.prog.built 51 [(0, .int .i64 z), (1, .agg #[.int .u8 k0, .int .u8 k1, .int .u8 k2, .int .u8 k3, .int .u8 k4, .int .u8 k5, .int .u8 k6, .int .u8 k7, .int .u8 k8, .int .u8 k9, .int .u8 k10, .int .u8 k11, .int .u8 k12, .int .u8 k13, .int .u8 k14, .int .u8 k15, .int .u8 k16, .int .u8 k17, .int .u8 k18, .int .u8 k19, .int .u8 k20, .int .u8 k21, .int .u8 k22, .int .u8 k23, .int .u8 k24, .int .u8 k25, .int .u8 k26, .int .u8 k27, .int .u8 k28, .int .u8 k29])] = some #[.int .i64 z, .int .u8 k0, .int .u8 k1, .int .u8 k2, .int .u8 k3, .int .u8 k4, .int .u8 k5, .int .u8 k6, .int .u8 k7, .int .u8 k8, .int .u8 k9, .int .u8 k10, .int .u8 k11, .int .u8 k12, .int .u8 k13, .int .u8 k14, .int .u8 k15, .int .u8 k16, .int .u8 k17, .int .u8 k18, .int .u8 k19, .int .u8 k20, .int .u8 k21, .int .u8 k22, .int .u8 k23, .int .u8 k24, .int .u8 k25, .int .u8 k26, .int .u8 k27, .int .u8 k28, .int .u8 k29] := by intros; kernel_rfl
theorem build_cry9 (z : Int) (k : Tx) (h : k.length = 30) (w : World) : (Instr.build 51 #[(0, .int .i64 z), (1, .agg (keyC k).toArray)]).run Tryz.prog w = .ok (.agg (cryC ⟨z, k⟩).toArray) w := by
 match k, h with
 | [k0, k1, k2, k3, k4, k5, k6, k7, k8, k9, k10, k11, k12, k13, k14, k15, k16, k17, k18, k19, k20, k21, k22, k23, k24, k25, k26, k27, k28, k29], _ => exact run_build w 51 _ _ (built_cry9 k0.toNat k1.toNat k2.toNat k3.toNat k4.toNat k5.toNat k6.toNat k7.toNat k8.toNat k9.toNat k10.toNat k11.toNat k12.toNat k13.toNat k14.toNat k15.toNat k16.toNat k17.toNat k18.toNat k19.toNat k20.toNat k21.toNat k22.toNat k23.toNat k24.toNat k25.toNat k26.toNat k27.toNat k28.toNat k29.toNat z)
theorem exec_buildTwo9 {a : Act} {o : Oper} {t : TypeId} {i j : Nat} {x y : Operand} (ho : o.op = .build t #[(i, x), (j, y)]) {u1 u2 v : Value} {w : World} (hx : a.eval x = u1) (hy : a.eval y = u2) (hr : (Instr.build t #[(i, u1), (j, u2)]).run Tryz.prog w = .ok v w) : (execOp a.eval o).run Tryz.prog w = .ok (.value v) w := by
 unfold execOp
 simp only [ho, Sem.run_bind, List.map_toArray, List.map_cons, List.map_nil, hx, hy, hr, Result.andThen_ok, Sem.run_pure]
theorem wp_sliceOne9 {a : Act} {o : Oper} {K : Act → World → Prop} {Q : Exit → Act → World → Prop} {t : TypeId} {n i : Nat} {x : Operand} (ho : o.op = .buildSlice t n #[(i, x)]) {u v : Value} {w w' : World} (hx : a.eval x = u) (hr : (Instr.buildSlice t n #[(i, u)]).run Tryz.prog w = .ok v w') (h : K (a.put o.dst v) w') : o.wp Tryz.prog a w K Q := by
 unfold Oper.wp execOp
 simp only [ho, Sem.run_bind, List.map_toArray, List.map_cons, List.map_nil, hx, hr, Result.andThen_ok, Sem.run_pure]
 exact h
theorem fill_cry9 : ∀ (k0 k1 k2 k3 k4 k5 k6 k7 k8 k9 k10 k11 k12 k13 k14 k15 k16 k17 k18 k19 k20 k21 k22 k23 k24 k25 k26 k27 k28 k29 z : Int), Instr.fill (fun i => some (i * 31, 31)) ((Array.range (1 * 31)).map ((Value.agg (#[.int .i64 0] ++ zKey9)).cells[· % (Value.agg (#[.int .i64 0] ++ zKey9)).cells.size]!)) [(0, .agg #[.int .i64 z, .int .u8 k0, .int .u8 k1, .int .u8 k2, .int .u8 k3, .int .u8 k4, .int .u8 k5, .int .u8 k6, .int .u8 k7, .int .u8 k8, .int .u8 k9, .int .u8 k10, .int .u8 k11, .int .u8 k12, .int .u8 k13, .int .u8 k14, .int .u8 k15, .int .u8 k16, .int .u8 k17, .int .u8 k18, .int .u8 k19, .int .u8 k20, .int .u8 k21, .int .u8 k22, .int .u8 k23, .int .u8 k24, .int .u8 k25, .int .u8 k26, .int .u8 k27, .int .u8 k28, .int .u8 k29])] = some #[.int .i64 z, .int .u8 k0, .int .u8 k1, .int .u8 k2, .int .u8 k3, .int .u8 k4, .int .u8 k5, .int .u8 k6, .int .u8 k7, .int .u8 k8, .int .u8 k9, .int .u8 k10, .int .u8 k11, .int .u8 k12, .int .u8 k13, .int .u8 k14, .int .u8 k15, .int .u8 k16, .int .u8 k17, .int .u8 k18, .int .u8 k19, .int .u8 k20, .int .u8 k21, .int .u8 k22, .int .u8 k23, .int .u8 k24, .int .u8 k25, .int .u8 k26, .int .u8 k27, .int .u8 k28, .int .u8 k29] := by intros; kernel_rfl
theorem slice_cry9 (z : Int) (k : Tx) (h : k.length = 30) (w : World) : (Instr.buildSlice 42 1 #[(0, .agg (cryC ⟨z, k⟩).toArray)]).run Tryz.prog w = .ok (.slice (some ⟨w.heap.size, 0, none⟩) 1 1) (w.alloc (.cells (cryC ⟨z, k⟩).toArray 51)) := by
 obtain ⟨i0, hi, hz0, hz1, hz2⟩ := info_parts Tryz.infoCrypto9
 refine run_buildSlice w 42 51 1 _ _ i0 _ Tryz.underlying42 hi hz0 (by rw [hz1]; decide) (by rw [hz1]; decide) ?_
 rw [hz1]
 match k, h with
 | [k0, k1, k2, k3, k4, k5, k6, k7, k8, k9, k10, k11, k12, k13, k14, k15, k16, k17, k18, k19, k20, k21, k22, k23, k24, k25, k26, k27, k28, k29], _ => exact fill_cry9 k0.toNat k1.toNat k2.toNat k3.toNat k4.toNat k5.toNat k6.toNat k7.toNat k8.toNat k9.toNat k10.toNat k11.toNat k12.toNat k13.toNat k14.toNat k15.toNat k16.toNat k17.toNat k18.toNat k19.toNat k20.toNat k21.toNat k22.toNat k23.toNat k24.toNat k25.toNat k26.toNat k27.toNat k28.toNat k29.toNat z
end Go.Proofs.YtibpnjakimobmaaGreat
