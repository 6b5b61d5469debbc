/- ContainsFunc, Grow and Concat at attributes. -/
import Derived.Test.YteloaidnfcmadaaStFind
import Derived.Test.YteloaidnfcmadaaStSignP
import Derived.Lib.AppendZeros
import Derived.Laws.AppendOwnNone
import Derived.Handy
namespace Go.Proofs.Yteloaidnfcmadaa
open Go.RowKit
set_option linter.unusedVariables false

/-- Is it one of the Types that signing adds. -/
def isTy (t : Int) : Bool := t == 8 || t == 32808
theorem isTy_no {t : Int} (h : isTy t = false) : t ≠ 8 ∧ t ≠ 32808 := by simpa [isTy] using h
theorem free_of {L : List At} (h : ∀ j, j < L.length → isTy (L.getD j default).ty = false) : Free L := fun a ha => by
  obtain ⟨j, hj, rfl⟩ := List.getElem_of_mem ha
  have := isTy_no (h j hj)
  simpa [List.getD, hj] using this
theorem not_free {L : List At} {j : Nat} (hj : j < L.length) (h : isTy (L.getD j default).ty = true) : ¬ Free L := fun hf => by
  have h1 := hf _ (getD_mem hj)
  simp only [isTy, Bool.or_eq_true, beq_iff_eq] at h
  rcases h with h | h
  · exact h1.1 h
  · exact h1.2 h

set_option maxHeartbeats 800000 in
theorem signs_any (ty : Int) (u : Value) (w : World) (hu : u.oneCell' = true) : Calls Try.prog 68 #[.agg #[.int .u16 ty, u]] w fun e w' => e = .returned (.bool (isTy ty)) ∧ Below w.heap.size w w' := by
  have hb0 : Below w.heap.size w (w.alloc (.cells #[.int .u16 ty, u] 92)) := (Below.refl _ w).alloc (Nat.le_refl _) _
  have hW := Whole.new w 92 #[.int .u16 ty, u]
  have c0 := hW.cell 0
  have HB := Lib.hid hb0
  clear hb0 hW
  by_cases h8 : ty = 8
  · subst h8
    go_enter Try.func68, Try.ntmps68
    go_wp2
    go_ret
    exact ⟨rfl, HB.out⟩
  · go_enter Try.func68, Try.ntmps68
    go_wp2
    go_ret
    exact ⟨rfl, HB.out⟩

set_option maxHeartbeats 1600000 in
set_option maxRecDepth 100000 in
theorem indexFunc_any (A : Option Addr) (n c : Nat) (L : List At) (w : World) (h : Ats w w.heap.size A L) (hn : L.length = n) (hl : n ≤ 4398046511103) :
    Calls Try.prog 67 #[.slice A n c, .func (.func 68) #[] #[]] w fun e w' => ∃ r : Int, e = .returned (.int .i64 r) ∧ ((0 ≤ r ∧ ¬ Free L) ∨ (r = -1 ∧ Free L)) ∧ Below w.heap.size w w' := by
  have HA := Lib.hid h
  have HSG : Hid (∀ ty u W, u.oneCell' = true → Calls Try.prog 68 #[.agg #[.int .u16 ty, u]] W fun e w' => e = .returned (.bool (isTy ty)) ∧ Below W.heap.size W w') := Lib.hid fun ty u W hu => signs_any ty u W hu
  have HE := Lib.hid hn
  clear h hn
  go_enter Try.func67, Try.ntmps67
  go_wp2
  go_loopw [8] (fun s8 wr => ∃ k : Nat, k ≤ n ∧ s8 = .int .i64 k ∧ (∀ j, j < k → isTy (L.getD j default).ty = false) ∧ Below w.heap.size w wr) (fun s8 _ => n - (intOf s8).toNat)
  case atStart => exact ⟨0, by omega, rfl, (fun j hj => by omega), Below.refl _ w⟩
  case round =>
    obtain ⟨k, hk, rfl, hno, hb⟩ := hrel
    have HNO := Lib.hid hno
    clear hno
    by_cases hlt : k < n
    · have hlt' : k < L.length := by rw [HE.out]; exact hlt
      obtain ⟨ad, A', c', rfl, had, c0, c1, l1, l2, l3, hbs⟩ := (HA.out.below hb).at_ hlt'
      obtain ⟨ty, hty⟩ : ∃ x, (L.getD k default).ty = x := ⟨_, rfl⟩
      obtain ⟨l, hll⟩ : ∃ x, (L.getD k default).val.length = x := ⟨_, rfl⟩
      rw [hty] at c0
      rw [hll] at c1
      have HTY := Lib.hid hty
      have HB := Lib.hid (And.intro hb hlt')
      clear l1 l2 l3 hbs hty hll hb hlt' had
      have hk0 : (0 : Int) ≤ (k : Int) := by omega
      have hk1 : (k : Int) < (n : Int) := by omega
      obtain ⟨b, hbb⟩ : ∃ b, isTy ty = b := ⟨_, rfl⟩
      have HS := Lib.hid (HSG.out ty (.slice A' l c') wr rfl)
      rw [hbb] at HS
      have HBT := Lib.hid hbb
      clear hbb
      cases b with
      | true =>
        go_wp2_with (go_at_call 68; (with_reducible refine HS.out.mono ?_); rintro e w2 ⟨rfl, hb2⟩)
        go_ret
        refine ⟨_, rfl, .inl ⟨hk0, not_free HB.out.2 (by rw [HTY.out]; exact HBT.out)⟩, HB.out.1.trans (hb2.mono HB.out.1.size)⟩
      | false =>
        go_wp2_with (go_at_call 68; (with_reducible refine HS.out.mono ?_); rintro e w2 ⟨rfl, hb2⟩)
        go_roundw
        case rel =>
          refine ⟨k + 1, by omega, by go_num, fun j hj => ?_, HB.out.1.trans (hb2.mono HB.out.1.size)⟩
          by_cases e : j = k
          · subst e
            rw [HTY.out]
            exact HBT.out
          · exact HNO.out j (by omega)
        case measure => simp [intOf]; omega
    · have e : k = n := by omega
      have HF := Lib.hid (free_of (L := L) (fun j hj => HNO.out j (by rw [HE.out] at hj; omega)))
      subst e
      have HBB := Lib.hid hb
      clear hb
      go_wp2
      go_ret
      exact ⟨_, rfl, .inr ⟨rfl, HF.out⟩, HBB.out⟩
set_option maxHeartbeats 800000 in
theorem containsFunc_any (A : Option Addr) (n c : Nat) (L : List At) (w : World) (h : Ats w w.heap.size A L) (hn : L.length = n) (hl : n ≤ 4398046511103) :
    Calls Try.prog 46 #[.slice A n c, .func (.func 68) #[] #[]] w fun e w' => ∃ b, e = .returned (.bool b) ∧ (b = true ↔ ¬ Free L) ∧ Below w.heap.size w w' := by
  have HI := Lib.hid (indexFunc_any A n c L w h hn hl)
  clear h hn
  go_enter Try.func46, Try.ntmps46
  go_wp2_with (go_at_call 67; (with_reducible refine HI.out.mono ?_); rintro e w1 ⟨r, rfl, (⟨h0, hf⟩ | ⟨rfl, hf⟩), hb⟩)
  · have HF := Lib.hid (And.intro hf hb)
    clear hf hb
    go_wp2
    go_ret
    exact ⟨true, rfl, ⟨fun _ => HF.out.1, fun _ => rfl⟩, HF.out.2⟩
  · have HF := Lib.hid (And.intro hf hb)
    clear hf hb
    go_wp2
    go_ret
    exact ⟨false, rfl, ⟨fun e => (by cases e), fun e => (e HF.out.1).elim⟩, HF.out.2⟩

/-- What reads as attributes, as pairs of cells. -/
structure Src (w : World) (A : Option Addr) (m c : Nat) (qs : List (Int × Value)) : Prop where
  len : qs.length = m
  nil : A = none → m = 0 ∧ c = 0
  cells : ∀ ad, A = some ad → ∀ j u, (acells qs)[j]? = some u → w.cell? (ad.add j) = some u
  one : ∀ u ∈ acells qs, u.oneCell' = true
theorem run_append2s {e T : TypeId} {z : Value} (ty : TypeId) (hT : Try.prog.underlying T = some (.slice e)) (hi : (Try.prog.info? e).map (fun i => (i.zero, i.size, i.bytes)) = some (some z, 2, 32)) (hz : z.cells.size = 2) {w : World} {base : Nat} {v : Value} {ps qs : List (Int × Value)} (hown : Row2 e w base v ps) {A : Option Addr} {m c : Nat}
    (hs : Src w A m c qs) (h63 : ps.length + m ≤ 4398046511103) (hbase : base ≤ w.heap.size) :
    ∃ v' w', (Builtin.append_ #[T, T] ty #[v, .slice A m c]).run Try.prog w = .ok v' w' ∧ Row2 e w' base v' (ps ++ qs) ∧ w.grownBy w' v.ownBlock ∧ (v'.ownBlock = v.ownBlock ∨ v'.ownBlock = some w.heap.size) := by
  obtain ⟨i0, hi0, hz0, hz1, hz2⟩ := info_parts hi
  rcases A with _ | ad
  · obtain ⟨rfl, rfl⟩ := hs.nil rfl
    have hq : qs = [] := List.eq_nil_of_length_eq_zero hs.len
    subst hq
    exact ⟨v, w, run_append_owned_none (P := Try.prog) (w := w) base T ty e i0 2 hT hi0 v ps.length (acells ps) hown, by simpa using hown, ⟨rfl, rfl, rfl, Nat.le_refl _, fun _ _ _ => rfl⟩, .inl rfl⟩
  · have hl := hs.len
    obtain ⟨v', w', hrun, h2, h3, _, h5⟩ := run_append_own_at (P := Try.prog) w base T ty e i0 z 2 32 hT hi0 hz0 hz1 hz2 hz (by decide) v ps.length (acells ps) hown ad m c (acells qs) (by rw [acells_length]; omega)
      (fun j u hj => hs.cells ad rfl j u hj) hs.one (by unfold maxLen; omega) (by omega) hbase
    refine ⟨v', w', hrun, ?_, h3, h5⟩
    unfold Row2
    rw [acells_append, List.length_append, hl]
    exact h2
theorem wpList_append2s {ops : Array Oper} {rest : List Oper} {o : Oper} {a : Act} {Q : Exit → Act → World → Prop} {e T : TypeId} {z : Value} (hgd : o.guard = none) (s y : Operand) (ho : o.op = .call { callee := .builtin .append, args := #[s, y], argTypes := #[T, T] })
    (hT : Try.prog.underlying T = some (.slice e)) (hi : (Try.prog.info? e).map (fun i => (i.zero, i.size, i.bytes)) = some (some z, 2, 32)) (hz : z.cells.size = 2) {w : World} {base : Nat} {v : Value} {ps qs : List (Int × Value)} (hs : a.eval s = v) (hown : Row2 e w base v ps) {A : Option Addr} {m c : Nat} (hy : a.eval y = .slice A m c)
    (hsrc : Src w A m c qs) (h63 : ps.length + m ≤ 4398046511103) (hbase : base ≤ w.heap.size)
    (h : ∀ v' w', Row2 e w' base v' (ps ++ qs) → w.grownBy w' v.ownBlock → (v'.ownBlock = v.ownBlock ∨ v'.ownBlock = some w.heap.size) → wpList Try.prog ops Q rest (a.put o.dst v') w') : wpList Try.prog ops Q (o :: rest) a w := by
  obtain ⟨v', w', hrun, h2, h3, h4⟩ := run_append2s o.type hT hi hz hown hsrc h63 hbase
  refine wpList_plain hgd fun K hK => ?_
  unfold Oper.wp execOp
  simp only [ho, resolve, invoke, builtin, Sem.run_bind, Sem.run_pure, Result.andThen_ok, List.map_toArray, List.map_cons, List.map_nil, hs, hy, hrun]
  exact hK _ _ (h v' w' h2 h3 h4)
theorem Src.below {w w' : World} {B : Nat} {A : Option Addr} {m c : Nat} {qs : List (Int × Value)} (h : Src w A m c qs) (hA : ∀ ad, A = some ad → 0 < m → ad.block < B) (hb : Below B w w') : Src w' A m c qs :=
  ⟨h.len, h.nil, fun ad e j u hj => by
    have hm : 0 < m := by
      have := (List.getElem?_eq_some_iff.1 hj).1
      rw [acells_length, h.len] at this
      omega
    rw [hb.cell (p := ad.add j) (by rw [add_block]; exact hA ad e hm)]
    exact h.cells ad e j u hj, h.one⟩
theorem add_succ (ad : Addr) (k : Nat) : ad.add (k + 1) = ⟨(ad.add k).block, (ad.add k).off + 1, none⟩ := by
  unfold Addr.add
  by_cases h : k = 0
  · subst h; simp
  · simp [h]; omega
/-- Pairs whose second parts read as the values of L. -/
def ElsV (w : World) (B : Nat) (ps : List (Int × Value)) (L : List At) : Prop := ps.length = L.length ∧ ∀ i, i < ps.length → (ps.getD i (0, undef)).1 = (L.getD i default).ty ∧ V8 w B (ps.getD i (0, undef)).2 (L.getD i default).val
theorem ElsV.below {w w' : World} {B : Nat} {ps : List (Int × Value)} {L : List At} (h : ElsV w B ps L) (hb : Below B w w') : ElsV w' B ps L := ⟨h.1, fun i hi => ⟨(h.2 i hi).1, (h.2 i hi).2.below hb⟩⟩
theorem ElsV.more {w : World} {B B' : Nat} {ps : List (Int × Value)} {L : List At} (h : ElsV w B ps L) (hb : B ≤ B') : ElsV w B' ps L := ⟨h.1, fun i hi => ⟨(h.2 i hi).1, (h.2 i hi).2.more hb⟩⟩
theorem ElsV.els {w : World} {B : Nat} {ps : List (Int × Value)} {L : List At} (h : ElsV w B ps L) : Els w B ps L := ⟨h.1, fun i hi => ⟨(h.2 i hi).1, .inl (h.2 i hi).2⟩⟩
theorem ElsV.app {w : World} {N : Nat} {ps qs : List (Int × Value)} {L L2 : List At} (h : ElsV w N ps L) (k : ElsV w N qs L2) : ElsV w N (ps ++ qs) (L ++ L2) := by
  have h1 := h.1
  have k1 := k.1
  refine ⟨by simp [h1, k1], fun i hi => ?_⟩
  by_cases hil : i < ps.length
  · have e1 : (ps ++ qs).getD i (0, undef) = ps.getD i (0, undef) := by simp [List.getD, List.getElem?_append_left hil]
    have e2 : (L ++ L2).getD i default = L.getD i default := by simp [List.getD, List.getElem?_append_left (show i < L.length by omega)]
    rw [e1, e2]
    exact h.2 i hil
  · have e1 : (ps ++ qs).getD i (0, undef) = qs.getD (i - ps.length) (0, undef) := by simp [List.getD, List.getElem?_append_right (show ps.length ≤ i by omega)]
    have e2 : (L ++ L2).getD i default = L2.getD (i - ps.length) default := by simp [List.getD, List.getElem?_append_right (show L.length ≤ i by omega), h1]
    rw [e1, e2]
    exact k.2 _ (by rw [List.length_append] at hi; omega)
/-- Attributes that lie in memory, as pairs. -/
theorem src_of {w : World} {B : Nat} {A : Option Addr} {c : Nat} {L : List At} (h : Ats w B A L) (hA : A = none → c = 0) (hl : A = none → L.length = 0) : ∃ qs, ElsV w B qs L ∧ Src w A L.length c qs ∧ ∀ ad, A = some ad → 0 < L.length → ad.block < B := by
  have hex : ∀ i, i < L.length → ∃ v, (∀ ad, A = some ad → w.cell? ⟨(ad.add (i * 2)).block, (ad.add (i * 2)).off + 1, none⟩ = some v ∧ w.cell? (ad.add (i * 2)) = some (.int .u16 (L.getD i default).ty)) ∧ V8 w B v (L.getD i default).val := fun i hi => by
    obtain ⟨ad, h1, _, h3⟩ := h (by omega)
    obtain ⟨h4, v, h5, h6⟩ := h3 i hi
    exact ⟨v, fun ad' e => by rw [h1] at e; cases e; exact ⟨h5, h4⟩, h6⟩
  haveI : Inhabited Value := ⟨undef⟩
  obtain ⟨f, hf⟩ := choose_at hex
  have hlq : ((List.range L.length).map fun i => ((L.getD i default).ty, f i)).length = L.length := by simp
  have hgq : ∀ i, i < L.length → ((List.range L.length).map fun i => ((L.getD i default).ty, f i)).getD i (0, undef) = ((L.getD i default).ty, f i) := fun i hi => by simp [List.getD, hi]
  refine ⟨(List.range L.length).map fun i => ((L.getD i default).ty, f i), ⟨hlq, fun i hi => ?_⟩, ⟨hlq, fun e => ⟨hl e, hA e⟩, fun ad e j u hj => ?_, fun u hu => ?_⟩, fun ad e hp => ?_⟩
  · rw [hlq] at hi
    rw [hgq i hi]
    exact ⟨rfl, (hf i hi).2⟩
  · have hj1 : j < L.length * 2 := by
      have := (List.getElem?_eq_some_iff.1 hj).1
      rw [acells_length, hlq] at this
      omega
    have hi : j / 2 < L.length := by omega
    have ha := acells_at ((List.range L.length).map fun i => ((L.getD i default).ty, f i)) (j / 2) (by rw [hlq]; exact hi)
    rw [hgq _ hi] at ha
    have hc := (hf _ hi).1 ad e
    rcases Nat.mod_two_eq_zero_or_one j with h0 | h1
    · have ej : j / 2 * 2 = j := by omega
      rw [ej] at ha hc
      rw [ha.1] at hj
      rw [hc.2, ← hj]
    · have ej : j / 2 * 2 + 1 = j := by omega
      rw [ej] at ha
      rw [ha.2] at hj
      rw [← hj, ← hc.1, ← add_succ, ej]
  · obtain ⟨i, hi, rfl⟩ := List.getElem_of_mem hu
    rw [acells_length, hlq] at hi
    have hi2 : i / 2 < L.length := by omega
    have ha := acells_at ((List.range L.length).map fun i => ((L.getD i default).ty, f i)) (i / 2) (by rw [hlq]; exact hi2)
    rw [hgq _ hi2] at ha
    rcases Nat.mod_two_eq_zero_or_one i with h0 | h1
    · have ej : i / 2 * 2 = i := by omega
      rw [ej, List.getElem?_eq_getElem (by rw [acells_length, hlq]; omega)] at ha
      have := Option.some.inj ha.1
      rw [this]
      rfl
    · have ej : i / 2 * 2 + 1 = i := by omega
      have h2 := ha.2
      rw [ej, List.getElem?_eq_getElem (by rw [acells_length, hlq]; omega)] at h2
      have := Option.some.inj h2
      rw [this]
      exact (hf _ hi2).2.one
  · obtain ⟨ad', h1, h2, _⟩ := h hp
    rw [h1] at e
    cases e
    exact h2

set_option maxHeartbeats 1600000 in
set_option maxRecDepth 100000 in
theorem growA_some (n : Nat) (hn : 0 < n) (hb : n ≤ 2000000) (w : World) : Calls Try.prog 75 #[.slice none 0 0, .int .i64 n] w fun e w' => ∃ g cap, e = .returned (.slice (some ⟨g, 0, none⟩) 0 cap) ∧ n ≤ cap ∧
    Row2 92 w' w.heap.size (.slice (some ⟨g, 0, none⟩) 0 cap) [] ∧ Below w.heap.size w w' := by
  obtain ⟨i0, hi, hz0, hz1, hz2⟩ := info_parts Try.infoAttr
  have happ := Lib.run_append_nil_zeros (P := Try.prog) w 67 3 67 92 i0 (.agg #[.int .u16 0, .slice none 0 0]) .i64 .i64 Try.underlying67 Try.underlying3 hi hz0 n hn (by omega) (by omega) (by rw [hz2]; omega)
  have hge := grownCap_ge w n 0 92
  have hle := grownCap_le_maxLen w n 0 92 (by unfold maxLen; omega)
  generalize hcap : grownCap w n 0 92 = cap at happ hge hle
  generalize hZ : (Builtin.zeroCells (Value.agg #[.int .u16 0, .slice none 0 0]).cells n ++ Builtin.zeroCells (Value.agg #[.int .u16 0, .slice none 0 0]).cells (cap - n)) = Z at happ
  have hZs : Z.size = cap * 2 := by rw [← hZ]; simp [size_zeroCells, Value.cells]; omega
  clear hcap hZ
  have HA := Lib.hid happ
  clear happ
  go_enter Try.func75, Try.ntmps75
  go_wp2_with (at_builtin; refine Lib.wpList_append_run _ rfl _ _ _ _ rfl _ _ rfl rfl _ _ HA.out ?_)
  go_ret
  refine ⟨w.heap.size, cap, rfl, hge, ⟨rfl, .inr ⟨w.heap.size, cap, Z, rfl, Nat.le_refl _, ?_, Nat.zero_le _, hle, by omega, by simp [acells]⟩⟩, ?_⟩
  · exact heap_alloc_new w _
  · exact ((Below.refl _ w).alloc (Nat.le_refl _) _).drew

set_option maxHeartbeats 1600000 in
set_option maxRecDepth 100000 in
theorem concatA_any (sb : Nat) (A1 : Option Addr) (n1 c1 : Nat) (a2 : Addr) (n2 c2 : Nat) (q1 q2 : List (Int × Value)) (w : World) (hs : Whole w sb 67 #[.slice A1 n1 c1, .slice (some a2) n2 c2]) (s1 : Src w A1 n1 c1 q1) (s2 : Src w (some a2) n2 c2 q2)
    (b1 : ∀ ad, A1 = some ad → 0 < n1 → ad.block < w.heap.size) (b2 : a2.block < w.heap.size) (hp : 0 < n2) (hb : n1 + n2 ≤ 2000000) :
    Calls Try.prog 69 #[.slice (some ⟨sb, 0, none⟩) 2 2] w fun e w' => ∃ v, e = .returned v ∧ Row2 92 w' w.heap.size v (q1 ++ q2) ∧ Below w.heap.size w w' := by
  have d0 : w.cell? ⟨sb, 0, none⟩ = some (.slice A1 n1 c1) := hs.cell 0
  have d1 : w.cell? ⟨sb, 1, none⟩ = some (.slice (some a2) n2 c2) := hs.cell 1
  have hsl := hs.lt
  have HH := Lib.hid (And.intro s1 (And.intro s2 (And.intro b1 b2)))
  clear hs s1 s2 b1 b2
  have hp' : 0 < n2 + n1 := by omega
  have ex : ((n1 : Int) + (n2 : Int)) = ((n1 + n2 : Nat) : Int) := by omega
  have HG := Lib.hid (growA_some (n1 + n2) (by omega) hb w)
  rw [← ex] at HG
  clear ex
  go_enter Try.func69, Try.ntmps69
  go_wp2
  refine wp_loop_rounds 3 ?_
  rw [rounds_succ]
  go_wp2_with fail
  rw [rounds_succ]
  go_wp2_with fail
  rw [rounds_succ]
  go_wp2_with fail
  refine HG.out.mono ?_
  rintro e w1 ⟨g, cap, rfl, hcap, hown, hb⟩
  have e0 := (hb.cell (p := ⟨sb, 0, none⟩) hsl).trans d0
  have e1 := (hb.cell (p := ⟨sb, 1, none⟩) hsl).trans d1
  have HN := Lib.hid (And.intro hown hb)
  clear hown hb
  go_wp2_with fail
  refine wp_loop_rounds 3 ?_
  rw [rounds_succ]
  go_wp2_with (at_builtin; go_must (refine wpList_append2s rfl (.tmp 31) (.tmp 32) rfl Try.underlying67 Try.infoAttr rfl rfl HN.out.1 rfl (HH.out.1.below HH.out.2.2.1 HN.out.2) (by simp; omega) HN.out.2.size ?_))
  intro v1 w2 hown1 hgr1 hnil1
  have hgB : w.heap.size ≤ g := (HN.out.1.lt (k := g) rfl).1
  have hb2 : Below w.heap.size w w2 := HN.out.2.grown hgr1 HN.out.2.size (fun k hk => by cases hk; exact hgB)
  have e0' := (hb2.cell (p := ⟨sb, 0, none⟩) hsl).trans d0
  have e1' := (hb2.cell (p := ⟨sb, 1, none⟩) hsl).trans d1
  have HM := Lib.hid (And.intro hown1 hb2)
  clear hown1 hgr1 hnil1 hb2 e0 e1
  go_wp2_with fail
  rw [rounds_succ]
  go_wp2_with (at_builtin; go_must (refine wpList_append2s rfl (.tmp 31) (.tmp 32) rfl Try.underlying67 Try.infoAttr rfl rfl HM.out.1 rfl (HH.out.2.1.below (fun ad e _ => by cases e; exact HH.out.2.2.2) HM.out.2) (by have := HH.out.1.len; omega) HM.out.2.size ?_))
  intro v2 w3 hown2 hgr2 hnil2
  have hb3 : Below w.heap.size w w3 := HM.out.2.grown hgr2 HM.out.2.size (fun k hk => (HM.out.1.lt hk).1)
  have HZ := Lib.hid (And.intro hown2 hb3)
  clear hown2 hgr2 hnil2 hb3
  go_wp2_with fail
  rw [rounds_succ]
  go_wp2_with fail
  go_ret
  exact ⟨v2, rfl, HZ.out.1, HZ.out.2⟩
end Go.Proofs.Yteloaidnfcmadaa
