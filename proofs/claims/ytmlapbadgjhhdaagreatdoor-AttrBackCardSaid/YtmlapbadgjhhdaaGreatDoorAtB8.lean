/- Bytes in memory: rows of the call's own, appends of several bytes, bytes as a text. -/
import Derived.Test.YtmlapbadgjhhdaaGreatDoorAtWrite
namespace Go.Proofs.YtmlapbadgjhhdaaGreatDoor
open Go.RowKit Go.Shelf
set_option linter.unusedVariables false
set_option linter.unusedSimpArgs false

theorem Tryz.infoU8 : (Tryz.prog.info? 5).map (fun i => (i.zero, i.size, i.bytes)) = some (some (.int .u8 0), 1, 1) := by kernel_rfl


/-- n bytes lie at A, in blocks below B; they are xs. -/
def Bs (w : World) (B : Nat) (A : Option Addr) (n : Nat) (xs : List Int) : Prop :=
  xs.length = n ∧ (0 < n → ∃ ad, A = some ad ∧ ad.block < B ∧ ∀ i, i < n → w.cell? (ad.add i) = some (.int .u8 (xs.getD i 0)))


section
variable {w w' : World} {B : Nat} {A : Option Addr} {n : Nat} {xs : List Int}
theorem Bs.below (h : Bs w B A n xs) (hb : Below B w w') : Bs w' B A n xs :=
  ⟨h.1, fun hn => by
    obtain ⟨ad, h1, h2, h3⟩ := h.2 hn
    exact ⟨ad, h1, h2, fun i hi => (hb.cell (p := ad.add i) (by rw [add_block]; exact h2)).trans (h3 i hi)⟩⟩
theorem Bs.more {B' : Nat} (h : Bs w B A n xs) (hB : B ≤ B') : Bs w B' A n xs :=
  ⟨h.1, fun hn => by
    obtain ⟨ad, h1, h2, h3⟩ := h.2 hn
    exact ⟨ad, h1, by omega, h3⟩⟩
end

def u8s (xs : List Int) : List Value := xs.map (Value.int .u8)
@[simp] theorem u8s_length (xs : List Int) : (u8s xs).length = xs.length := by simp [u8s]
theorem u8s_append (xs ys : List Int) : u8s (xs ++ ys) = u8s xs ++ u8s ys := by simp [u8s]

/-- The slice v is a row of the call's own, of the bytes xs. -/
def Own8 (w : World) (base : Nat) (v : Value) (xs : List Int) : Prop := w.ownsRow base 5 1 v xs.length (u8s xs)

section
variable {w w' : World} {base : Nat} {v : Value} {xs : List Int}
theorem Own8.nil (w : World) (base : Nat) : Own8 w base (.slice none 0 0) [] := World.ownsRow_nil w base 5 1
theorem Own8.made (w : World) (hb : base ≤ w.heap.size) : Own8 (w.alloc (.cells #[] 5)) base (.slice (some ⟨w.heap.size, 0, none⟩) 0 0) [] := World.ownsRow_made w #[] 0 hb (Nat.zero_le _) rfl
theorem Own8.lt (h : Own8 w base v xs) {k : Nat} (hk : v.ownBlock = some k) : base ≤ k ∧ k < w.heap.size := World.ownsRow.lt h k hk
theorem Own8.grown {row : Option Nat} (h : Own8 w base v xs) (hg : w.grownBy w' row) (hne : v.ownBlock = none ∨ v.ownBlock ≠ row) : Own8 w' base v xs := World.ownsRow.kept h hg hne
theorem Own8.alloc (h : Own8 w base v xs) (o : Obj) : Own8 (w.alloc o) base v xs := World.ownsRow.alloc h o
theorem Own8.under (h : Own8 w base v xs) (hb : Below w.heap.size w w') : Own8 w' base v xs := by
  refine ⟨h.1, ?_⟩
  rcases h.2 with h0 | ⟨g, cap, cur, h1, h2, h3, h4⟩
  · exact .inl h0
  · exact .inr ⟨g, cap, cur, h1, h2, (hb.block g (Array.getElem?_eq_some_iff.1 h3).1).trans h3, h4⟩
theorem Own8.drewN (h : Own8 w base v xs) (n : Nat) : Own8 (w.drewN n) base v xs := h
theorem Own8.drew (h : Own8 w base v xs) : Own8 w.drew base v xs := h
theorem Own8.form (h : Own8 w base v xs) : ∃ A c, v = .slice A xs.length c ∧ xs.length ≤ c ∧ c ≤ maxLen ∧ (A = none → c = 0) ∧ Bs w w.heap.size A xs.length xs := by
  rcases h.2 with ⟨rfl, h0⟩ | ⟨g, cap, cur, rfl, h2, h3, h4, h5, h6, h7⟩
  · exact ⟨none, 0, by rw [h0], by omega, Nat.zero_le _, fun _ => rfl, rfl, fun hn => by omega⟩
  · refine ⟨_, cap, rfl, h4, h5, (fun e => by cases e), rfl, fun hn => ⟨_, rfl, (Array.getElem?_eq_some_iff.1 h3).1, fun i hi => ?_⟩⟩
    have := World.ownsRow.cells (g := g) h rfl i (.int .u8 (xs.getD i 0)) (by simp [u8s, List.getD, hi])
    exact this
theorem Own8.bs {A : Option Addr} {c : Nat} (h : Own8 w base (.slice A xs.length c) xs) : Bs w w.heap.size A xs.length xs := by
  obtain ⟨A', c', hv, _, _, _, hb⟩ := h.form
  cases hv
  exact hb
/-- A cell of it, and that it may be written. -/
theorem Own8.at_ (h : Own8 w base v xs) {i : Nat} (hi : i < xs.length) : ∃ g c, v = .slice (some ⟨g, 0, none⟩) xs.length c ∧ base ≤ g ∧ g < w.heap.size ∧ w.cell? ⟨g, i, none⟩ = some (.int .u8 (xs.getD i 0)) ∧ w.frozen? ⟨g, i, none⟩ = false := by
  obtain ⟨A, c, rfl, _, _, _, hb⟩ := h.form
  rcases h.2 with ⟨hv, h0⟩ | ⟨g, cap, cur, hv, h2, h3, h4⟩
  · omega
  · cases hv
    refine ⟨g, c, rfl, h2, (Array.getElem?_eq_some_iff.1 h3).1, ?_, ?_⟩
    · obtain ⟨ad, e, _, hc⟩ := hb.2 (by omega)
      cases e
      have := hc i hi
      rwa [Addr.add_lit, Nat.zero_add] at this
    · simp [World.frozen?, h3]
end

theorem run_append8 {w : World} (ty : TypeId) {base : Nat} {v : Value} {xs : List Int} (hown : Own8 w base v xs) {B : Nat} {A : Option Addr} {m c : Nat} {ys : List Int} (hr : Bs w B A m ys) (hA : A = none → c = 0) (h63 : xs.length + m ≤ 140737488355328) (hbase : base ≤ w.heap.size) :
    ∃ v' w', (Builtin.append_ #[116, 116] ty #[v, .slice A m c]).run Tryz.prog w = .ok v' w' ∧ Own8 w' base v' (xs ++ ys) ∧ w.grownBy w' v.ownBlock ∧ (v'.ownBlock = v.ownBlock ∨ v'.ownBlock = some w.heap.size) := by
  obtain ⟨i0, hi, hz0, hz1, hz2⟩ := info_parts Tryz.infoU8
  rcases A with _ | ad
  · have hm : m = 0 := by
      rcases Nat.eq_zero_or_pos m with h0 | h0
      · exact h0
      · obtain ⟨_, h, _⟩ := hr.2 h0
        cases h
    subst hm
    obtain rfl := hA rfl
    have hy : ys = [] := List.eq_nil_of_length_eq_zero hr.1
    subst hy
    exact ⟨v, w, run_append_owned_none (P := Tryz.prog) (w := w) base 116 ty 5 i0 1 Tryz.underlying116 hi v xs.length (u8s xs) hown, by simpa using hown, ⟨rfl, rfl, rfl, Nat.le_refl _, fun _ _ _ => rfl⟩, .inl rfl⟩
  · have hcells : ∀ j u, (u8s ys)[j]? = some u → w.cell? (ad.add j) = some u := by
      intro j u hu
      have hj : j < ys.length := by have := (List.getElem?_eq_some_iff.1 hu).1; simpa using this
      obtain ⟨ad', e, _, hc⟩ := hr.2 (by have := hr.1; omega)
      cases e
      rw [hc j (by have := hr.1; omega), ← hu]
      simp [u8s, List.getD, hj]
    obtain ⟨v', w', hrun, h2, h3, _, h5⟩ := run_append_own_at (P := Tryz.prog) w base 116 ty 5 i0 (.int .u8 0) 1 1 Tryz.underlying116 hi hz0 hz1 hz2 rfl (by decide) v xs.length (u8s xs) hown ad m c (u8s ys) (by simpa using hr.1) hcells (fun u hu => by obtain ⟨x, _, rfl⟩ := List.mem_map.1 hu; rfl) (by unfold maxLen; omega) (by omega) hbase
    refine ⟨v', w', hrun, ?_, h3, h5⟩
    unfold Own8
    rw [u8s_append, List.length_append, hr.1]
    exact h2

/-- append onto a row of the call's own. -/
theorem wpList_append8 {w : World} {ops : Array Oper} {rest : List Oper} {o : Oper} {a : Act} {Q : Exit → Act → World → Prop} (hgd : o.guard = none) (s x : Operand)
    (ho : o.op = .call { callee := .builtin .append, args := #[s, x], argTypes := #[116, 116] }) {base : Nat} {v : Value} {xs : List Int} (hs : a.eval s = v) (hown : Own8 w base v xs) {B : Nat} {A : Option Addr} {m c : Nat} {ys : List Int} (hx : a.eval x = .slice A m c) (hr : Bs w B A m ys) (hA : A = none → c = 0)
    (h63 : xs.length + m ≤ 140737488355328) (hbase : base ≤ w.heap.size)
    (h : ∀ v' w', Own8 w' base v' (xs ++ ys) → w.grownBy w' v.ownBlock → (v'.ownBlock = v.ownBlock ∨ v'.ownBlock = some w.heap.size) → wpList Tryz.prog ops Q rest (a.put o.dst v') w') : wpList Tryz.prog ops Q (o :: rest) a w := by
  obtain ⟨v', w', hrun, h2, h3, h4⟩ := run_append8 o.type hown hr hA h63 hbase
  refine wpList_plain hgd fun K hK => ?_
  unfold Oper.wp execOp
  simp only [ho, resolve, invoke, builtin, Sem.run_bind, Sem.run_pure, Result.andThen_ok, List.map_toArray, List.map_cons, List.map_nil, hs, hx, hrun]
  exact hK _ _ (h v' w' h2 h3 h4)


/-- Bytes as a text, nil or wherever they lie. -/
theorem conv_text {w : World} {B : Nat} {A : Option Addr} {n c : Nat} {xs : List Int} (h : Bs w B A n xs) (hA : A = none → c = 0) : (convert 116 9 (.slice A n c)).run Tryz.prog w = .ok (.string (strOfNums xs)) w := by
  rcases A with _ | ad
  · have hn : n = 0 := by
      rcases Nat.eq_zero_or_pos n with h0 | h0
      · exact h0
      · obtain ⟨_, h, _⟩ := h.2 h0
        cases h
    subst hn
    obtain rfl := hA rfl
    have hy : xs = [] := List.eq_nil_of_length_eq_zero h.1
    subst hy
    exact run_convert_bytes_nil w 116 5 Tryz.underlying116 Tryz.underlying5 0 0 9 Tryz.underlying9
  · have hl : (loadCells ad n).run Tryz.prog w = .ok (xs.map (Value.int .u8)).toArray w := by
      have := run_loadCells_list (P := Tryz.prog) w ad (xs.map (Value.int .u8)) (fun j v hj => by
        have hjl : j < xs.length := by
          have := (List.getElem?_eq_some_iff.1 hj).1
          simpa using this
        obtain ⟨ad', e, _, hc⟩ := h.2 (by have := h.1; omega)
        cases e
        rw [hc j (by have := h.1; omega), ← hj]
        simp [List.getD, hjl])
      simpa [h.1] using this
    rw [run_convert_bytes_string w 116 9 5 _ n c Tryz.underlying116 Tryz.underlying5 Tryz.underlying9, run_bytesToString w _ n c xs hl, foldl_push_bytes]
    simp [strOfNums, ByteArray.empty, ByteArray.emptyWithCapacity]
    rfl


/-- The bytes of a text. -/
def ni (l : Tx) : List Int := l.map fun c => (c.toNat : Int)
theorem ni_len (l : Tx) : (ni l).length = l.length := by simp [ni]
theorem ni_append (a b : Tx) : ni (a ++ b) = ni a ++ ni b := by simp [ni]
theorem str_ni (l : Tx) : strOfNums (ni l) = bs l := by
  unfold strOfNums ni bs
  congr 1
  rw [List.map_map]
  congr 1
  conv => rhs; rw [← List.map_id l]
  apply List.map_congr_left
  intro c _
  simp
/-- Bytes that were just laid. -/
theorem Bs.laid (w : World) (xs : List Int) (t : TypeId) : Bs (w.alloc (.cells (u8s xs).toArray t)) (w.heap.size + 1) (some ⟨w.heap.size, 0, none⟩) xs.length xs :=
  ⟨rfl, fun hn => ⟨_, rfl, Nat.lt_succ_self _, fun i hi => by
    rw [Addr.add_lit, (Whole.new w t _).cell]
    simp [u8s, List.getD, hi]⟩⟩
end Go.Proofs.YtmlapbadgjhhdaaGreatDoor
