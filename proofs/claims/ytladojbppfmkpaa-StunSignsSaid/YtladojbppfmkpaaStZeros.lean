/- append(b, make([]byte, n)...) onto a row of the call's own. -/
import Derived.Test.YtladojbppfmkpaaStValid
import Derived.Lib.AppendZerosOnto
namespace Go.Proofs.Ytladojbppfmkpaa
open Go.RowKit
set_option linter.unusedVariables false

theorem zeroCells8 (k : Nat) : Builtin.zeroCells (Value.int .u8 0).cells k = (u8s (List.replicate k 0)).toArray := by
  apply Array.ext
  · simp [size_zeroCells, Value.cells]
  · intro i h1 h2
    simp [Builtin.zeroCells, Value.cells, u8s, Nat.mod_one]

theorem run_append_zeros8 {w : World} (ty : TypeId) {base : Nat} {v : Value} {xs : List Int} (hown : Own8 w base v xs) (hv : v ≠ .slice none 0 0) (k : Nat) (h63 : xs.length + k ≤ 140737488355328) (hbase : base ≤ w.heap.size) :
    ∃ v' w', (Builtin.append_ #[27, 3] ty #[v, .int .i64 k]).run Try.prog w = .ok v' w' ∧ Own8 w' base v' (xs ++ List.replicate k 0) ∧ w.grownBy w' v.ownBlock ∧ (v'.ownBlock = v.ownBlock ∨ v'.ownBlock = some w.heap.size) := by
  obtain ⟨i0, hi, hz0, hz1, hz2⟩ := info_parts Try.infoU8
  rcases hown.2 with ⟨rfl, _⟩ | ⟨g, cap, cur, rfl, hbg, hg, hnc, hcm, hcs, htake⟩
  · exact absurd rfl hv
  have hw : IntKind.i64.wrap (k : Int) = k := by rw [IntKind.wrap_i64]; omega
  have hneg : ¬ ((k : Int) < 0) := by omega
  have h48i : ¬ (281474976710656 < (k : Int) * (i0.bytes : Int)) := by rw [hz2]; omega
  rw [Nat.mul_one] at hcs htake
  have hul : (u8s (List.replicate k 0)).length = k := by simp
  by_cases hk : k = 0
  · subst hk
    have hr : (Builtin.append_ #[27, 3] ty #[.slice (some ⟨g, 0, none⟩) xs.length cap, .int .i64 ((0 : Nat) : Int)]).run Try.prog w = .ok (.slice (some ⟨g, 0, none⟩) xs.length cap) w := by
      have hz : IntKind.i64.wrap 0 = 0 := by decide
      simp [Builtin.append_, run_underlying Try.underlying27, run_underlying Try.underlying3, sizeOf, typeInfo, hi, asInt, asIntOf, hz, hnc, storeCells]
    exact ⟨_, w, hr, by simpa using hown, ⟨rfl, rfl, rfl, Nat.le_refl _, fun _ _ _ => rfl⟩, .inl rfl⟩
  by_cases hroom : xs.length + k ≤ cap
  · have h1 : ∀ u ∈ u8s (List.replicate k 0), u.oneCell' = true := by
      intro u hu
      obtain ⟨x, _, rfl⟩ := List.mem_map.1 hu
      rfl
    have hst := run_storeCells_at Try.prog g xs.length 5 (u8s (List.replicate k 0)) 0 cur w hg (by rw [hul]; omega) h1
    simp only [Nat.add_zero] at hst
    have hst' : (storeCells ⟨g, xs.length, none⟩ (u8s (List.replicate k 0))).run Try.prog w = .ok () (w.setRow g (cur.toList.take xs.length ++ u8s (List.replicate k 0) ++ cur.toList.drop (xs.length + k)).toArray) := by
      rw [hul] at hst
      exact hst
    refine ⟨.slice (some ⟨g, 0, none⟩) (xs.length + k) cap, w.setRow g (cur.toList.take xs.length ++ u8s (List.replicate k 0) ++ cur.toList.drop (xs.length + k)).toArray, ?_, ⟨by simp [u8s], .inr ⟨g, cap, _, by simp, hbg, setRow_heap w g cur _ 5 _ hg, by simpa using hroom, hcm, ?_, ?_⟩⟩, ⟨rfl, rfl, rfl, by simp, fun j _ hj => setRow_other w g j _ (fun e => hj (by simp [Value.ownBlock, e]))⟩, .inl rfl⟩
    · simp [Builtin.append_, run_underlying Try.underlying27, run_underlying Try.underlying3, sizeOf, typeInfo, zeroValue, hi, hz0, asInt, asIntOf, hw, hneg, h48i, hroom, Addr.add_lit, hz1, hk, zeroCells8, hst']
    · simp [hul]; omega
    · rw [htake]
      have e : (u8s xs ++ u8s (List.replicate k 0)).length = (xs ++ List.replicate k 0).length * 1 := by simp
      rw [← e, List.take_left, u8s_append]
  · have holds : ∀ j u, (u8s xs)[j]? = some u → w.cell? ((⟨g, 0, none⟩ : Addr).add j) = some u := World.ownsRow.cells (g := g) hown rfl
    have hold : (Builtin.firstCells i0.size xs.length (.slice (some ⟨g, 0, none⟩) xs.length cap)).run Try.prog w.drew = .ok (u8s xs).toArray w.drew :=
      run_firstCells_some (P := Try.prog) w.drew i0.size xs.length ⟨g, 0, none⟩ xs.length cap (u8s xs) (by rw [hz1]; simp) holds
    have hr := Lib.run_append_grow_zeros (P := Try.prog) w 27 3 ty 5 i0 (.int .u8 0) .i64 .i64 Try.underlying27 Try.underlying3 hi hz0 (some ⟨g, 0, none⟩) xs.length cap (u8s xs) hold k (by omega) (by omega) (by omega) (by omega) (by rw [hz2]; omega) (growslice_fits (by omega) (by rw [hz2]; omega))
    have hge := grownCap_ge w (xs.length + k) cap 5
    have hcm2 : grownCap w (xs.length + k) cap 5 ≤ maxLen := grownCap_le_maxLen w (xs.length + k) cap 5 (by unfold maxLen; omega)
    rw [zeroCells8] at hr
    refine ⟨_, _, hr, ⟨by simp [u8s], .inr ⟨w.heap.size, _, _, by simp, hbase, heap_alloc_new w.drew _, by simpa using hge, hcm2, ?_, ?_⟩⟩, ⟨rfl, rfl, rfl, by simp, fun j hj _ => Below.heap_alloc w.drew _ j hj⟩, .inr rfl⟩
    · simp [size_zeroCells, Value.cells]
      omega
    · simp only [Array.toList_append, List.append_assoc]
      have e : (u8s xs ++ u8s (List.replicate k 0)).length = (xs ++ List.replicate k 0).length * 1 := by simp
      rw [← List.append_assoc, ← e, List.take_left, u8s_append]

theorem wpList_append_zeros8 {w : World} {ops : Array Oper} {rest : List Oper} {o : Oper} {a : Act} {Q : Exit → Act → World → Prop} (hgd : o.guard = none) (s x : Operand)
    (ho : o.op = .call { callee := .builtin .append, args := #[s, x], argTypes := #[27, 3] }) {base : Nat} {v : Value} {xs : List Int} (hs : a.eval s = v) (hown : Own8 w base v xs) (hv : v ≠ .slice none 0 0) {k : Nat} (hx : a.eval x = .int .i64 k)
    (h63 : xs.length + k ≤ 140737488355328) (hbase : base ≤ w.heap.size)
    (h : ∀ v' w', Own8 w' base v' (xs ++ List.replicate k 0) → w.grownBy w' v.ownBlock → (v'.ownBlock = v.ownBlock ∨ v'.ownBlock = some w.heap.size) → wpList Try.prog ops Q rest (a.put o.dst v') w') : wpList Try.prog ops Q (o :: rest) a w := by
  obtain ⟨v', w', hrun, h2, h3, h4⟩ := run_append_zeros8 o.type hown hv k h63 hbase
  refine wpList_plain hgd fun K hK => ?_
  unfold Oper.wp execOp
  simp only [ho, resolve, invoke, builtin, Sem.run_bind, Sem.run_pure, Result.andThen_ok, List.map_toArray, List.map_cons, List.map_nil, hs, hx, hrun]
  exact hK _ _ (h v' w' h2 h3 h4)
end Go.Proofs.Ytladojbppfmkpaa
