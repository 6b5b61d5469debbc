/- What a table is in memory, and what its find answers. -/
import Derived.Test.YtgcnocaibhiggaaTabPlain
import Derived.Test.YtgcnocaibhiggaaTableFindSX
namespace Go.Proofs.Ytgcnocaibhiggaa
open Go.RowKit Go.Shelf Go.Maps
set_option linter.unusedVariables false

abbrev KeySX : Type := ByteArray
def kvSX (k : KeySX) : Value := .string k
def klitSX (k : KeySX) : Lit := (fun s : ByteArray => Lit.string s.data.toList) k
def kokSX (k : KeySX) : Prop := (fun s : ByteArray => s.size ≤ maxLen) k

theorem lawSX : Keyed Try.prog 9 := string_keyed Try.underlying9
theorem keyOfSX {k : KeySX} (h : kokSX k) : keyOf Try.prog 9 (kvSX k) = some (klitSX k) := (fun h => Go.WideMaps.keyOf_string_mk Try.underlying9 h) h
theorem zeroPSX (w : World) : (zeroValue 81).run Try.prog w = .ok (.pointer none) w := by kernel_rfl

/-- What the map of a table is, said of its entries. -/
structure MapRelSX (D : DataW Unit) (L : List (Ent KeySX)) : Prop where
  at_ : ∀ k, kokSX k → D.atKey (klitSX k) (.lit (.int .i64 (-1))) = .lit (.int .i64 (numOf (blkOf L k)))
  has : ∀ k, kokSX k → Maps.has D (klitSX k) = (blkOf L k).isSome
  size : Maps.size D = L.length

/-- Block tb is a table of most keys; mv is its map; L are its entries in their order. -/
structure TabSX (w : World) (tb : Nat) (most : Int) (mv : Option Nat) (L : List (Ent KeySX)) : Prop where
  tab : Whole w tb 83 #[.int .i64 most, .map mv, ptr (blkAt L 0), ptr (lastB L)]
  map : (mv = none ∧ L = []) ∨ ∃ mb D, mv = some mb ∧ w.ownsMap Try.prog 9 ptrElem mb L.length D ∧ MapRelSX D L
  ents : ∀ (i : Nat) (x : Ent KeySX), L[i]? = some x → Whole w x.2.2 87 #[kvSX x.1, .int .i32 x.2.1, ptr (prevB L i), ptr (nextB L i)]
  keys : (L.map (·.1)).Nodup
  blks : (L.map (·.2.2)).Nodup
  kok : ∀ x ∈ L, kokSX x.1

/-- The blocks of a table. -/
def TabSSX (tb : Nat) (mv : Option Nat) (L : List (Ent KeySX)) : Nat → Prop := fun j => j = tb ∨ mv = some j ∨ ∃ x ∈ L, x.2.2 = j

theorem TabSX.only {w w' : World} {tb : Nat} {most : Int} {mv : Option Nat} {L : List (Ent KeySX)} {S : Nat → Prop} (h : TabSX w tb most mv L) (hO : Only S w w') (hn : ∀ j, TabSSX tb mv L j → ¬ S j) : TabSX w' tb most mv L := by
  refine ⟨h.tab.only hO (hn _ (.inl rfl)), ?_, fun i x hi => (h.ents i x hi).only hO (hn _ (.inr (.inr ⟨x, List.mem_of_getElem? hi, rfl⟩))), h.keys, h.blks, h.kok⟩
  rcases h.map with h1 | ⟨mb, D, rfl, hm, hr⟩
  · exact .inl h1
  · refine .inr ⟨mb, D, rfl, ?_, hr⟩
    exact ownsMap_block hm (hO.block mb hm.lt (hn mb (.inr (.inl rfl))))

theorem TabSX.below {w w' : World} {tb : Nat} {most : Int} {mv : Option Nat} {L : List (Ent KeySX)} (h : TabSX w tb most mv L) (hb : Below w.heap.size w w') : TabSX w' tb most mv L :=
  h.only (S := fun _ => False) ⟨hb.os, hb.tape, hb.output, hb.size, fun k hk _ => hb.block k hk⟩ (fun _ _ e => e)

/-- What the map answers. -/
theorem lookSX {w : World} {tb : Nat} {most : Int} {mv : Option Nat} {L : List (Ent KeySX)} (h : TabSX w tb most mv L) {k : KeySX} (hk : kokSX k) :
    (Instr.lookup 80 (.map mv) (kvSX k) false).run Try.prog w = .ok (ptr (blkOf L k)) w := by
  rcases h.map with ⟨rfl, rfl⟩ | ⟨mb, D, rfl, hm, hr⟩
  · exact Maps.look_nil false lawSX Try.underlying80 (zeroPSX w) (keyOfSX hk)
  · obtain ⟨v, ps, hrun, hv⟩ := hm.lookup lawSX Try.underlying80 (zeroPSX w) (zd := .lit (.int .i64 (-1))) (zp := []) rfl (keyOfSX hk)
    rw [hr.at_ k hk] at hv
    rw [hrun, ptrElem_inv hv]

set_option maxHeartbeats 1600000 in
theorem find_atSX {tb : Nat} {most : Int} {mv : Option Nat} {L : List (Ent KeySX)} (k : KeySX) (w : World) (h : TabSX w tb most mv L) (hk : kokSX k) :
    Calls Try.prog 45 #[.pointer (some ⟨tb, 0, none⟩), kvSX k] w fun e w' => e = .returned (.tuple #[ptr (blkOf L k), .bool true]) ∧ Below w.heap.size w w' := by
  have hmf : ∀ (fn : Fn) (first cap : Array Value) (w : World), (Instr.makeFunc fn first cap).run Try.prog w = .ok (.func fn first cap) w := fun _ _ _ _ => rfl
  have h2 : TabSX ((w.alloc (.cells #[.pointer none] 81)).alloc (.cells #[.bool false] 4)) tb most mv L := h.below (((Below.refl _ w).alloc (Nat.le_refl _) _).alloc (by simp) _)
  have hlk := lookSX h2 hk
  have h1 : ((w.alloc (.cells #[.pointer none] 81)).alloc (.cells #[.bool false] 4)).cell? ⟨tb, 1, none⟩ = some (.map mv) := by have := h2.tab.cell 1; simpa using this
  obtain ⟨p, hp⟩ : ∃ p, ptr (blkOf L k) = .pointer p := ⟨_, rfl⟩
  rw [hp] at hlk ⊢
  simp only [kvSX] at hlk ⊢
  clear h h2 hp
  go_enter_defers Try.func45, Try.ntmps45
  go_wp2
  refine leaves_cons (f := 66) (args := #[.pointer (some ⟨w.heap.size, 0, none⟩), .pointer (some ⟨w.heap.size + 1, 0, none⟩)]) (by simp) (by simp [go_sem]) ?_
  refine (catchSX _ _ _).mono ?_
  rintro e u' w'' ⟨rfl, rfl, rfl⟩
  simp [Leaves, settle, results, Try.results45, go_sem]
  exact ((Below.refl _ _).alloc (Nat.le_refl _) _).alloc (by simp) _

theorem klit_injSX {a b : KeySX} (ha : kokSX a) (hb : kokSX b) (h : klitSX a = klitSX b) : a = b := by
  have e1 := keyOfSX ha
  have e2 := keyOfSX hb
  rw [← h] at e2
  have := lawSX.inj e1 e2
  simp only [kvSX] at this
  injection this

theorem mapRel_nilSX : MapRelSX (.map []) [] := ⟨fun k _ => rfl, fun k _ => rfl, rfl⟩

theorem mapRel_putSX {D : DataW Unit} {L : List (Ent KeySX)} {n : Nat} {w : World} {mb : Nat} (h : MapRelSX D L) (hm : w.ownsMap Try.prog 9 ptrElem mb n D) {k : KeySX} (hk : kokSX k) (hn : blkOf L k = none) (v : Int) (g : Nat) :
    MapRelSX (D.put (klitSX k) (.lit (.int .i64 (g : Int)))) (L ++ [(k, v, g)]) := by
  have hl := lawSX.key (keyOfSX hk)
  have ht := hm.tidy lawSX
  refine ⟨fun k' hk' => ?_, fun k' hk' => ?_, ?_⟩
  · rw [blkOf_append L (k, v, g) k' hn]
    by_cases e : k' = k
    · subst e
      rw [if_pos rfl, atKey_put_same ht.isMap hl]
      rfl
    · rw [if_neg e, atKey_put_other (fun e2 => e (klit_injSX hk' hk e2))]
      exact h.at_ k' hk'
  · rw [blkOf_append L (k, v, g) k' hn]
    by_cases e : k' = k
    · subst e
      rw [if_pos rfl, has_put_same ht.isMap hl]
      rfl
    · rw [if_neg e, has_put_other (fun e2 => e (klit_injSX hk' hk e2))]
      exact h.has k' hk'
  · rw [size_put ht, h.has k hk, hn, h.size]
    simp

theorem mapRel_delSX {D : DataW Unit} {L : List (Ent KeySX)} {n : Nat} {w : World} {mb : Nat} (h : MapRelSX D L) (hm : w.ownsMap Try.prog 9 ptrElem mb n D) (hnd : (L.map (·.1)).Nodup) {i : Nat} {x : Ent KeySX} (hi : L[i]? = some x) (hk : kokSX x.1) :
    MapRelSX (D.del (klitSX x.1)) (L.eraseIdx i) := by
  have ht := hm.tidy lawSX
  have hb := blkOf_of_get hnd hi
  have hil : i < L.length := (List.getElem?_eq_some_iff.1 hi).1
  refine ⟨fun k' hk' => ?_, fun k' hk' => ?_, ?_⟩
  · rw [blkOf_erase hnd hi k']
    by_cases e : k' = x.1
    · rw [if_pos e, e, atKey_del_same]
      rfl
    · rw [if_neg e, atKey_del_other (fun e2 => e (klit_injSX hk' hk e2))]
      exact h.at_ k' hk'
  · rw [blkOf_erase hnd hi k']
    by_cases e : k' = x.1
    · rw [if_pos e, e, has_del_same]
      rfl
    · rw [if_neg e, has_del_other (fun e2 => e (klit_injSX hk' hk e2))]
      exact h.has k' hk'
  · have hs := size_del (k := klitSX x.1) ht
    rw [h.has x.1 hk, hb, h.size] at hs
    simp at hs
    rw [List.length_eraseIdx, if_pos hil]
    omega

end Go.Proofs.Ytgcnocaibhiggaa
