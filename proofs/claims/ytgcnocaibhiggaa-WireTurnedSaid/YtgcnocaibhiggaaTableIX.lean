/- What a table is in memory, and what its find answers. -/
import Derived.Test.YtgcnocaibhiggaaTabPlain
import Derived.Test.YtgcnocaibhiggaaTableFindIX
namespace Go.Proofs.Ytgcnocaibhiggaa
open Go.RowKit Go.Shelf Go.Maps
set_option linter.unusedVariables false

abbrev KeyIX : Type := Int
def kvIX (k : KeyIX) : Value := .int .i64 k
def klitIX (k : KeyIX) : Lit := (fun s : Int => Lit.int .i64 s) k
def kokIX (k : KeyIX) : Prop := (fun s : Int => (Lit.int .i64 s).wf = true) k

theorem lawIX : Keyed Try.prog 3 := int_keyed Try.underlying3
theorem keyOfIX {k : KeyIX} (h : kokIX k) : keyOf Try.prog 3 (kvIX k) = some (klitIX k) := (fun h => keyOf_int_mk Try.underlying3 h) h
theorem zeroPIX (w : World) : (zeroValue 92).run Try.prog w = .ok (.pointer none) w := by kernel_rfl

/-- What the map of a table is, said of its entries. -/
structure MapRelIX (D : DataW Unit) (L : List (Ent KeyIX)) : Prop where
  at_ : ∀ k, kokIX k → D.atKey (klitIX k) (.lit (.int .i64 (-1))) = .lit (.int .i64 (numOf (blkOf L k)))
  has : ∀ k, kokIX k → Maps.has D (klitIX k) = (blkOf L k).isSome
  size : Maps.size D = L.length

/-- Block tb is a table of most keys; mv is its map; L are its entries in their order. -/
structure TabIX (w : World) (tb : Nat) (most : Int) (mv : Option Nat) (L : List (Ent KeyIX)) : Prop where
  tab : Whole w tb 94 #[.int .i64 most, .map mv, ptr (blkAt L 0), ptr (lastB L)]
  map : (mv = none ∧ L = []) ∨ ∃ mb D, mv = some mb ∧ w.ownsMap Try.prog 3 ptrElem mb L.length D ∧ MapRelIX D L
  ents : ∀ (i : Nat) (x : Ent KeyIX), L[i]? = some x → Whole w x.2.2 98 #[kvIX x.1, .int .i32 x.2.1, ptr (prevB L i), ptr (nextB L i)]
  keys : (L.map (·.1)).Nodup
  blks : (L.map (·.2.2)).Nodup
  kok : ∀ x ∈ L, kokIX x.1

/-- The blocks of a table. -/
def TabSIX (tb : Nat) (mv : Option Nat) (L : List (Ent KeyIX)) : Nat → Prop := fun j => j = tb ∨ mv = some j ∨ ∃ x ∈ L, x.2.2 = j

theorem TabIX.only {w w' : World} {tb : Nat} {most : Int} {mv : Option Nat} {L : List (Ent KeyIX)} {S : Nat → Prop} (h : TabIX w tb most mv L) (hO : Only S w w') (hn : ∀ j, TabSIX tb mv L j → ¬ S j) : TabIX w' tb most mv L := by
  refine ⟨h.tab.only hO (hn _ (.inl rfl)), ?_, fun i x hi => (h.ents i x hi).only hO (hn _ (.inr (.inr ⟨x, List.mem_of_getElem? hi, rfl⟩))), h.keys, h.blks, h.kok⟩
  rcases h.map with h1 | ⟨mb, D, rfl, hm, hr⟩
  · exact .inl h1
  · refine .inr ⟨mb, D, rfl, ?_, hr⟩
    exact ownsMap_block hm (hO.block mb hm.lt (hn mb (.inr (.inl rfl))))

theorem TabIX.below {w w' : World} {tb : Nat} {most : Int} {mv : Option Nat} {L : List (Ent KeyIX)} (h : TabIX w tb most mv L) (hb : Below w.heap.size w w') : TabIX w' tb most mv L :=
  h.only (S := fun _ => False) ⟨hb.os, hb.tape, hb.output, hb.size, fun k hk _ => hb.block k hk⟩ (fun _ _ e => e)

/-- What the map answers. -/
theorem lookIX {w : World} {tb : Nat} {most : Int} {mv : Option Nat} {L : List (Ent KeyIX)} (h : TabIX w tb most mv L) {k : KeyIX} (hk : kokIX k) :
    (Instr.lookup 91 (.map mv) (kvIX k) false).run Try.prog w = .ok (ptr (blkOf L k)) w := by
  rcases h.map with ⟨rfl, rfl⟩ | ⟨mb, D, rfl, hm, hr⟩
  · exact Maps.look_nil false lawIX Try.underlying91 (zeroPIX w) (keyOfIX hk)
  · obtain ⟨v, ps, hrun, hv⟩ := hm.lookup lawIX Try.underlying91 (zeroPIX w) (zd := .lit (.int .i64 (-1))) (zp := []) rfl (keyOfIX hk)
    rw [hr.at_ k hk] at hv
    rw [hrun, ptrElem_inv hv]

set_option maxHeartbeats 1600000 in
theorem find_atIX {tb : Nat} {most : Int} {mv : Option Nat} {L : List (Ent KeyIX)} (k : KeyIX) (w : World) (h : TabIX w tb most mv L) (hk : kokIX k) :
    Calls Try.prog 50 #[.pointer (some ⟨tb, 0, none⟩), kvIX k] w fun e w' => e = .returned (.tuple #[ptr (blkOf L k), .bool true]) ∧ Below w.heap.size w w' := by
  have hmf : ∀ (fn : Fn) (first cap : Array Value) (w : World), (Instr.makeFunc fn first cap).run Try.prog w = .ok (.func fn first cap) w := fun _ _ _ _ => rfl
  have h2 : TabIX ((w.alloc (.cells #[.pointer none] 92)).alloc (.cells #[.bool false] 4)) tb most mv L := h.below (((Below.refl _ w).alloc (Nat.le_refl _) _).alloc (by simp) _)
  have hlk := lookIX h2 hk
  have h1 : ((w.alloc (.cells #[.pointer none] 92)).alloc (.cells #[.bool false] 4)).cell? ⟨tb, 1, none⟩ = some (.map mv) := by have := h2.tab.cell 1; simpa using this
  obtain ⟨p, hp⟩ : ∃ p, ptr (blkOf L k) = .pointer p := ⟨_, rfl⟩
  rw [hp] at hlk ⊢
  simp only [kvIX] at hlk ⊢
  clear h h2 hp
  go_enter_defers Try.func50, Try.ntmps50
  go_wp2
  refine leaves_cons (f := 67) (args := #[.pointer (some ⟨w.heap.size, 0, none⟩), .pointer (some ⟨w.heap.size + 1, 0, none⟩)]) (by simp) (by simp [go_sem]) ?_
  refine (catchIX _ _ _).mono ?_
  rintro e u' w'' ⟨rfl, rfl, rfl⟩
  simp [Leaves, settle, results, Try.results50, go_sem]
  exact ((Below.refl _ _).alloc (Nat.le_refl _) _).alloc (by simp) _

theorem klit_injIX {a b : KeyIX} (ha : kokIX a) (hb : kokIX b) (h : klitIX a = klitIX b) : a = b := by
  have e1 := keyOfIX ha
  have e2 := keyOfIX hb
  rw [← h] at e2
  have := lawIX.inj e1 e2
  simp only [kvIX] at this
  injection this

theorem mapRel_nilIX : MapRelIX (.map []) [] := ⟨fun k _ => rfl, fun k _ => rfl, rfl⟩

theorem mapRel_putIX {D : DataW Unit} {L : List (Ent KeyIX)} {n : Nat} {w : World} {mb : Nat} (h : MapRelIX D L) (hm : w.ownsMap Try.prog 3 ptrElem mb n D) {k : KeyIX} (hk : kokIX k) (hn : blkOf L k = none) (v : Int) (g : Nat) :
    MapRelIX (D.put (klitIX k) (.lit (.int .i64 (g : Int)))) (L ++ [(k, v, g)]) := by
  have hl := lawIX.key (keyOfIX hk)
  have ht := hm.tidy lawIX
  refine ⟨fun k' hk' => ?_, fun k' hk' => ?_, ?_⟩
  · rw [blkOf_append L (k, v, g) k' hn]
    by_cases e : k' = k
    · subst e
      rw [if_pos rfl, atKey_put_same ht.isMap hl]
      rfl
    · rw [if_neg e, atKey_put_other (fun e2 => e (klit_injIX hk' hk e2))]
      exact h.at_ k' hk'
  · rw [blkOf_append L (k, v, g) k' hn]
    by_cases e : k' = k
    · subst e
      rw [if_pos rfl, has_put_same ht.isMap hl]
      rfl
    · rw [if_neg e, has_put_other (fun e2 => e (klit_injIX hk' hk e2))]
      exact h.has k' hk'
  · rw [size_put ht, h.has k hk, hn, h.size]
    simp

theorem mapRel_delIX {D : DataW Unit} {L : List (Ent KeyIX)} {n : Nat} {w : World} {mb : Nat} (h : MapRelIX D L) (hm : w.ownsMap Try.prog 3 ptrElem mb n D) (hnd : (L.map (·.1)).Nodup) {i : Nat} {x : Ent KeyIX} (hi : L[i]? = some x) (hk : kokIX x.1) :
    MapRelIX (D.del (klitIX x.1)) (L.eraseIdx i) := by
  have ht := hm.tidy lawIX
  have hb := blkOf_of_get hnd hi
  have hil : i < L.length := (List.getElem?_eq_some_iff.1 hi).1
  refine ⟨fun k' hk' => ?_, fun k' hk' => ?_, ?_⟩
  · rw [blkOf_erase hnd hi k']
    by_cases e : k' = x.1
    · rw [if_pos e, e, atKey_del_same]
      rfl
    · rw [if_neg e, atKey_del_other (fun e2 => e (klit_injIX hk' hk e2))]
      exact h.at_ k' hk'
  · rw [blkOf_erase hnd hi k']
    by_cases e : k' = x.1
    · rw [if_pos e, e, has_del_same]
      rfl
    · rw [if_neg e, has_del_other (fun e2 => e (klit_injIX hk' hk e2))]
      exact h.has k' hk'
  · have hs := size_del (k := klitIX x.1) ht
    rw [h.has x.1 hk, hb, h.size] at hs
    simp at hs
    rw [List.length_eraseIdx, if_pos hil]
    omega

end Go.Proofs.Ytgcnocaibhiggaa
