/- The document's Known: is a name one of a part's? -/
import Derived.Test.YtmlapbadgjhhdaaGreatDoorAtLeaf
namespace Go.Proofs.YtmlapbadgjhhdaaGreatDoor
open Go.RowKit
set_option linter.unusedVariables false
set_option linter.unusedSimpArgs false

abbrev kArr : Array Value := #[.string ⟨#[109, 105, 100]⟩, .string ⟨#[105, 110, 97, 99, 116, 105, 118, 101]⟩, .string ⟨#[115, 101, 110, 100, 111, 110, 108, 121]⟩, .string ⟨#[114, 101, 99, 118, 111, 110, 108, 121]⟩, .string ⟨#[115, 101, 110, 100, 114, 101, 99, 118]⟩, .string ⟨#[114, 116, 112, 109, 97, 112]⟩, .string ⟨#[102, 109, 116, 112]⟩, .string ⟨#[114, 116, 99, 112, 45, 102, 98]⟩, .string ⟨#[101, 120, 116, 109, 97, 112]⟩, .string ⟨#[114, 105, 100]⟩, .string ⟨#[115, 105, 109, 117, 108, 99, 97, 115, 116]⟩, .string ⟨#[115, 115, 114, 99]⟩, .string ⟨#[99, 114, 121, 112, 116, 111]⟩, .string ⟨#[115, 99, 116, 112, 45, 112, 111, 114, 116]⟩]
theorem kArr_eq : kArr = (knownN.map fun l => Value.string (bs l)).toArray := rfl
theorem kArr_at (k : Nat) (h : k < 14) : kArr[k]? = some (.string (bs (knownN.getD k []))) := by
  rw [kArr_eq, List.getElem?_toArray, List.getElem?_map, List.getD_eq_getElem?_getD, List.getElem?_eq_getElem (show k < knownN.length from h)]
  rfl
set_option maxHeartbeats 1600000 in
set_option maxRecDepth 100000 in
theorem known_any (s : ByteArray) (w : World) : Calls Tryz.prog 19 #[.string s] w fun e w' => e = .returned (.bool (knownN.contains (tx s))) ∧ Below w.heap.size w w' := by
  have hb0 : Below w.heap.size w (w.alloc (.cells kArr 9)) := (Below.refl _ w).alloc (Nat.le_refl _) _
  have H0 := Lib.hid (And.intro hb0 (Whole.new w 9 kArr))
  clear hb0
  obtain ⟨r, hr⟩ : ∃ r, knownN.contains (tx s) = r := ⟨_, rfl⟩
  have HR := Lib.hid hr
  rw [hr]
  clear hr
  go_enter Tryz.func19, Tryz.ntmps19
  go_upto_region 2 with fail
  generalize w.alloc (.cells kArr 9) = W0 at *
  generalize hN : w.heap.size = N at *
  go_wp2
  go_loopw [8, 4] (fun s8 _ wr => ∃ k : Nat, k ≤ 14 ∧ s8 = .int .i64 k ∧ ((∀ j, j < k → knownN.getD j [] ≠ tx s) ∧ W0 = wr)) (fun s8 _ _ => 14 - (intOf s8).toNat)
  case atStart => exact ⟨0, by omega, rfl, (fun j hj => by omega), rfl⟩
  case round =>
    obtain ⟨k, hk, rfl, hst, rfl⟩ := hrel
    have HS := Lib.hid hst
    clear hst
    by_cases hlt : k < 14
    · have c0 : W0.cell? ⟨N, k, none⟩ = some (.string (bs (knownN.getD k []))) := (H0.out.2.cell k).trans (kArr_at k hlt)
      have HM : Hid (knownN.getD k [] ∈ knownN) := Lib.hid (by
        rw [List.getD_eq_getElem?_getD, List.getElem?_eq_getElem (show k < knownN.length from hlt)]
        exact List.getElem_mem _)
      obtain ⟨nm, hnm⟩ : ∃ a, bs (knownN.getD k []) = a := ⟨_, rfl⟩
      rw [hnm] at c0
      have HNM : Hid (tx nm = knownN.getD k []) := Lib.hid (by rw [← hnm, tx_bs])
      clear hnm
      have hk0 : (0 : Int) ≤ (k : Int) := by omega
      have hk1 : (k : Int) < 14 := by omega
      by_cases heq : nm = s
      · have HQ : Hid (r = true) := Lib.hid (by
          rw [← HR.out, List.contains_iff_mem]
          have := HM.out
          rw [← HNM.out, heq] at this
          exact this)
        subst heq
        go_wp2
        go_ret
        exact ⟨by rw [HQ.out]; rfl, by rw [hN]; exact H0.out.1⟩
      · have hq : (nm.toList == s.toList) = false := by
          rw [beq_eq_false_iff_ne, toList_tx, toList_tx]
          exact fun h => heq (tx_inj h)
        have HNX : Hid (∀ j, j < k + 1 → knownN.getD j [] ≠ tx s) := Lib.hid fun j hj => by
          by_cases e : j = k
          · subst e
            rw [← HNM.out]
            exact fun h => heq (tx_inj h)
          · exact HS.out j (by omega)
        clear heq
        go_wp2
        go_roundw
        case rel => exact ⟨k + 1, by omega, by go_num, HNX.out, trivial⟩
        case measure => simp [intOf]; omega
    · have HQ : Hid (r = false) := Lib.hid (by
        rw [← HR.out, ← Bool.not_eq_true, List.contains_iff_mem]
        intro h
        obtain ⟨j, hj⟩ := List.mem_iff_getElem?.1 h
        have hj14 : j < 14 := (List.getElem?_eq_some_iff.1 hj).1
        refine HS.out j (by omega) ?_
        rw [List.getD_eq_getElem?_getD, hj]
        rfl)
      go_wp2
      go_ret
      exact ⟨by rw [HQ.out]; rfl, by rw [hN]; exact H0.out.1⟩
end Go.Proofs.YtmlapbadgjhhdaaGreatDoor
