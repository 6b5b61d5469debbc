/- What a Parse answered of a message's own bytes; bytes that fit. -/
import Derived.Test.YteloaidnfcmadaaStParse
namespace Go.Proofs.Yteloaidnfcmadaa
open Go.RowKit
set_option linter.unusedVariables false
/-- The second half: what is read is written as it stood. -/
theorem parsed_same {w' : World} {m : Msg} {M : Array Value} {x : Int} (hv : Valid m) (hf : Fine m) (h : ParsedV w' (msgBytes m) M x) : x = 0 ∧ ∃ A c, MsgV w' w'.heap.size M m A c := by
  rcases h with ⟨m', A, c, h1, h2, h3⟩ | ⟨h1, _⟩
  · have e := Is.same (⟨hv, hf, rfl⟩ : Is (msgBytes m) m) h1
    subst e
    exact ⟨h2, A, c, h3⟩
  · exact absurd ⟨hv, hf, rfl⟩ (h1 m)
theorem In256.append {a b : List Int} (ha : In256 a) (hb : In256 b) : In256 (a ++ b) := fun i => by
  by_cases hi : i < a.length
  · have e : (a ++ b).getD i 0 = a.getD i 0 := by simp [List.getD, List.getElem?_append_left hi]
    rw [e]; exact ha i
  · have e : (a ++ b).getD i 0 = b.getD (i - a.length) 0 := by simp [List.getD, List.getElem?_append_right (show a.length ≤ i by omega)]
    rw [e]; exact hb _
theorem In256.of_all {l : List Int} (h : ∀ x ∈ l, 0 ≤ x ∧ x < 256) : In256 l := fun i => by
  by_cases hi : i < l.length
  · have e : l.getD i 0 = l[i] := by simp [List.getD, hi]
    rw [e]; exact h _ (List.getElem_mem hi)
  · have e : l.getD i 0 = 0 := by simp [List.getD, List.getElem?_eq_none (show l.length ≤ i by omega)]
    rw [e]; omega
theorem in256_be2 (x : Int) : In256 (be2 x) := In256.of_all fun y hy => by
  simp only [be2, List.mem_cons, List.not_mem_nil, or_false] at hy
  rcases hy with rfl | rfl <;> omega
theorem in256_be4 (x : Int) : In256 (be4 x) := In256.of_all fun y hy => by
  simp only [be4, List.mem_cons, List.not_mem_nil, or_false] at hy
  rcases hy with rfl | rfl | rfl | rfl <;> omega
theorem in256_body {L : List At} (h : ∀ a ∈ L, In256 a.val) : In256 (body L) := by
  induction L with
  | nil => exact In256.nil
  | cons a r ih =>
    refine In256.append (In256.append (in256_be2 _) (In256.append (in256_be2 _) (In256.append (h a List.mem_cons_self) (In256.of_all fun x hx => ?_)))) (ih fun b hb => h b (List.mem_cons_of_mem _ hb))
    rw [List.eq_of_mem_replicate hx]; omega
theorem in256_msg {m : Msg} (hf : Fine m) : In256 (msgBytes m) := In256.append (in256_be2 _) (In256.append (in256_be2 _) (In256.append (in256_be4 _) (In256.append hf.idb (in256_body hf.vals))))
theorem parsed_size {w' : World} {xs : List Int} {M : Array Value} {x : Int} (h : ParsedV w' xs M x) : M.size = 15 ∧ M.all (·.oneCell') = true := by
  rcases h with ⟨m, A, c, _, _, h⟩ | ⟨_, _, rfl⟩
  · exact ⟨h.size, h.one⟩
  · exact ⟨zM_size, mv_one rfl⟩
end Go.Proofs.Yteloaidnfcmadaa
