/- The document's Join: pieces, one behind the other. -/
import Derived.Test.YteloaidnfcmadaaStWrite
namespace Go.Proofs.Yteloaidnfcmadaa
open Go.RowKit
set_option linter.unusedVariables false

/-- The slices vs read as the pieces ps. -/
def Pieces (w : World) (B : Nat) (vs : List Value) (ps : List (List Int)) : Prop := vs.length = ps.length ∧ ∀ i, i < vs.length → V8 w B (vs.getD i undef) (ps.getD i [])
theorem Pieces.below {w w' : World} {B : Nat} {vs : List Value} {ps : List (List Int)} (h : Pieces w B vs ps) (hb : Below B w w') : Pieces w' B vs ps := ⟨h.1, fun i hi => (h.2 i hi).below hb⟩
theorem Pieces.nil (w : World) (B : Nat) : Pieces w B [] [] := ⟨rfl, fun i hi => by simp at hi⟩
theorem Pieces.cons {w : World} {B : Nat} {v : Value} {p : List Int} {vs : List Value} {ps : List (List Int)} (h : V8 w B v p) (hr : Pieces w B vs ps) : Pieces w B (v :: vs) (p :: ps) :=
  ⟨by simp [hr.1], fun i hi => by
    cases i with
    | zero => exact h
    | succ i => exact hr.2 i (by simpa using hi)⟩
theorem flatten_take (ps : List (List Int)) (k : Nat) (hk : k < ps.length) : (ps.take (k + 1)).flatten = (ps.take k).flatten ++ ps.getD k [] := by
  rw [List.take_succ_eq_append_getElem hk, List.flatten_append]
  simp [List.getD, hk]

set_option maxHeartbeats 800000 in
set_option maxRecDepth 100000 in
theorem join_any (sb c : Nat) (vs : List Value) (ps : List (List Int)) (w : World) (hs : Whole w sb 22 vs.toArray) (hp : Pieces w w.heap.size vs ps) (hl : ps.flatten.length ≤ 140737488355328) (hn : vs.length ≤ 1000) :
    Calls Try.prog 35 #[.slice (some ⟨sb, 0, none⟩) vs.length c] w fun e w' => ∃ v, e = .returned v ∧ Own8 w' w.heap.size v ps.flatten ∧ Below w.heap.size w w' := by
  have HP := Lib.hid (And.intro hp (And.intro hs hl))
  have hsl := hs.lt
  obtain ⟨n, hN⟩ : ∃ n, vs.length = n := ⟨_, rfl⟩
  have HN := Lib.hid hN
  rw [hN] at hn ⊢
  clear hp hs hl hN
  go_enter Try.func35, Try.ntmps35
  go_wp2
  go_loopw [3, 7] (fun s3 s7 wr => ∃ k : Nat, k ≤ n ∧ s7 = .int .i64 k ∧ Own8 wr w.heap.size s3 (ps.take k).flatten ∧ Below w.heap.size w wr) (fun _ s7 _ => n - (intOf s7).toNat)
  case atStart => exact ⟨0, by omega, rfl, Own8.nil w _, Below.refl _ w⟩
  case round =>
    obtain ⟨k, hk, rfl, ho, hb⟩ := hrel
    by_cases hlt : k < n
    · have hkl : k < vs.length := by rw [HN.out]; exact hlt
      obtain ⟨A, m, hv, hm1, hm2, hnil, hbs⟩ := HP.out.1.2 k hkl
      have hkp : k < ps.length := by rw [← HP.out.1.1]; exact hkl
      have hcell : wr.cell? ⟨sb, k, none⟩ = some (.slice A (ps.getD k []).length m) := by
        rw [hb.cell (p := ⟨sb, k, none⟩) hsl, HP.out.2.1.cell, ← hv]
        simp [List.getD, hkl]
      have hft := flatten_take ps k hkp
      have hfl : ((ps.take k).flatten).length + (ps.getD k []).length ≤ 140737488355328 := by
        have h1 : ps.flatten = (ps.take (k + 1)).flatten ++ (ps.drop (k + 1)).flatten := by rw [← List.flatten_append, List.take_append_drop]
        have h2 := HP.out.2.2
        rw [h1, hft, List.length_append, List.length_append] at h2
        omega
      have hz := hb.size
      have HR := Lib.hid (And.intro ho (And.intro hb (And.intro hft (And.intro hfl (And.intro (hbs.below hb) (And.intro hnil hz))))))
      obtain ⟨q, hq⟩ : ∃ q, ps.getD k [] = q := ⟨_, rfl⟩
      rw [hq] at hcell HR
      obtain ⟨l, hl⟩ : ∃ l, q.length = l := ⟨_, rfl⟩
      rw [hl] at hcell HR
      clear ho hb hft hfl hbs hv hnil hz hq hl hm1 hm2
      go_wp2_with (at_builtin; go_must (refine wpList_append8 rfl (.tmp 10) (.tmp 14) rfl rfl HR.out.1 rfl HR.out.2.2.2.2.1 HR.out.2.2.2.2.2.1 HR.out.2.2.2.1 HR.out.2.2.2.2.2.2 ?_); intro v2 w2 h2 hg2 hh2)
      have hb2 := HR.out.2.1.grown hg2 HR.out.2.1.size (fun k hk => (HR.out.1.lt hk).1)
      rw [← HR.out.2.2.1] at h2
      have H2 := Lib.hid (And.intro h2 hb2)
      clear h2 hg2 hh2 hb2
      go_roundw
      case rel => exact ⟨k + 1, by omega, by go_num, H2.out⟩
      case measure => simp [intOf]; omega
    · have e : (ps.take k).flatten = ps.flatten := by rw [List.take_of_length_le (by have := HP.out.1.1; have := HN.out; omega)]
      rw [e] at ho
      have HR := Lib.hid (And.intro ho hb)
      obtain rfl : k = n := by omega
      clear ho hb e
      go_wp2
      go_ret
      exact ⟨_, rfl, HR.out.1, HR.out.2⟩
end Go.Proofs.Yteloaidnfcmadaa
