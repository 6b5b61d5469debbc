/- Arrays of bytes given by what lies at each place; the box of S, the program's and the document's. -/
import Derived.Test.YtomnomopcpdpoaaAesSub
namespace Go.Proofs.Ytomnomopcpdpoaa
open Go.RowKit
set_option linter.unusedVariables false

theorem same_flip {f : FuncId} {args : Array Value} {w : World} {v : Value} (h : Calls Try.prog f args w fun e w' => e = .returned v ∧ w = w') : Calls Try.prog f args w fun e w' => e = .returned v ∧ w' = w :=
  h.mono fun _ _ ⟨h1, h2⟩ => ⟨h1, h2.symm⟩

/-- n bytes, by their places. -/
def fl (n : Nat) (f : Nat → B) : List Int := (List.range n).map fun j => nb (f j)
def up (f : Nat → B) (j : Nat) (v : B) (i : Nat) : B := if i = j then v else f i
@[simp] theorem fl_length (n : Nat) (f : Nat → B) : (fl n f).length = n := by simp [fl]
theorem fl_get {n : Nat} (f : Nat → B) {j : Nat} (h : j < n) : (fl n f).getD j 0 = nb (f j) := by simp [fl, List.getD, h]
theorem fl_set (n : Nat) (f : Nat → B) (j : Nat) (v : B) : (fl n f).set j (nb v) = fl n (up f j v) := by
  apply List.ext_getElem
  · simp
  · intro i h1 h2
    simp only [fl, List.getElem_set, List.getElem_map, List.getElem_range, up]
    by_cases e : j = i
    · rw [if_pos e, if_pos e.symm]
    · rw [if_neg e, if_neg (fun h => e h.symm)]
theorem fl_congr {n : Nat} {f g : Nat → B} (h : ∀ i, i < n → f i = g i) : fl n f = fl n g :=
  List.map_congr_left fun i hi => by rw [h i (List.mem_range.1 hi)]
theorem fl_in (n : Nat) (f : Nat → B) (i : Nat) : 0 ≤ (fl n f).getD i 0 ∧ (fl n f).getD i 0 < 256 := by
  by_cases h : i < n
  · rw [fl_get f h]; exact nb_in _
  · rw [List.getD, List.getElem?_eq_none (by simp; omega)]
    exact ⟨Int.le_refl 0, by decide⟩
theorem fl_inj {n : Nat} {f g : Nat → B} (h : fl n f = fl n g) : ∀ i, i < n → f i = g i := fun i hi => by
  have := congrArg (fun l => l.getD i 0) h
  simp only [fl_get f hi, fl_get g hi] at this
  exact nb_inj this

def zB : Nat → B := fun _ => 0#8
theorem Try.zero34 (w : World) : (zeroValue 34).run Try.prog w = .ok (.agg (arr .u8 (fl 256 zB))) w := by kernel_rfl
theorem Try.info34 : (Try.prog.info? 34).map (·.size) = some 256 := by kernel_rfl
theorem Try.zero22 (w : World) : (zeroValue 22).run Try.prog w = .ok (.agg (arr .u8 (fl 16 zB))) w := by kernel_rfl
theorem Try.info22 : (Try.prog.info? 22).map (·.size) = some 16 := by kernel_rfl

section
variable {w : World} {g : Nat} {t : TypeId} {n : Nat} {f : Nat → B}
theorem Whole.atf (h : Whole w g t (arr .u8 (fl n f))) {i : Nat} (hi : i < n) : w.cell? ⟨g, i, none⟩ = some (.int .u8 (nb (f i))) := by
  rw [h.at_ (by simpa using hi), fl_get f hi]
theorem Whole.putf (h : Whole w g t (arr .u8 (fl n f))) (i : Nat) (v : B) : Whole (w.setCell ⟨g, i, none⟩ (.int .u8 (nb v))) g t (arr .u8 (fl n (up f i v))) := by
  have := h.put i (nb v)
  rwa [fl_set] at this
end

theorem sub_num (k : Nat) (hk : k < 256) (w : World) : Calls Try.prog 27 #[.int .u8 (k : Int)] w fun e w' => e = .returned (.int .u8 (nb (Sb k))) ∧ w = w' := by
  have h := sub_any (BitVec.ofNat 8 k) w
  have e : (BitVec.ofNat 8 k).toNat = k := by rw [BitVec.toNat_ofNat]; omega
  rw [S_eq] at h
  unfold nb at h
  rw [e] at h
  exact h

def boxTo (k : Nat) (j : Nat) : B := if j < k then Sb j else 0#8
theorem boxTo_up (k : Nat) : fl 256 (up (boxTo k) k (Sb k)) = fl 256 (boxTo (k + 1)) := fl_congr fun i _ => by
  unfold up boxTo
  by_cases h : i = k
  · subst h; simp
  · rw [if_neg h]
    by_cases h2 : i < k
    · rw [if_pos h2, if_pos (by omega)]
    · rw [if_neg h2, if_neg (by omega)]

set_option maxHeartbeats 1600000 in
set_option maxRecDepth 100000 in
theorem rbox_any (w : World) : Calls Try.prog 14 #[] w fun e w' => e = .returned (.agg (arr .u8 (fl 256 Sb))) ∧ Below w.heap.size w w' := by
  have hz := Try.zero34
  generalize hzl : arr .u8 (fl 256 zB) = Z at *
  have HZ := Lib.hid hzl
  clear hzl
  go_enter Try.func14, Try.ntmps14
  go_wp2
  have h1 : Whole ((w.alloc (Obj.cells Z 34)).alloc (Obj.cells Z 34)) w.heap.size 34 Z := (Whole.new _ _ _).alloc _
  have h2 : Whole ((w.alloc (Obj.cells Z 34)).alloc (Obj.cells Z 34)) (w.heap.size + 1) 34 (arr .u8 (fl 256 (boxTo 0))) := by
    have := Whole.new2 w (Obj.cells Z 34) 34 Z
    rw [← HZ.out] at this ⊢
    exact this
  have hb0 : Below w.heap.size w ((w.alloc (Obj.cells Z 34)).alloc (Obj.cells Z 34)) := two_new _ _ _ _
  have HS := Lib.hid (And.intro h1 (And.intro h2 hb0))
  clear h1 h2 hb0
  go_loopw [2, 3] (fun s2 s3 wr => ∃ k : Nat, k ≤ 256 ∧ s3 = .int .i64 k ∧ Whole wr w.heap.size 34 Z ∧ Whole wr (w.heap.size + 1) 34 (arr .u8 (fl 256 (boxTo k))) ∧ Below w.heap.size w wr) (fun _ s3 _ => 256 - (intOf s3).toNat)
  case atStart => exact ⟨0, by omega, rfl, HS.out⟩
  case round =>
    clear HS
    obtain ⟨k, hk, rfl, h1, h2, hb⟩ := hrel
    by_cases hlt : k < 256
    · have hcell := h2.atf hlt
      have hf := h2.frz k
      have hput := h2.putf k (Sb k)
      rw [boxTo_up] at hput
      generalize nb (boxTo k k) = y at *
      have hs := fun w => sub_num k hlt w
      have H := Lib.hid (And.intro h1 (And.intro hput (And.intro hb hs)))
      clear h1 h2 hb hput hs
      go_wp2_with (go_at_call 27; (with_reducible refine (H.out.2.2.2 _).mono ?_); rintro e w' ⟨rfl, rfl⟩)
      go_roundw
      case rel => exact ⟨k + 1, by omega, by go_num, H.out.1.far (by simp) _, H.out.2.1, H.out.2.2.1.setCell (by simp) _⟩
      case measure => simp [intOf]; omega
    · obtain rfl : k = 256 := by omega
      rw [show ((256 : Nat) : Int) = 256 from rfl]
      have hS : fl 256 (boxTo 256) = fl 256 Sb := fl_congr fun i hi => by unfold boxTo; rw [if_pos hi]
      rw [hS] at h2
      have H := Lib.hid (And.intro h1 (And.intro h2 hb))
      clear h1 h2 hb hS
      go_wp2_with (first
        | (refine wpList_load_whole rfl 34 (.tmp 1) rfl rfl H.out.2.1 Try.underlying34 Try.info34 (by simp) ?_)
        | (refine wpList_store_whole rfl 34 (.tmp 0) (.tmp 12) rfl rfl rfl H.out.1 Try.info34 (by simp) (by rw [← HZ.out]; simp) (arr_one _ _) ?_))
      exact bodyPost_ret (v := .agg (arr .u8 (fl 256 Sb))) (ret_whole (g := w.heap.size) rfl rfl (Whole.row H.out.1 _) Try.underlying34 Try.info34 (by simp)) rfl ⟨rfl, below_row H.out.2.2 (Nat.le_refl _) _⟩
end Go.Proofs.Ytomnomopcpdpoaa
