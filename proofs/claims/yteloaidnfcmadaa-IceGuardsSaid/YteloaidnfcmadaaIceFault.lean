/- fault: what is wrong in a request that is from the peer; HasPrefix. -/
import Derived.Test.YteloaidnfcmadaaIceLeaf
namespace Go.Proofs.Yteloaidnfcmadaa
open Go.RowKit
set_option linter.unusedVariables false

/-- Nothing is wrong in it. -/
def NoFault (L : List At) : Prop := PlainA L ∧ findP L 32809 = none ∧ ∃ p, findP L 36 = some p ∧ p.length = 4

set_option maxHeartbeats 1600000 in
set_option maxRecDepth 100000 in
theorem fault_any (M : Array Value) (m : Msg) (A : Option Addr) (c : Nat) (w : World) (h : MsgV w w.heap.size M m A c) (hv : ∀ a ∈ m.at_, a.val.length ≤ 140737488351232) (hs : m.at_.length ≤ 4398046511102) :
    Calls Try.prog 26 #[.agg M] w fun e w' => ∃ x : Int, e = .returned (.int .i64 x) ∧ 0 ≤ x ∧ x ≤ 500 ∧ (x = 0 ↔ NoFault m.at_) ∧ Below w.heap.size w w' := by
  obtain ⟨b1, b2, b3, b4⟩ := box_msg h
  have c14 := b3.sl b1
  have HC := Lib.hid (containsS_any A _ c m.at_ _ b3.ats rfl (by omega))
  have HX := Lib.hid (Boxed.mk b1 b2 b3 b4)
  have HHA : Hid (∀ kd W, MsgV W W.heap.size M m A c → Calls Try.prog 29 #[.agg M, .int .u16 kd] W fun e w' => e = .returned (.bool (findP m.at_ kd).isSome) ∧ Below W.heap.size W w') := Lib.hid fun kd W hm => has_any M m A c kd W hm hv
  have HFI : Hid (∀ kd W, MsgV W W.heap.size M m A c → Calls Try.prog 42 #[.agg M, .int .u16 kd] W fun e w' => ∃ v b, e = .returned (.tuple #[v, .bool b]) ∧ FindV w' v b m.at_ kd ∧ Below W.heap.size W w') := Lib.hid fun kd W hm => find_any M m A c kd W hm hv
  clear b1 b2 b3 b4 h hv hs
  obtain ⟨N, hN⟩ : ∃ N, w.heap.size = N := ⟨_, rfl⟩
  rw [hN] at HX c14 ⊢
  obtain ⟨L, hL⟩ : ∃ x, m.at_ = x := ⟨_, rfl⟩
  rw [hL] at HC c14 HHA HFI ⊢
  obtain ⟨n, hn⟩ : ∃ x, L.length = x := ⟨_, rfl⟩
  rw [hn] at HC c14
  clear hL hn
  go_enter Try.func26, Try.ntmps26
  go_upto_region 1 with fail
  generalize w.alloc (.cells M 69) = W0 at *
  clear hN
  go_upto_region 3 with (go_at_call 46; (with_reducible refine HC.out.mono ?_); rintro e w1 ⟨(_ | _), rfl, hbb, hb1⟩)
  · have hpl : PlainA L := Classical.byContradiction fun h => by have := hbb.2 h; cases this
    have HX1 := Lib.hid (HX.out.under hb1)
    have HPL := Lib.hid hpl
    clear hpl hbb hb1
    have HH2 := Lib.hid (HHA.out 32809 _ HX1.out.msg)
    obtain ⟨f, hf⟩ : ∃ x, findP L 32809 = x := ⟨_, rfl⟩
    rw [hf] at HH2
    cases f with
    | some y =>
      have HNF : Hid (¬ NoFault L) := Lib.hid (fun h => by have := h.2.1; rw [hf] at this; cases this)
      clear hf
      go_wp2_with (first
        | (refine wpList_load_all rfl 69 (.tmp 1) rfl HX1.out.box rfl Try.sizeMsg HX1.out.size Try.underlying69 rfl ?_)
        | (go_at_call 29; (with_reducible refine HH2.out.mono ?_); rintro e w2 ⟨rfl, hb2⟩))
      go_ret
      exact ⟨487, rfl, by omega, by omega, ⟨fun h => by omega, fun h => (HNF.out h).elim⟩, HX1.out.on hb2⟩
    | none =>
      have HNF := Lib.hid hf
      clear hf
      go_upto_region 5 with (first
        | (refine wpList_load_all rfl 69 (.tmp 1) rfl HX1.out.box rfl Try.sizeMsg HX1.out.size Try.underlying69 rfl ?_)
        | (go_at_call 29; (with_reducible refine HH2.out.mono ?_); rintro e w2 ⟨rfl, hb2⟩))
      have HX2 := Lib.hid (HX1.out.under hb2)
      have HFF := Lib.hid (HFI.out 36 _ HX2.out.msg)
      clear hb2
      go_upto_region 6 with (first
        | (refine wpList_load_all rfl 69 (.tmp 1) rfl HX2.out.box rfl Try.sizeMsg HX2.out.size Try.underlying69 rfl ?_)
        | (go_at_call 42; (with_reducible refine HFF.out.mono ?_); rintro e w3 ⟨v, b, rfl, hf, hb3⟩))
      have HX3 := Lib.hid (HX2.out.on hb3)
      clear hb3
      rcases hf with ⟨xs, h1, rfl, A', c', rfl, -⟩ | ⟨h1, rfl, rfl⟩
      · obtain ⟨l, hl⟩ : ∃ l, xs.length = l := ⟨_, rfl⟩
        rw [hl]
        by_cases h4 : l = 4
        · subst h4
          have HN : Hid (NoFault L) := Lib.hid ⟨HPL.out, HNF.out, xs, h1, hl⟩
          clear h1 hl
          go_wp2
          go_ret
          exact ⟨0, rfl, by omega, by omega, ⟨fun _ => HN.out, fun _ => rfl⟩, HX3.out⟩
        · have HN : Hid (¬ NoFault L) := Lib.hid (fun ⟨_, _, p, h2, h3⟩ => by rw [h1] at h2; cases h2; omega)
          clear h1 hl
          go_wp2
          go_ret
          exact ⟨400, rfl, by omega, by omega, ⟨fun h => by omega, fun h => (HN.out h).elim⟩, HX3.out⟩
      · have HN : Hid (¬ NoFault L) := Lib.hid (fun ⟨_, _, p, h2, h3⟩ => by rw [h1] at h2; cases h2)
        clear h1
        go_wp2
        go_ret
        exact ⟨400, rfl, by omega, by omega, ⟨fun h => by omega, fun h => (HN.out h).elim⟩, HX3.out⟩
  · have HN : Hid (¬ NoFault L) := Lib.hid (fun h => hbb.1 trivial h.1)
    have HX1 := Lib.hid (HX.out.on hb1)
    clear hbb hb1
    go_ret
    exact ⟨420, rfl, by omega, by omega, ⟨fun h => by omega, fun h => (HN.out h).elim⟩, HX1.out⟩

/-- Does s begin with p. -/
def hasP (s p : ByteArray) : Bool := decide (p.size ≤ s.size) && ((s.extract 0 p.size).toList == p.toList)
set_option maxHeartbeats 800000 in
theorem lHasPrefix_any (s p : ByteArray) (w : World) (hs : s.size ≤ maxLen) (hp : p.size ≤ maxLen) :
    Calls Try.prog 63 #[.string s, .string p] w fun e w' => e = .returned (.bool (hasP s p)) ∧ w = w' := by
  unfold maxLen at hs hp
  by_cases hle : p.size ≤ s.size
  · have HP := Lib.hid (show hasP s p = ((s.extract 0 p.size).toList == p.toList) by simp [hasP, hle])
    go_enter Try.func63, Try.ntmps63
    go_wp2
    go_ret
    exact ⟨congrArg (fun x => Ending.returned (Value.bool x)) HP.out.symm, rfl⟩
  · have HP := Lib.hid (show hasP s p = false by simp [hasP, hle])
    go_enter Try.func63, Try.ntmps63
    go_wp2
    go_ret
    exact ⟨congrArg (fun x => Ending.returned (Value.bool x)) HP.out.symm, rfl⟩
theorem hasPrefix_any (s p : ByteArray) (w : World) (hs : s.size ≤ maxLen) (hp : p.size ≤ maxLen) :
    Calls Try.prog 43 #[.string s, .string p] w fun e w' => e = .returned (.bool (hasP s p)) ∧ w = w' := by
  have HP := Lib.hid (lHasPrefix_any s p w hs hp)
  go_enter Try.func43, Try.ntmps43
  go_wp2_with (go_at_call 63; (with_reducible refine HP.out.mono ?_); rintro e w1 ⟨rfl, rfl⟩)
  go_ret
  exact ⟨rfl, rfl⟩

/-- A text's bytes. -/
def nums (s : ByteArray) : List Int := s.data.toList.map fun b => (b.toNat : Int)
@[simp] theorem nums_length (s : ByteArray) : (nums s).length = s.size := by
  unfold nums
  rw [List.length_map, Array.length_toList]
  rfl
theorem nums_in (s : ByteArray) : In256 (nums s) := In256.of_all fun x hx => by
  obtain ⟨b, _, rfl⟩ := List.mem_map.1 hx
  have := b.toNat_lt
  omega
/-- A text as bytes, in a block of their own. -/
theorem conv_bytes (s : ByteArray) (w : World) (hs : s.size ≤ maxLen) : ∃ c W, (convert 9 22 (.string s)).run Try.prog w = .ok (.slice (some ⟨w.heap.size, 0, none⟩) s.size c) W ∧ W.heap.size = w.heap.size + 1 ∧
    V8 W W.heap.size (.slice (some ⟨w.heap.size, 0, none⟩) s.size c) (nums s) ∧ Below w.heap.size w W := by
  have hsz : ∀ o : Obj, (w.drew.alloc o).heap.size = w.heap.size + 1 := fun o => by
    show (w.heap.push o).size = _
    simp
  refine ⟨_, _, run_bytes_of_string w 9 22 5 s Try.underlying9 Try.underlying22 Try.underlying5, hsz _, ?_, (Below.refl _ w).drew.alloc (Nat.le_refl _) _⟩
  refine ⟨_, _, by rw [nums_length], by rw [nums_length]; exact grownCap_ge _ _ _ _, grownCap_le_maxLen _ _ _ _ hs, (fun e => by cases e), rfl, fun hn => ⟨_, rfl, by rw [hsz]; exact Nat.lt_succ_self _, fun i hi => ?_⟩⟩
  rw [nums_length] at hi
  rw [Addr.add_lit, Nat.zero_add]
  have hh : (w.drew.alloc (.cells (bytesRow s (grownCap w s.size 0 5)) 5 ((bytesRow s (grownCap w s.size 0 5)).size, (bytesRow s (grownCap w s.size 0 5)).size + 1))).heap[w.heap.size]? = some (.cells (bytesRow s (grownCap w s.size 0 5)) 5 ((bytesRow s (grownCap w s.size 0 5)).size, (bytesRow s (grownCap w s.size 0 5)).size + 1)) := by
    show (w.heap.push _)[w.heap.size]? = _
    simp
  rw [cell_of_row _ w.heap.size i _ 5 _ hh]
  have hi' : i < s.data.size := hi
  simp only [bytesRow, nums, List.getD, Array.getElem?_append, Array.size_map, List.getElem?_map, Array.getElem?_map, Array.getElem?_toList]
  rw [if_pos hi', Array.getElem?_eq_getElem hi']
  rfl
end Go.Proofs.Yteloaidnfcmadaa
