/- What slices.Grow of nil and slices.Concat of two do, at int32. -/
import Derived.Test.YtgcnocaibhiggaaRing
import Derived.Lib.AppendZeros
import Derived.Laws.AppendOwnNone
import Derived.Handy
namespace Go.Proofs.Ytgcnocaibhiggaa
open Go.RowKit
set_option linter.unusedVariables false

set_option maxHeartbeats 800000 in
theorem grow_zero (w : World) : Calls Try.prog 70 #[.slice none 0 0, .int .i64 0] w fun e w' => e = .returned (.slice none 0 0) ∧ w = w' := by
  go_enter Try.func70, Try.ntmps70
  go_wp2
  go_ret
  exact ⟨rfl, rfl⟩

set_option maxHeartbeats 800000 in
set_option maxRecDepth 100000 in
theorem grow_some (n : Nat) (hn : 0 < n) (hb : n ≤ 2000000) (w : World) : Calls Try.prog 70 #[.slice none 0 0, .int .i64 n] w fun e w' => ∃ g cap, e = .returned (.slice (some ⟨g, 0, none⟩) 0 cap) ∧ n ≤ cap ∧
    w'.ownsRow w.heap.size 21 1 (.slice (some ⟨g, 0, none⟩) 0 cap) 0 [] ∧ Below w.heap.size w w' := by
  obtain ⟨i0, hi, hz0, hz1, hz2⟩ := info_parts Try.infoInt32
  have happ := Lib.run_append_nil_zeros (P := Try.prog) w 29 3 29 21 i0 (.int .i32 0) .i64 .i64 Try.underlying29 Try.underlying3 hi hz0 n hn (by omega) (by omega) (by rw [hz2]; omega)
  have hge := grownCap_ge w n 0 21
  have hle := grownCap_le_maxLen w n 0 21 (by unfold maxLen; omega)
  generalize hcap : grownCap w n 0 21 = cap at happ hge hle
  generalize hZ : (Builtin.zeroCells (Value.int .i32 0).cells n ++ Builtin.zeroCells (Value.int .i32 0).cells (cap - n)) = Z at happ
  have hZs : Z.size = cap := by rw [← hZ]; simp [size_zeroCells, Value.cells]; omega
  clear hcap hZ
  have HA := Lib.hid happ
  clear happ
  go_enter Try.func70, Try.ntmps70
  go_wp2_with (at_builtin; refine Lib.wpList_append_run _ rfl _ _ _ _ rfl _ _ rfl rfl _ _ HA.out ?_)
  go_ret
  refine ⟨w.heap.size, cap, rfl, hge, ⟨rfl, .inr ⟨w.heap.size, cap, Z, rfl, Nat.le_refl _, ?_, Nat.zero_le _, hle, by omega, by simp⟩⟩, ?_⟩
  · exact heap_alloc_new w _
  · exact ((Below.refl _ w).alloc (Nat.le_refl _) _).drew

set_option maxHeartbeats 1600000 in
set_option maxRecDepth 100000 in
/-- Concat of two slices that hold nothing and are nil. -/
theorem concat_nil (sb : Nat) (w : World) (hs : Whole w sb 29 #[.slice none 0 0, .slice none 0 0]) :
    Calls Try.prog 65 #[.slice (some ⟨sb, 0, none⟩) 2 2] w fun e w' => e = .returned (.slice none 0 0) ∧ w = w' := by
  have c0 : w.cell? ⟨sb, 0, none⟩ = some (.slice none 0 0) := hs.cell 0
  have c1 : w.cell? ⟨sb, 1, none⟩ = some (.slice none 0 0) := hs.cell 1
  obtain ⟨i0, hi, hz0, hz1, hz2⟩ := info_parts Try.infoInt32
  have HO := Lib.hid (World.ownsRow_nil w w.heap.size 21 1)
  clear hs
  go_enter Try.func65, Try.ntmps65
  go_wp2
  go_rounds 3
  refine wp_loop_rounds 3 ?_
  rw [rounds_succ]
  go_wp2_with (at_builtin; refine wpList_append_own_none rfl _ _ 29 rfl w.heap.size 21 i0 1 Try.underlying29 hi (.slice none 0 0) 0 [] rfl HO.out rfl ?_)
  rw [rounds_succ]
  go_wp2_with (at_builtin; refine wpList_append_own_none rfl _ _ 29 rfl w.heap.size 21 i0 1 Try.underlying29 hi (.slice none 0 0) 0 [] rfl HO.out rfl ?_)
  rw [rounds_succ]
  go_wp2
  go_ret
  exact ⟨rfl, rfl⟩

set_option maxHeartbeats 1600000 in
set_option maxRecDepth 100000 in
/-- Concat of two slices that have addresses and hold something together. -/
theorem concat_two (sb : Nat) (a1 a2 : Addr) (n1 c1 n2 c2 : Nat) (l1 l2 : List Value) (w : World) (hs : Whole w sb 29 #[.slice (some a1) n1 c1, .slice (some a2) n2 c2])
    (hl1 : l1.length = n1) (hl2 : l2.length = n2) (h1 : ∀ j u, l1[j]? = some u → w.cell? (a1.add j) = some u) (h2 : ∀ j u, l2[j]? = some u → w.cell? (a2.add j) = some u)
    (o1 : ∀ u ∈ l1, u.oneCell' = true) (o2 : ∀ u ∈ l2, u.oneCell' = true) (hp : 0 < n1 + n2) (hb : n1 + n2 ≤ 2000000) :
    Calls Try.prog 65 #[.slice (some ⟨sb, 0, none⟩) 2 2] w fun e w' => ∃ g cap cur, e = .returned (.slice (some ⟨g, 0, none⟩) (n1 + n2) cap) ∧ Fresh w w' g (n1 + n2) cap cur 21 (l1 ++ l2) := by
  have d0 : w.cell? ⟨sb, 0, none⟩ = some (.slice (some a1) n1 c1) := hs.cell 0
  have d1 : w.cell? ⟨sb, 1, none⟩ = some (.slice (some a2) n2 c2) := hs.cell 1
  obtain ⟨i0, hi, hz0, hz1, hz2⟩ := info_parts Try.infoInt32
  have hsl := hs.lt
  have HH := Lib.hid (And.intro h1 (And.intro h2 (And.intro o1 (And.intro o2 (And.intro hl1 hl2)))))
  clear hs h1 h2 o1 o2 hl1 hl2
  have hp' : 0 < n2 + n1 := by omega
  have ex : ((n1 : Int) + (n2 : Int)) = ((n1 + n2 : Nat) : Int) := by omega
  have HX := Lib.hid ex
  have HG := Lib.hid (grow_some (n1 + n2) hp hb w)
  rw [← ex] at HG
  clear ex
  go_enter Try.func65, Try.ntmps65
  go_wp2
  refine wp_loop_rounds 3 ?_
  rw [rounds_succ]
  go_wp2_with fail
  rw [rounds_succ]
  go_wp2_with fail
  rw [rounds_succ]
  go_wp2_with fail
  refine HG.out.mono ?_
  rintro e w1 ⟨g, cap, rfl, hcap, hown, hb⟩
  have e0 := (hb.cell (p := ⟨sb, 0, none⟩) hsl).trans d0
  have e1 := (hb.cell (p := ⟨sb, 1, none⟩) hsl).trans d1
  have HN := Lib.hid (And.intro hown hb)
  clear hown hb
  go_wp2_with fail
  refine wp_loop_rounds 3 ?_
  rw [rounds_succ]
  go_wp2_with (at_builtin; go_must (refine wpList_append_own _ rfl _ _ 29 rfl w.heap.size 21 i0 (.int .i32 0) 1 4 Try.underlying29 hi hz0 hz1 hz2 rfl (by decide) _ _ _ rfl HN.out.1 a1 n1 c1 l1 rfl ?q1 ?q2 ?q3 ?q4 ?q5 ?q6 ?_))
  case q1 => have := HH.out.2.2.2.2.1; omega
  case q2 => intro j u hj; exact cell_later HN.out.2 (HH.out.1 j u hj)
  case q3 => exact HH.out.2.2.1
  case q4 => unfold maxLen; omega
  case q5 => omega
  case q6 => exact HN.out.2.size
  intro v1 w2 hown1 hgr1 hnil1
  have hgB : w.heap.size ≤ g := by
    obtain ⟨g', cap', cur', hv, hg', _⟩ := own_form HN.out.1 (by simp)
    cases hv
    exact hg'
  have hb2 : Below w.heap.size w w2 := HN.out.2.grown hgr1 HN.out.2.size (fun k hk => by cases hk; exact hgB)
  have e0' := (hb2.cell (p := ⟨sb, 0, none⟩) hsl).trans d0
  have e1' := (hb2.cell (p := ⟨sb, 1, none⟩) hsl).trans d1
  have HM := Lib.hid (And.intro hown1 (And.intro hb2 hnil1))
  clear hown1 hgr1 hnil1 hb2 e0 e1
  go_wp2_with fail
  rw [rounds_succ]
  go_wp2_with (at_builtin; go_must (refine wpList_append_own _ rfl _ _ 29 rfl w.heap.size 21 i0 (.int .i32 0) 1 4 Try.underlying29 hi hz0 hz1 hz2 rfl (by decide) _ _ _ rfl HM.out.1 a2 n2 c2 l2 rfl ?q1 ?q2 ?q3 ?q4 ?q5 ?q6 ?_))
  case q1 => have := HH.out.2.2.2.2.2; omega
  case q2 => intro j u hj; exact cell_later HM.out.2.1 (HH.out.2.1 j u hj)
  case q3 => exact HH.out.2.2.2.1
  case q4 => unfold maxLen; omega
  case q5 => omega
  case q6 => exact HM.out.2.1.size
  intro v2 w3 hown2 hgr2 hnil2
  have hb3 : Below w.heap.size w w3 := HM.out.2.1.grown hgr2 HM.out.2.1.size (fun k hk => by
    have ho := HM.out.1
    rcases ho.2 with ⟨rfl, _⟩ | ⟨g', _, _, rfl, hg', _⟩
    · cases hk
    · cases hk; exact hg')
  have hv2 : v2 ≠ .slice none 0 0 := fun e => by
    have h1 := hown2.2
    subst e
    rcases h1 with ⟨_, h0⟩ | ⟨_, _, _, hv, _⟩
    · omega
    · cases hv
  have HZ := Lib.hid (And.intro hown2 (And.intro hb3 hv2))
  clear hown2 hgr2 hnil2 hb3 hv2
  go_wp2_with fail
  rw [rounds_succ]
  go_wp2_with fail
  go_ret
  obtain ⟨hown2, hb3, hv2⟩ := HZ.out
  obtain ⟨g3, cap3, cur3, rfl, hg3, hW3, hl3, hm3, _, ht3⟩ := own_form hown2 hv2
  exact ⟨g3, cap3, cur3, by simp, hg3, hW3, by omega, hm3, by simpa using ht3, hb3⟩

end Go.Proofs.Ytgcnocaibhiggaa
