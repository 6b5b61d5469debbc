/- The law ShaKeeps, walked. -/
import Derived.Test.YtloekfphkepafaaShaAwake
import Derived.Test.YtloekfphkepafaaBytes
namespace Go.Proofs.Ytloekfphkepafaa
open Go.RowKit Go.Shelf
set_option linter.unusedVariables false

/-- What the law lays: two copies with a byte behind each. -/
structure Rooms (w : World) (ks bs : List Int) (v5 v6 : Value) (wc : World) : Prop where
  room : Own8 wc w.heap.size v5 (bs ++ [77])
  keys : Own8 wc w.heap.size v6 (ks ++ [78])
  below : Below w.heap.size w wc

theorem below_own {w W W' : World} {v : Value} {xs : List Int} (hb : Below w.heap.size w W) (hO : Own8 W w.heap.size v xs) (hg : W.grownBy W' v.ownBlock) : Below w.heap.size w W' :=
  hb.grown hg hb.size (fun k hk => (hO.lt hk).1)

theorem own_apart {W : World} {base : Nat} {v : Value} {xs : List Int} {row : Option Nat} (h : Own8 W base v xs) {k : Nat} (hr : row = some k) (hk : W.heap.size ≤ k) : v.ownBlock = Option.none ∨ v.ownBlock ≠ row := by
  refine .inr (fun e => ?_)
  have := (h.lt (e.trans hr)).2
  omega

theorem byte_behind {wc : World} {base : Nat} {A : Option Addr} {n c : Nat} {xs : List Int} {x : Int} (h : Own8 wc base (.slice A (xs ++ [x]).length c) (xs ++ [x])) (hn : xs.length = n) :
    ∃ g, A = some ⟨g, 0, Option.none⟩ ∧ ∀ W, Below wc.heap.size wc W → W.cell? ⟨g, n, Option.none⟩ = some (.int .u8 x) := by
  obtain ⟨g, c', hv, _, hlt, hc, _⟩ := h.at_ (i := n) (by simp [hn])
  cases hv
  refine ⟨g, rfl, fun W hW => ?_⟩
  rw [hW.cell (p := ⟨g, n, Option.none⟩) hlt, hc]
  simp [List.getD, hn]

set_option maxHeartbeats 1600000 in
set_option maxRecDepth 100000 in
theorem keeps_walk (Ak Ab : Option Addr) (nk ck nb cb : Nat) (ks bs : List Int) (w : World) (hk : In8 w Ak nk ck ks) (hb : In8 w Ab nb cb bs) (rk : nk ≤ 140737488351232) (rb : nb ≤ 140737488351232) :
    Calls Try.prog 7 #[.slice Ak nk ck, .slice Ab nb cb] w fun e w' => e = .returned (.bool true) ∧ Below w.heap.size w w' := by
  have HK := Lib.hid hk
  have HB := Lib.hid hb
  clear hk hb
  go_enter Try.func7, Try.ntmps7
  go_upto_region 3 with (go_at_call 8; (with_reducible refine (awake_yes _).mono ?_); rintro e w1 ⟨rfl, hb1⟩)
  go_cut [5, 6] from 9 (fun s5 s6 wc => Rooms w ks bs s5 s6 wc)
  case first =>
    have h0 := Own8.made w1 hb1.size
    have H1 := Lib.hid (And.intro h0 (hb1.alloc hb1.size (.cells #[] 5)))
    clear h0 hb1
    go_wp2_with (at_builtin; go_must (refine wpList_append8 rfl (.tmp 9) (.tmp 10) rfl rfl H1.out.1 rfl (HB.out.bytes.below H1.out.2) HB.out.none (by simp; omega) H1.out.2.size ?_))
    intro v2 w2 hO2 hg2 _
    have hl := HB.out.bytes.1
    have hl2 := HK.out.bytes.1
    have hb2 := below_own H1.out.2 H1.out.1 hg2
    have H2 := Lib.hid (And.intro (show Own8 w2 w.heap.size v2 bs from hO2) hb2)
    clear hO2 hg2 hb2 H1
    go_wp2_with (at_builtin; go_must (refine wpList_append8 rfl (.tmp 11) (.tmp 12) rfl rfl (H2.out.1.alloc _) rfl (Bs.one w2 77) (fun e => by cases e) (by omega) (by have := H2.out.2.size; simp; omega) ?_))
    intro v3 w3 hO3 hg3 _
    have hb3 := below_own (H2.out.2.alloc H2.out.2.size _) (H2.out.1.alloc _) hg3
    have H3 := Lib.hid (And.intro hO3 hb3)
    clear hO3 hg3 hb3 H2
    have h0 := Own8.made w3 H3.out.2.size
    have H4 := Lib.hid (And.intro h0 (H3.out.2.alloc H3.out.2.size (.cells #[] 5)))
    clear h0
    go_wp2_with (at_builtin; go_must (refine wpList_append8 rfl (.tmp 14) (.tmp 15) rfl rfl H4.out.1 rfl (HK.out.bytes.below H4.out.2) HK.out.none (by simp; omega) H4.out.2.size ?_))
    intro v5 w5 hO5 hg5 hat5
    have hb5 := below_own H4.out.2 H4.out.1 hg5
    have hR5 : Own8 w5 w.heap.size v3 (bs ++ [77]) := (H3.out.1.alloc _).grown hg5 (own_apart H3.out.1 (k := w3.heap.size) rfl (Nat.le_refl _))
    have hap : v3.ownBlock = Option.none ∨ v3.ownBlock ≠ v5.ownBlock := by
      rcases hat5 with e | e
      · exact own_apart H3.out.1 e (Nat.le_refl _)
      · exact own_apart H3.out.1 e (by simp)
    have H5 := Lib.hid (And.intro (show Own8 w5 w.heap.size v5 ks from hO5) (And.intro hR5 (And.intro hb5 hap)))
    clear hO5 hg5 hb5 hR5 H3 H4 hap hat5
    go_wp2_with (at_builtin; go_must (refine wpList_append8 rfl (.tmp 16) (.tmp 17) rfl rfl (H5.out.1.alloc _) rfl (Bs.one w5 78) (fun e => by cases e) (by omega) (by have := H5.out.2.2.1.size; simp; omega) ?_))
    intro v6 w6 hO6 hg6 _
    have hb6 := below_own (H5.out.2.2.1.alloc H5.out.2.2.1.size _) (H5.out.1.alloc _) hg6
    have hR6 : Own8 w6 w.heap.size v3 (bs ++ [77]) := (H5.out.2.1.alloc _).grown hg6 H5.out.2.2.2
    have H6 : Hid (Rooms w ks bs v3 v6 w6) := Lib.hid ⟨hR6, hO6, hb6⟩
    clear hO6 hg6 hb6 hR6 H5
    go_wp2
    go_meet
    exact H6.out
  case rest =>
    have HR := Lib.hid hcut
    obtain ⟨A5, c5, rfl, f5, m5, n5, b5⟩ := hcut.room.form
    obtain ⟨A6, c6, rfl, f6, m6, n6, b6⟩ := hcut.keys.form
    have hl := HB.out.bytes.1
    have hl2 := HK.out.bytes.1
    rw [List.length_append, hl, List.length_singleton] at f5 b5
    rw [List.length_append, hl2, List.length_singleton] at f6 b6
    have h5 := b5.head (k := nb) (by omega)
    have h6 := b6.head (k := nk) (by omega)
    rw [List.take_left' hl] at h5
    rw [List.take_left' hl2] at h6
    unfold maxLen at m5 m6
    have e5 : (nb : Int) ≤ (c5 : Int) := by omega
    have e6 : (nk : Int) ≤ (c6 : Int) := by omega
    have HS := Lib.hid (sum_any A5 nb c5 bs wc.heap.size wc h5 (Nat.le_refl _) (by omega) (by unfold maxLen; omega) HB.out.in8 (by omega))
    have HC : Hid (∀ W, Below wc.heap.size wc W → Calls Try.prog 11 #[.slice A5 nb c5] W fun e w' => e = .returned (.int .u32 (crc bs)) ∧ W = w') :=
      Lib.hid fun W hW => crc_any A5 nb c5 bs wc.heap.size W (h5.below hW) HB.out.in8 (by omega)
    have HM : Hid (∀ W, Below wc.heap.size wc W → Calls Try.prog 13 #[.slice A6 nk c6, .slice A5 nb c5] W fun e w' => e = .returned (.agg (arr .u8 (mac ks bs))) ∧ Below W.heap.size W w') :=
      Lib.hid fun W hW => mac_walk A6 A5 nk c6 nb c5 ks bs wc.heap.size W (h6.below hW) (h5.below hW) hW.size (by omega) (by unfold maxLen; omega) (by omega) (by unfold maxLen; omega) HK.out.in8 HB.out.in8 (by omega) (by omega)
    have HT : Hid (∀ W, Below wc.heap.size wc W → (convert 22 9 (.slice A5 nb c5)).run Try.prog W = .ok (.string (strOfNums bs)) W ∧ (convert 22 9 (.slice Ab nb cb)).run Try.prog W = .ok (.string (strOfNums bs)) W ∧ (convert 22 9 (.slice A6 nk c6)).run Try.prog W = .ok (.string (strOfNums ks)) W ∧ (convert 22 9 (.slice Ak nk ck)).run Try.prog W = .ok (.string (strOfNums ks)) W) :=
      Lib.hid fun W hW => by
        have hw := HR.out.below.trans (hW.mono HR.out.below.size)
        exact ⟨conv_text (h5.below hW) n5, conv_text (HB.out.bytes.below hw) HB.out.none, conv_text (h6.below hW) n6, conv_text (HK.out.bytes.below hw) HK.out.none⟩
    have H77 : Hid (∃ g5, A5 = some ⟨g5, 0, Option.none⟩ ∧ ∀ W, Below wc.heap.size wc W → W.cell? ⟨g5, nb, Option.none⟩ = some (.int .u8 77)) := Lib.hid (byte_behind HR.out.room hl)
    have H78 : Hid (∃ g6, A6 = some ⟨g6, 0, Option.none⟩ ∧ ∀ W, Below wc.heap.size wc W → W.cell? ⟨g6, nk, Option.none⟩ = some (.int .u8 78)) := Lib.hid (byte_behind HR.out.keys hl2)
    rw [List.length_append, hl, List.length_singleton, List.length_append, hl2, List.length_singleton]
    clear h5 h6 b5 b6 hl hl2 hcut
    go_wp2_with (first
      | (go_at_call 9; (with_reducible refine HS.out.mono ?_); rintro e w2 ⟨rfl, hb2⟩)
      | (go_at_call 11; (with_reducible refine (HC.out _ hb2).mono ?_); rintro e w3 ⟨rfl, rfl⟩))
    go_region_law (go_simp; go_at_call 13; (with_reducible refine (HM.out _ hb2.drew).mono ?_); rintro e w3 ⟨rfl, hb3⟩)
    go_wp2_with fail
    have hb4 := hb2.drew.trans (hb3.mono hb2.size)
    have t1 := fun n => (HT.out (w3.drewN n) (below_drewN' hb4 n)).1
    have t2 := fun n => (HT.out (w3.drewN n) (below_drewN' hb4 n)).2.1
    have t3 := fun n => (HT.out (w3.drewN n) (below_drewN' hb4 n)).2.2.1
    have t4 := fun n => (HT.out (w3.drewN n) (below_drewN' hb4 n)).2.2.2
    obtain ⟨g5, rfl, q5⟩ := H77.out
    obtain ⟨g6, rfl, q6⟩ := H78.out
    have p5 := q5 w3 hb4
    have p6 := q6 w3 hb4
    have i5 : (nb : Int) < (nb : Int) + 1 := by omega
    have i6 : (nk : Int) < (nk : Int) + 1 := by omega
    have HQ := Lib.hid (HR.out.below.trans (hb4.mono HR.out.below.size))
    clear q5 q6 hb2 hb3 hb4 HT H77 H78 HM HC HS HR
    go_quiet (fail)
    go_wp2
    go_ret
    exact ⟨rfl, below_drewN' HQ.out nq⟩

end Go.Proofs.Ytloekfphkepafaa
