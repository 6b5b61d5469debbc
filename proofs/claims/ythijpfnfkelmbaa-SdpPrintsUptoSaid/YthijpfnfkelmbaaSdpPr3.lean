/- addAttrs: the lines of attributes. -/
import Derived.Test.YthijpfnfkelmbaaSdpPr2
namespace Go.Proofs.Ythijpfnfkelmbaa
open Go.RowKit
set_option linter.unusedVariables false
set_option linter.unusedSimpArgs false

set_option maxHeartbeats 3200000 in
set_option maxRecDepth 100000 in
theorem addAttrs_any (N : Nat) (v0 va : Value) (ss : List ByteArray) (L : List AttrS) (w : World) (hN : N ≤ w.heap.size) (h0 : Own w N 9 1 v0 (ss.map scell)) (h : AttrsV w N va L) (hz : SizA L) (hl : L.length ≤ 64) (hs : ss.length ≤ 1000) :
    Calls Try.prog 47 #[v0, va] w fun e w' => ∃ (v : Value) (l : List ByteArray), e = .returned v ∧ Own w' N 9 1 v ((ss ++ l).map scell) ∧ l.map tx = linesA L ∧ Below N w w' := by
  obtain ⟨A, c, rfl, hc, hm, -⟩ := h.form
  have H := Lib.hid h
  have HZ := Lib.hid hz
  have H0 := Lib.hid h0
  have HW0 := Lib.hid hN
  obtain ⟨n, hn⟩ : ∃ n, L.length = n := ⟨_, rfl⟩
  have HNN := Lib.hid hn
  rw [hn] at hc hl ⊢
  clear h hn hz h0 hN
  unfold maxLen at hm
  go_enter Try.func47, Try.ntmps47
  go_wp2
  go_loopw [0, 10] (fun s0 s10 wr => ∃ (k : Nat) (lk : List ByteArray), k ≤ n ∧ s10 = .int .i64 k ∧ Own wr N 9 1 s0 ((ss ++ lk).map scell) ∧ lk.map tx = linesA (L.take k) ∧ lk.length = k ∧ Below N w wr) (fun _ s10 _ => n - (intOf s10).toNat)
  case atStart => exact ⟨0, [], Nat.zero_le _, rfl, by rw [List.append_nil]; exact H0.out, rfl, rfl, Below.refl _ w⟩
  case round =>
    obtain ⟨k, lk, hk, rfl, hown, hlt, hlk, hb⟩ := hrel
    have HS := Lib.hid (And.intro hown (And.intro hlt hb))
    have HLK := Lib.hid hlk
    have HLL : Hid (((ss ++ lk).map scell).length = ss.length + k) := Lib.hid (by rw [List.length_map, List.length_append, hlk])
    clear hown hlt hlk
    by_cases hlt : k < n
    · obtain ⟨ad, c', e1, b1, x0, x1⟩ := H.out.at_ (i := k) (by rw [HNN.out]; exact hlt)
      injection e1 with e1 e1n e1c
      clear e1n e1c
      subst e1
      have gL := getD_of (L := L) (i := k) (by rw [HNN.out]; exact hlt)
      obtain ⟨a, ha⟩ : ∃ a, L.getD k default = a := ⟨_, rfl⟩
      rw [ha] at x0 x1 gL
      have x0' := (hb.cell (p := ad.add (k * 2)) (by rw [add_block]; exact b1)).trans x0
      have x1' := (hb.cell (p := ⟨(ad.add (k * 2)).block, (ad.add (k * 2)).off + 1, none⟩) (by show (ad.add (k * 2)).block < _; rw [add_block]; exact b1)).trans x1
      have HG := Lib.hid gL
      have hza := HZ.out k a gL
      have hNr : N ≤ wr.heap.size := Nat.le_trans HW0.out hb.size
      have hal := (hb.alloc hNr (.cells #[.string ⟨#[]⟩, .string ⟨#[]⟩] 49))
      have hw1 : Whole (wr.alloc (.cells #[.string ⟨#[]⟩, .string ⟨#[]⟩] 49)) wr.heap.size 49 #[.string ⟨#[]⟩, .string ⟨#[]⟩] := Whole.new _ _ _
      have HW1 := Lib.hid hw1
      have HO1 := Lib.hid ((HS.out.1.alloc (.cells #[.string ⟨#[]⟩, .string ⟨#[]⟩] 49)).farRow ((HS.out.1.alloc _).apart hw1 (by decide)) #[.string a.name, .string a.value])
      have HB1 := Lib.hid (And.intro hNr hal)
      have hk0 : (0 : Int) ≤ (k : Int) := by omega
      have hk1 : (k : Int) < (n : Int) := by omega
      have e1 : IntKind.i64.wrap ((k : Int) + 1) = (k : Int) + 1 := IntWalk.i64_in _ (by omega)
      clear x0 x1 gL ha b1 hb hNr hal hw1
      obtain ⟨nm, vl⟩ := a
      simp only at x0' x1' hza HO1
      go_upto_region 4 with ((with_reducible refine wpList_storeS #[.string nm, .string vl] ?_ 49 (.tmp 6) (.tmp 13) ?_ ?_ ?_ HW1.out Try.sizeSAttr ?_ ?_ ?_ ?_); (with_reducible rfl); (with_reducible rfl); rfl; rfl; rfl; rfl; rfl)
      have hr := HW1.out.row #[.string nm, .string vl]
      have hb2 := below_row HB1.out.2 HB1.out.1 #[.string nm, .string vl]
      have hns : N ≤ ((wr.alloc (.cells #[.string ⟨#[]⟩, .string ⟨#[]⟩] 49)).setRow wr.heap.size #[.string nm, .string vl]).heap.size := Nat.le_trans HW0.out hb2.size
      have ho1 := HO1.out
      generalize (wr.alloc (.cells #[.string ⟨#[]⟩, .string ⟨#[]⟩] 49)).setRow wr.heap.size #[.string nm, .string vl] = W2 at *
      generalize wr.heap.size = g at *
      have c0 := hr.cell 0
      have c1 := hr.cell 1
      simp only [List.getElem?_toArray, List.getElem?_cons_zero, List.getElem?_cons_succ] at c0 c1
      have HB2 := Lib.hid (And.intro ho1 (And.intro hb2 hns))
      clear hr hb2 HW1 HB1 x0' x1' ho1 hns HO1
      have hz1 : ¬ (9223372036854775807 < 2 + nm.size) := by omega
      have hz2 : ¬ (9223372036854775807 < 1 + vl.size) := by omega
      have hz3 : ¬ (9223372036854775807 < 2 + nm.size + (1 + vl.size)) := by omega
      clear hza
      cases hq : vl.toList.isEmpty with
      | true =>
        have HLN : Hid (tx (⟨#[97, 61]⟩ ++ nm) = lineA ⟨nm, vl⟩) := Lib.hid (by
          rw [toList_tx] at hq
          unfold lineA valTail
          rw [if_pos hq, tx_append, List.append_nil]
          rfl)
        have HNX : Hid ((lk ++ [⟨#[97, 61]⟩ ++ nm]).map tx = linesA (L.take (k + 1))) := Lib.hid (by
          rw [List.map_append, HS.out.2.1, List.take_add_one, HG.out, linesA_append]
          congr 1
          show [tx (⟨#[97, 61]⟩ ++ nm)] = [lineA ⟨nm, vl⟩]
          rw [HLN.out])
        have HA : Hid (Own (W2.alloc (.cells #[.string (⟨#[97, 61]⟩ ++ nm)] 9)) N 9 1 u0 ((ss ++ lk).map scell) ∧ Whole (W2.alloc (.cells #[.string (⟨#[97, 61]⟩ ++ nm)] 9)) W2.heap.size 9 #[.string (⟨#[97, 61]⟩ ++ nm)] ∧ Below N w (W2.alloc (.cells #[.string (⟨#[97, 61]⟩ ++ nm)] 9)) ∧ N ≤ (W2.alloc (.cells #[.string (⟨#[97, 61]⟩ ++ nm)] 9)).heap.size) := Lib.hid ⟨HB2.out.1.alloc _, Whole.new _ _ _, HB2.out.2.1.alloc HB2.out.2.2 _, by rw [World.size_alloc]; have := HB2.out.2.2; omega⟩
        go_wp2_with (at_builtin; refine wpList_appendE (r := [.string (⟨#[97, 61]⟩ ++ nm)]) rfl (.tmp 25) (.tmp 27) rfl Try.underlying46 Try.infoStr rfl (Nat.zero_lt_succ _) rfl HA.out.1 rfl HA.out.2.1 rfl (fun u hu => by simp at hu; subst hu; rfl) (by rw [HLL.out]; omega) (by rw [HLL.out]; omega) HA.out.2.2.2 ?_; intro v6 w6 ho6 hg6 hn6; have HFIN : Hid (Own w6 N 9 1 v6 ((ss ++ (lk ++ [⟨#[97, 61]⟩ ++ nm])).map scell) ∧ Below N w w6) := Lib.hid ⟨by simpa [scell] using ho6, HA.out.2.2.1.grown hg6 HA.out.2.2.2 (fun j hj => (HA.out.1.lt hj).1)⟩; clear ho6 hg6 hn6)
        go_roundw
        case rel => exact ⟨k + 1, _, by omega, by go_num, HFIN.out.1, HNX.out, by rw [List.length_append, HLK.out]; rfl, HFIN.out.2⟩
        case measure => simp [intOf]; omega
      | false =>
        have HLN : Hid (tx (⟨#[97, 61]⟩ ++ nm ++ (⟨#[58]⟩ ++ vl)) = lineA ⟨nm, vl⟩) := Lib.hid (by
          rw [toList_tx] at hq
          unfold lineA valTail
          rw [if_neg (by rw [hq]; decide), tx_append, tx_append, tx_append]
          rfl)
        have HNX : Hid ((lk ++ [⟨#[97, 61]⟩ ++ nm ++ (⟨#[58]⟩ ++ vl)]).map tx = linesA (L.take (k + 1))) := Lib.hid (by
          rw [List.map_append, HS.out.2.1, List.take_add_one, HG.out, linesA_append]
          congr 1
          show [tx (⟨#[97, 61]⟩ ++ nm ++ (⟨#[58]⟩ ++ vl))] = [lineA ⟨nm, vl⟩]
          rw [HLN.out])
        have HA : Hid (Own (W2.alloc (.cells #[.string (⟨#[97, 61]⟩ ++ nm ++ (⟨#[58]⟩ ++ vl))] 9)) N 9 1 u0 ((ss ++ lk).map scell) ∧ Whole (W2.alloc (.cells #[.string (⟨#[97, 61]⟩ ++ nm ++ (⟨#[58]⟩ ++ vl))] 9)) W2.heap.size 9 #[.string (⟨#[97, 61]⟩ ++ nm ++ (⟨#[58]⟩ ++ vl))] ∧ Below N w (W2.alloc (.cells #[.string (⟨#[97, 61]⟩ ++ nm ++ (⟨#[58]⟩ ++ vl))] 9)) ∧ N ≤ (W2.alloc (.cells #[.string (⟨#[97, 61]⟩ ++ nm ++ (⟨#[58]⟩ ++ vl))] 9)).heap.size) := Lib.hid ⟨HB2.out.1.alloc _, Whole.new _ _ _, HB2.out.2.1.alloc HB2.out.2.2 _, by rw [World.size_alloc]; have := HB2.out.2.2; omega⟩
        go_wp2_with (at_builtin; refine wpList_appendE (r := [.string (⟨#[97, 61]⟩ ++ nm ++ (⟨#[58]⟩ ++ vl))]) rfl (.tmp 25) (.tmp 27) rfl Try.underlying46 Try.infoStr rfl (Nat.zero_lt_succ _) rfl HA.out.1 rfl HA.out.2.1 rfl (fun u hu => by simp at hu; subst hu; rfl) (by rw [HLL.out]; omega) (by rw [HLL.out]; omega) HA.out.2.2.2 ?_; intro v6 w6 ho6 hg6 hn6; have HFIN : Hid (Own w6 N 9 1 v6 ((ss ++ (lk ++ [⟨#[97, 61]⟩ ++ nm ++ (⟨#[58]⟩ ++ vl)])).map scell) ∧ Below N w w6) := Lib.hid ⟨by simpa [scell] using ho6, HA.out.2.2.1.grown hg6 HA.out.2.2.2 (fun j hj => (HA.out.1.lt hj).1)⟩; clear ho6 hg6 hn6)
        go_roundw
        case rel => exact ⟨k + 1, _, by omega, by go_num, HFIN.out.1, HNX.out, by rw [List.length_append, HLK.out]; rfl, HFIN.out.2⟩
        case measure => simp [intOf]; omega
    · obtain rfl : k = n := by omega
      have HF : Hid (lk.map tx = linesA L) := Lib.hid (by rw [HS.out.2.1, List.take_of_length_le (by rw [HNN.out]; exact Nat.le_refl _)])
      clear hb
      go_wp2
      go_ret
      exact ⟨_, lk, rfl, HS.out.1, HF.out, HS.out.2.2⟩
end Go.Proofs.Ythijpfnfkelmbaa
