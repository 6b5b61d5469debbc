/- The document's Head; both Finds. -/
import Derived.Test.YtapbodiakkdfmaaRpYP
namespace Go.Proofs.Ytapbodiakkdfmaa
open Go.RowKit
set_option linter.unusedVariables false
set_option linter.unusedSimpArgs false

theorem Try.sizeRPk : (Try.prog.info? 28).map (·.size) = some 9 := by kernel_rfl

set_option maxHeartbeats 800000 in
set_option maxRecDepth 100000 in
/-- The document's Head tells the same. -/
theorem rhead_any (A : Option Addr) (c : Nat) (xs : List Int) (B : Nat) (w : World) (h : Bs w B A xs.length xs) (hx : In256 xs) (hl : xs.length ≤ 140737488355328) :
    Calls Try.prog 7 #[.slice A xs.length c] w fun e w' => e = .returned (.tuple #[.int .i64 (hdV xs).1, .int .i64 (hdV xs).2]) ∧ Below w.heap.size w w' := by
  obtain ⟨n, hn⟩ : ∃ n, xs.length = n := ⟨_, rfl⟩
  have HN := Lib.hid hn
  rw [hn] at h hl ⊢
  by_cases h12 : n < 12
  · have hv : hdV xs = (0, 2) := by unfold hdV; rw [if_pos (by omega)]
    rw [hv]
    have h12' : (n : Int) < 12 := by omega
    go_enter Try.func7, Try.ntmps7
    go_wp2
    go_ret2
    exact ⟨rfl, Below.refl _ _⟩
  have h12' : ¬ (n : Int) < 12 := by omega
  obtain ⟨ad, rfl, -, hc⟩ := h.2 (by omega)
  have HC := Lib.hid hc
  have hc0 := hc 0 (by omega)
  obtain ⟨b0, hb0⟩ : ∃ b, xs.getD 0 0 = b := ⟨_, rfl⟩
  have hr := hx 0
  have HX := Lib.hid hx
  rw [hb0] at hc0 hr
  have HB0 := Lib.hid hb0
  clear hc h hx
  have e0 : ad.add 0 = ad := by simp [Addr.add]
  rw [e0] at hc0
  obtain ⟨k, hk⟩ : ∃ k : Nat, b0 % 16 = k := ⟨(b0 % 16).toNat, by omega⟩
  have hk16 : k < 16 := by omega
  have q12 : ¬ xs.length < 12 := by omega
  have hkt : Int.tmod b0 16 = k := by rw [Int.tmod_eq_emod_of_nonneg hr.1, hk]
  have w1 : wrap64 (k : Int) = k := w64 (by omega) (by omega)
  have w2 : wrap64 (4 * (k : Int)) = 4 * k := w64 (by omega) (by omega)
  have w3 : wrap64 (12 + 4 * (k : Int)) = 12 + 4 * k := w64 (by omega) (by omega)
  by_cases hv1 : b0 < 128
  · have hv : hdV xs = (0, 2) := by unfold hdV; rw [if_neg q12, if_pos (by rw [hb0]; omega)]
    rw [hv]
    clear hn hb0 hv hk
    go_enter Try.func7, Try.ntmps7
    go_wp2
    go_ret2
    exact ⟨rfl, Below.refl _ _⟩
  by_cases hv3 : b0 > 191
  · have hv : hdV xs = (0, 2) := by unfold hdV; rw [if_neg q12, if_pos (by rw [hb0]; omega)]
    rw [hv]
    clear hn hb0 hv hk
    go_enter Try.func7, Try.ntmps7
    go_wp2
    go_ret2
    exact ⟨rfl, Below.refl _ _⟩
  by_cases h16 : b0 / 16 % 2 = 0
  · have e16 : bits .and .u8 b0 16 = 0 := by rw [and8_16 b0 hr.1 hr.2, h16]; rfl
    by_cases hbig : (n : Int) < 12 + 4 * k
    · have hv : hdV xs = (0, 2) := by unfold hdV; rw [if_neg q12, hb0, if_neg (by omega), if_pos h16, hk, hn, if_pos hbig]
      rw [hv]
      clear hn hb0 hv hr h16
      go_enter Try.func7, Try.ntmps7
      go_wp2
      go_ret2
      exact ⟨rfl, Below.refl _ _⟩
    · have hv : hdV xs = (12 + 4 * (k : Int), 0) := by unfold hdV; rw [if_neg q12, hb0, if_neg (by omega), if_pos h16, hk, hn, if_neg hbig]
      rw [hv]
      clear hn hb0 hv hr h16
      go_enter Try.func7, Try.ntmps7
      go_wp2
      go_ret2
      exact ⟨rfl, Below.refl _ _⟩
  · have h161 : b0 / 16 % 2 = 1 := by omega
    have e16 : bits .and .u8 b0 16 = 16 := by rw [and8_16 b0 hr.1 hr.2, h161]; rfl
    have s5 : 12 + 4 * (k : Int) + 4 = 16 + 4 * (k : Int) := by omega
    by_cases hbig : (n : Int) < 16 + 4 * k
    · have hv : hdV xs = (0, 2) := by unfold hdV; rw [if_neg q12, hb0, if_neg (by omega), if_neg h16, hk, hn, if_pos hbig]
      have hbig' : (12 + 4 * (k : Int) + 4 > n) := by omega
      rw [hv]
      clear hn hb0 hv hr h16 h161 s5
      go_enter Try.func7, Try.ntmps7
      go_wp2
      go_ret2
      exact ⟨rfl, Below.refl _ _⟩
    · have hbig' : ¬ (16 + 4 * (k : Int) > n) := by omega
      have hx1 := HX.out (14 + 4 * k)
      have hx2 := HX.out (15 + 4 * k)
      have d1 := HC.out (14 + 4 * k) (by omega)
      have d2 := HC.out (15 + 4 * k) (by omega)
      obtain ⟨x1, hx1e⟩ : ∃ b, xs.getD (14 + 4 * k) 0 = b := ⟨_, rfl⟩
      obtain ⟨x2, hx2e⟩ : ∃ b, xs.getD (15 + 4 * k) 0 = b := ⟨_, rfl⟩
      rw [hx1e] at hx1 d1
      rw [hx2e] at hx2 d2
      have hv : hdV xs = if (n : Int) < 16 + 4 * k + 4 * (x1 * 256 + x2) then (0, 2) else (16 + 4 * (k : Int) + 4 * (x1 * 256 + x2), 0) := by
        unfold hdV; rw [if_neg q12, hb0, if_neg (by omega), if_neg h16, hk, hn, if_neg hbig, Int.toNat_natCast, hx1e, hx2e]
      have or1 : bits .or .i64 (x1 * 256) x2 = x1 * 256 + x2 := or64 (x1 * 256) x2 8 256 rfl (by omega) (by omega) (by omega) hx2.1 hx2.2 (by omega)
      have HV := Lib.hid hv
      have s0 : IntKind.i64.wrap (12 + 4 * (k : Int) + 4) = 16 + 4 * (k : Int) := by rw [IntKind.wrap_i64]; omega
      have s1 : IntKind.i64.wrap (12 + 4 * (k : Int) + 2) = ((14 + 4 * k : Nat) : Int) := by rw [IntKind.wrap_i64]; omega
      have s2 : IntKind.i64.wrap (12 + 4 * (k : Int) + 3) = ((15 + 4 * k : Nat) : Int) := by rw [IntKind.wrap_i64]; omega
      have s1' : 12 + 4 * (k : Int) + 2 = ((14 + 4 * k : Nat) : Int) := by omega
      have s2' : 12 + 4 * (k : Int) + 3 = ((15 + 4 * k : Nat) : Int) := by omega
      have s3 : IntKind.i64.wrap (4 * (x1 * 256 + x2)) = 4 * (x1 * 256 + x2) := by rw [IntKind.wrap_i64]; omega
      have s4 : IntKind.i64.wrap (16 + 4 * (k : Int) + 4 * (x1 * 256 + x2)) = 16 + 4 * (k : Int) + 4 * (x1 * 256 + x2) := by rw [IntKind.wrap_i64]; omega
      clear hn hb0 hv hr h16 h161 hx1e hx2e hbig
      by_cases hend : (n : Int) < 16 + 4 * k + 4 * (x1 * 256 + x2)
      · have hve := HV.out
        rw [if_pos hend] at hve
        rw [hve]
        clear hve
        go_enter Try.func7, Try.ntmps7
        go_upto_region 7 with fail
        go_quiet (fail)
        go_wp2
        go_ret2
        exact ⟨rfl, below_drewN' (Below.refl _ _) _⟩
      · have hve := HV.out
        rw [if_neg hend] at hve
        rw [hve]
        clear hve
        go_enter Try.func7, Try.ntmps7
        go_upto_region 7 with fail
        go_quiet (fail)
        go_wp2
        go_ret2
        exact ⟨rfl, below_drewN' (Below.refl _ _) _⟩

/-- What is found. -/
def findX (L : List At) (id : Int) : Option (List Int) := (L.find? (fun a => decide (a.ty = id))).map (·.val)
def FindO (L : List At) (id : Int) (w : World) (e : Ending) (w' : World) : Prop :=
  ∃ v, e = .returned (.tuple #[v, .bool (findX L id).isSome]) ∧ V8 w' w'.heap.size v ((findX L id).getD []) ∧ Below w.heap.size w w'
theorem find_none {L : List At} {id : Int} (h : ∀ j, j < L.length → ¬ (L.getD j default).ty = id) : findX L id = none := by
  unfold findX
  rw [List.find?_eq_none.2]
  · rfl
  · intro a ha
    obtain ⟨j, hj, rfl⟩ := List.getElem_of_mem ha
    have := h j hj
    simp only [List.getD, List.getElem?_eq_getElem hj] at this
    simpa using this
theorem find_some {L : List At} {id : Int} {k : Nat} (hk : k < L.length) (h : ∀ j, j < k → ¬ (L.getD j default).ty = id) (he : (L.getD k default).ty = id) : findX L id = some (L.getD k default).val := by
  unfold findX
  have e : L.find? (fun a => decide (a.ty = id)) = some (L.getD k default) := by
    rw [List.find?_eq_some_iff_getElem]
    refine ⟨by simpa using he, k, hk, by simp [List.getD, hk], fun j hj => ?_⟩
    have := h j hj
    simp only [List.getD, List.getElem?_eq_getElem (show j < L.length by omega)] at this
    simpa using this
  rw [e]
  rfl

set_option maxHeartbeats 1600000 in
set_option maxRecDepth 100000 in
theorem find_any (mr : Bool) (ty sq ti so pad id : Int) (C P : Value) (A : Option Addr) (c : Nat) (L : List At) (w : World) (h : AtX w w.heap.size A L) (hl : L.length ≤ 4398046511102) (hb : ∀ a ∈ L, a.val.length ≤ 140737488351232) :
    Calls Try.prog 8 #[.agg (pk mr ty sq ti so C (.slice A L.length c) P pad), .int .i64 id] w fun e w' => FindO L id w e w' := by
  obtain ⟨n, hn⟩ : ∃ n, L.length = n := ⟨_, rfl⟩
  have HN := Lib.hid hn
  rw [hn] at hl ⊢
  obtain ⟨c0, c1, c2, c3, c4, c5, c6, c7, c8⟩ := pk_cells (Whole.new w 37 (pk mr ty sq ti so C (.slice A n c) P pad))
  have HB := Lib.hid ((Below.refl w.heap.size w).alloc (Nat.le_refl _) (.cells (pk mr ty sq ti so C (.slice A n c) P pad) 37))
  generalize pk mr ty sq ti so C (.slice A n c) P pad = M at *
  have H := Lib.hid (And.intro h hb)
  clear h hb hn c0 c1 c2 c3 c4 c5 c7 c8
  go_enter Try.func8, Try.ntmps8
  go_upto_region 1 with fail
  generalize w.alloc (.cells M 37) = W0 at *
  have HBS : Hid (w.heap.size ≤ W0.heap.size) := Lib.hid HB.out.size
  go_wp2
  go_loopw [11] (fun s11 wr => ∃ k : Nat, k ≤ n ∧ s11 = .int .i64 k ∧ (∀ j, j < k → ¬ (L.getD j default).ty = id) ∧ Below w.heap.size w wr) (fun s11 _ => n - (intOf s11).toNat)
  case atStart => exact ⟨0, by omega, rfl, fun j hj => by omega, HB.out⟩
  case round =>
    obtain ⟨k, hk, rfl, hno, hbw⟩ := hrel
    by_cases hlt : k < n
    · have hlt' : k < L.length := by rw [HN.out]; exact hlt
      obtain ⟨ad, A', c', hA, had, x0, x1, y0, y1, hnil, hbs⟩ := H.out.1.at_ hlt'
      subst hA
      have z0 : wr.cell? (ad.add (k * 2)) = some (.int .i64 (L.getD k default).ty) := (hbw.cell (p := ad.add (k * 2)) (by rw [add_block]; exact had)).trans x0
      have z1 : wr.cell? ⟨(ad.add (k * 2)).block, (ad.add (k * 2)).off + 1, none⟩ = some (.slice A' (L.getD k default).val.length c') := (hbw.cell (p := ⟨(ad.add (k * 2)).block, (ad.add (k * 2)).off + 1, none⟩) (by show (ad.add (k * 2)).block < w.heap.size; rw [add_block]; exact had)).trans x1
      have hvl := H.out.2 _ (getD_memX hlt')
      obtain ⟨a, ha⟩ : ∃ a, L.getD k default = a := ⟨_, rfl⟩
      rw [ha] at z0 z1 y0 hbs hvl
      obtain ⟨m, hm⟩ : ∃ m, a.val.length = m := ⟨_, rfl⟩
      have HK := Lib.hid (And.intro hno (And.intro hbw (And.intro ha (And.intro hm (And.intro hbs (And.intro y0 (And.intro y1 (And.intro hnil hvl))))))))
      rw [hm] at z1
      obtain ⟨t, ht⟩ : ∃ t, a.ty = t := ⟨_, rfl⟩
      rw [ht] at z0
      have HT := Lib.hid ht
      clear x0 x1 hno hbw ha hm hbs y0 y1 hnil hvl ht had
      have HCL : Hid (∀ W, Below w.heap.size w W → Calls Try.prog 13 #[.slice A' m c'] W fun e w' => ∃ v', e = .returned v' ∧ Own8 w' W.heap.size v' a.val ∧ Below W.heap.size W w') := Lib.hid fun W hW => by
        obtain ⟨_, _, _, hm, hbs, y0, y1, hnil, hvl⟩ := HK.out
        exact clone_any _ a.val w.heap.size W ⟨A', c', by rw [hm], y0, y1, hnil, hbs.below hW⟩ (by omega)
      by_cases he : t = id
      · subst he
        go_wp2_with (go_at_call 13; (with_reducible refine (HCL.out _ (HK.out.2.1.alloc HK.out.2.1.size _)).mono ?_); rintro e w5 ⟨v5, rfl, ho5, hb5⟩)
        go_ret2
        have hfs := find_some hlt' HK.out.1 (by rw [HK.out.2.2.1]; exact HT.out)
        rw [HK.out.2.2.1] at hfs
        have hb6 := HK.out.2.1.alloc HK.out.2.1.size (Obj.cells #[.int .i64 t, .slice A' m c'] 48)
        refine ⟨v5, ?_, ?_, hb6.trans (hb5.mono hb6.size)⟩
        · rw [hfs]; rfl
        · rw [hfs]; exact ho5.v8
      · go_wp2
        go_roundw
        case rel =>
          refine ⟨k + 1, by omega, by go_num, fun j hj => ?_, HK.out.2.1.alloc HK.out.2.1.size _⟩
          by_cases hjk : j < k
          · exact HK.out.1 j hjk
          · obtain rfl : j = k := by omega
            rw [HK.out.2.2.1, HT.out]; exact he
        case measure => simp [intOf]; omega
    · obtain rfl : k = n := by omega
      have hfn := find_none (L := L) (id := id) (by rw [HN.out]; exact hno)
      go_wp2
      go_ret2
      refine ⟨.slice none 0 0, ?_, ?_, hbw⟩
      · rw [hfn]; rfl
      · rw [hfn]; exact ⟨none, 0, rfl, Nat.le_refl _, Nat.zero_le _, fun _ => rfl, rfl, fun hn => by simp at hn⟩
set_option maxHeartbeats 1600000 in
set_option maxRecDepth 100000 in
theorem rfind_any (mr : Bool) (ty sq ti so pad id : Int) (C P : Value) (A : Option Addr) (c : Nat) (L : List At) (w : World) (h : AtX w w.heap.size A L) (hl : L.length ≤ 4398046511102) (hb : ∀ a ∈ L, a.val.length ≤ 140737488351232) :
    Calls Try.prog 10 #[.agg (pk mr ty sq ti so C (.slice A L.length c) P pad), .int .i64 id] w fun e w' => FindO L id w e w' := by
  obtain ⟨n, hn⟩ : ∃ n, L.length = n := ⟨_, rfl⟩
  have HN := Lib.hid hn
  rw [hn] at hl ⊢
  obtain ⟨c0, c1, c2, c3, c4, c5, c6, c7, c8⟩ := pk_cells (Whole.new w 28 (pk mr ty sq ti so C (.slice A n c) P pad))
  have HB := Lib.hid ((Below.refl w.heap.size w).alloc (Nat.le_refl _) (.cells (pk mr ty sq ti so C (.slice A n c) P pad) 28))
  generalize pk mr ty sq ti so C (.slice A n c) P pad = M at *
  have H := Lib.hid (And.intro h hb)
  clear h hb hn c0 c1 c2 c3 c4 c5 c7 c8
  go_enter Try.func10, Try.ntmps10
  go_upto_region 1 with fail
  generalize w.alloc (.cells M 28) = W0 at *
  have HBS : Hid (w.heap.size ≤ W0.heap.size) := Lib.hid HB.out.size
  go_wp2
  go_loopw [10] (fun s10 wr => ∃ k : Nat, k ≤ n ∧ s10 = .int .i64 k ∧ (∀ j, j < k → ¬ (L.getD j default).ty = id) ∧ wr = W0) (fun s10 _ => n - (intOf s10).toNat)
  case atStart => exact ⟨0, by omega, rfl, fun j hj => by omega, rfl⟩
  case round =>
    obtain ⟨k, hk, rfl, hno, hwr⟩ := hrel
    have hbw : Below w.heap.size w wr := by rw [hwr]; exact HB.out
    rw [← hwr] at c6
    have HWR := Lib.hid hwr
    clear hwr
    by_cases hlt : k < n
    · have hlt' : k < L.length := by rw [HN.out]; exact hlt
      obtain ⟨ad, A', c', hA, had, x0, x1, y0, y1, hnil, hbs⟩ := H.out.1.at_ hlt'
      subst hA
      have z0 : wr.cell? (ad.add (k * 2)) = some (.int .i64 (L.getD k default).ty) := (hbw.cell (p := ad.add (k * 2)) (by rw [add_block]; exact had)).trans x0
      have z1 : wr.cell? ⟨(ad.add (k * 2)).block, (ad.add (k * 2)).off + 1, none⟩ = some (.slice A' (L.getD k default).val.length c') := (hbw.cell (p := ⟨(ad.add (k * 2)).block, (ad.add (k * 2)).off + 1, none⟩) (by show (ad.add (k * 2)).block < w.heap.size; rw [add_block]; exact had)).trans x1
      have hvl := H.out.2 _ (getD_memX hlt')
      obtain ⟨a, ha⟩ : ∃ a, L.getD k default = a := ⟨_, rfl⟩
      rw [ha] at z0 z1 y0 hbs hvl
      obtain ⟨m, hm⟩ : ∃ m, a.val.length = m := ⟨_, rfl⟩
      have HK := Lib.hid (And.intro hno (And.intro hbw (And.intro ha (And.intro hm (And.intro hbs (And.intro y0 (And.intro y1 (And.intro hnil hvl))))))))
      rw [hm] at z1
      obtain ⟨t, ht⟩ : ∃ t, a.ty = t := ⟨_, rfl⟩
      rw [ht] at z0
      have HT := Lib.hid ht
      clear x0 x1 hno hbw ha hm hbs y0 y1 hnil hvl ht had
      by_cases he : t = id
      · subst he
        go_wp2
        go_ret2
        have hfs := find_some hlt' HK.out.1 (by rw [HK.out.2.2.1]; exact HT.out)
        rw [HK.out.2.2.1] at hfs
        obtain ⟨_, hbw2, _, hm, hbs, y0, y1, hnil, hvl⟩ := HK.out
        refine ⟨.slice A' m c', ?_, ?_, hbw2⟩
        · rw [hfs]; rfl
        · rw [hfs]
          exact ⟨A', c', by show _ = Value.slice A' a.val.length c'; rw [hm], y0, y1, hnil, (hbs.below hbw2).more hbw2.size⟩
      · go_wp2
        go_roundw
        case rel =>
          refine ⟨k + 1, by omega, by go_num, fun j hj => ?_, HWR.out⟩
          by_cases hjk : j < k
          · exact HK.out.1 j hjk
          · obtain rfl : j = k := by omega
            rw [HK.out.2.2.1, HT.out]; exact he
        case measure => simp [intOf]; omega
    · obtain rfl : k = n := by omega
      have hfn := find_none (L := L) (id := id) (by rw [HN.out]; exact hno)
      go_wp2
      go_ret2
      refine ⟨.slice none 0 0, ?_, ?_, hbw⟩
      · rw [hfn]; rfl
      · rw [hfn]; exact ⟨none, 0, rfl, Nat.le_refl _, Nat.zero_le _, fun _ => rfl, rfl, fun hn => by simp at hn⟩
end Go.Proofs.Ytapbodiakkdfmaa
