/- The program's columns: to bytes, through S, with keys. -/
import Derived.Test.YtomnomopcpdpoaaAesCols
import Derived.Test.YtomnomopcpdpoaaAesKeysR
namespace Go.Proofs.Ytomnomopcpdpoaa
open Go.RowKit
set_option linter.unusedVariables false

theorem cw_at (f : Nat → B) (q : Nat) (hq : q < 4) : (cw f).getD q 0 = ncf f q := by
  rcases (show q = 0 ∨ q = 1 ∨ q = 2 ∨ q = 3 by omega) with rfl | rfl | rfl | rfl <;> rfl
theorem ncf_byte (f : Nat → B) (q : Nat) : ncf f q / 16777216 = nb (f (4 * q)) ∧ ncf f q / 65536 % 256 = nb (f (4 * q + 1)) ∧ ncf f q / 256 % 256 = nb (f (4 * q + 2)) ∧ ncf f q % 256 = nb (f (4 * q + 3)) := nc_byte _ _ _ _

set_option maxHeartbeats 1600000 in
set_option maxRecDepth 100000 in
theorem bytes_any (f : Nat → B) (w : World) : Calls Try.prog 26 #[.agg (arr .u32 (cw f))] w fun e w' => e = .returned (.agg (arr .u8 (fl 16 f))) ∧ Below w.heap.size w w' := by
  have hz := Try.zero22
  generalize hka : arr .u32 (cw f) = ka at *
  have HKA := Lib.hid hka
  clear hka
  generalize hzl : arr .u8 (fl 16 zB) = Z at *
  have HZ := Lib.hid hzl
  clear hzl
  go_enter Try.func26, Try.ntmps26
  have h0 : Whole (((w.alloc (Obj.cells ka 47)).alloc (Obj.cells Z 22)).alloc (Obj.cells Z 22)) w.heap.size 47 (arr .u32 (cw f)) := by
    rw [HKA.out]
    exact ((Whole.new _ _ _).alloc _).alloc _
  have h1 : Whole (((w.alloc (Obj.cells ka 47)).alloc (Obj.cells Z 22)).alloc (Obj.cells Z 22)) (w.heap.size + 1) 22 Z := (Whole.new2 _ _ _ _).alloc _
  have h2 : Whole (((w.alloc (Obj.cells ka 47)).alloc (Obj.cells Z 22)).alloc (Obj.cells Z 22)) (w.heap.size + 1 + 1) 22 (arr .u8 (fl 16 (kT f 0))) := by
    have := Whole.new ((w.alloc (Obj.cells ka 47)).alloc (Obj.cells Z 22)) 22 Z
    rw [World.size_alloc, World.size_alloc] at this
    rw [← kT_zero, HZ.out]
    exact this
  have hb0 : Below w.heap.size w (((w.alloc (Obj.cells ka 47)).alloc (Obj.cells Z 22)).alloc (Obj.cells Z 22)) := (two_new _ _ _ _).alloc (by simp; omega) _
  have HJ := Lib.hid (And.intro h0 (And.intro h1 (And.intro h2 hb0)))
  clear h0 h1 h2 hb0
  go_wp2
  obtain ⟨N, hN⟩ : ∃ N, w.heap.size = N := ⟨_, rfl⟩
  obtain ⟨g2, hg2⟩ : ∃ g, N + 1 = g := ⟨_, rfl⟩
  obtain ⟨g3, hg3⟩ : ∃ g, g2 + 1 = g := ⟨_, rfl⟩
  have HN := Lib.hid hN
  rw [hN] at HJ ⊢
  rw [hg2] at HJ ⊢
  rw [hg3] at HJ ⊢
  have l4 : N < g2 := by omega
  have l5 : g2 < g3 := by omega
  clear hN hg2 hg3
  go_loopw [5] (fun s5 wr => ∃ k : Nat, k ≤ 16 ∧ s5 = .int .i64 k ∧ Whole wr N 47 (arr .u32 (cw f)) ∧ Whole wr g2 22 Z ∧ Whole wr g3 22 (arr .u8 (fl 16 (kT f k))) ∧ Below N w wr) (fun s5 _ => 16 - (intOf s5).toNat)
  case atStart => exact ⟨0, by omega, rfl, HJ.out⟩
  case round =>
    clear HJ
    obtain ⟨k, hk, rfl, h0, h1, h2, hb⟩ := hrel
    by_cases hlt : k < 16
    · obtain ⟨q, hq⟩ : ∃ q, k / 4 = q := ⟨_, rfl⟩
      have hq4 : q < 4 := by omega
      have c1 := h0.at_ (i := q) (by simpa using hq4)
      rw [cw_at f q hq4] at c1
      obtain ⟨y0, y1⟩ := ncf_in f q
      obtain ⟨n0, n1, n2, n3⟩ := ncf_byte f q
      have c2 := h2.atf (i := k) hlt
      have f2 := h2.frz k
      have hput := h2.putf k (f k)
      rw [kT_up] at hput
      obtain ⟨z0, z1⟩ := nb_in (f k)
      have e1 : (k : Int) / 4 = (q : Int) := by omega
      have b1 : (q : Int) < 4 := by omega
      have b2 : (k : Int) < 16 := by omega
      generalize nb (kT f k k) = u at *
      rcases (show k % 4 = 0 ∨ k % 4 = 1 ∨ k % 4 = 2 ∨ k % 4 = 3 by omega) with hr | hr | hr | hr
      · have e2 : (k : Int) % 4 = 0 := by omega
        rw [show 4 * q = k by omega] at n0
        generalize nb (f k) = z at *
        generalize ncf f q = x at *
        have H := Lib.hid (And.intro h0 (And.intro h1 (And.intro hput hb)))
        clear h0 h1 h2 hput hb hq n1 n2 n3 hr
        go_wp2
        go_roundw
        case rel => exact ⟨k + 1, by omega, by go_num, Whole.far H.out.1 (by simp; omega) _, Whole.far H.out.2.1 (by simp; omega) _, H.out.2.2.1, Below.setCell H.out.2.2.2 (by simp; omega) _⟩
        case measure => simp [intOf]; omega
      · have e2 : (k : Int) % 4 = 1 := by omega
        rw [show 4 * q + 1 = k by omega] at n1
        generalize nb (f k) = z at *
        generalize ncf f q = x at *
        have H := Lib.hid (And.intro h0 (And.intro h1 (And.intro hput hb)))
        clear h0 h1 h2 hput hb hq n0 n2 n3 hr
        go_wp2
        go_roundw
        case rel => exact ⟨k + 1, by omega, by go_num, Whole.far H.out.1 (by simp; omega) _, Whole.far H.out.2.1 (by simp; omega) _, H.out.2.2.1, Below.setCell H.out.2.2.2 (by simp; omega) _⟩
        case measure => simp [intOf]; omega
      · have e2 : (k : Int) % 4 = 2 := by omega
        rw [show 4 * q + 2 = k by omega] at n2
        generalize nb (f k) = z at *
        generalize ncf f q = x at *
        have H := Lib.hid (And.intro h0 (And.intro h1 (And.intro hput hb)))
        clear h0 h1 h2 hput hb hq n0 n1 n3 hr
        go_wp2
        go_roundw
        case rel => exact ⟨k + 1, by omega, by go_num, Whole.far H.out.1 (by simp; omega) _, Whole.far H.out.2.1 (by simp; omega) _, H.out.2.2.1, Below.setCell H.out.2.2.2 (by simp; omega) _⟩
        case measure => simp [intOf]; omega
      · have e2 : (k : Int) % 4 = 3 := by omega
        rw [show 4 * q + 3 = k by omega] at n3
        generalize nb (f k) = z at *
        generalize ncf f q = x at *
        have H := Lib.hid (And.intro h0 (And.intro h1 (And.intro hput hb)))
        clear h0 h1 h2 hput hb hq n0 n1 n2 hr
        go_wp2
        go_roundw
        case rel => exact ⟨k + 1, by omega, by go_num, Whole.far H.out.1 (by simp; omega) _, Whole.far H.out.2.1 (by simp; omega) _, H.out.2.2.1, Below.setCell H.out.2.2.2 (by simp; omega) _⟩
        case measure => simp [intOf]; omega
    · obtain rfl : k = 16 := by omega
      rw [show ((16 : Nat) : Int) = 16 from rfl]
      rw [kT_all] at h2
      have H := Lib.hid (And.intro h1 (And.intro h2 hb))
      have HZn : Hid (Z.size = 16) := Lib.hid (by rw [← HZ.out]; simp)
      clear h0 h1 h2 hb
      go_wp2_with (first
        | (refine wpList_load_whole rfl 22 (.tmp 3) rfl rfl H.out.2.1 Try.underlying22 Try.info22 (by simp) ?_)
        | (refine wpList_store_whole rfl 22 (.tmp 2) (.tmp 21) rfl rfl rfl H.out.1 Try.info22 (by simp) HZn.out (arr_one _ _) ?_))
      refine bodyPost_ret (v := .agg (arr .u8 (fl 16 f))) (ret_whole (g := g2) rfl rfl (Whole.row H.out.1 _) Try.underlying22 Try.info22 (by simp)) rfl ⟨rfl, ?_⟩
      have := below_row H.out.2.2 (show N ≤ g2 by omega) (arr .u8 (fl 16 f))
      rw [HN.out]
      exact this

/-- What a cipher holds. -/
def ciph (K : Nat → B) : Array Value := arr .u8 (fl 256 Sb) ++ arr .u32 ((List.range 44).map (ncf K))
@[simp] theorem ciph_size (K : Nat → B) : (ciph K).size = 300 := by simp [ciph]
theorem ciph_box (K : Nat → B) {j : Nat} (h : j < 256) : (ciph K)[j]? = some (.int .u8 (nb (Sb j))) := by
  unfold ciph
  rw [Array.getElem?_append_left (by simpa using h)]
  have := arr_get (k := .u8) (ws := fl 256 Sb) (i := j) (by simpa using h)
  rwa [fl_get Sb h] at this
theorem ciph_key (K : Nat → B) {j : Nat} (h : j < 44) : (ciph K)[256 + j]? = some (.int .u32 (ncf K j)) := by
  unfold ciph
  rw [Array.getElem?_append_right (by simp)]
  have := arr_get (k := .u32) (ws := (List.range 44).map (ncf K)) (i := j) (by simpa using h)
  simp only [arr_size, fl_length, Nat.add_sub_cancel_left]
  rw [this]
  simp [List.getD, h]

set_option maxHeartbeats 1600000 in
set_option maxRecDepth 100000 in
theorem boxed_any (gc : Nat) (a0 b0 c0 d0 a1 b1 c1 d1 a2 b2 c2 d2 a3 b3 c3 d3 : B) (w : World) (hC : ∀ j, j < 256 → w.cell? ⟨gc, j, none⟩ = some (.int .u8 (nb (Sb j)))) :
    Calls Try.prog 21 #[.pointer (some ⟨gc, 0, none⟩), .int .u32 (nc a0 b0 c0 d0), .int .u32 (nc a1 b1 c1 d1), .int .u32 (nc a2 b2 c2 d2), .int .u32 (nc a3 b3 c3 d3)] w fun e w' => e = .returned (.int .u32 (nc (Sb a0.toNat) (Sb b1.toNat) (Sb c2.toNat) (Sb d3.toNat))) ∧ ∃ n, w' = w.drewN n := by
  have hm := nc_made (Sb a0.toNat) (Sb b1.toNat) (Sb c2.toNat) (Sb d3.toNat)
  obtain ⟨z00, z01⟩ := nb_in (Sb a0.toNat)
  obtain ⟨z10, z11⟩ := nb_in (Sb b1.toNat)
  obtain ⟨z20, z21⟩ := nb_in (Sb c2.toNat)
  obtain ⟨z30, z31⟩ := nb_in (Sb d3.toNat)
  obtain ⟨x00, x01⟩ := nc_in a0 b0 c0 d0
  obtain ⟨x10, x11⟩ := nc_in a1 b1 c1 d1
  obtain ⟨x20, x21⟩ := nc_in a2 b2 c2 d2
  obtain ⟨x30, x31⟩ := nc_in a3 b3 c3 d3
  have q0 : nc a0 b0 c0 d0 / 16777216 = ((a0.toNat : Nat) : Int) := (nc_byte a0 b0 c0 d0).1
  have q1 : nc a1 b1 c1 d1 / 65536 % 256 = ((b1.toNat : Nat) : Int) := (nc_byte a1 b1 c1 d1).2.1
  have q2 : nc a2 b2 c2 d2 / 256 % 256 = ((c2.toNat : Nat) : Int) := (nc_byte a2 b2 c2 d2).2.2.1
  have q3 : nc a3 b3 c3 d3 % 256 = ((d3.toNat : Nat) : Int) := (nc_byte a3 b3 c3 d3).2.2.2
  have k0 := hC a0.toNat a0.isLt
  have k1 := hC b1.toNat b1.isLt
  have k2 := hC c2.toNat c2.isLt
  have k3 := hC d3.toNat d3.isLt
  have l0 : ((a0.toNat : Nat) : Int) < 256 := by have := a0.isLt; omega
  have l1 : ((b1.toNat : Nat) : Int) < 256 := by have := b1.isLt; omega
  have l2 : ((c2.toNat : Nat) : Int) < 256 := by have := c2.isLt; omega
  have l3 : ((d3.toNat : Nat) : Int) < 256 := by have := d3.isLt; omega
  generalize nc (Sb a0.toNat) (Sb b1.toNat) (Sb c2.toNat) (Sb d3.toNat) = z at *
  generalize nb (Sb a0.toNat) = z0 at *
  generalize nb (Sb b1.toNat) = z1 at *
  generalize nb (Sb c2.toNat) = z2 at *
  generalize nb (Sb d3.toNat) = z3 at *
  generalize nc a0 b0 c0 d0 = x0 at *
  generalize nc a1 b1 c1 d1 = x1 at *
  generalize nc a2 b2 c2 d2 = x2 at *
  generalize nc a3 b3 c3 d3 = x3 at *
  generalize a0.toNat = p0 at *
  generalize b1.toNat = p1 at *
  generalize c2.toNat = p2 at *
  generalize d3.toNat = p3 at *
  have HM := Lib.hid hm
  have HW := Lib.hid hC
  clear hm hC
  go_enter Try.func21, Try.ntmps21
  go_upto_region 1 with fail
  go_quiet (fail)
  go_wp2
  go_ret
  trace_state
  exact ⟨ret_i HM.out, _, rfl⟩
end Go.Proofs.Ytomnomopcpdpoaa
