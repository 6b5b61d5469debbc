/- The document's block, walked. -/
import Derived.Test.YtomnomopcpdpoaaAesKeysR
namespace Go.Proofs.Ytomnomopcpdpoaa
open Go.RowKit
set_option linter.unusedVariables false

/-- The first n places by f, the others by g. -/
def mT (f g : Nat → B) (n : Nat) (j : Nat) : B := if j < n then f j else g j
theorem mT_up (m : Nat) (f g : Nat → B) (n : Nat) : fl m (up (mT f g n) n (f n)) = fl m (mT f g (n + 1)) := fl_congr fun i _ => by
  unfold up mT
  by_cases e : i = n
  · subst e; simp
  · rw [if_neg e]
    by_cases h2 : i < n
    · rw [if_pos h2, if_pos (by omega)]
    · rw [if_neg h2, if_neg (by omega)]
theorem mT_all (n : Nat) (f g : Nat → B) : fl n (mT f g n) = fl n f := fl_congr fun i hi => by unfold mT; rw [if_pos hi]
theorem mT_zero (n : Nat) (f g : Nat → B) : fl n (mT f g 0) = fl n g := fl_congr fun i hi => by unfold mT; rw [if_neg (by omega)]
theorem mT_at (f g : Nat → B) (n : Nat) : mT f g n n = g n := by unfold mT; rw [if_neg (by omega)]

theorem tmod4 {a b : Nat} (h : a % 4 = b) : (a : Int).tmod 4 = (b : Int) := by rw [Int.tmod_eq_emod_of_nonneg (by omega)]; omega
theorem wrap_in {a : Int} {b : Nat} (h : a = b) (hb : b < 1000000) : IntKind.i64.wrap a = (b : Int) := by rw [IntWalk.i64_in _ (by omega), h]

theorem times_2l (x : B) (w : World) : Calls Try.prog 28 #[.int .u8 2, .int .u8 (nb x)] w fun e w' => e = .returned (.int .u8 (nb (tw x))) ∧ w = w' := by
  have h := times_any 2#8 x w
  rw [mul2] at h
  exact h
theorem times_3l (x : B) (w : World) : Calls Try.prog 28 #[.int .u8 3, .int .u8 (nb x)] w fun e w' => e = .returned (.int .u8 (nb (tw x ^^^ x))) ∧ w = w' := by
  have h := times_any 3#8 x w
  rw [mul3] at h
  exact h

/-- The places of a column, as the walk meets them. -/
structure Idx (c r c4 i1 : Nat) : Prop where
  e0 : 4 * c + r = i1
  e1 : 4 * (c : Int) = (c4 : Int)
  e2 : (c4 : Int) + (r : Int) = (i1 : Int)
  b1 : (i1 : Int) < 16
  b0 : i1 < 16
  w1 : IntKind.i64.wrap (c4 : Int) = (c4 : Int)
  w2 : IntKind.i64.wrap (i1 : Int) = (i1 : Int)
theorem idx_mk (c r : Nat) (hc : c < 4) (hr : r < 4) : ∃ c4 i1, Idx c r c4 i1 :=
  ⟨4 * c, 4 * c + r, rfl, by omega, by omega, by omega, by omega, wrap_in rfl (by omega), wrap_in rfl (by omega)⟩
/-- The one that stands k rows further. -/
structure Nxt (c r c4 k rk pk ik : Nat) : Prop where
  e0 : 4 * c + (r + k) % 4 = ik
  e1 : (r : Int) + (k : Int) = (rk : Int)
  t : (rk : Int).tmod 4 = (pk : Int)
  e2 : (c4 : Int) + (pk : Int) = (ik : Int)
  w1 : IntKind.i64.wrap (rk : Int) = (rk : Int)
  w2 : IntKind.i64.wrap (ik : Int) = (ik : Int)
  w3 : IntKind.i64.wrap (pk : Int) = (pk : Int)
  b : (ik : Int) < 16
  b0 : ik < 16
theorem nxt_mk (c r k : Nat) {c4 i1 : Nat} (h : Idx c r c4 i1) (hc : c < 4) (hr : r < 4) (hk : k < 4) : ∃ rk pk ik, Nxt c r c4 k rk pk ik :=
  ⟨r + k, (r + k) % 4, 4 * c + (r + k) % 4, rfl, by omega, tmod4 rfl, by have := h.e1; omega, wrap_in rfl (by omega), wrap_in rfl (by omega), wrap_in rfl (by omega), by omega, by omega⟩
/-- The places of a round's key. -/
structure Kdx (m c r i1 m4 j1 : Nat) : Prop where
  e0 : j1 * 4 + r = 16 * m + i1
  e1 : 4 * (m : Int) = (m4 : Int)
  e2 : (m4 : Int) + (c : Int) = (j1 : Int)
  b : (j1 : Int) < 44
  b0 : 16 * m + i1 < 176
theorem kdx_mk (m c r : Nat) {c4 i1 : Nat} (h : Idx c r c4 i1) (hc : c < 4) (hm : m ≤ 10) : ∃ m4 j1, Kdx m c r i1 m4 j1 :=
  ⟨4 * m, 4 * m + c, by have := h.e0; omega, by omega, by omega, by omega, by have := h.b0; omega⟩

theorem mx_int (a b c d : B) : bits .xor .u8 (bits .xor .u8 (bits .xor .u8 (nb (tw a)) (nb (tw b ^^^ b))) (nb c)) (nb d) = nb (m4 a b c d) := by
  rw [bxor8, bxor8, bxor8]
  rfl

set_option maxHeartbeats 6400000 in
set_option maxRecDepth 100000 in
theorem rblock_any (K s : Nat → B) (gs gw : Nat) (w : World) (hS : Whole w gs 34 (arr .u8 (fl 256 Sb))) (hW : Whole w gw 37 (arr .u8 (fl 176 K))) :
    Calls Try.prog 16 #[.pointer (some ⟨gs, 0, none⟩), .pointer (some ⟨gw, 0, none⟩), .agg (arr .u8 (fl 16 s))] w fun e w' => e = .returned (.agg (arr .u8 (fl 16 (st K s 10)))) ∧ Below w.heap.size w w' := by
  have hz := Try.zero22
  have HS := Lib.hid (And.intro hS (And.intro hW (And.intro hS.lt hW.lt)))
  clear hS hW
  generalize hke : arr .u8 (fl 16 s) = sa at *
  have HKA := Lib.hid hke
  clear hke
  generalize hzl : arr .u8 (fl 16 zB) = Z at *
  have HZ := Lib.hid hzl
  clear hzl
  go_enter Try.func16, Try.ntmps16
  go_wp2
  have h0 : Whole ((w.alloc (Obj.cells sa 22)).alloc (Obj.cells Z 22)) w.heap.size 22 (arr .u8 (fl 16 (mT (st K s 0) s 0))) := by
    rw [mT_zero, HKA.out]
    exact (Whole.new _ _ _).alloc _
  have h1 : Whole ((w.alloc (Obj.cells sa 22)).alloc (Obj.cells Z 22)) (w.heap.size + 1) 22 Z := Whole.new2 _ _ _ _
  have hb0 : Below w.heap.size w ((w.alloc (Obj.cells sa 22)).alloc (Obj.cells Z 22)) := two_new _ _ _ _
  have hs0 : w.heap.size + 1 < ((w.alloc (Obj.cells sa 22)).alloc (Obj.cells Z 22)).heap.size := by simp
  obtain ⟨N, hN⟩ : ∃ N, w.heap.size = N := ⟨_, rfl⟩
  obtain ⟨g6, hg6⟩ : ∃ g, N + 1 = g := ⟨_, rfl⟩
  have HN := Lib.hid hN
  rw [hN] at h0 h1 hb0 hs0 ⊢
  rw [hN] at HS
  rw [hg6] at h1 hs0 ⊢
  have l6 : N < g6 := by omega
  have HI := Lib.hid (And.intro h0 (And.intro h1 (And.intro hb0 hs0)))
  clear h0 h1 hb0 hs0 hN hg6
  go_loopw [7, 15] (fun s7 s15 wr => ∃ k : Nat, k ≤ 16 ∧ s15 = .int .i64 k ∧ Whole wr N 22 (arr .u8 (fl 16 (mT (st K s 0) s k))) ∧ Whole wr g6 22 Z ∧ Below N w wr ∧ g6 < wr.heap.size) (fun _ s15 _ => 16 - (intOf s15).toNat)
  case atStart => exact ⟨0, by omega, rfl, HI.out⟩
  case round =>
    clear HI
    obtain ⟨k, hk, rfl, h0, h1, hb, hsz⟩ := hrel
    by_cases hlt : k < 16
    · have c0 := h0.atf hlt
      have f0 := h0.frz k
      rw [mT_at] at c0
      obtain ⟨q, hq⟩ : ∃ q, k / 4 = q := ⟨_, rfl⟩
      obtain ⟨r, hr⟩ : ∃ r, k % 4 = r := ⟨_, rfl⟩
      have hqr : q * 4 + r = k := by omega
      have c1 : wr.cell? ⟨gw, q * 4 + r, none⟩ = some (.int .u8 (nb (K k))) := by
        rw [hqr]
        exact (HS.out.2.1.below hb HS.out.2.2.2).atf (by omega)
      have hput := h0.putf k (st K s 0 k)
      rw [mT_up] at hput
      have hx := bxor8 (s k) (K k)
      rw [show s k ^^^ K k = st K s 0 k from rfl] at hx
      generalize nb (st K s 0 k) = z at *
      generalize nb (s k) = y1 at *
      generalize nb (K k) = y2 at *
      have e1 : (k : Int) / 4 = (q : Int) := by omega
      have e2 : (k : Int) % 4 = (r : Int) := by omega
      have b1 : (q : Int) < 44 := by omega
      have b2 : (r : Int) < 4 := by omega
      have b3 : (k : Int) < 16 := by omega
      have s1 : IntKind.i64.wrap (q : Int) = (q : Int) := IntWalk.i64_in _ (by omega)
      have s2 := tmod4 hr
      have H := Lib.hid (And.intro h1 (And.intro hput (And.intro hb (And.intro hsz hx))))
      clear h0 h1 hput hb hqr hq hr hsz hx
      go_upto_region 4 with fail
      refine wp_region_still_tail 15 (by kernel_rfl) (by kernel_rfl) ?_
      simp only [List.take_succ_cons, List.take_zero, List.drop_succ_cons, List.drop_zero]
      repeat still_step
      refine wpStill_nil ?_
      clear s1 s2
      change wpList _ _ _ _ _ wr.drew
      go_wp2
      go_roundw
      case rel =>
        obtain ⟨q2, q3, q4, q6, q7⟩ := H.out
        rw [q7]
        exact ⟨k + 1, by omega, by go_num, q3.drew, Whole.far q2.drew (by simp; omega) _, Below.setCell q4.drew (by simp) _, by simpa [World.setCell] using q6⟩
      case measure => simp [intOf]; omega
    · obtain rfl : k = 16 := by omega
      rw [show ((16 : Nat) : Int) = 16 from rfl]
      rw [mT_all] at h0
      have HI := Lib.hid (And.intro h0 (And.intro h1 (And.intro hb hsz)))
      clear h0 h1 hb hsz hk hlt
      go_wp2
      go_loopw [8] (fun s8 wr => ∃ n : Nat, n ≤ 10 ∧ s8 = .int .i64 ((n + 1 : Nat) : Int) ∧ Whole wr N 22 (arr .u8 (fl 16 (st K s n))) ∧ Whole wr g6 22 Z ∧ Below N w wr ∧ g6 < wr.heap.size) (fun s8 _ => 11 - (intOf s8).toNat)
      case atStart => exact ⟨0, by omega, rfl, HI.out⟩
      case round =>
        clear HI
        obtain ⟨n, hn, rfl, h0, h1, hb, hsz⟩ := hrel
        by_cases hlt : n < 10
        · obtain ⟨f, hf⟩ : ∃ f, st K s n = f := ⟨_, rfl⟩
          have hf1 : st K s (n + 1) = rd K (n + 1) f := by rw [← hf]; rfl
          rw [hf] at h0
          obtain ⟨m, hm⟩ : ∃ m, n + 1 = m := ⟨_, rfl⟩
          rw [hm] at hf1 ⊢
          have HF := Lib.hid (And.intro hf1 hm)
          have HM : Hid (m ≤ 10) := Lib.hid (by omega)
          have bm1 : (m : Int) ≤ 10 := by omega
          have bm0 : 1 ≤ (m : Int) := by omega
          have b9 : decide ((m : Int) ≤ 10) = true := by simp only [decide_eq_true_eq]; omega
          have H := Lib.hid (And.intro h0 (And.intro h1 (And.intro hb hsz)))
          clear h0 h1 hb hf hf1 hm hn hlt
          go_wp2
          have a0 := H.out.1.alloc (Obj.cells Z 22)
          have a1 := H.out.2.1.alloc (Obj.cells Z 22)
          have a2 : Below N w (wr.alloc (Obj.cells Z 22)) := H.out.2.2.1.alloc (by have := H.out.2.2.2; omega) _
          have a3 : Whole (wr.alloc (Obj.cells Z 22)) wr.heap.size 22 (arr .u8 (fl 16 (kT (ss f) (4 * 0)))) := by
            rw [show 4 * 0 = 0 from rfl, ← kT_zero, HZ.out]
            exact Whole.new _ _ _
          have a4 := H.out.2.2.2
          have a5 : wr.heap.size < (wr.alloc (Obj.cells Z 22)).heap.size := by simp
          generalize wr.alloc (Obj.cells Z 22) = W1 at *
          clear H
          generalize wr.heap.size = gt at *
          have HI := Lib.hid (And.intro a0 (And.intro a1 (And.intro a3 (And.intro a2 a5))))
          have HG := Lib.hid a4
          clear a0 a1 a2 a3 a5 a4 hsz
          go_loopw [38] (fun s38 wr => ∃ c : Nat, c ≤ 4 ∧ s38 = .int .i64 c ∧ Whole wr N 22 (arr .u8 (fl 16 f)) ∧ Whole wr g6 22 Z ∧ Whole wr gt 22 (arr .u8 (fl 16 (kT (ss f) (4 * c)))) ∧ Below N w wr ∧ gt < wr.heap.size) (fun s38 _ => 4 - (intOf s38).toNat)
          case atStart => exact ⟨0, by omega, rfl, HI.out⟩
          case round =>
            clear HI
            obtain ⟨c, hc, rfl, h0, h1, h3, hb, hsz⟩ := hrel
            by_cases hlt : c < 4
            · have bc : (c : Int) < 4 := by omega
              have bc' : decide ((c : Int) < 4) = true := by simp only [decide_eq_true_eq]; omega
              have HI := Lib.hid (And.intro h0 (And.intro h1 (And.intro h3 (And.intro hb hsz))))
              clear h0 h1 h3 hb hsz hlt
              go_wp2
              go_loopw [41] (fun s41 wr => ∃ r : Nat, r ≤ 4 ∧ s41 = .int .i64 r ∧ Whole wr N 22 (arr .u8 (fl 16 f)) ∧ Whole wr g6 22 Z ∧ Whole wr gt 22 (arr .u8 (fl 16 (kT (ss f) (4 * c + r)))) ∧ Below N w wr ∧ gt < wr.heap.size) (fun s41 _ => 4 - (intOf s41).toNat)
              case atStart => exact ⟨0, by omega, rfl, HI.out⟩
              case round =>
                clear HI
                obtain ⟨r, hr, rfl, h0, h1, h3, hb, hsz⟩ := hrel
                by_cases hrl : r < 4
                · have br : (r : Int) < 4 := by omega
                  obtain ⟨c4, hc4⟩ : ∃ x, 4 * c = x := ⟨_, rfl⟩
                  obtain ⟨i1, hi1⟩ : ∃ x, c4 + r = x := ⟨_, rfl⟩
                  obtain ⟨d, hd⟩ : ∃ x, c + r = x := ⟨_, rfl⟩
                  obtain ⟨p, hp⟩ : ∃ x, d % 4 = x := ⟨_, rfl⟩
                  obtain ⟨p4, hp4⟩ : ∃ x, 4 * p = x := ⟨_, rfl⟩
                  obtain ⟨i2, hi2⟩ : ∃ x, p4 + r = x := ⟨_, rfl⟩
                  have w1 : IntKind.i64.wrap (4 * (c : Int)) = (c4 : Int) := wrap_in (by omega) (by omega)
                  have w2 : IntKind.i64.wrap ((c4 : Int) + (r : Int)) = (i1 : Int) := wrap_in (by omega) (by omega)
                  have w3 : IntKind.i64.wrap ((c : Int) + (r : Int)) = (d : Int) := wrap_in (by omega) (by omega)
                  have w4 : (d : Int).tmod 4 = (p : Int) := tmod4 hp
                  have w5 : IntKind.i64.wrap (4 * (p : Int)) = (p4 : Int) := wrap_in (by omega) (by omega)
                  have w6 : IntKind.i64.wrap ((p4 : Int) + (r : Int)) = (i2 : Int) := wrap_in (by omega) (by omega)
                  have w7 : IntKind.i64.wrap (p : Int) = (p : Int) := wrap_in (by omega) (by omega)
                  have b1 : (i1 : Int) < 16 := by omega
                  have b2 : (i2 : Int) < 16 := by omega
                  have c1 : wr.cell? ⟨N, i2, none⟩ = some (.int .u8 ((f i2).toNat : Int)) := h0.atf (by omega)
                  have hS := (HS.out.1.below hb HS.out.2.2.1)
                  have c2 := hS.atf (i := (f i2).toNat) (f i2).isLt
                  have hq : (((f i2).toNat : Nat) : Int) < 256 := by have := (f i2).isLt; omega
                  have c3 := h3.atf (i := i1) (by omega)
                  have f3 := h3.frz i1
                  have hput := h3.putf i1 (ss f i1)
                  rw [show i1 = 4 * c + r by omega, kT_up, show 4 * c + r = i1 by omega] at hput
                  have hss : ss f i1 = Sb (f i2).toNat := by
                    unfold ss
                    rw [show 4 * ((i1 / 4 + i1 % 4) % 4) + i1 % 4 = i2 by omega]
                  rw [hss] at hput
                  generalize nb (kT (ss f) (4 * c + r) i1) = u at *
                  generalize nb (Sb (f i2).toNat) = z at *
                  generalize (f i2).toNat = q at *
                  have H := Lib.hid (And.intro h0 (And.intro h1 (And.intro hput (And.intro hb (And.intro hsz (show i1 + 1 = 4 * c + (r + 1) by omega))))))
                  have hgg := HG.out
                  clear h0 h1 h3 hput hb hsz hss hS hc4 hi1 hd hp hp4 hi2
                  go_upto_region 16 with fail
                  refine wp_region_still_tail 18 (by kernel_rfl) (by kernel_rfl) ?_
                  simp only [List.take_succ_cons, List.take_zero, List.drop_succ_cons, List.drop_zero]
                  repeat still_step
                  refine wpStill_nil ?_
                  clear w1 w2 w3 w4 w5 w6 w7
                  change wpList _ _ _ _ _ wr.drew
                  go_wp2
                  go_roundw
                  case rel =>
                    obtain ⟨q1, q2, q3, q4, q5, q6⟩ := H.out
                    exact ⟨r + 1, by omega, by go_num, Whole.far q1.drew (by simp; omega) _, Whole.far q2.drew (by simp; omega) _, by rw [← q6]; exact q3, Below.setCell q4.drew (by simp; omega) _, by simpa [World.setCell] using q5⟩
                  case measure => simp [intOf]; omega
                · obtain rfl : r = 4 := by omega
                  rw [show ((4 : Nat) : Int) = 4 from rfl]
                  have H := Lib.hid (And.intro h0 (And.intro h1 (And.intro h3 (And.intro hb hsz))))
                  clear h0 h1 h3 hb hsz
                  go_wp2
                  go_roundw
                  case rel =>
                    obtain ⟨q1, q2, q3, q4⟩ := H.out
                    exact ⟨c + 1, by omega, by go_num, q1, q2, q3, q4⟩
                  case measure => simp [intOf]; omega
            · obtain rfl : c = 4 := by omega
              rw [show ((4 : Nat) : Int) = 4 from rfl]
              rw [show 4 * 4 = 16 from rfl, kT_all] at h3
              rw [← mT_zero 16 (st K s m) f] at h0
              have HI := Lib.hid (And.intro h0 (And.intro h1 (And.intro h3 (And.intro hb hsz))))
              clear h0 h1 h3 hb hsz hlt hc
              go_wp2
              go_loopw [64] (fun s64 wr => ∃ c : Nat, c ≤ 4 ∧ s64 = .int .i64 c ∧ Whole wr N 22 (arr .u8 (fl 16 (mT (st K s m) f (4 * c)))) ∧ Whole wr g6 22 Z ∧ Whole wr gt 22 (arr .u8 (fl 16 (ss f))) ∧ Below N w wr ∧ gt < wr.heap.size) (fun s64 _ => 4 - (intOf s64).toNat)
              case atStart => exact ⟨0, by omega, rfl, HI.out⟩
              case round =>
                clear HI
                obtain ⟨c, hc, rfl, h0, h1, h3, hb, hsz⟩ := hrel
                by_cases hlt : c < 4
                · have bc : (c : Int) < 4 := by omega
                  have bc' : decide ((c : Int) < 4) = true := by simp only [decide_eq_true_eq]; omega
                  have HI := Lib.hid (And.intro h0 (And.intro h1 (And.intro h3 (And.intro hb hsz))))
                  clear h0 h1 h3 hb hsz
                  go_wp2
                  go_loopw [67] (fun s67 wr => ∃ r : Nat, r ≤ 4 ∧ s67 = .int .i64 r ∧ Whole wr N 22 (arr .u8 (fl 16 (mT (st K s m) f (4 * c + r)))) ∧ Whole wr g6 22 Z ∧ Whole wr gt 22 (arr .u8 (fl 16 (ss f))) ∧ Below N w wr ∧ gt < wr.heap.size) (fun s67 _ => 4 - (intOf s67).toNat)
                  case atStart => exact ⟨0, by omega, rfl, HI.out⟩
                  case round =>
                    clear HI
                    obtain ⟨r, hr, rfl, h0, h1, h3, hb, hsz⟩ := hrel
                    by_cases hrl : r < 4
                    · have br : (r : Int) < 4 := by omega
                      obtain ⟨c4, i1, X⟩ := idx_mk c r hlt hrl
                      obtain ⟨m4', j1, Y⟩ := kdx_mk m c r X hlt HM.out
                      obtain ⟨X0, X1, X2, X3, hi16, X4, X5⟩ := X
                      obtain ⟨Y0, Y1, Y2, Y3, Y4⟩ := Y
                      have c1 := h3.atf (i := i1) hi16
                      have c2 : wr.cell? ⟨gw, j1 * 4 + r, none⟩ = some (.int .u8 (nb (K (16 * m + i1)))) := by
                        rw [Y0]
                        exact (HS.out.2.1.below hb HS.out.2.2.2).atf Y4
                      have c3 := h0.atf (i := i1) hi16
                      have f3 := h0.frz i1
                      have hput := h0.putf i1 (st K s m i1)
                      rw [← X0, mT_up, X0] at hput
                      have hgg := HG.out
                      by_cases hten : m < 10
                      · have ht : (m : Int) < 10 := by omega
                        obtain ⟨r1, p1, i2, A⟩ := nxt_mk c r 1 ⟨X0, X1, X2, X3, hi16, X4, X5⟩ hlt hrl (by omega)
                        obtain ⟨r2, p2, i3, B⟩ := nxt_mk c r 2 ⟨X0, X1, X2, X3, hi16, X4, X5⟩ hlt hrl (by omega)
                        obtain ⟨r3, p3, i4, C⟩ := nxt_mk c r 3 ⟨X0, X1, X2, X3, hi16, X4, X5⟩ hlt hrl (by omega)
                        obtain ⟨A0, A1, A2, A3, A4, A5, A6, A7, A8⟩ := A
                        obtain ⟨B0, B1, B2, B3, B4, B5, B6, B7, B8⟩ := B
                        obtain ⟨C0, C1, C2, C3, C4, C5, C6, C7, C8⟩ := C
                        have A1 : (r : Int) + 1 = (r1 : Int) := A1
                        have B1 : (r : Int) + 2 = (r2 : Int) := B1
                        have C1 : (r : Int) + 3 = (r3 : Int) := C1
                        have d2 := h3.atf (i := i2) A8
                        have d3 := h3.atf (i := i3) B8
                        have d4 := h3.atf (i := i4) C8
                        have hmx : mx (ss f) i1 = m4 (ss f i1) (ss f i2) (ss f i3) (ss f i4) := by
                          have := mx_at (ss f) c r hrl
                          rw [X0, A0, B0, C0] at this
                          exact this
                        have hst : st K s m i1 = mx (ss f) i1 ^^^ K (16 * m + i1) := by
                          rw [HF.out.1]; unfold rd; rw [if_pos hten]
                        have hx := mx_int (ss f i1) (ss f i2) (ss f i3) (ss f i4)
                        rw [← hmx] at hx
                        have hy := bxor8 (mx (ss f) i1) (K (16 * m + i1))
                        rw [← hst] at hy
                        have ha := times_2l (ss f i1)
                        have hd := times_3l (ss f i2)
                        generalize nb (tw (ss f i1)) = y1 at *
                        generalize nb (tw (ss f i2) ^^^ ss f i2) = y2 at *
                        generalize nb (ss f i1) = x1 at *
                        generalize nb (ss f i2) = x2 at *
                        generalize nb (ss f i3) = x3 at *
                        generalize nb (ss f i4) = x4 at *
                        generalize nb (mx (ss f) i1) = xm at *
                        generalize nb (st K s m i1) = z at *
                        generalize nb (K (16 * m + i1)) = k1 at *
                        generalize nb (mT (st K s m) f (4 * c + r) i1) = u at *
                        have H := Lib.hid (And.intro hput (And.intro h1 (And.intro h3 (And.intro hb (And.intro hsz (And.intro (show i1 + 1 = 4 * c + (r + 1) by rw [← X0]; rfl) (And.intro hy (And.intro ha (And.intro hd hx)))))))))
                        clear h0 h1 h3 hput hb hsz hst hmx hx hy ha hd A0 B0 C0 X0 Y0 A8 B8 C8 Y4 hi16
                        go_upto_region 27 with fail
                        refine wp_region_still_tail 35 (by kernel_rfl) (by kernel_rfl) ?_
                        simp only [List.take_succ_cons, List.take_zero, List.drop_succ_cons, List.drop_zero]
                        repeat still_step
                        still_call (same_flip (H.out.2.2.2.2.2.2.2.1 _))
                        repeat still_step
                        still_call (same_flip (H.out.2.2.2.2.2.2.2.2.1 _))
                        repeat still_step
                        refine wpStill_nil ?_
                        change wpList _ _ _ _ _ wr.drew
                        clear A1 A2 A3 A4 A5 A6 A7 B1 B2 B3 B4 B5 B6 B7 C1 C2 C3 C4 C5 C6 C7 X4 X5 d2 d3 d4
                        have hx := H.out.2.2.2.2.2.2.2.2.2
                        have hy := H.out.2.2.2.2.2.2.1
                        go_wp2
                        clear hx hy
                        go_roundw
                        case rel =>
                          obtain ⟨q1, q2, q3, q4, q5, q6, q7⟩ := H.out
                          exact ⟨r + 1, by omega, by go_num, by rw [← q6]; exact q1.drew, Whole.far q2.drew (by simp; omega) _, Whole.far q3.drew (by simp; omega) _, Below.setCell q4.drew (by simp) _, by simpa [World.setCell] using q5⟩
                        case measure => simp [intOf]; omega
                      · have ht : ¬ (m : Int) < 10 := by omega
                        have hst : st K s m i1 = ss f i1 ^^^ K (16 * m + i1) := by
                          rw [HF.out.1]; unfold rd; rw [if_neg hten]
                        have hy := bxor8 (ss f i1) (K (16 * m + i1))
                        rw [← hst] at hy
                        generalize nb (ss f i1) = x1 at *
                        generalize nb (st K s m i1) = z at *
                        generalize nb (K (16 * m + i1)) = k1 at *
                        generalize nb (mT (st K s m) f (4 * c + r) i1) = u at *
                        have H := Lib.hid (And.intro hput (And.intro h1 (And.intro h3 (And.intro hb (And.intro hsz (show i1 + 1 = 4 * c + (r + 1) by rw [← X0]; rfl))))))
                        clear h0 h1 h3 hput hb hsz hst X0 Y0 Y4 hi16 X4 X5
                        go_wp2
                        clear hy
                        go_roundw
                        case rel =>
                          obtain ⟨q1, q2, q3, q4, q5, q6⟩ := H.out
                          exact ⟨r + 1, by omega, by go_num, by rw [← q6]; exact q1, Whole.far q2 (by simp; omega) _, Whole.far q3 (by simp; omega) _, Below.setCell q4 (by simp) _, by simpa [World.setCell] using q5⟩
                        case measure => simp [intOf]; omega
                    · obtain rfl : r = 4 := by omega
                      rw [show ((4 : Nat) : Int) = 4 from rfl]
                      have H := Lib.hid (And.intro h0 (And.intro h1 (And.intro h3 (And.intro hb hsz))))
                      clear h0 h1 h3 hb hsz
                      go_wp2
                      go_roundw
                      case rel =>
                        obtain ⟨q1, q2, q3, q4⟩ := H.out
                        exact ⟨c + 1, by omega, by go_num, q1, q2, q3, q4⟩
                      case measure => simp [intOf]; omega
                · obtain rfl : c = 4 := by omega
                  rw [show ((4 : Nat) : Int) = 4 from rfl]
                  rw [show 4 * 4 = 16 from rfl, mT_all] at h0
                  have hgg := HG.out
                  have H := Lib.hid (And.intro h0 (And.intro h1 (And.intro hb (show g6 < wr.heap.size by omega))))
                  clear h0 h1 h3 hb hsz hlt hc
                  go_wp2
                  go_roundw
                  case rel =>
                    obtain ⟨q1, q2, q3, q4⟩ := H.out
                    have := HF.out.2
                    exact ⟨n + 1, by omega, by rw [this]; go_num, by rw [this]; exact q1, q2, q3, q4⟩
                  case measure => have := HF.out.2; simp [intOf]; omega
        · obtain rfl : n = 10 := by omega
          rw [show ((10 + 1 : Nat) : Int) = 11 from rfl]
          have H := Lib.hid (And.intro h0 (And.intro h1 hb))
          have HZn : Hid (Z.size = 16) := Lib.hid (by rw [← HZ.out]; simp)
          clear h0 h1 hb
          go_wp2_with (first
            | (refine wpList_load_whole rfl 22 (.tmp 5) rfl rfl H.out.1 Try.underlying22 Try.info22 (by simp) ?_)
            | (refine wpList_store_whole rfl 22 (.tmp 6) (.tmp 132) rfl rfl rfl H.out.2.1 Try.info22 (by simp) HZn.out (arr_one _ _) ?_))
          refine bodyPost_ret (v := .agg (arr .u8 (fl 16 (st K s 10)))) (ret_whole (g := g6) rfl rfl (Whole.row H.out.2.1 _) Try.underlying22 Try.info22 (by simp)) rfl ⟨rfl, ?_⟩
          have := below_row H.out.2.2 (show N ≤ g6 by omega) (arr .u8 (fl 16 (st K s 10)))
          rw [HN.out]
          exact this
end Go.Proofs.Ytomnomopcpdpoaa
