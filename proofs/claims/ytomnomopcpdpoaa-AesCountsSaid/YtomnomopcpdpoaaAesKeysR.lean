/- The document's keys, walked. -/
import Derived.Test.YtomnomopcpdpoaaAesBox
import Derived.Deep.MidRow
namespace Go.Proofs.Ytomnomopcpdpoaa
open Go.RowKit
set_option linter.unusedVariables false

theorem Try.zero37 (w : World) : (zeroValue 37).run Try.prog w = .ok (.agg (arr .u8 (fl 176 zB))) w := by kernel_rfl
theorem Try.info37 : (Try.prog.info? 37).map (·.size) = some 176 := by kernel_rfl
theorem Try.info36 : (Try.prog.info? 36).map (·.size) = some 4 := by kernel_rfl

/-- What a function says of the first n places. -/
def kT (K : Nat → B) (n : Nat) (j : Nat) : B := if j < n then K j else 0#8
theorem kT_up (m : Nat) (K : Nat → B) (n : Nat) : fl m (up (kT K n) n (K n)) = fl m (kT K (n + 1)) := fl_congr fun i _ => by
  unfold up kT
  by_cases e : i = n
  · subst e; simp
  · rw [if_neg e]
    by_cases h2 : i < n
    · rw [if_pos h2, if_pos (by omega)]
    · rw [if_neg h2, if_neg (by omega)]
theorem kT_all (n : Nat) (K : Nat → B) : fl n (kT K n) = fl n K := fl_congr fun i hi => by unfold kT; rw [if_pos hi]
theorem kT_in (K : Nat → B) {n j : Nat} (h : j < n) : kT K n j = K j := by unfold kT; rw [if_pos h]
theorem kT_zero (m : Nat) (K : Nat → B) : fl m zB = fl m (kT K 0) := fl_congr fun i _ => by unfold kT zB; simp

theorem ks_first (key : Nat → B) {j : Nat} (h : j < 16) : ks key j = key j := by rw [ks, dif_pos h]
/-- What is xored into a row. -/
def kt (K : Nat → B) (n : Nat) (r : Nat) : B := if n % 4 = 0 then Sb (K (4 * (n - 1) + (r + 1) % 4)).toNat ^^^ (if r = 0 then rc ((n - 1) / 4) else 0#8) else K (4 * (n - 1) + r)
theorem ks_next (key : Nat → B) (n r : Nat) (hn : 4 ≤ n) (hr : r < 4) : ks key (4 * n + r) = ks key (4 * (n - 4) + r) ^^^ kt (ks key) n r := by
  rw [ks, dif_neg (by omega), show (4 * n + r) / 4 = n by omega, show (4 * n + r) % 4 = r by omega, show 4 * n + r - 16 = 4 * (n - 4) + r by omega, show 4 * n + r - 4 - r + (r + 1) % 4 = 4 * (n - 1) + (r + 1) % 4 by omega,
    show 4 * n + r - 4 = 4 * (n - 1) + r by omega]
  unfold kt
  by_cases h : n % 4 = 0
  · rw [if_pos h, if_pos h, show (4 * n + r) / 16 - 1 = (n - 1) / 4 by omega]
  · rw [if_neg h, if_neg h]

theorem times_2 (x : B) (w : World) : Calls Try.prog 28 #[.int .u8 (nb x), .int .u8 2] w fun e w' => e = .returned (.int .u8 (nb (tw x))) ∧ w = w' := by
  have h := times_any x 2#8 w
  rw [mul2r] at h
  exact h

set_option maxHeartbeats 3200000 in
set_option maxRecDepth 100000 in
theorem rkeys_any (key : Nat → B) (gs : Nat) (w : World) (hS : Whole w gs 34 (arr .u8 (fl 256 Sb))) :
    Calls Try.prog 15 #[.pointer (some ⟨gs, 0, none⟩), .agg (arr .u8 (fl 16 key))] w fun e w' => e = .returned (.agg (arr .u8 (fl 176 (ks key)))) ∧ Below w.heap.size w w' := by
  have hz := Try.zero37
  have hgs := hS.lt
  have HS := Lib.hid hS
  clear hS
  obtain ⟨K, hK⟩ : ∃ K, ks key = K := ⟨_, rfl⟩
  have HK := Lib.hid hK
  rw [hK]
  clear hK
  generalize hke : arr .u8 (fl 16 key) = ka at *
  have HKA := Lib.hid hke
  clear hke
  generalize hzl : arr .u8 (fl 176 zB) = Z at *
  have HZ := Lib.hid hzl
  clear hzl
  go_enter Try.func15, Try.ntmps15
  go_wp2
  have h0 : Whole (((w.alloc (Obj.cells ka 22)).alloc (Obj.cells Z 37)).alloc (Obj.cells Z 37)) w.heap.size 22 ka := ((Whole.new _ _ _).alloc _).alloc _
  have h1 : Whole (((w.alloc (Obj.cells ka 22)).alloc (Obj.cells Z 37)).alloc (Obj.cells Z 37)) (w.heap.size + 1) 37 Z := (Whole.new2 _ _ _ _).alloc _
  have h2 : Whole (((w.alloc (Obj.cells ka 22)).alloc (Obj.cells Z 37)).alloc (Obj.cells Z 37)) (w.heap.size + 1 + 1) 37 (arr .u8 (fl 176 (kT K 0))) := by
    have := Whole.new ((w.alloc (Obj.cells ka 22)).alloc (Obj.cells Z 37)) 37 Z
    rw [World.size_alloc, World.size_alloc] at this
    rw [← kT_zero, HZ.out]
    exact this
  have hb0 : Below w.heap.size w (((w.alloc (Obj.cells ka 22)).alloc (Obj.cells Z 37)).alloc (Obj.cells Z 37)) := (two_new _ _ _ _).alloc (by simp; omega) _
  obtain ⟨N, hN⟩ : ∃ N, w.heap.size = N := ⟨_, rfl⟩
  obtain ⟨g4, hg4⟩ : ∃ g, N + 1 = g := ⟨_, rfl⟩
  obtain ⟨g5, hg5⟩ : ∃ g, g4 + 1 = g := ⟨_, rfl⟩
  have HN := Lib.hid hN
  rw [hN] at h0 h1 h2 hb0 hgs ⊢
  rw [hg4] at h1 h2 ⊢
  rw [hg5] at h2 ⊢
  have l4 : N < g4 := by omega
  have l5 : g4 < g5 := by omega
  have hs0 : g5 < (((w.alloc (Obj.cells ka 22)).alloc (Obj.cells Z 37)).alloc (Obj.cells Z 37)).heap.size := by simp; omega
  have HI := Lib.hid (And.intro h0 (And.intro h1 (And.intro h2 (And.intro hb0 hs0))))
  clear h0 h1 h2 hb0 hN hg4 hg5 hs0
  go_loopw [6, 11] (fun s6 s11 wr => ∃ k : Nat, k ≤ 16 ∧ s11 = .int .i64 k ∧ Whole wr N 22 ka ∧ Whole wr g4 37 Z ∧ Whole wr g5 37 (arr .u8 (fl 176 (kT K k))) ∧ Below N w wr ∧ g5 < wr.heap.size) (fun _ s11 _ => 16 - (intOf s11).toNat)
  case atStart => exact ⟨0, by omega, rfl, HI.out⟩
  case round =>
    clear HI
    obtain ⟨k, hk, rfl, h0, h1, h2, hb, hsz⟩ := hrel
    by_cases hlt : k < 16
    · have hKk : K k = key k := by rw [← HK.out]; exact ks_first key hlt
      have c0 : wr.cell? ⟨N, k, none⟩ = some (.int .u8 (nb (K k))) := by
        rw [hKk]
        rw [← HKA.out] at h0
        exact h0.atf hlt
      obtain ⟨q, hq⟩ : ∃ q, k / 4 = q := ⟨_, rfl⟩
      obtain ⟨r, hr⟩ : ∃ r, k % 4 = r := ⟨_, rfl⟩
      have hqr : q * 4 + r = k := by omega
      have c1 := h2.atf (i := k) (by omega)
      have f1 := h2.frz k
      have hput := h2.putf k (K k)
      rw [kT_up] at hput
      generalize nb (kT K k k) = u at *
      generalize nb (K k) = z at *
      rw [← hqr] at c1 f1 hput
      have e1 : (k : Int) / 4 = (q : Int) := by omega
      have e2 : (k : Int) % 4 = (r : Int) := by omega
      have b1 : (q : Int) < 44 := by omega
      have b2 : (r : Int) < 4 := by omega
      have b3 : (k : Int) < 16 := by omega
      have s1 : IntKind.i64.wrap (q : Int) = (q : Int) := IntWalk.i64_in _ (by omega)
      have s2 : (k : Int).tmod 4 = (r : Int) := by rw [Int.tmod_eq_emod_of_nonneg (by omega)]; exact e2
      have H := Lib.hid (And.intro h0 (And.intro h1 (And.intro hput (And.intro hb (And.intro hqr hsz)))))
      clear h0 h1 h2 hput hb hqr hq hr hKk hsz
      go_upto_region 5 with fail
      refine wp_region_still_tail 9 (by kernel_rfl) (by kernel_rfl) ?_
      simp only [List.take_succ_cons, List.take_zero, List.drop_succ_cons, List.drop_zero]
      repeat still_step
      refine wpStill_nil ?_
      clear s1 s2
      change wpList _ _ _ _ _ wr.drew
      go_wp2
      go_roundw
      case rel =>
        obtain ⟨q1, q2, q3, q4, q5, q6⟩ := H.out
        exact ⟨k + 1, by omega, by go_num, Whole.far q1.drew (by simp; omega) _, Whole.far q2.drew (by simp; omega) _, by rw [← q5]; exact q3, Below.setCell q4.drew (by simp; omega) _, by simpa [World.setCell] using q6⟩
      case measure => simp [intOf]; omega
    · obtain rfl : k = 16 := by omega
      rw [show ((16 : Nat) : Int) = 16 from rfl]
      have H := Lib.hid (And.intro h0 (And.intro h1 (And.intro h2 (And.intro hb hsz))))
      clear h0 h1 h2 hb hsz
      go_wp2
      clear hk hlt
      obtain ⟨a1, a2, a3, a4, a5⟩ := H.out
      have HI := Lib.hid (And.intro a2 (And.intro a3 (And.intro a4 a5)))
      clear H a1 a2 a3 a4 a5
      go_loopw [7, 8] (fun s7 s8 wr => ∃ n : Nat, 4 ≤ n ∧ n ≤ 44 ∧ s8 = .int .i64 n ∧ s7 = .int .u8 (nb (rc ((n - 1) / 4))) ∧ Whole wr g4 37 Z ∧ Whole wr g5 37 (arr .u8 (fl 176 (kT K (4 * n)))) ∧ Below N w wr ∧ g5 < wr.heap.size) (fun _ s8 _ => 44 - (intOf s8).toNat)
      case atStart => exact ⟨4, by omega, by omega, rfl, rfl, HI.out⟩
      case round =>
        clear HI
        obtain ⟨n, hn4, hn, rfl, rfl, h1, h2, hb, hsz⟩ := hrel
        by_cases hlt : n < 44
        · have hp : ∀ r, r < 4 → wr.cell? ⟨g5, (n - 1) * 4 + r, none⟩ = some (.int .u8 (nb (K (4 * (n - 1) + r)))) := by
            intro r hr
            have := h2.atf (i := (n - 1) * 4 + r) (by omega)
            rw [kT_in _ (by omega), Nat.mul_comm] at this
            rw [Nat.mul_comm]
            exact this
          have p0 := hp 0 (by omega)
          have p1 := hp 1 (by omega)
          have p2 := hp 2 (by omega)
          have p3 := hp 3 (by omega)
          obtain ⟨m, hm⟩ : ∃ m, n - 1 = m := ⟨_, rfl⟩
          have e1 : (n : Int) - 1 = (m : Int) := by omega
          have b9 : decide ((n : Int) < 44) = true := by simp only [decide_eq_true_eq]; omega
          have b1 : (m : Int) < 44 := by omega
          rw [hm] at p0 p1 p2 p3
          rw [Nat.add_zero] at p0
          rw [Nat.add_zero] at p0
          have HM := Lib.hid hm
          have H := Lib.hid (And.intro h1 (And.intro h2 (And.intro hb hsz)))
          clear h1 h2 hb hsz hm hp
          go_upto_region 12 with fail
          have hk : ∀ r, r < 4 → kT K (4 * n) (4 * (n - 4) + r) = K (4 * (n - 4) + r) := fun r hr => kT_in _ (by omega)
          have hnext : ∀ r, r < 4 → K (4 * n + r) = K (4 * (n - 4) + r) ^^^ kt K n r := fun r hr => by rw [← HK.out]; exact ks_next key n r hn4 hr
          have HX := Lib.hid (And.intro hk hnext)
          clear hk hnext p0 p1 p2 p3
          have a1 := H.out.1.alloc (Obj.cells #[Value.int .u8 (nb (K (4 * m))), Value.int .u8 (nb (K (4 * m + 1))), Value.int .u8 (nb (K (4 * m + 2))), Value.int .u8 (nb (K (4 * m + 3)))] 36)
          have a2 := H.out.2.1.alloc (Obj.cells #[Value.int .u8 (nb (K (4 * m))), Value.int .u8 (nb (K (4 * m + 1))), Value.int .u8 (nb (K (4 * m + 2))), Value.int .u8 (nb (K (4 * m + 3)))] 36)
          have a3 := H.out.2.2.1.alloc (by have := H.out.2.2.2; omega) (Obj.cells #[Value.int .u8 (nb (K (4 * m))), Value.int .u8 (nb (K (4 * m + 1))), Value.int .u8 (nb (K (4 * m + 2))), Value.int .u8 (nb (K (4 * m + 3)))] 36)
          have a4 := Whole.new wr 36 #[Value.int .u8 (nb (K (4 * m))), Value.int .u8 (nb (K (4 * m + 1))), Value.int .u8 (nb (K (4 * m + 2))), Value.int .u8 (nb (K (4 * m + 3)))]
          have a5 : Whole (wr.alloc (Obj.cells #[Value.int .u8 (nb (K (4 * m))), Value.int .u8 (nb (K (4 * m + 1))), Value.int .u8 (nb (K (4 * m + 2))), Value.int .u8 (nb (K (4 * m + 3)))] 36)) gs 34 (arr .u8 (fl 256 Sb)) := by
            refine Whole.alloc (HS.out.below H.out.2.2.1 ?_) _
            have := HN.out
            omega
          have a6 : wr.heap.size + 1 = (wr.alloc (Obj.cells #[Value.int .u8 (nb (K (4 * m))), Value.int .u8 (nb (K (4 * m + 1))), Value.int .u8 (nb (K (4 * m + 2))), Value.int .u8 (nb (K (4 * m + 3)))] 36)).heap.size := by simp
          have a7 := H.out.2.2.2
          generalize (wr.alloc (Obj.cells #[Value.int .u8 (nb (K (4 * m))), Value.int .u8 (nb (K (4 * m + 1))), Value.int .u8 (nb (K (4 * m + 2))), Value.int .u8 (nb (K (4 * m + 3)))] 36)) = W1 at *
          clear H
          generalize wr.heap.size = gt at *
          have e4 : 4 * m = 4 * (n - 1) := by have := HM.out; omega
          by_cases h4 : n % 4 = 0
          · have e0 : (n : Int) % 4 = 0 := by omega
            have e0' : (n : Int).tmod 4 = 0 := by rw [Int.tmod_eq_emod_of_nonneg (by omega)]; exact e0
            have hx := bxor8 (Sb (K (4 * m + 1)).toNat) (rc ((n - 1) / 4))
            have hT : arr .u8 (fl 4 (kt K n)) = #[Value.int .u8 (nb (Sb (K (4 * m + 1)).toNat ^^^ rc ((n - 1) / 4))), Value.int .u8 (nb (Sb (K (4 * m + 2)).toNat)), Value.int .u8 (nb (Sb (K (4 * m + 3)).toNat)), Value.int .u8 (nb (Sb (K (4 * m)).toNat))] := by
              have k0 : kt K n 0 = Sb (K (4 * m + 1)).toNat ^^^ rc ((n - 1) / 4) := by unfold kt; rw [if_pos h4, if_pos rfl, e4]
              have k1 : kt K n 1 = Sb (K (4 * m + 2)).toNat := by unfold kt; rw [if_pos h4, if_neg (by omega), BitVec.xor_zero, e4]
              have k2 : kt K n 2 = Sb (K (4 * m + 3)).toNat := by unfold kt; rw [if_pos h4, if_neg (by omega), BitVec.xor_zero, e4]
              have k3 : kt K n 3 = Sb (K (4 * m)).toNat := by unfold kt; rw [if_pos h4, if_neg (by omega), BitVec.xor_zero, e4]; rfl
              show (#[Value.int .u8 (nb (kt K n 0)), Value.int .u8 (nb (kt K n 1)), Value.int .u8 (nb (kt K n 2)), Value.int .u8 (nb (kt K n 3))] : Array Value) = _
              rw [k0, k1, k2, k3]
            have ht2 := times_2 (rc ((n - 1) / 4))
            have hrc : tw (rc ((n - 1) / 4)) = rc ((n + 1 - 1) / 4) := by
              rw [show (n + 1 - 1) / 4 = (n - 1) / 4 + 1 by omega]; rfl
            rw [hrc] at ht2
            have z0 := a5.atf (i := (K (4 * m)).toNat) (K (4 * m)).isLt
            have z1 := a5.atf (i := (K (4 * m + 1)).toNat) (K (4 * m + 1)).isLt
            have z2 := a5.atf (i := (K (4 * m + 2)).toNat) (K (4 * m + 2)).isLt
            have z3 := a5.atf (i := (K (4 * m + 3)).toNat) (K (4 * m + 3)).isLt
            have q0b : (((K (4 * m)).toNat : Nat) : Int) < 256 := by have := (K (4 * m)).isLt; omega
            have q1b : (((K (4 * m + 1)).toNat : Nat) : Int) < 256 := by have := (K (4 * m + 1)).isLt; omega
            have q2b : (((K (4 * m + 2)).toNat : Nat) : Int) < 256 := by have := (K (4 * m + 2)).isLt; omega
            have q3b : (((K (4 * m + 3)).toNat : Nat) : Int) < 256 := by have := (K (4 * m + 3)).isLt; omega
            have t0 : W1.cell? ⟨gt, 0, none⟩ = some (.int .u8 ((K (4 * m)).toNat : Int)) := a4.cell 0
            have t1 : W1.cell? ⟨gt, 1, none⟩ = some (.int .u8 ((K (4 * m + 1)).toNat : Int)) := a4.cell 1
            have t2 : W1.cell? ⟨gt, 2, none⟩ = some (.int .u8 ((K (4 * m + 2)).toNat : Int)) := a4.cell 2
            have t3 : W1.cell? ⟨gt, 3, none⟩ = some (.int .u8 ((K (4 * m + 3)).toNat : Int)) := a4.cell 3
            have f0 := a4.frz 0
            have f1 := a4.frz 1
            have f2 := a4.frz 2
            have f3 := a4.frz 3
            generalize nb (Sb (K (4 * m + 1)).toNat ^^^ rc ((n - 1) / 4)) = y1 at *
            generalize nb (Sb (K (4 * m)).toNat) = y0 at *
            generalize nb (Sb (K (4 * m + 1)).toNat) = yy at *
            generalize nb (Sb (K (4 * m + 2)).toNat) = y2 at *
            generalize nb (Sb (K (4 * m + 3)).toNat) = y3 at *
            generalize (K (4 * m)).toNat = q0 at *
            generalize (K (4 * m + 1)).toNat = q1 at *
            generalize (K (4 * m + 2)).toNat = q2 at *
            generalize (K (4 * m + 3)).toNat = q3 at *
            generalize nb (rc ((n - 1) / 4)) = x at *
            have hput := ((((a4.set 0 (.int .u8 y1)).set 1 (.int .u8 y2)).set 2 (.int .u8 y3)).set 3 (.int .u8 y0))
            have HT := Lib.hid hT
            have H := Lib.hid (And.intro a1 (And.intro a2 (And.intro a3 (And.intro a5 (And.intro a6 (And.intro a7 (And.intro ht2 (And.intro hput (And.intro hx hrc)))))))))
            clear a1 a2 a3 a4 a5 a6 a7 ht2 hput hx hrc hT e4
            go_upto_region 13 with fail
            refine wp_region_still_tail 27 (by kernel_rfl) (by kernel_rfl) ?_
            simp only [List.take_succ_cons, List.take_zero, List.drop_succ_cons, List.drop_zero]
            repeat still_step
            refine wpStill_nil ?_
            change wpList _ _ _ _ _ W1.drew
            go_wp2_with (go_at_call 28; (with_reducible refine (H.out.2.2.2.2.2.2.1 _).mono ?_); rintro e w' ⟨rfl, rfl⟩)
            obtain ⟨a1, a2, a3, a5, a6, a7, ht2, hput, hx, hrc⟩ := H.out
            have hl : gt ≠ g4 := by have := a7; omega
            have hl5 : g5 ≠ gt := by have := a7; omega
            have HL := Lib.hid (And.intro hl hl5)
            rw [hx]
            have o1 := ((((a1.far (p := ⟨gt, 0, none⟩) (fun h => hl h.symm) (.int .u8 y1)).far (p := ⟨gt, 1, none⟩) (fun h => hl h.symm) (.int .u8 y2)).far (p := ⟨gt, 2, none⟩) (fun h => hl h.symm) (.int .u8 y3)).far (p := ⟨gt, 3, none⟩) (fun h => hl h.symm) (.int .u8 y0)).drew
            have o2 := ((((a2.far (p := ⟨gt, 0, none⟩) hl5 (.int .u8 y1)).far (p := ⟨gt, 1, none⟩) hl5 (.int .u8 y2)).far (p := ⟨gt, 2, none⟩) hl5 (.int .u8 y3)).far (p := ⟨gt, 3, none⟩) hl5 (.int .u8 y0)).drew
            have o3 := hput.drew
            have o4 := ((((a3.setCell (p := ⟨gt, 0, none⟩) (show N ≤ gt by omega) (.int .u8 y1)).setCell (p := ⟨gt, 1, none⟩) (show N ≤ gt by omega) (.int .u8 y2)).setCell (p := ⟨gt, 2, none⟩) (show N ≤ gt by omega) (.int .u8 y3)).setCell (p := ⟨gt, 3, none⟩) (show N ≤ gt by omega) (.int .u8 y0)).drew
            have o5 : g5 < (((((W1.setCell ⟨gt, 0, none⟩ (.int .u8 y1)).setCell ⟨gt, 1, none⟩ (.int .u8 y2)).setCell ⟨gt, 2, none⟩ (.int .u8 y3)).setCell ⟨gt, 3, none⟩ (.int .u8 y0)).drew).heap.size := by
              show g5 < (((((W1.setCell ⟨gt, 0, none⟩ (.int .u8 y1)).setCell ⟨gt, 1, none⟩ (.int .u8 y2)).setCell ⟨gt, 2, none⟩ (.int .u8 y3)).setCell ⟨gt, 3, none⟩ (.int .u8 y0))).heap.size
              simp only [World.setCell, Array.size_modify]
              omega
            have o3' : Whole (((((W1.setCell ⟨gt, 0, none⟩ (.int .u8 y1)).setCell ⟨gt, 1, none⟩ (.int .u8 y2)).setCell ⟨gt, 2, none⟩ (.int .u8 y3)).setCell ⟨gt, 3, none⟩ (.int .u8 y0)).drew) gt 36 (arr .u8 (fl 4 (kt K n))) := by
              rw [HT.out]
              exact o3
            clear o3 H HT a1 a2 a3 a5 hput hx ht2
            generalize (((((W1.setCell ⟨gt, 0, none⟩ (.int .u8 y1)).setCell ⟨gt, 1, none⟩ (.int .u8 y2)).setCell ⟨gt, 2, none⟩ (.int .u8 y3)).setCell ⟨gt, 3, none⟩ (.int .u8 y0)).drew) = W2 at *
            have HI := Lib.hid (And.intro o1 (And.intro o2 (And.intro o3' (And.intro o4 o5))))
            have HG := Lib.hid a7
            clear o1 o2 o3' o4 o5 a6 a7 hl hl5 t0 t1 t2 t3 f0 f1 f2 f3 z0 z1 z2 z3 q0b q1b q2b q3b e0 e0'
            go_loopw [64] (fun s64 wr => ∃ j : Nat, j ≤ 4 ∧ s64 = .int .i64 j ∧ Whole wr g4 37 Z ∧ Whole wr g5 37 (arr .u8 (fl 176 (kT K (4 * n + j)))) ∧ Whole wr gt 36 (arr .u8 (fl 4 (kt K n))) ∧ Below N w wr ∧ g5 < wr.heap.size) (fun s64 _ => 4 - (intOf s64).toNat)
            case atStart => exact ⟨0, by omega, rfl, HI.out⟩
            case round =>
              clear HI
              obtain ⟨j, hj, rfl, h1, h2, h3, hb, hsz⟩ := hrel
              by_cases hjl : j < 4
              · have c1 := h2.atf (i := 4 * (n - 4) + j) (by omega)
                rw [kT_in K (show 4 * (n - 4) + j < 4 * n + j by omega)] at c1
                have c2 := h3.atf (i := j) hjl
                have c3 := h2.atf (i := 4 * n + j) (by omega)
                have f3 := h2.frz (4 * n + j)
                have hx := bxor8 (K (4 * (n - 4) + j)) (kt K n j)
                rw [← HX.out.2 j hjl] at hx
                have hput := h2.putf (4 * n + j) (K (4 * n + j))
                rw [kT_up] at hput
                generalize nb (kT K (4 * n + j) (4 * n + j)) = u at *
                generalize nb (K (4 * n + j)) = z at *
                generalize nb (K (4 * (n - 4) + j)) = y1 at *
                generalize nb (kt K n j) = y2 at *
                obtain ⟨m4, hm4⟩ : ∃ m4, n - 4 = m4 := ⟨_, rfl⟩
                rw [hm4] at c1
                rw [Nat.mul_comm] at c1
                rw [Nat.mul_comm 4 n] at c3 f3 hput
                have e5 : IntKind.i64.wrap ((n : Int) - 4) = (m4 : Int) := by rw [IntWalk.i64_in _ (by omega)]; omega
                have b5 : (m4 : Int) < 44 := by omega
                have b6 : (n : Int) < 44 := by omega
                have b7 : (j : Int) < 4 := by omega
                have hgg := HG.out
                have H := Lib.hid (And.intro h1 (And.intro hput (And.intro h3 (And.intro hb (And.intro hsz (And.intro hx hm4))))))
                clear h1 h2 h3 hput hb hsz hx hm4
                go_upto_region 18 with fail
                refine wp_region_still_tail 14 (by kernel_rfl) (by kernel_rfl) ?_
                simp only [List.take_succ_cons, List.take_zero, List.drop_succ_cons, List.drop_zero]
                repeat still_step
                refine wpStill_nil ?_
                clear e5
                change wpList _ _ _ _ _ wr.drew
                go_wp2
                go_roundw
                case rel =>
                  obtain ⟨q1, q2, q3, q4, q5, q6, q7⟩ := H.out
                  rw [q6]
                  exact ⟨j + 1, by omega, by go_num, Whole.far q1.drew (by simp; omega) _, by rw [← Nat.add_assoc, Nat.mul_comm 4 n]; exact q2, Whole.far q3.drew (by simp; omega) _, Below.setCell q4.drew (by simp; omega) _, by simpa [World.setCell] using q5⟩
                case measure => simp [intOf]; omega
              · obtain rfl : j = 4 := by omega
                rw [show ((4 : Nat) : Int) = 4 from rfl]
                have H := Lib.hid (And.intro h1 (And.intro h2 (And.intro hb hsz)))
                clear h1 h2 h3 hb hsz
                go_wp2
                go_roundw
                case rel =>
                  obtain ⟨q1, q2, q3, q4⟩ := H.out
                  exact ⟨n + 1, by omega, by omega, by go_num, rfl, q1, by rw [show 4 * (n + 1) = 4 * n + 4 by omega]; exact q2, q3, q4⟩
                case measure => simp [intOf]; omega
          · have e0 : ¬ (n : Int) % 4 = 0 := by omega
            have e0' : ((n : Int) % 4 == 0) = false := by simpa using e0
            have hT : arr .u8 (fl 4 (kt K n)) = #[Value.int .u8 (nb (K (4 * m))), Value.int .u8 (nb (K (4 * m + 1))), Value.int .u8 (nb (K (4 * m + 2))), Value.int .u8 (nb (K (4 * m + 3)))] := by
              have k0 : kt K n 0 = K (4 * m) := by unfold kt; rw [if_neg h4, e4]; rfl
              have k1 : kt K n 1 = K (4 * m + 1) := by unfold kt; rw [if_neg h4, e4]
              have k2 : kt K n 2 = K (4 * m + 2) := by unfold kt; rw [if_neg h4, e4]
              have k3 : kt K n 3 = K (4 * m + 3) := by unfold kt; rw [if_neg h4, e4]
              show (#[Value.int .u8 (nb (kt K n 0)), Value.int .u8 (nb (kt K n 1)), Value.int .u8 (nb (kt K n 2)), Value.int .u8 (nb (kt K n 3))] : Array Value) = _
              rw [k0, k1, k2, k3]
            rw [← hT] at a4
            have hrc : Value.int .u8 (nb (rc ((n - 1) / 4))) = .int .u8 (nb (rc ((n + 1 - 1) / 4))) := by
              rw [show (n + 1 - 1) / 4 = (n - 1) / 4 by omega]
            have RC := Lib.hid hrc
            have hl : gt ≠ g4 := by have := a7; omega
            have hl5 : g5 ≠ gt := by have := a7; omega
            have HL := Lib.hid (And.intro hl hl5)
            have HI := Lib.hid (And.intro a1 (And.intro a2 (And.intro a4 (And.intro a3 (show g5 < W1.heap.size by omega)))))
            have HG := Lib.hid a7
            clear a1 a2 a3 a4 a5 a6 a7 hT hrc hl hl5 e4
            go_wp2
            clear e0 e0'
            go_loopw [64] (fun s64 wr => ∃ j : Nat, j ≤ 4 ∧ s64 = .int .i64 j ∧ Whole wr g4 37 Z ∧ Whole wr g5 37 (arr .u8 (fl 176 (kT K (4 * n + j)))) ∧ Whole wr gt 36 (arr .u8 (fl 4 (kt K n))) ∧ Below N w wr ∧ g5 < wr.heap.size) (fun s64 _ => 4 - (intOf s64).toNat)
            case atStart => exact ⟨0, by omega, rfl, HI.out⟩
            case round =>
              clear HI
              obtain ⟨j, hj, rfl, h1, h2, h3, hb, hsz⟩ := hrel
              by_cases hjl : j < 4
              · have c1 := h2.atf (i := 4 * (n - 4) + j) (by omega)
                rw [kT_in K (show 4 * (n - 4) + j < 4 * n + j by omega)] at c1
                have c2 := h3.atf (i := j) hjl
                have c3 := h2.atf (i := 4 * n + j) (by omega)
                have f3 := h2.frz (4 * n + j)
                have hx := bxor8 (K (4 * (n - 4) + j)) (kt K n j)
                rw [← HX.out.2 j hjl] at hx
                have hput := h2.putf (4 * n + j) (K (4 * n + j))
                rw [kT_up] at hput
                generalize nb (kT K (4 * n + j) (4 * n + j)) = u at *
                generalize nb (K (4 * n + j)) = z at *
                generalize nb (K (4 * (n - 4) + j)) = y1 at *
                generalize nb (kt K n j) = y2 at *
                obtain ⟨m4, hm4⟩ : ∃ m4, n - 4 = m4 := ⟨_, rfl⟩
                rw [hm4] at c1
                rw [Nat.mul_comm] at c1
                rw [Nat.mul_comm 4 n] at c3 f3 hput
                have e5 : IntKind.i64.wrap ((n : Int) - 4) = (m4 : Int) := by rw [IntWalk.i64_in _ (by omega)]; omega
                have b5 : (m4 : Int) < 44 := by omega
                have b6 : (n : Int) < 44 := by omega
                have b7 : (j : Int) < 4 := by omega
                have hgg := HG.out
                have H := Lib.hid (And.intro h1 (And.intro hput (And.intro h3 (And.intro hb (And.intro hsz (And.intro hx hm4))))))
                clear h1 h2 h3 hput hb hsz hx hm4
                go_upto_region 18 with fail
                refine wp_region_still_tail 14 (by kernel_rfl) (by kernel_rfl) ?_
                simp only [List.take_succ_cons, List.take_zero, List.drop_succ_cons, List.drop_zero]
                repeat still_step
                refine wpStill_nil ?_
                clear e5
                change wpList _ _ _ _ _ wr.drew
                go_wp2
                go_roundw
                case rel =>
                  obtain ⟨q1, q2, q3, q4, q5, q6, q7⟩ := H.out
                  rw [q6]
                  exact ⟨j + 1, by omega, by go_num, Whole.far q1.drew (by simp; omega) _, by rw [← Nat.add_assoc, Nat.mul_comm 4 n]; exact q2, Whole.far q3.drew (by simp; omega) _, Below.setCell q4.drew (by simp; omega) _, by simpa [World.setCell] using q5⟩
                case measure => simp [intOf]; omega
              · obtain rfl : j = 4 := by omega
                rw [show ((4 : Nat) : Int) = 4 from rfl]
                have H := Lib.hid (And.intro h1 (And.intro h2 (And.intro hb hsz)))
                clear h1 h2 h3 hb hsz
                go_wp2
                go_roundw
                case rel =>
                  obtain ⟨q1, q2, q3, q4⟩ := H.out
                  exact ⟨n + 1, by omega, by omega, by go_num, RC.out, q1, by rw [show 4 * (n + 1) = 4 * n + 4 by omega]; exact q2, q3, q4⟩
                case measure => simp [intOf]; omega
        · obtain rfl : n = 44 := by omega
          rw [show ((44 : Nat) : Int) = 44 from rfl]
          rw [show 4 * 44 = 176 from rfl, kT_all] at h2
          have H := Lib.hid (And.intro h1 (And.intro h2 hb))
          have HZn : Hid (Z.size = 176) := Lib.hid (by rw [← HZ.out]; simp)
          clear h1 h2 hb
          go_wp2_with (first
            | (refine wpList_load_whole rfl 37 (.tmp 5) rfl rfl H.out.2.1 Try.underlying37 Try.info37 (by simp) ?_)
            | (refine wpList_store_whole rfl 37 (.tmp 4) (.tmp 82) rfl rfl rfl H.out.1 Try.info37 (by simp) HZn.out (arr_one _ _) ?_))
          refine bodyPost_ret (v := .agg (arr .u8 (fl 176 K))) (ret_whole (g := g4) rfl rfl (Whole.row H.out.1 _) Try.underlying37 Try.info37 (by simp)) rfl ⟨rfl, ?_⟩
          have := below_row H.out.2.2 (show N ≤ g4 by omega) (arr .u8 (fl 176 K))
          rw [HN.out]
          exact this
end Go.Proofs.Ytomnomopcpdpoaa
