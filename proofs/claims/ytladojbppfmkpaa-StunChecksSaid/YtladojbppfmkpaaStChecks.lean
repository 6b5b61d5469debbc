/- The law StunChecks. -/
import Derived.Test.YtladojbppfmkpaaStJudged
import Derived.Test.YtladojbppfmkpaaStFind
namespace Go.Proofs.Ytladojbppfmkpaa
open Go.RowKit
set_option linter.unusedVariables false
set_option linter.unusedSimpArgs false

/-- A byte of a row of the call's own is another. -/
theorem Own8.byte {w : World} {base g n cap : Nat} {xs : List Int} (h : Own8 w base (.slice (some ⟨g, 0, none⟩) n cap) xs) {i : Nat} (hi : i < n) (y : Int) : Own8 (w.setCell ⟨g, i, none⟩ (.int .u8 y)) base (.slice (some ⟨g, 0, none⟩) n cap) (splice xs i [y]) ∧ Only (fun j => j = g) w (w.setCell ⟨g, i, none⟩ (.int .u8 y)) ∧ w.cell? ⟨g, i, none⟩ = some (.int .u8 (xs.getD i 0)) ∧ w.frozen? ⟨g, i, none⟩ = false := by
  obtain ⟨hn, hgb, cur, hw, hnc, hcm, hcl, hback⟩ := own8_block h
  have hset := hw.set i (.int .u8 y)
  have e : (cur.toArray.setIfInBounds i (.int .u8 y)) = (splice cur i ([y].map (Value.int .u8))).toArray := by
    simp only [List.setIfInBounds_toArray, splice, List.map_cons, List.map_nil, List.length_cons, List.length_nil]
    congr 1
    rw [List.set_eq_take_append_cons_drop, if_pos (by omega)]
    simp
  rw [e] at hset
  obtain ⟨g', c', e2, _, _, h1, h2⟩ := h.at_ (i := i) (by omega)
  cases e2
  exact ⟨hback _ i [y] (by simp; omega) hset, (Only.refl (fun j => j = g) w).setCell (p := ⟨g, i, none⟩) (.inl rfl) _, h1, h2⟩

theorem u64_mod (x : Int) (l : Nat) (hl : 0 < l) : ∃ i : Nat, i < l ∧ (IntKind.u64.wrap x).tmod (l : Int) = (i : Int) := by
  have h0 : 0 ≤ IntKind.u64.wrap x := by rw [IntKind.wrap_u64]; omega
  obtain ⟨a, ha⟩ := Int.eq_ofNat_of_zero_le h0
  rw [ha]
  exact ⟨a % l, Nat.mod_lt _ hl, rfl⟩

set_option maxHeartbeats 3200000 in
set_option maxRecDepth 100000 in
theorem checks_walk (M : Array Value) (m : Msg) (A : Option Addr) (c : Nat) (vk : Value) (ks : List Int) (vo : Value) (os : List Int) (vb : Value) (bs : List Int) (at_ by_ : Int) (w : World) (h : InMsg w M m A c) (hk : V8 w w.heap.size vk ks) (hkx : In256 ks) (hkl : ks.length ≤ 140737488351232)
    (ho : V8 w w.heap.size vo os) (hox : In256 os) (hol : os.length ≤ 140737488351232) (hb : V8 w w.heap.size vb bs) (hbx : In256 bs) (hbl : bs.length ≤ 140737488351232) (wa : (Lit.int .i64 at_).wf = true) (wb : (Lit.int .u8 by_).wf = true) :
    Calls Try.prog 6 #[.agg M, vk, vo, vb, .int .i64 at_, .int .u8 by_] w fun e w' => e = .returned (.bool true) ∧ Below w.heap.size w w' := by
  have HM := Lib.hid h
  have HSZ := Lib.hid (And.intro h.msg.size h.msg.one)
  have HV := Lib.hid (And.intro hk (And.intro ho hb))
  have HX := Lib.hid (And.intro hkx (And.intro hox hbx))
  have HL := Lib.hid (And.intro hkl (And.intro hol hbl))
  have HW := Lib.hid (And.intro wa wb)
  have hk0 : Bk w w.heap.size M (w.alloc (.cells M 25)) := ⟨Whole.new w 25 M, (Below.refl _ w).alloc (Nat.le_refl _) _, rfl⟩
  have HK0 := Lib.hid hk0
  have HAW : Hid (∀ W, Calls Try.prog 9 #[] W fun e w' => e = .returned (.bool true) ∧ Below W.heap.size W w') := Lib.hid awake_yes
  have HJ : Hid (∀ W v k ys qs, V8 W W.heap.size v ys → In256 ys → ys.length ≤ 140737488351232 → V8 W W.heap.size k qs → In256 qs → qs.length ≤ 140737488351232 → Calls Try.prog 20 #[v, k] W fun e w' => e = .returned (.bool true) ∧ Below W.heap.size W w') := Lib.hid fun W v k ys qs h1 h2 h3 h4 h5 h6 => judged_any v k ys qs W h1 h2 h3 h4 h5 h6
  clear h hk ho hb hkx hox hbx hkl hol hbl wa wb hk0
  obtain ⟨N, hN⟩ : ∃ N, w.heap.size = N := ⟨_, rfl⟩
  have HN := Lib.hid hN
  rw [hN] at HK0
  go_enter Try.func6, Try.ntmps6
  go_upto_region 1 with fail
  generalize w.alloc (.cells M 25) = W0 at *
  clear hN
  go_upto_region 3 with (go_at_call 9; (with_reducible refine (HAW.out _).mono ?_); rintro e w1 ⟨rfl, hb1⟩)
  have HK1 := Lib.hid (HK0.out.under hb1)
  clear hb1
  have HSN := Lib.hid (rsign_any M m A c vk ks w1 (HK1.out.msg HM.out) HM.out.fine HM.out.most (HK1.out.v8 HV.out.1) HX.out.1 HL.out.1)
  go_upto_region 4 with (first
    | (refine wpList_load_all rfl 25 (.tmp 6) rfl HK1.out.box rfl Try.sizeRMsg HSZ.out.1 Try.underlying25 rfl ?_)
    | (go_at_call 17; (with_reducible refine HSN.out.mono ?_); rintro e w4 ⟨v4, x4, rfl, hs4, hb4⟩))
  have HK4 := Lib.hid (HK1.out.under hb4)
  have HS1 := Lib.hid hb4.size
  clear hb4
  rcases hs4 with ⟨hcs, rfl, ho4⟩ | ⟨hcs, rfl, rfl⟩
  · have hsl : 0 < (signB m ks).length := by rw [signB_is]; simp only [preC, List.length_append, be2_length]; omega
    have hsm : (signB m ks).length ≤ 1500 := by have h1 := msgBytes_length (signed m ks) HM.out.fine.id12; have h2 := (hcs.ok (key := ks)).size; unfold signB; omega
    have hsx : In256 (signB m ks) := in256_msg (signed_fine HM.out.fine)
    obtain ⟨ys, hys⟩ : ∃ ys, signB m ks = ys := ⟨_, rfl⟩
    rw [hys] at ho4 hsl hsm hsx
    obtain ⟨l, hll⟩ : ∃ l, ys.length = l := ⟨_, rfl⟩
    have hne : v4 ≠ .slice none 0 0 := fun e => by
      obtain ⟨A', c', e2, _⟩ := ho4.form
      rw [e] at e2
      simp only [Value.slice.injEq] at e2
      omega
    obtain ⟨g, cap, cur, rfl, hgb, -, hlc, hcm, -, -⟩ := own_form ho4 hne
    rw [hll] at ho4 hsl hsm hlc ⊢
    have HY := Lib.hid (And.intro ho4 (And.intro hsx (And.intro hll hgb)))
    clear hcs hys ho4 hsx hll hne hgb hcm hlc
    have hl0 : (0 : Int) < (l : Int) := by omega
    obtain ⟨i, hi, hit⟩ := u64_mod at_ l hsl
    have hoa := HY.out.1
    obtain ⟨hob, hoo, hcell, hfz⟩ := hoa.byte hi ((ys.getD i 0 + by_) % 256)
    have hin := HY.out.2.1 i
    obtain ⟨x, hx⟩ : ∃ x, ys.getD i 0 = x := ⟨_, rfl⟩
    rw [hx] at hcell hob hoo hin
    obtain ⟨x0, x1⟩ := hin
    have hyi : In256 (splice ys i [(x + by_) % 256]) := HY.out.2.1.splice (In256.of_all (by simp; omega))
    have hyl : (splice ys i [(x + by_) % 256]).length = l := by rw [length_splice _ _ _ (by have := HY.out.2.2.1; simp; omega)]; exact HY.out.2.2.1
    have HI := Lib.hid (And.intro hob (And.intro hoo (And.intro hyi (And.intro hyl hsm))))
    have hi0 : (0 : Int) ≤ (i : Int) := by omega
    have hi1 : (i : Int) < (l : Int) := by omega
    have hbw := HW.out.2
    simp [Lit.wf, IntKind.min, IntKind.max, IntKind.signed, IntKind.bits] at hbw
    obtain ⟨b0, b1⟩ := hbw
    clear hoa hob hoo hx hyi hyl hsl
    go_upto_region 6 with fail
    clear hit hcell hfz hl0 hi0 hi1
    have hk6 : Bk w N M (w4.setCell ⟨g, i, none⟩ (.int .u8 ((x + by_) % 256))) := by
      have hgN : N ≠ g := by have h1 := HY.out.2.2.2; have h2 := HK1.out.box.lt; omega
      have hlt := HK4.out.box.lt
      have hle : N ≤ w4.heap.size := Nat.le_of_lt hlt
      exact ⟨HK4.out.box.only HI.out.2.1 hgN, HK4.out.below.trans (HI.out.2.1.below (fun k hk => by have h1 := HY.out.2.2.2; have h2 := HK1.out.box.lt; omega) hle), HK4.out.wN⟩
    have HT := Lib.hid (And.intro HI.out.1.v8 (And.intro HI.out.2.2.1 (And.intro (show (splice ys i [(x + by_) % 256]).length ≤ 140737488351232 by rw [HI.out.2.2.2.1]; have := HI.out.2.2.2.2; omega) hk6)))
    clear hk6 hsm
    generalize w4.setCell ⟨g, i, none⟩ (.int .u8 ((x + by_) % 256)) = W6 at *
    have HJ1 := Lib.hid (HJ.out W6 (.slice (some ⟨g, 0, none⟩) l cap) vk (splice ys i [(x + by_) % 256]) ks HT.out.1 HT.out.2.1 HT.out.2.2.1 (HT.out.2.2.2.v8 HV.out.1) HX.out.1 HL.out.1)
    go_wp2_with (first
      | (go_at_call 20; (with_reducible refine HJ1.out.mono ?_); rintro e w7 ⟨rfl, hb7⟩; have hk7 := HT.out.2.2.2.under hb7; have HK7 := Lib.hid hk7; have HJ2 := Lib.hid (HJ.out w7 (.slice (some ⟨g, 0, none⟩) l cap) vo (splice ys i [(x + by_) % 256]) os ((HT.out.1.below hb7).more hb7.size) HT.out.2.1 HT.out.2.2.1 (hk7.v8 HV.out.2.1) HX.out.2.1 HL.out.2.1); clear hb7 hk7)
      | (go_at_call 20; (with_reducible refine HJ2.out.mono ?_); rintro e w8 ⟨rfl, hb8⟩; have hk8 := HK7.out.under hb8; have HK8 := Lib.hid hk8; have HJ3 := Lib.hid (HJ.out w8 vb vk bs ks (hk8.v8 HV.out.2.2) HX.out.2.2 HL.out.2.2 (hk8.v8 HV.out.1) HX.out.1 HL.out.1); clear hb8 hk8)
      | (go_at_call 20; (with_reducible refine HJ3.out.mono ?_); rintro e w9 ⟨rfl, hb9⟩; have HK9 := Lib.hid (HK8.out.under hb9); clear hb9))
    go_ret
    exact ⟨rfl, by rw [HN.out]; exact HK9.out.below⟩
  · have HT := Lib.hid (And.intro (show V8 w4 w4.heap.size (.slice none 0 0) [] from ⟨none, 0, rfl, Nat.le_refl _, Nat.zero_le _, fun _ => rfl, rfl, fun hn => by simp at hn⟩) (And.intro In256.nil (And.intro (show ([] : List Int).length ≤ 140737488351232 by simp) HK4.out)))
    clear hcs
    obtain ⟨W6, hW6⟩ : ∃ W, w4 = W := ⟨_, rfl⟩
    subst hW6
    have HJ1 := Lib.hid (HJ.out w4 (.slice none 0 0) vk [] ks HT.out.1 HT.out.2.1 HT.out.2.2.1 (HT.out.2.2.2.v8 HV.out.1) HX.out.1 HL.out.1)
    go_wp2_with (first
      | (go_at_call 20; (with_reducible refine HJ1.out.mono ?_); rintro e w7 ⟨rfl, hb7⟩; have hk7 := HT.out.2.2.2.under hb7; have HK7 := Lib.hid hk7; have HJ2 := Lib.hid (HJ.out w7 (.slice none 0 0) vo [] os ((HT.out.1.below hb7).more hb7.size) HT.out.2.1 HT.out.2.2.1 (hk7.v8 HV.out.2.1) HX.out.2.1 HL.out.2.1); clear hb7 hk7)
      | (go_at_call 20; (with_reducible refine HJ2.out.mono ?_); rintro e w8 ⟨rfl, hb8⟩; have hk8 := HK7.out.under hb8; have HK8 := Lib.hid hk8; have HJ3 := Lib.hid (HJ.out w8 vb vk bs ks (hk8.v8 HV.out.2.2) HX.out.2.2 HL.out.2.2 (hk8.v8 HV.out.1) HX.out.1 HL.out.1); clear hb8 hk8)
      | (go_at_call 20; (with_reducible refine HJ3.out.mono ?_); rintro e w9 ⟨rfl, hb9⟩; have HK9 := Lib.hid (HK8.out.under hb9); clear hb9))
    go_ret
    exact ⟨rfl, by rw [HN.out]; exact HK9.out.below⟩
end Go.Proofs.Ytladojbppfmkpaa
