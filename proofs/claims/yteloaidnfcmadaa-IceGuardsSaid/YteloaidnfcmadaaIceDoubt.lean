/- doubt: why a request may not be from the peer. -/
import Derived.Test.YteloaidnfcmadaaIceFault
import Derived.Test.YteloaidnfcmadaaStCheck
namespace Go.Proofs.Yteloaidnfcmadaa
open Go.RowKit
set_option linter.unusedVariables false

def colon : ByteArray := { data := #[58] }
/-- The message m, whose bytes are known, may be from the peer. -/
def NoDoubt (s : Ag) (m : Msg) : Prop := (∃ u, findP m.at_ 6 = some u ∧ hasP (strOfNums u) (s.nm ++ colon) = true) ∧ (findP m.at_ 8).isSome = true ∧ SignedBy m (nums s.pw)
theorem colon_size (a : ByteArray) : (a ++ colon).size = a.size + 1 := by rw [ByteArray.size_append]; rfl
theorem find_len {L : List At} {k : Int} {u : List Int} (hv : ∀ a ∈ L, a.val.length ≤ 512) (h : findP L k = some u) : u.length ≤ 512 := by
  unfold findP at h
  obtain ⟨a, ha, rfl⟩ := Option.map_eq_some_iff.1 h
  exact hv a (List.mem_of_find?_eq_some ha)

theorem zM_one : zM.all (·.oneCell') = true := mv_one rfl
theorem check_size {w' : World} {xs ks : List Int} {M : Array Value} {x : Int} (h : CheckV w' xs ks M x) : M.size = 15 ∧ M.all (·.oneCell') = true := by
  rcases h with ⟨m, A, c, -, -, -, hm⟩ | ⟨-, -, rfl⟩ | ⟨-, -, rfl⟩
  · exact ⟨hm.size, hm.one⟩
  · exact ⟨zM_size, zM_one⟩
  · exact ⟨zM_size, zM_one⟩
theorem check_iff {w' : World} {xs ks : List Int} {M : Array Value} {x : Int} {m : Msg} (hi : Is xs m) (h : CheckV w' xs ks M x) : (x = 0 ∧ SignedBy m ks) ∨ (x = 4 ∧ ¬ SignedBy m ks) := by
  rcases h with ⟨m', A, c, h1, h2, h3, hm⟩ | ⟨h1, -, -⟩ | ⟨⟨m', h1, h2⟩, h3, -⟩
  · exact .inl ⟨h3, by rw [hi.same h1]; exact h2⟩
  · exact (h1 m hi).elim
  · exact .inr ⟨h3, by rw [hi.same h1]; exact h2⟩

set_option maxHeartbeats 3200000 in
set_option maxRecDepth 100000 in
theorem doubt_any (base ga : Nat) (va : Value) (s : Ag) (M : Array Value) (m : Msg) (A : Option Addr) (c : Nat) (vb : Value) (xs : List Int) (w : World) (ha : AgV w base ga va s) (h : MsgV w w.heap.size M m A c) (hi : Is xs m)
    (hb : V8 w w.heap.size vb xs) (hx : In256 xs) (hl : xs.length ≤ 140737488355328) :
    Calls Try.prog 23 #[.pointer (some ⟨ga, 0, none⟩), .agg M, vb] w fun e w' => ∃ x : Int, e = .returned (.int .i64 x) ∧ 0 ≤ x ∧ x ≤ 500 ∧ (x = 0 ↔ NoDoubt s m) ∧ Below w.heap.size w w' := by
  obtain ⟨b1, b2, b3, b4⟩ := box_msg h
  have hv : ∀ a ∈ m.at_, a.val.length ≤ 512 := hi.1.vals
  have hv2 : ∀ a ∈ m.at_, a.val.length ≤ 140737488351232 := fun a ha => by have := hv a ha; omega
  have HX := Lib.hid (Boxed.mk b1 b2 b3 b4)
  have HAV : Hid (∀ W, Below w.heap.size w W → AgV W base ga va s) := Lib.hid fun W hW => ha.under hW
  have HBV : Hid (∀ W, Below w.heap.size w W → V8 W W.heap.size vb xs ∧ In256 xs ∧ xs.length ≤ 140737488355328) := Lib.hid fun W hW => ⟨(hb.below hW).more hW.size, hx, hl⟩
  have HHA : Hid (∀ kd W, MsgV W W.heap.size M m A c → Calls Try.prog 29 #[.agg M, .int .u16 kd] W fun e w' => e = .returned (.bool (findP m.at_ kd).isSome) ∧ Below W.heap.size W w') := Lib.hid fun kd W hm => has_any M m A c kd W hm hv2
  have HFI := Lib.hid (find_any M m A c 6 _ b3 hv2)
  have HNS := Lib.hid (And.intro ha.ns ha.ws)
  have HIS := Lib.hid (And.intro hi hv)
  have HBX := Lib.hid (show ∀ W, Below w.heap.size w W → Whole W ga 55 (agc s va) from fun W hW => (ha.under hW).box)
  clear b1 b2 b3 b4 h hv hv2 ha hb hx hl hi
  obtain ⟨N, hN⟩ : ∃ N, w.heap.size = N := ⟨_, rfl⟩
  rw [hN] at HX HAV HBV HBX ⊢
  obtain ⟨nm, hnm⟩ : ∃ x, s.nm = x := ⟨_, rfl⟩
  obtain ⟨pw, hpw⟩ : ∃ x, s.pw = x := ⟨_, rfl⟩
  have HNM := Lib.hid (And.intro hnm hpw)
  rw [hnm, hpw] at HNS
  simp only [agc, hnm, hpw] at HBX
  clear hnm hpw
  go_enter Try.func23, Try.ntmps23
  go_upto_region 1 with fail
  generalize w.alloc (.cells M 69) = W0 at *
  clear hN
  go_upto_region 2 with (first
    | (refine wpList_load_all rfl 69 (.tmp 4) rfl HX.out.box rfl Try.sizeMsg HX.out.size Try.underlying69 rfl ?_)
    | (go_at_call 42; (with_reducible refine HFI.out.mono ?_); rintro e w1 ⟨v, b, rfl, hf, hb1⟩))
  have HX1 := Lib.hid (HX.out.under hb1)
  clear hb1
  rcases hf with ⟨u, h1, rfl, hu⟩ | ⟨h1, rfl, rfl⟩
  · have hul := find_len HIS.out.2 h1
    have HU := Lib.hid (And.intro h1 (And.intro hu hul))
    have HH8 := Lib.hid (HHA.out 8 _ HX1.out.msg)
    obtain ⟨b8, hb8⟩ : ∃ x, (findP m.at_ 8).isSome = x := ⟨_, rfl⟩
    have HB8 := Lib.hid hb8
    rw [hb8] at HH8
    clear h1 hu hul hb8
    cases b8 with
    | false =>
      have HN : Hid (¬ NoDoubt s m) := Lib.hid (fun h => by have := h.2.1; rw [HB8.out] at this; cases this)
      go_wp2_with (first
        | (refine wpList_load_allG rfl 69 (.tmp 4) rfl HX1.out.box rfl Try.sizeMsg HX1.out.size Try.underlying69 rfl ?_)
        | (go_at_call 29; (with_reducible refine HH8.out.mono ?_); rintro e w2 ⟨rfl, hb2⟩))
      go_ret
      exact ⟨400, rfl, by omega, by omega, ⟨fun h => by omega, fun h => (HN.out h).elim⟩, HX1.out.on hb2⟩
    | true =>
      go_upto_region 4 with (first
        | (refine wpList_load_allG rfl 69 (.tmp 4) rfl HX1.out.box rfl Try.sizeMsg HX1.out.size Try.underlying69 rfl ?_)
        | (go_at_call 29; (with_reducible refine HH8.out.mono ?_); rintro e w2 ⟨rfl, hb2⟩))
      have HX2 := Lib.hid (HX1.out.under hb2)
      have hu2 := (HU.out.2.1.below hb2).more hb2.size
      clear hb2
      obtain ⟨A', c', rfl, -, -, l3, hbs⟩ := hu2
      obtain ⟨l, hl⟩ : ∃ l, u.length = l := ⟨_, rfl⟩
      rw [hl] at hbs ⊢
      have hc1 : (convert 22 9 (.slice A' l c')).run Try.prog { w2 with drawn := w2.drawn + 1 } = .ok (.string (strOfNums u)) { w2 with drawn := w2.drawn + 1 } := conv_text (w := { w2 with drawn := w2.drawn + 1 }) hbs l3
      have c0 : World.cell? { w2 with drawn := w2.drawn + 1 } ⟨ga, 0, none⟩ = some (.string nm) := (HBX.out w2 HX2.out.below).cell 0
      have hadd : ∀ W, (Op.stringOp .add nm { data := #[58] }).run Try.prog W = .ok (.string (nm ++ colon)) W := fun W => run_string_add_sum W nm colon (by have := HNS.out.1; show nm.size + 1 ≤ _; omega)
      have HPF : Hid (∀ W, Calls Try.prog 43 #[.string (strOfNums u), .string (nm ++ colon)] W fun e w' => e = .returned (.bool (hasP (strOfNums u) (nm ++ colon))) ∧ W = w') := Lib.hid fun W => hasPrefix_any _ _ W (by rw [strOfNums_size]; have := HU.out.2.2; unfold maxLen; omega) (by rw [colon_size]; have := HNS.out.1; unfold maxLen; omega)
      have HX3 : Hid (Boxed w { w2 with drawn := w2.drawn + 1 } N M m A c) := Lib.hid (HX2.out.under (Below.refl _ w2).drew)
      obtain ⟨bp, hbp⟩ : ∃ x, hasP (strOfNums u) (nm ++ colon) = x := ⟨_, rfl⟩
      have HPX : Hid ((∃ u, findP m.at_ 6 = some u ∧ hasP (strOfNums u) (s.nm ++ colon) = true) ↔ bp = true) := Lib.hid ⟨fun ⟨u', h2, h3⟩ => by
          rw [HU.out.1] at h2
          cases h2
          rw [HNM.out.1, hbp] at h3
          exact h3, fun h => ⟨u, HU.out.1, by rw [HNM.out.1, hbp]; exact h⟩⟩
      rw [hbp] at HPF
      clear hbp
      generalize nm ++ colon = nmc at *
      generalize strOfNums u = su at *
      clear hbs l3 hl
      refine wp_region_still_lit (by kernel_rfl) (by kernel_rfl) ?_
      generalize ({ w2 with drawn := w2.drawn + 1 } : World) = w3 at *
      repeat still_step
      still_call (flip_same (HPF.out w3))
      repeat still_step
      refine wpStill_nil ?_
      clear hc1 c0 hadd
      cases bp with
      | false =>
        have HN : Hid (¬ NoDoubt s m) := Lib.hid (fun h => by have := HPX.out.1 h.1; cases this)
        go_wp2
        go_ret
        exact ⟨401, rfl, by omega, by omega, ⟨fun h => by omega, fun h => (HN.out h).elim⟩, HX3.out.below⟩
      | true =>
        have hz := Try.zeroMsg
        obtain ⟨Z, hZ⟩ : ∃ Z, zM = Z := ⟨_, rfl⟩
        have HZ : Hid (Z.size = 15) := Lib.hid (by rw [← hZ]; rfl)
        simp only [hZ] at hz
        clear hZ
        have c1 : w3.cell? ⟨ga, 1, none⟩ = some (.string pw) := (HBX.out w3 HX3.out.below).cell 1
        obtain ⟨cp, W4, hcv, hs4, hv4, hb4⟩ := conv_bytes pw w3 (by have := HNS.out.2; unfold maxLen; omega)
        have HX4 := Lib.hid (HX3.out.under hb4)
        have hBV := HBV.out W4 HX4.out.below
        have HCK := Lib.hid (check_any vb _ xs (nums pw) W4 hBV.1 hBV.2.1 hBV.2.2 hv4 (nums_in pw) (by rw [nums_length]; have := HNS.out.2; omega))
        clear hBV hv4 hb4 hs4
        generalize w3.heap.size = g3 at *
        generalize pw.size = npw at *
        go_upto_region 7 with (first
          | (go_at_call 44; (with_reducible refine HCK.out.mono ?_); rintro e w5 ⟨M1, x1, rfl, hck, hb5⟩; have hS := Lib.hid (check_size hck))
          | (refine wpList_store_whole rfl 69 (.tmp 9) (.tmp 40) rfl rfl rfl (Whole.new _ _ _) Try.sizeMsg hS.out.1 HZ.out hS.out.2 ?_))
        have hI := check_iff HIS.out.1 hck
        have hN1 : N ≤ w5.heap.size := Nat.le_of_lt (HX4.out.under hb5).box.lt
        have HBF : Hid (Below N w ((w5.alloc (.cells Z 69)).setRow w5.heap.size M1)) := Lib.hid (below_row ((HX4.out.on hb5).alloc hN1 _) hN1 _)
        clear hck hb5 hN1 hcv
        generalize (w5.alloc (.cells Z 69)).setRow w5.heap.size M1 = W7 at *
        rcases hI with ⟨rfl, hs⟩ | ⟨rfl, hs⟩
        · have HN : Hid (NoDoubt s m) := Lib.hid ⟨HPX.out.2 trivial, HB8.out, by rw [HNM.out.2]; exact hs⟩
          clear hs
          go_wp2
          go_ret
          exact ⟨0, rfl, by omega, by omega, ⟨fun _ => HN.out, fun _ => rfl⟩, HBF.out⟩
        · have HN : Hid (¬ NoDoubt s m) := Lib.hid (fun h => hs (by rw [← HNM.out.2]; exact h.2.2))
          clear hs
          go_wp2
          go_ret
          exact ⟨401, rfl, by omega, by omega, ⟨fun h => by omega, fun h => (HN.out h).elim⟩, HBF.out⟩
  · have HN : Hid (¬ NoDoubt s m) := Lib.hid (fun ⟨⟨u, h2, _⟩, _⟩ => by rw [h1] at h2; cases h2)
    clear h1
    go_wp2
    go_ret
    exact ⟨400, rfl, by omega, by omega, ⟨fun h => by omega, fun h => (HN.out h).elim⟩, HX1.out.below⟩
end Go.Proofs.Yteloaidnfcmadaa
