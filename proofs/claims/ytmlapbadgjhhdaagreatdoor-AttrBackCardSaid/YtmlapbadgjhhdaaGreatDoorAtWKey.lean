/- A key's letters, as the program writes them. -/
import Derived.Test.YtmlapbadgjhhdaaGreatDoorAtBits
namespace Go.Proofs.YtmlapbadgjhhdaaGreatDoor
open Go.RowKit
set_option linter.unusedVariables false
set_option linter.unusedSimpArgs false

theorem and63_u32 (x : Int) (v : Nat) (h0 : 0 ≤ x) (h1 : x < 4294967296) (hv : x.toNat % 64 = v) : bits BinOp.and IntKind.u32 x 63 = ((v : Nat) : Int) := by
  obtain ⟨n, rfl⟩ := Int.eq_ofNat_of_zero_le h0
  have h := u32_and_nat n 63 (by omega) (by omega)
  rw [and63] at h
  rw [← hv]
  exact h
theorem isB_lt {T e : TypeId} {B b : Nat} {l : List Value} {w : World} (h : Lib.IsBuilder T e B b l w) : b < w.heap.size := by
  rcases h with h | h <;> exact h.lt
theorem bytes_snoc (l : Tx) (c : UInt8) : Lib.byteCells l ++ [.int .u8 (c.toNat : Int)] = Lib.byteCells (l ++ [c]) := by simp [Lib.byteCells]
set_option maxHeartbeats 6400000 in
set_option maxRecDepth 100000 in
theorem writeKey_any (k : Tx) (w : World) (hk : k.length = 30) :
    Calls Tryz.prog 51 #[.agg (keyC k).toArray] w fun e w' => e = .returned (.string (bs (encK k))) ∧ Below w.heap.size w w' := by
  obtain ⟨N, hN⟩ : ∃ N, w.heap.size = N := ⟨_, rfl⟩
  have HKX : Hid (Whole ((w.alloc (.cells (keyC k).toArray 71)).alloc (.cells #[.pointer none, .slice none 0 0] 120)) N 71 (keyC k).toArray) := Lib.hid (by rw [← hN]; exact (Whole.new w _ _).alloc _)
  have HBX : Hid (Lib.IsBuilder 120 5 (N + 1) (N + 1) (Lib.byteCells []) ((w.alloc (.cells (keyC k).toArray 71)).alloc (.cells #[.pointer none, .slice none 0 0] 120))) := Lib.hid (.inl ⟨by omega, .slice none 0 0, by
    have := Whole.new2 w (.cells (keyC k).toArray 71) 120 #[.pointer none, .slice none 0 0]
    rw [hN] at this
    exact this, World.ownsRow_nil _ _ _ _, by simp [Value.ownBlock]⟩)
  have HB : Hid (Below N w ((w.alloc (.cells (keyC k).toArray 71)).alloc (.cells #[.pointer none, .slice none 0 0] 120))) := Lib.hid (by rw [← hN]; exact two_new _ _ _ _)
  rw [hN]
  go_enter Tryz.func51, Tryz.ntmps51
  go_upto_region 2 with fail
  generalize ((w.alloc (.cells (keyC k).toArray 71)).alloc (.cells #[.pointer none, .slice none 0 0] 120)) = W0 at *
  clear hN
  go_wp2
  go_loopw [4] (fun s4 wr => ∃ t : Nat, t ≤ 10 ∧ s4 = .int .i64 ((3 * t : Nat) : Int) ∧ (Lib.IsBuilder 120 5 (N + 1) (N + 1) (Lib.byteCells (encK (k.take (3 * t)))) wr ∧ Whole wr N 71 (keyC k).toArray ∧ Below N w wr)) (fun s4 _ => 30 - (intOf s4).toNat)
  case atStart => exact ⟨0, by omega, rfl, HBX.out, HKX.out, HB.out⟩
  case round =>
    obtain ⟨t, ht, rfl, hst⟩ := hrel
    have HS := Lib.hid hst
    clear hst
    by_cases hlt : t < 10
    · obtain ⟨a, b, c, hA, hBB, hC, hTK⟩ : ∃ a b c : UInt8, k[3 * t]? = some a ∧ k[3 * t + 1]? = some b ∧ k[3 * t + 2]? = some c ∧ encK (k.take (3 * (t + 1))) = encK (k.take (3 * t)) ++ enc3 a b c := encK_step hk hlt
      obtain ⟨i, hi⟩ : ∃ i, 3 * t = i := ⟨_, rfl⟩
      have HTI := Lib.hid hi
      rw [hi] at hA hBB hC
      simp only [hi]
      have hi1 : (i : Int) < 30 := by omega
      have hi0 : (0 : Int) ≤ (i : Int) := by omega
      have e1 : IntKind.i64.wrap ((i : Int) + 1) = ((i + 1 : Nat) : Int) := (IntWalk.i64_in _ (by omega)).trans (by omega)
      have e2 : IntKind.i64.wrap ((i : Int) + 2) = ((i + 2 : Nat) : Int) := (IntWalk.i64_in _ (by omega)).trans (by omega)
      have b1 : ((i + 1 : Nat) : Int) < 30 := by omega
      have b2 : ((i + 2 : Nat) : Int) < 30 := by omega
      have b3 : (0 : Int) ≤ ((i + 1 : Nat) : Int) := by omega
      have b4 : (0 : Int) ≤ ((i + 2 : Nat) : Int) := by omega
      have d0 : wr.cell? ⟨N, i, none⟩ = some (.int .u8 (a.toNat : Int)) := (HS.out.2.1.cell _).trans (by simp [keyC, hA])
      have d1 : wr.cell? ⟨N, i + 1, none⟩ = some (.int .u8 (b.toNat : Int)) := (HS.out.2.1.cell _).trans (by simp [keyC, hBB])
      have d2 : wr.cell? ⟨N, i + 2, none⟩ = some (.int .u8 (c.toNat : Int)) := (HS.out.2.1.cell _).trans (by simp [keyC, hC])
      clear hi
      go_upto_region 5 with fail
      go_quiet (fail)
      rw [or3_u32 a b c]
      have HNL : Hid (num3 a b c < 16777216) := Lib.hid (num3_lt a b c)
      have HEN : Hid (enc3 a b c = [letter (num3 a b c / 262144), letter (num3 a b c / 4096 % 64), letter (num3 a b c / 64 % 64), letter (num3 a b c % 64)]) := Lib.hid rfl
      have HBS : Hid (Lib.IsBuilder 120 5 (N + 1) (N + 1) (Lib.byteCells (encK (k.take (3 * t)))) (wr.drewN nq) ∧ Whole (wr.drewN nq) N 71 (keyC k).toArray ∧ Below N w (wr.drewN nq)) := Lib.hid ⟨HS.out.1, HS.out.2.1, below_drewN' HS.out.2.2 _⟩
      have HSZ : Hid ((encK (k.take (3 * t))).length = 4 * t) := Lib.hid (encK_len t _ (by rw [List.length_take]; omega))
      obtain ⟨E, hE⟩ : ∃ E, encK (k.take (3 * t)) = E := ⟨_, rfl⟩
      rw [hE] at HBS HSZ hTK
      have HTK := Lib.hid hTK
      clear hTK hE d0 d1 d2 hA hBB hC
      generalize wr.drewN nq = wx at *
      generalize num3 a b c = n at *
      go_wp2
      go_loopw [30] (fun sp wq => ∃ p : Nat, p ≤ 4 ∧ sp = .int .i64 (p : Int) ∧ (Lib.IsBuilder 120 5 (N + 1) (N + 1) (Lib.byteCells (E ++ (enc3 a b c).take p)) wq ∧ Whole wq N 71 (keyC k).toArray ∧ Below N w wq)) (fun sp _ => 4 - (intOf sp).toNat)
      case atStart => exact ⟨0, by omega, rfl, by simpa using HBS.out.1, HBS.out.2.1, HBS.out.2.2⟩
      case round =>
        obtain ⟨p, hp, rfl, hst⟩ := hrel
        have HI := Lib.hid hst
        clear hst
        have HNQ : Hid (N + 1 ≤ wr.heap.size) := Lib.hid (Nat.le_of_lt (isB_lt HI.out.1))
        have hn := HNL.out
        have hp4 : p = 4 ∨ p = 0 ∨ p = 1 ∨ p = 2 ∨ p = 3 := by omega
        rcases hp4 with rfl | rfl | rfl | rfl | rfl
        · have HFE : Hid (encK (k.take (3 * (t + 1))) = E ++ (enc3 a b c).take 4) := Lib.hid (by rw [HTK.out, HEN.out]; rfl)
          go_wp2
          go_roundw
          case rel =>
            have hti := HTI.out
            exact ⟨t + 1, by omega, by go_num, by rw [HFE.out]; exact HI.out.1, HI.out.2.1, HI.out.2.2⟩
          case measure => simp [intOf]; omega
        · have hv : bits BinOp.and IntKind.u32 ((n : Int) / 262144) 63 = ((n / 262144 : Nat) : Int) := and63_u32 _ _ (by omega) (by omega) (by omega)
          obtain ⟨v, hvv⟩ : ∃ v : Nat, n / 262144 = v := ⟨_, rfl⟩
          rw [hvv] at hv
          have hv64 : v < 64 := by omega
          have hvi : (v : Int) < 64 := by omega
          have hv0 : (0 : Int) ≤ (v : Int) := by omega
          have HTAKE : Hid ((enc3 a b c).take (0 + 1) = (enc3 a b c).take 0 ++ [letter v]) := Lib.hid (by rw [HEN.out, ← hvv]; rfl)
          have HLV : Hid (∀ h : v < letS.size, letS[v]'h = letter v) := Lib.hid (letS_at v)
          have HWB : Hid (∀ c' : Int, Calls Tryz.prog 78 #[.pointer (some ⟨N + 1, 0, none⟩), .int .u8 c'] wr fun e w' => e = .returned .nilIface ∧ (Lib.IsBuilder 120 5 (N + 1) (N + 1) (Lib.byteCells (E ++ (enc3 a b c).take 0) ++ [.int .u8 c']) w' ∧ Below (N + 1) wr w')) := Lib.hid fun c' => writeByte_any (N + 1) (N + 1) _ c' wr HI.out.1 (by
            rw [Lib.byteCells_length, List.length_append, HSZ.out]
            have := List.length_take_le 0 (enc3 a b c)
            omega) HNQ.out
          clear hvv
          go_wp2_with (go_at_call 78; (refine (HWB.out _).mono ?_); rintro e w2 ⟨rfl, hb2, hb3⟩)
          go_roundw
          case rel =>
            refine ⟨0 + 1, by omega, by go_num, ?_, HI.out.2.1.below hb3 (Nat.lt_succ_self N), HI.out.2.2.trans (hb3.mono (Nat.le_succ N))⟩
            have e1 := HLV.out (by rw [letS_size]; exact hv64)
            rw [HTAKE.out, ← List.append_assoc, ← bytes_snoc, ← e1]
            exact hb2
          case measure => simp [intOf]
        · have hv : bits BinOp.and IntKind.u32 ((n : Int) / 4096) 63 = ((n / 4096 % 64 : Nat) : Int) := and63_u32 _ _ (by omega) (by omega) (by omega)
          obtain ⟨v, hvv⟩ : ∃ v : Nat, n / 4096 % 64 = v := ⟨_, rfl⟩
          rw [hvv] at hv
          have hv64 : v < 64 := by omega
          have hvi : (v : Int) < 64 := by omega
          have hv0 : (0 : Int) ≤ (v : Int) := by omega
          have HTAKE : Hid ((enc3 a b c).take (1 + 1) = (enc3 a b c).take 1 ++ [letter v]) := Lib.hid (by rw [HEN.out, ← hvv]; rfl)
          have HLV : Hid (∀ h : v < letS.size, letS[v]'h = letter v) := Lib.hid (letS_at v)
          have HWB : Hid (∀ c' : Int, Calls Tryz.prog 78 #[.pointer (some ⟨N + 1, 0, none⟩), .int .u8 c'] wr fun e w' => e = .returned .nilIface ∧ (Lib.IsBuilder 120 5 (N + 1) (N + 1) (Lib.byteCells (E ++ (enc3 a b c).take 1) ++ [.int .u8 c']) w' ∧ Below (N + 1) wr w')) := Lib.hid fun c' => writeByte_any (N + 1) (N + 1) _ c' wr HI.out.1 (by
            rw [Lib.byteCells_length, List.length_append, HSZ.out]
            have := List.length_take_le 1 (enc3 a b c)
            omega) HNQ.out
          clear hvv
          go_wp2_with (go_at_call 78; (refine (HWB.out _).mono ?_); rintro e w2 ⟨rfl, hb2, hb3⟩)
          go_roundw
          case rel =>
            refine ⟨1 + 1, by omega, by go_num, ?_, HI.out.2.1.below hb3 (Nat.lt_succ_self N), HI.out.2.2.trans (hb3.mono (Nat.le_succ N))⟩
            have e1 := HLV.out (by rw [letS_size]; exact hv64)
            rw [HTAKE.out, ← List.append_assoc, ← bytes_snoc, ← e1]
            exact hb2
          case measure => simp [intOf]
        · have hv : bits BinOp.and IntKind.u32 ((n : Int) / 64) 63 = ((n / 64 % 64 : Nat) : Int) := and63_u32 _ _ (by omega) (by omega) (by omega)
          obtain ⟨v, hvv⟩ : ∃ v : Nat, n / 64 % 64 = v := ⟨_, rfl⟩
          rw [hvv] at hv
          have hv64 : v < 64 := by omega
          have hvi : (v : Int) < 64 := by omega
          have hv0 : (0 : Int) ≤ (v : Int) := by omega
          have HTAKE : Hid ((enc3 a b c).take (2 + 1) = (enc3 a b c).take 2 ++ [letter v]) := Lib.hid (by rw [HEN.out, ← hvv]; rfl)
          have HLV : Hid (∀ h : v < letS.size, letS[v]'h = letter v) := Lib.hid (letS_at v)
          have HWB : Hid (∀ c' : Int, Calls Tryz.prog 78 #[.pointer (some ⟨N + 1, 0, none⟩), .int .u8 c'] wr fun e w' => e = .returned .nilIface ∧ (Lib.IsBuilder 120 5 (N + 1) (N + 1) (Lib.byteCells (E ++ (enc3 a b c).take 2) ++ [.int .u8 c']) w' ∧ Below (N + 1) wr w')) := Lib.hid fun c' => writeByte_any (N + 1) (N + 1) _ c' wr HI.out.1 (by
            rw [Lib.byteCells_length, List.length_append, HSZ.out]
            have := List.length_take_le 2 (enc3 a b c)
            omega) HNQ.out
          clear hvv
          go_wp2_with (go_at_call 78; (refine (HWB.out _).mono ?_); rintro e w2 ⟨rfl, hb2, hb3⟩)
          go_roundw
          case rel =>
            refine ⟨2 + 1, by omega, by go_num, ?_, HI.out.2.1.below hb3 (Nat.lt_succ_self N), HI.out.2.2.trans (hb3.mono (Nat.le_succ N))⟩
            have e1 := HLV.out (by rw [letS_size]; exact hv64)
            rw [HTAKE.out, ← List.append_assoc, ← bytes_snoc, ← e1]
            exact hb2
          case measure => simp [intOf]
        · have hv : bits BinOp.and IntKind.u32 (n : Int) 63 = ((n % 64 : Nat) : Int) := and63_u32 _ _ (by omega) (by omega) (by omega)
          obtain ⟨v, hvv⟩ : ∃ v : Nat, n % 64 = v := ⟨_, rfl⟩
          rw [hvv] at hv
          have hv64 : v < 64 := by omega
          have hvi : (v : Int) < 64 := by omega
          have hv0 : (0 : Int) ≤ (v : Int) := by omega
          have HTAKE : Hid ((enc3 a b c).take (3 + 1) = (enc3 a b c).take 3 ++ [letter v]) := Lib.hid (by rw [HEN.out, ← hvv]; rfl)
          have HLV : Hid (∀ h : v < letS.size, letS[v]'h = letter v) := Lib.hid (letS_at v)
          have HWB : Hid (∀ c' : Int, Calls Tryz.prog 78 #[.pointer (some ⟨N + 1, 0, none⟩), .int .u8 c'] wr fun e w' => e = .returned .nilIface ∧ (Lib.IsBuilder 120 5 (N + 1) (N + 1) (Lib.byteCells (E ++ (enc3 a b c).take 3) ++ [.int .u8 c']) w' ∧ Below (N + 1) wr w')) := Lib.hid fun c' => writeByte_any (N + 1) (N + 1) _ c' wr HI.out.1 (by
            rw [Lib.byteCells_length, List.length_append, HSZ.out]
            have := List.length_take_le 3 (enc3 a b c)
            omega) HNQ.out
          clear hvv
          go_wp2_with (go_at_call 78; (refine (HWB.out _).mono ?_); rintro e w2 ⟨rfl, hb2, hb3⟩)
          go_roundw
          case rel =>
            refine ⟨3 + 1, by omega, by go_num, ?_, HI.out.2.1.below hb3 (Nat.lt_succ_self N), HI.out.2.2.trans (hb3.mono (Nat.le_succ N))⟩
            have e1 := HLV.out (by rw [letS_size]; exact hv64)
            rw [HTAKE.out, ← List.append_assoc, ← bytes_snoc, ← e1]
            exact hb2
          case measure => simp [intOf]
    · have e : t = 10 := by omega
      subst e
      have HFE : Hid (encK (k.take (3 * 10)) = encK k) := Lib.hid (by rw [List.take_of_length_le (by omega)])
      have HST : Hid (Calls Tryz.prog 79 #[.pointer (some ⟨N + 1, 0, none⟩)] wr fun e w' => e = .returned (.string (bs (encK k))) ∧ Below (N + 1) wr w') := Lib.hid (by
        have := Tryz.Builder_String_any (N + 1) (N + 1) (encK (k.take (3 * 10))) wr HS.out.1 (Nat.le_of_lt (isB_lt HS.out.1))
        rw [HFE.out] at this
        exact this)
      go_wp2_with (go_at_call 79; (with_reducible refine HST.out.mono ?_); rintro e w2 ⟨rfl, hb2⟩)
      go_ret
      exact ⟨rfl, HS.out.2.2.trans (hb2.mono (Nat.le_succ N))⟩
end Go.Proofs.YtmlapbadgjhhdaaGreatDoor
