/- The program's keys read. -/
import Derived.Test.YtmlapbadgjhhdaaGreatDoorAtRdK
import Derived.Test.YtmlapbadgjhhdaaGreatDoorAtRd2
import Derived.Test.YtmlapbadgjhhdaaGreatDoorAtWKey
namespace Go.Proofs.YtmlapbadgjhhdaaGreatDoor
open Go.RowKit
set_option linter.unusedVariables false
set_option linter.unusedSimpArgs false

abbrev zKey : Array Value := #[.int .u8 0, .int .u8 0, .int .u8 0, .int .u8 0, .int .u8 0, .int .u8 0, .int .u8 0, .int .u8 0, .int .u8 0, .int .u8 0, .int .u8 0, .int .u8 0, .int .u8 0, .int .u8 0, .int .u8 0, .int .u8 0, .int .u8 0, .int .u8 0, .int .u8 0, .int .u8 0, .int .u8 0, .int .u8 0, .int .u8 0, .int .u8 0, .int .u8 0, .int .u8 0, .int .u8 0, .int .u8 0, .int .u8 0, .int .u8 0]
theorem zKey_eq : zKey = (keyC (List.replicate 30 0)).toArray := rfl
/-- The first letters as a number. -/
def pre4 (l : Tx) : Nat := l.foldl (fun n c => n * 64 + sixP c) 0
theorem pre4_snoc (l : Tx) (c : UInt8) : pre4 (l ++ [c]) = pre4 l * 64 + sixP c := by unfold pre4; rw [List.foldl_append]; rfl
theorem pre_lt : ∀ (l : Tx) (acc B : Nat), acc < B → l.foldl (fun n c => n * 64 + sixP c) acc < B * 64 ^ l.length
  | [], acc, B, h => by simpa using h
  | c :: r, acc, B, h => by
    have hc := sixP_lt c
    have := pre_lt r (acc * 64 + sixP c) (B * 64) (by omega)
    rw [List.length_cons, Nat.pow_succ, Nat.mul_comm (64 ^ r.length) 64, ← Nat.mul_assoc]
    exact this
theorem pre4_lt (l : Tx) : pre4 l < 64 ^ l.length := by
  have := pre_lt l 0 1 (by decide)
  rw [Nat.one_mul] at this
  exact this
theorem six_u32 (c : UInt8) : bits BinOp.and IntKind.u32 (Lib.indexByte wLetters c % 4294967296) 63 = ((sixP c : Nat) : Int) := by
  unfold sixP
  by_cases h : Lib.indexByte wLetters c = -1
  · rw [h, if_pos rfl]
    exact and63_u32 4294967295 63 (by decide) (by decide) (by decide)
  · have hlt := sixP_lt c
    unfold sixP at hlt
    rw [if_neg h] at hlt ⊢
    have hge := Lib.indexByte_ge wLetters c
    obtain ⟨k, hk⟩ : ∃ k : Nat, Lib.indexByte wLetters c = k := ⟨(Lib.indexByte wLetters c).toNat, by omega⟩
    rw [hk] at hlt ⊢
    have hk64 : k < 64 := by simpa using hlt
    rw [show ((k : Nat) : Int) % 4294967296 = ((k : Nat) : Int) by omega]
    exact and63_u32 k _ (by omega) (by omega) (by simp; omega)
theorem step_u32 (x : Nat) (hx : x < 262144) (c : UInt8) : bits BinOp.or IntKind.u32 ((x : Int) * 64 % 4294967296) (bits BinOp.and IntKind.u32 (Lib.indexByte wLetters c % 4294967296) 63) = ((x * 64 + sixP c : Nat) : Int) := by
  have hc := sixP_lt c
  rw [six_u32, show (x : Int) * 64 % 4294967296 = ((x * 64 : Nat) : Int) by omega, u32_or_nat _ _ (by omega) (by omega)]
  have := nat_or x (sixP c) 6 (by simpa using hc)
  rw [show (2 : Nat) ^ 6 = 64 by decide] at this
  rw [this]
theorem key_set (A : Tx) (k : Nat) (x y z : UInt8) :
    (((keyC (A ++ List.replicate (k + 3) 0)).toArray.setIfInBounds A.length (.int .u8 (x.toNat : Int))).setIfInBounds (A.length + 1) (.int .u8 (y.toNat : Int))).setIfInBounds (A.length + 2) (.int .u8 (z.toNat : Int)) = (keyC (A ++ [x, y, z] ++ List.replicate k 0)).toArray := by
  have e : keyC (A ++ List.replicate (k + 3) 0) = keyC A ++ (.int .u8 0 :: .int .u8 0 :: .int .u8 0 :: keyC (List.replicate k 0)) := by
    unfold keyC
    rw [List.map_append, List.replicate_succ, List.replicate_succ, List.replicate_succ]
    rfl
  have hl : (keyC A).length = A.length := by simp [keyC]
  rw [e, List.setIfInBounds_toArray, List.setIfInBounds_toArray, List.setIfInBounds_toArray]
  congr 1
  rw [← hl, List.set_append_right _ _ (Nat.le_refl _), List.set_append_right _ _ (by omega), List.set_append_right _ _ (by omega)]
  rw [Nat.sub_self, show (keyC A).length + 1 - (keyC A).length = 1 by omega, show (keyC A).length + 2 - (keyC A).length = 2 by omega]
  unfold keyC
  simp
set_option maxHeartbeats 3200000 in
set_option maxRecDepth 100000 in
theorem readKey_any (s : ByteArray) (w : World) (hs : s.size ≤ 281474976710656) : Calls Tryz.prog 132 #[.string s] w fun e w' => e = .returned (.agg (keyC (keyP (tx s))).toArray) ∧ Below w.heap.size w w' := by
  have hb0 : Below w.heap.size w ((w.alloc (.cells zKey 71)).alloc (.cells zKey 71)) := two_new _ _ _ _
  have hr := (Whole.new w 71 zKey).alloc (.cells zKey 71)
  have hk := Whole.new2 w (.cells zKey 71) 71 zKey
  obtain ⟨N, hN⟩ : ∃ N, w.heap.size = N := ⟨_, rfl⟩
  have HN := Lib.hid hN
  have H0 := Lib.hid (And.intro hb0 (And.intro hr hk))
  rw [hN] at H0
  clear hN hb0 hr hk
  obtain ⟨l, hl⟩ : ∃ l, tx s = l := ⟨_, rfl⟩
  have HTS := Lib.hid hl
  have hlen : l.length = s.size := by rw [← hl, tx_length]
  rw [hl]
  clear hl
  go_enter Tryz.func132, Tryz.ntmps132
  go_upto_region 2 with fail
  simp only [HN.out]
  generalize (w.alloc (.cells zKey 71)).alloc (.cells zKey 71) = W0 at *
  by_cases h40 : s.size = 40
  · have h40i : (s.size : Int) = 40 := by omega
    have HL : Hid (l.length = 40) := Lib.hid (by omega)
    clear hlen
    have HKP : Hid (keyP l = decK l) := Lib.hid (by unfold keyP; rw [if_pos HL.out])
    have HIX : Hid (∀ (c : UInt8) W, Calls Tryz.prog 150 #[.string letS, .int .u8 (c.toNat : Int)] W fun e w' => e = .returned (.int .i64 (Lib.indexByte wLetters c)) ∧ w' = W) := Lib.hid fun c W => by
      have := Tryz.strings_IndexByte letS (c.toNat : Int) W
      rw [show ((c.toNat : Int).toNat.toUInt8) = c by simp] at this
      exact this
    go_wp2
    go_loopw [4, 0, 5] (fun s4 s0 _ wr => ∃ (t : Nat) (r : ByteArray), t ≤ 10 ∧ s4 = .int .i64 ((3 * t : Nat) : Int) ∧ s0 = .string r ∧ (tx r = l.drop (4 * t) ∧ Below N w wr ∧ Whole wr N 71 zKey ∧ Whole wr (N + 1) 71 (keyC (decK (l.take (4 * t)) ++ List.replicate (30 - 3 * t) 0)).toArray)) (fun s4 _ _ _ => 30 - (intOf s4).toNat)
    case atStart => exact ⟨0, s, by omega, rfl, rfl, HTS.out, H0.out.1, H0.out.2.1, H0.out.2.2⟩
    case round =>
      obtain ⟨t, r, ht, rfl, rfl, hst⟩ := hrel
      have HS := Lib.hid hst
      clear hst
      by_cases hlt : t < 10
      · obtain ⟨i, hi⟩ : ∃ i, 3 * t = i := ⟨_, rfl⟩
        have HTI := Lib.hid hi
        simp only [hi]
        have hi1 : (i : Int) < 30 := by omega
        have hi0 : (0 : Int) ≤ (i : Int) := by omega
        clear hi
        generalize wr = wo at *
        go_wp2
        go_loopw [14, 5, 0] (fun s14 s5 s0 wq => ∃ (p : Nat) (r : ByteArray), p ≤ 4 ∧ s14 = .int .i64 p ∧ s5 = .int .u32 (pre4 ((l.drop (4 * t)).take p) : Nat) ∧ s0 = .string r ∧ (tx r = l.drop (4 * t + p) ∧ wq = wo)) (fun s14 _ _ _ => 4 - (intOf s14).toNat)
        case atStart => exact ⟨0, r, by omega, rfl, rfl, rfl, HS.out.1, rfl⟩
        case round =>
          obtain ⟨p, r, hp, rfl, rfl, rfl, hst⟩ := hrel
          obtain ⟨hst, rfl⟩ := hst
          have HI := Lib.hid (And.intro hst True.intro)
          clear hst
          by_cases hlp : p < 4
          · have hrl : r.size = 40 - (4 * t + p) := by rw [← tx_length, HI.out.1, List.length_drop, HL.out]
            have hr0 : 0 < r.size := by omega
            have hr0i : (0 : Int) < (r.size : Int) := by omega
            have hr1 : (1 : Int) ≤ (r.size : Int) := by omega
            have hr2 : 1 ≤ r.size := by omega
            have hp0 : (p : Int) < 4 := by omega
            obtain ⟨x, hx⟩ : ∃ x, pre4 ((l.drop (4 * t)).take p) = x := ⟨_, rfl⟩
            simp only [hx]
            have HX := Lib.hid hx
            have HRL := Lib.hid hrl
            have HXL : Hid (x < 262144) := Lib.hid (by
              rw [← hx]
              have h1 := pre4_lt ((l.drop (4 * t)).take p)
              have h2 : 64 ^ ((l.drop (4 * t)).take p).length ≤ 64 ^ 3 := Nat.pow_le_pow_right (by decide) (by have := List.length_take_le p (l.drop (4 * t)); omega)
              have h3 : (64 : Nat) ^ 3 = 262144 := by decide
              omega)
            have HPX : Hid (∀ h : 0 < r.size, pre4 ((l.drop (4 * t)).take (p + 1)) = x * 64 + sixP (r[0]'h)) := Lib.hid fun h => by
              have h1 : (l.drop (4 * t))[p]? = some (r[0]'h) := by
                have h2 : (tx r)[0]? = some (r[0]'h) := by
                  rw [List.getElem?_eq_getElem (by rw [tx_length]; exact h)]
                  rfl
                rw [HI.out.1, List.getElem?_drop] at h2
                rw [List.getElem?_drop]
                exact h2
              rw [List.take_add_one, h1, ← hx]
              exact pre4_snoc _ _
            clear hx hrl
            go_wp2_with (go_at_call 150; (refine (HIX.out _ _).mono ?_); rintro e w3 ⟨rfl, rfl⟩; dsimp only)
            go_roundw
            case rel =>
              refine ⟨p + 1, _, by omega, by go_num, ?_, rfl, ?_, trivial⟩
              · rw [step_u32 x HXL.out, HPX.out hr0]
              · rw [tx_extract, HI.out.1, List.drop_drop, List.take_of_length_le (by rw [List.length_drop, HL.out]; have := HRL.out; omega)]
                rfl
            case measure => simp [intOf]; omega
          · have e : p = 4 := by omega
            subst e
            obtain ⟨a, b, c, d, habcd⟩ : ∃ a b c d : UInt8, (l.drop (4 * t)).take 4 = [a, b, c, d] := by
              have h4 : ((l.drop (4 * t)).take 4).length = 4 := by rw [List.length_take, List.length_drop, HL.out]; omega
              match (l.drop (4 * t)).take 4, h4 with
              | [a, b, c, d], _ => exact ⟨a, b, c, d, rfl⟩
            have HD : Hid (decK (l.take (4 * (t + 1))) = decK (l.take (4 * t)) ++ dec4 a b c d) := Lib.hid (by
              rw [show 4 * (t + 1) = 4 * t + 4 by omega, List.take_add, habcd, decK_snoc a b c d t _ (by rw [List.length_take, HL.out]; omega)])
            have HN4 : Hid (pre4 [a, b, c, d] = num4 a b c d) := Lib.hid (by
              unfold pre4 num4
              simp)
            rw [habcd, HN4.out]
            have HLT := Lib.hid (num4_lt a b c d)
            have HD4 : Hid (dec4 a b c d = [UInt8.ofNat (num4 a b c d / 65536), UInt8.ofNat (num4 a b c d / 256), UInt8.ofNat (num4 a b c d)]) := Lib.hid rfl
            obtain ⟨n, hn⟩ : ∃ n, num4 a b c d = n := ⟨_, rfl⟩
            simp only [hn] at HLT HD4 ⊢
            clear habcd hn HN4
            have hn0 := HLT.out
            obtain ⟨A, hA⟩ : ∃ A, decK (l.take (4 * t)) = A := ⟨_, rfl⟩
            have HAL : Hid (A.length = i) := Lib.hid (by rw [← hA, decK_len t _ (by rw [List.length_take, HL.out]; omega)]; exact HTI.out)
            rw [hA] at HD
            obtain ⟨k, hk⟩ : ∃ k, 30 - 3 * t = k + 3 := ⟨27 - 3 * t, by omega⟩
            have HS4 : Hid (Whole wr (N + 1) 71 (keyC (A ++ List.replicate (k + 3) 0)).toArray) := Lib.hid (by have := HS.out.2.2.2; rw [hA, hk] at this; exact this)
            have HK : Hid (30 - 3 * (t + 1) = k) := Lib.hid (by omega)
            clear hA hk
            have hz : ∀ j, j < 3 → (keyC (A ++ List.replicate (k + 3) 0)).toArray[i + j]? = some (.int .u8 0) := fun j hj => by
              rw [List.getElem?_toArray]
              unfold keyC
              rw [List.getElem?_map, List.getElem?_append_right (by rw [HAL.out]; omega), HAL.out, List.getElem?_replicate, if_pos (by omega)]
              rfl
            have d0 : wr.cell? ⟨N + 1, i, none⟩ = some (.int .u8 0) := (HS4.out.cell i).trans (hz 0 (by decide))
            have d1 : wr.cell? ⟨N + 1, i + 1, none⟩ = some (.int .u8 0) := (HS4.out.cell (i + 1)).trans (hz 1 (by decide))
            have d2 : wr.cell? ⟨N + 1, i + 2, none⟩ = some (.int .u8 0) := (HS4.out.cell (i + 2)).trans (hz 2 (by decide))
            have fz := HS4.out.frz
            have hi27 : (i : Int) + 2 < 30 := by have := HTI.out; omega
            have e1 : IntKind.i64.wrap ((i : Int) + 1) = ((i + 1 : Nat) : Int) := (IntWalk.i64_in _ (by omega)).trans (by omega)
            have e2 : IntKind.i64.wrap ((i : Int) + 2) = ((i + 2 : Nat) : Int) := (IntWalk.i64_in _ (by omega)).trans (by omega)
            have b1 : ((i + 1 : Nat) : Int) < 30 := by omega
            have b2 : ((i + 2 : Nat) : Int) < 30 := by omega
            have b3 : (0 : Int) ≤ ((i + 1 : Nat) : Int) := by omega
            have b4 : (0 : Int) ≤ ((i + 2 : Nat) : Int) := by omega
            clear hz
            have HRN : Hid (tx r = l.drop (4 * (t + 1))) := Lib.hid HI.out.1
            have HV : Hid ((n : Int) / 65536 = ((UInt8.ofNat (n / 65536)).toNat : Int) ∧ (n : Int) / 256 % 256 = ((UInt8.ofNat (n / 256)).toNat : Int) ∧ (n : Int) % 256 = ((UInt8.ofNat n).toNat : Int)) := Lib.hid (by
              simp only [UInt8.toNat_ofNat']
              omega)
            have HKS := Lib.hid (key_set A k (UInt8.ofNat (n / 65536)) (UInt8.ofNat (n / 256)) (UInt8.ofNat n))
            go_wp2
            go_roundw
            case rel =>
              refine ⟨t + 1, r, by omega, by have := HTI.out; go_num, rfl, HRN.out, ?_, ?_, ?_⟩
              · exact ((HS.out.2.1.setCell (p := ⟨N + 1, i, none⟩) (Nat.le_succ N) _).setCell (p := ⟨N + 1, i + 1, none⟩) (Nat.le_succ N) _).setCell (p := ⟨N + 1, i + 2, none⟩) (Nat.le_succ N) _
              · exact ((HS.out.2.2.1.far (p := ⟨N + 1, i, none⟩) (Nat.ne_of_lt (Nat.lt_succ_self N)) _).far (p := ⟨N + 1, i + 1, none⟩) (Nat.ne_of_lt (Nat.lt_succ_self N)) _).far (p := ⟨N + 1, i + 2, none⟩) (Nat.ne_of_lt (Nat.lt_succ_self N)) _
              · have h3 := ((HS4.out.set i (.int .u8 ((n : Int) / 65536))).set (i + 1) (.int .u8 ((n : Int) / 256 % 256))).set (i + 2) (.int .u8 ((n : Int) % 256))
                rw [HD.out, HD4.out, HK.out]
                have h4 := HKS.out
                rw [HAL.out, ← HV.out.1, ← HV.out.2.1, ← HV.out.2.2] at h4
                rw [h4] at h3
                exact h3
            case measure => simp [intOf]; omega
      · have e : t = 10 := by omega
        subst e
        have HA : Hid ((keyC (decK (l.take (4 * 10)) ++ List.replicate (30 - 3 * 10) 0)).toArray = (keyC (keyP l)).toArray) := Lib.hid (by
          rw [HKP.out, List.take_of_length_le (by rw [HL.out]; decide)]
          simp)
        have HF : Hid (Whole wr (N + 1) 71 (keyC (keyP l)).toArray) := Lib.hid (by rw [← HA.out]; exact HS.out.2.2.2)
        obtain ⟨X, hX⟩ : ∃ X, (keyC (keyP l)).toArray = X := ⟨_, rfl⟩
        have HX : Hid (X.size = 30 ∧ X.toList.all (·.oneCell') = true) := Lib.hid (by
          rw [← hX]
          refine ⟨by simp [keyC, keyP_len], ?_⟩
          rw [List.all_eq_true]
          intro v hv
          simp only [keyC, List.mem_map] at hv
          obtain ⟨_, _, rfl⟩ := hv
          rfl)
        rw [hX] at HF
        have HXE := Lib.hid hX
        clear hX
        have HFIN : Hid (Ending.returned (.agg X) = .returned (.agg (keyC (keyP l)).toArray) ∧ Below w.heap.size w (wr.setRow N X)) := Lib.hid ⟨by rw [HXE.out], by rw [HN.out]; exact below_row HS.out.2.1 (Nat.le_refl _) _⟩
        go_wp2_with (first
          | ((with_reducible refine wpList_load_all ?_ 71 (.tmp 3) ?_ HF.out ?_ Tryz.sizeKey HX.out.1 Tryz.underlying71 ?_ ?_); (with_reducible rfl); (with_reducible rfl); rfl; rfl)
          | ((with_reducible refine wpList_storeS X ?_ 71 (.tmp 2) (.tmp 43) ?_ ?_ ?_ HS.out.2.2.1 Tryz.sizeKey HX.out.1 ?_ HX.out.2 ?_); (with_reducible rfl); (with_reducible rfl); rfl; rfl; rfl)
          | ((with_reducible show bodyPost _ _ _ _ _ _); exact bodyPost_ret (ret_struct rfl rfl (HS.out.2.2.1.row _) Tryz.underlying71 rfl Tryz.sizeKey HX.out.1) rfl HFIN.out))
  · have hne : ¬ (s.size : Int) = 40 := by omega
    have HK : Hid (zKey = (keyC (keyP l)).toArray) := Lib.hid (by
      unfold keyP
      rw [if_neg (by omega)]
      rfl)
    have HFIN : Hid (Ending.returned (.agg zKey) = .returned (.agg (keyC (keyP l)).toArray) ∧ Below w.heap.size w (W0.setRow N zKey)) := Lib.hid ⟨by rw [HK.out], by rw [HN.out]; exact below_row H0.out.1 (Nat.le_refl _) _⟩
    go_wp2_with (first
      | ((with_reducible refine wpList_load_all ?_ 71 (.tmp 3) ?_ H0.out.2.2 ?_ Tryz.sizeKey ?_ Tryz.underlying71 ?_ ?_); (with_reducible rfl); (with_reducible rfl); rfl; rfl; rfl)
      | ((with_reducible refine wpList_storeS zKey ?_ 71 (.tmp 2) (.tmp 9) ?_ ?_ ?_ H0.out.2.1 Tryz.sizeKey ?_ ?_ ?_ ?_); (with_reducible rfl); (with_reducible rfl); rfl; rfl; rfl; rfl; rfl)
      | ((with_reducible show bodyPost _ _ _ _ _ _); exact bodyPost_ret (ret_struct rfl rfl (H0.out.2.1.row _) Tryz.underlying71 rfl Tryz.sizeKey rfl) rfl HFIN.out))
end Go.Proofs.YtmlapbadgjhhdaaGreatDoor
