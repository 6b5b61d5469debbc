import Derived.Test.YtlekmakofkpcdaaGreatDoorPkAttrReadsA05
import Derived.Test.YtlekmakofkpcdaaGreatDoorPkAttrReadsA10
namespace Go.Proofs.YtlekmakofkpcdaaGreatDoor
set_option linter.unusedVariables false
set_option linter.unusedSimpArgs false
def sixP (c : UInt8) : Nat := if Lib.indexByte wLetters c = -1 then 63 else (Lib.indexByte wLetters c).toNat
theorem sixP_lt (c : UInt8) : sixP c < 64 := by
 unfold sixP
 split
 · decide
 · next h =>
   have hge := Lib.indexByte_ge wLetters c
   obtain ⟨k, hk⟩ : ∃ k : Nat, Lib.indexByte wLetters c = k := ⟨(Lib.indexByte wLetters c).toNat, by omega⟩
   obtain ⟨h1, -⟩ := Lib.indexByte_some hk
   have : k < wLetters.length := (List.getElem?_eq_some_iff.1 h1).1
   rw [hk]
   exact this
set_option maxRecDepth 100000 in
theorem sixP_letter : ∀ v, v < 64 → sixP (letter v) = v := by
 decide +kernel
def num4 (a b c d : UInt8) : Nat := ((sixP a * 64 + sixP b) * 64 + sixP c) * 64 + sixP d
theorem num4_lt (a b c d : UInt8) : num4 a b c d < 16777216 := by
 have := sixP_lt a
 have := sixP_lt b
 have := sixP_lt c
 have := sixP_lt d
 unfold num4
 omega
def dec4 (a b c d : UInt8) : Tx := [UInt8.ofNat (num4 a b c d / 65536), UInt8.ofNat (num4 a b c d / 256), UInt8.ofNat (num4 a b c d)]
def decK : Tx → Tx
 | a :: b :: c :: d :: r => dec4 a b c d ++ decK r
 | _ => []
theorem u8_ne7 {n : Nat} {a : UInt8} (h : n % 256 = a.toNat) : UInt8.ofNat n = a := by
 apply UInt8.toNat_inj.1
 rw [UInt8.toNat_ofNat']
 exact h
theorem dec4_enc3 (a b c : UInt8) (r : Tx) : decK (enc3 a b c ++ r) = [a, b, c] ++ decK r := by
 have h1 := a.toNat_lt
 have h2 := b.toNat_lt
 have h3 := c.toNat_lt
 have hn := num3_lt a b c
 have e : num4 (letter (num3 a b c / 262144)) (letter (num3 a b c / 4096 % 64)) (letter (num3 a b c / 64 % 64)) (letter (num3 a b c % 64)) = num3 a b c := by
  unfold num4
  rw [sixP_letter _ (by omega), sixP_letter _ (by omega), sixP_letter _ (by omega), sixP_letter _ (by omega)]
  omega
 show dec4 (letter (num3 a b c / 262144)) (letter (num3 a b c / 4096 % 64)) (letter (num3 a b c / 64 % 64)) (letter (num3 a b c % 64)) ++ decK r = _
 unfold dec4
 rw [e, u8_ne7 (a := a) (by unfold num3; omega), u8_ne7 (a := b) (by unfold num3; omega), u8_ne7 (a := c) (by unfold num3; omega)]
theorem decK_encK : ∀ (t : Nat) (k : Tx), k.length = 3 * t → decK (encK k) = k
 | 0, k, h => by
   obtain rfl : k = [] := List.eq_nil_of_length_eq_zero (by omega)
   rfl
 | t + 1, k, h => by
   match k, h with
   | a :: b :: c :: r, h =>
     have := decK_encK t r (by simp at h; omega)
     show decK (enc3 a b c ++ encK r) = _
     rw [dec4_enc3, this]
     rfl
theorem decK_len : ∀ (t : Nat) (l : Tx), l.length = 4 * t → (decK l).length = 3 * t
 | 0, l, h => by
   obtain rfl : l = [] := List.eq_nil_of_length_eq_zero (by omega)
   rfl
 | t + 1, l, h => by
   match l, h with
   | a :: b :: c :: d :: r, h =>
     have := decK_len t r (by simp at h; omega)
     show (dec4 a b c d ++ decK r).length = _
     rw [List.length_append, this]
     show 3 + 3 * t = _
     omega
theorem decK_snoc (a b c d : UInt8) : ∀ (t : Nat) (l : Tx), l.length = 4 * t → decK (l ++ [a, b, c, d]) = decK l ++ dec4 a b c d
 | 0, l, h => by
   obtain rfl : l = [] := List.eq_nil_of_length_eq_zero (by omega)
   rfl
 | t + 1, l, h => by
   match l, h with
   | x :: y :: z :: u :: r, h =>
     have := decK_snoc a b c d t r (by simp at h; omega)
     show dec4 x y z u ++ decK (r ++ [a, b, c, d]) = (dec4 x y z u ++ decK r) ++ dec4 a b c d
     rw [this, List.append_assoc]
def keyP (l : Tx) : Tx := if l.length = 40 then decK l else List.replicate 30 0
theorem keyP_len (l : Tx) : (keyP l).length = 30 := by
 unfold keyP
 split
 · next h => exact decK_len 10 l (by omega)
 · simp
theorem keyP_enc {k : Tx} (h : k.length = 30) : keyP (encK k) = k := by
 unfold keyP
 rw [if_pos (by rw [encK_len 10 k (by omega)]), decK_encK 10 k (by omega)]
abbrev wInl : Tx := [105, 110, 108, 105, 110, 101, 58]
def cryP (l : Tx) : CryptoS := ⟨numP (hd l), keyP (Lib.trimPrefix (tl (tl l)) wInl)⟩
def rP : Rdr := ⟨numP, srcP, cryP, fun _ => 0⟩
theorem decI_le {n : Int} (h0 : 0 ≤ n) (h1 : n ≤ 1000000) : numP (decI n) = n := by
 unfold decI
 rw [numP_dec (by omega)]
 omega
theorem rP_law : rP.Law where
 num n h := numP_dec h
 src n h := srcP_dec h
 cry c h1 h9 hk := by
  have e1 : hd (cryptoT c) = decI c.tag := hd_at _ _ (decI_32 _)
  have e2 : tl (cryptoT c) = wSuite ++ 32 :: (wInl ++ encK c.key) := tl_at (decI c.tag) (wSuite ++ 32 :: (wInl ++ encK c.key)) (decI_32 _)
  have e3 : tl (tl (cryptoT c)) = wInl ++ encK c.key := by rw [e2]; exact tl_at _ _ (by decide)
  have e4 : Lib.trimPrefix (wInl ++ encK c.key) wInl = encK c.key := by
   unfold Lib.trimPrefix
   rw [if_pos (by unfold Lib.hasPrefix; simp)]
   rfl
  show cryP (cryptoT c) = c
  unfold cryP
  rw [e1, e3, e4, keyP_enc hk, decI_le (by omega) (by omega)]
 still := rfl
end Go.Proofs.YtlekmakofkpcdaaGreatDoor
namespace Go.Proofs.YtlekmakofkpcdaaGreatDoor
open Go.RowKit
set_option linter.unusedVariables false
set_option linter.unusedSimpArgs false
theorem cut_none {l : Tx} {c : UInt8} (h : Lib.indexByte l c = -1) : cutS [c] l = (l, [], false) := by
 have h1 := Lib.indexByte_none h
 exact cutS_free (c0 := c) (t := []) l (fun d hd e => by
  subst e
  obtain ⟨k, hk⟩ := List.mem_iff_getElem?.1 hd
  exact h1 k hk)
theorem cut_some {l : Tx} {c : UInt8} {k : Nat} (h : Lib.indexByte l c = k) : cutS [c] l = (l.take k, l.drop (k + 1), true) ∧ k < l.length := by
 obtain ⟨h1, h2⟩ := Lib.indexByte_some h
 have hk : k < l.length := (List.getElem?_eq_some_iff.1 h1).1
 have e : l = l.take k ++ c :: l.drop (k + 1) := by
  have h3 : l[k] = c := by rw [List.getElem?_eq_getElem hk] at h1; exact Option.some.inj h1
  rw [← h3, ← List.drop_eq_getElem_cons hk, List.take_append_drop]
 refine ⟨?_, hk⟩
 conv => lhs; rw [e]
 exact cut_at _ _ (fun d hd e2 => by
  subst e2
  obtain ⟨j, hj⟩ := List.mem_iff_getElem?.1 hd
  have hjl : j < k := by
   have := (List.getElem?_eq_some_iff.1 hj).1
   rw [List.length_take] at this
   omega
  rw [List.getElem?_take, if_pos hjl] at hj
  exact h2 j hjl hj)
set_option maxHeartbeats 800000 in
set_option maxRecDepth 10000 in
theorem slCut_any (s : ByteArray) (c : UInt8) (w : World) (hs : s.size ≤ 281474976710656) : Calls Tryz.prog 153 #[.string s, .string ⟨#[c]⟩] w fun e w' => e = .returned (.tuple #[.string (bs (cutS [c] (tx s)).1), .string (bs (cutS [c] (tx s)).2.1), .bool (cutS [c] (tx s)).2.2]) ∧ Below w.heap.size w w' := by
 have HI := Lib.hid (Tryz.stringslite_Index_one s c w)
 have hge := Lib.indexByte_ge s.data.toList c
 by_cases h : Lib.indexByte s.data.toList c = -1
 · have HC : Hid (cutS [c] (tx s) = (tx s, [], false)) := Lib.hid (cut_none h)
   rw [HC.out]
   rw [h] at HI
   clear HC h hge
   go_enter Tryz.func153, Tryz.ntmps153
   go_wp2_with (go_at_call 184; (with_reducible refine HI.out.mono ?_); rintro e w1 ⟨rfl, rfl⟩)
   go_ret3
   exact ⟨by rw [bs_tx]; rfl, Below.refl _ _⟩
 · obtain ⟨k, hk⟩ : ∃ k : Nat, Lib.indexByte s.data.toList c = k := ⟨(Lib.indexByte s.data.toList c).toNat, by omega⟩
   obtain ⟨h1, h2⟩ := cut_some (l := tx s) hk
   have HC : Hid (cutS [c] (tx s) = ((tx s).take k, (tx s).drop (k + 1), true)) := Lib.hid h1
   rw [tx_length] at h2
   rw [HC.out]
   rw [hk] at HI
   have HT : Hid (∀ a b : ByteArray, a = s.extract 0 k → b = s.extract (k + 1) s.size → Ending.returned (.tuple #[.string a, .string b, .bool true]) = .returned (.tuple #[.string (bs ((tx s).take k)), .string (bs ((tx s).drop (k + 1))), .bool true])) := Lib.hid fun a b ha hb => by
    have e1 : a = bs ((tx s).take k) := tx_inj (by rw [ha, tx_extract, tx_bs, List.drop_zero, Nat.sub_zero])
    have e2 : b = bs ((tx s).drop (k + 1)) := tx_inj (by rw [hb, tx_extract, tx_bs, List.take_of_length_le (by rw [List.length_drop, tx_length]; exact Nat.le_refl _)])
    rw [e1, e2]
   have hk0 : (0 : Int) ≤ (k : Int) := by omega
   have hk1 : (k : Int) < (s.size : Int) := by omega
   have hk2 : (k : Int) + 1 ≤ (s.size : Int) := by omega
   have hkw : IntKind.i64.wrap ((k : Int) + 1) = ((k + 1 : Nat) : Int) := (IntWalk.i64_in _ (by omega)).trans (by omega)
   have hk3 : ((k + 1 : Nat) : Int) ≤ (s.size : Int) := by omega
   have hk4 : (0 : Int) ≤ ((k + 1 : Nat) : Int) := by omega
   have hk5 : k ≤ s.size := by omega
   have hk6 : k + 1 ≤ s.size := by omega
   clear HC h hge hk h1
   go_enter Tryz.func153, Tryz.ntmps153
   go_upto_region 3 with (go_at_call 184; (with_reducible refine HI.out.mono ?_); rintro e w1 ⟨rfl, rfl⟩)
   go_quiet (fail)
   go_wp2
   go_ret3
   exact ⟨HT.out _ _ rfl rfl, below_drewN' (Below.refl _ _) _⟩
set_option maxHeartbeats 800000 in
theorem cut1_any (s : ByteArray) (c : UInt8) (w : World) (hs : s.size ≤ 281474976710656) : Calls Tryz.prog 95 #[.string s, .string ⟨#[c]⟩] w fun e w' => e = .returned (.tuple #[.string (bs (cutS [c] (tx s)).1), .string (bs (cutS [c] (tx s)).2.1), .bool (cutS [c] (tx s)).2.2]) ∧ Below w.heap.size w w' := by
 have HC := Lib.hid (slCut_any s c w hs)
 generalize bs (cutS [c] (tx s)).1 = a at *
 generalize bs (cutS [c] (tx s)).2.1 = b at *
 generalize (cutS [c] (tx s)).2.2 = f at *
 go_enter Tryz.func95, Tryz.ntmps95
 go_wp2_with (go_at_call 153; (with_reducible refine HC.out.mono ?_); rintro e w1 ⟨rfl, hb1⟩)
 go_ret3
 exact ⟨rfl, hb1⟩
set_option maxHeartbeats 800000 in
theorem cutc_any (s : ByteArray) (w : World) (hs : s.size ≤ 281474976710656) : Calls Tryz.prog 68 #[.string s] w fun e w' => e = .returned (.tuple #[.string (bs (hd (tx s))), .string (bs (tl (tx s)))]) ∧ Below w.heap.size w w' := by
 have HC := Lib.hid (cut1_any s 32 w hs)
 have e1 : (cutS [32] (tx s)).1 = hd (tx s) := rfl
 have e2 : (cutS [32] (tx s)).2.1 = tl (tx s) := rfl
 rw [e1, e2] at HC
 clear e1 e2
 generalize bs (hd (tx s)) = a at *
 generalize bs (tl (tx s)) = b at *
 generalize (cutS [32] (tx s)).2.2 = f at *
 go_enter Tryz.func68, Tryz.ntmps68
 go_wp2_with (go_at_call 95; (with_reducible refine HC.out.mono ?_); rintro e w1 ⟨rfl, hb1⟩)
 go_ret2
 exact ⟨rfl, hb1⟩
theorem and63_u32 (x : Int) (v : Nat) (h0 : 0 ≤ x) (h1 : x < 4294967296) (hv : x.toNat % 64 = v) : bits BinOp.and IntKind.u32 x 63 = ((v : Nat) : Int) := by
 obtain ⟨n, rfl⟩ := Int.eq_ofNat_of_zero_le h0
 have h := u32_and_nat n 63 (by omega) (by omega)
 rw [and63] at h
 rw [← hv]
 exact h
theorem isB_lt {T e : TypeId} {B b : Nat} {l : List Value} {w : World} (h : Lib.IsBuilder T e B b l w) : b < w.heap.size := by
 rcases h with h | h <;> exact h.lt
theorem bytes_snoc (l : Tx) (c : UInt8) : Lib.byteCells l ++ [.int .u8 (c.toNat : Int)] = Lib.byteCells (l ++ [c]) := by simp [Lib.byteCells]
set_option maxHeartbeats 6400000 in
set_option maxRecDepth 100000 in
theorem writeKey_any (k : Tx) (w : World) (hk : k.length = 30) :
 Calls Tryz.prog 84 #[.agg (keyC k).toArray] w fun e w' => e = .returned (.string (bs (encK k))) ∧ Below w.heap.size w w' := by
 obtain ⟨N, hN⟩ : ∃ N, w.heap.size = N := ⟨_, rfl⟩
 have HKX : Hid (Whole ((w.alloc (.cells (keyC k).toArray 80)).alloc (.cells #[.pointer none, .slice none 0 0] 185)) N 80 (keyC k).toArray) := Lib.hid (by rw [← hN]; exact (Whole.new w _ _).alloc _)
 have HBX : Hid (Lib.IsBuilder 185 5 (N + 1) (N + 1) (Lib.byteCells []) ((w.alloc (.cells (keyC k).toArray 80)).alloc (.cells #[.pointer none, .slice none 0 0] 185))) := Lib.hid (.inl ⟨by omega, .slice none 0 0, by
  have := Whole.new2 w (.cells (keyC k).toArray 80) 185 #[.pointer none, .slice none 0 0]
  rw [hN] at this
  exact this, World.ownsRow_nil _ _ _ _, by simp [Value.ownBlock]⟩)
 have HB : Hid (Below N w ((w.alloc (.cells (keyC k).toArray 80)).alloc (.cells #[.pointer none, .slice none 0 0] 185))) := Lib.hid (by rw [← hN]; exact two_new _ _ _ _)
 rw [hN]
 go_enter Tryz.func84, Tryz.ntmps84
 go_upto_region 2 with fail
 generalize ((w.alloc (.cells (keyC k).toArray 80)).alloc (.cells #[.pointer none, .slice none 0 0] 185)) = W0 at *
 clear hN
 go_wp2
 go_loopw [4] (fun s4 wr => ∃ t : Nat, t ≤ 10 ∧ s4 = .int .i64 ((3 * t : Nat) : Int) ∧ (Lib.IsBuilder 185 5 (N + 1) (N + 1) (Lib.byteCells (encK (k.take (3 * t)))) wr ∧ Whole wr N 80 (keyC k).toArray ∧ Below N w wr)) (fun s4 _ => 30 - (intOf s4).toNat)
 case atStart => exact ⟨0, by omega, rfl, HBX.out, HKX.out, HB.out⟩
 case round =>
  obtain ⟨t, ht, rfl, hst⟩ := hrel
  have HS := Lib.hid hst
  clear hst
  by_cases hlt : t < 10
  · obtain ⟨a, b, c, hA, hBB, hC, hTK⟩ : ∃ a b c : UInt8, k[3 * t]? = some a ∧ k[3 * t + 1]? = some b ∧ k[3 * t + 2]? = some c ∧ encK (k.take (3 * (t + 1))) = encK (k.take (3 * t)) ++ enc3 a b c := encK_step hk hlt
    obtain ⟨i, hi⟩ : ∃ i, 3 * t = i := ⟨_, rfl⟩
    have HTI := Lib.hid hi
    rw [hi] at hA hBB hC
    simp only [hi]
    have hi1 : (i : Int) < 30 := by omega
    have hi0 : (0 : Int) ≤ (i : Int) := by omega
    have e1 : IntKind.i64.wrap ((i : Int) + 1) = ((i + 1 : Nat) : Int) := (IntWalk.i64_in _ (by omega)).trans (by omega)
    have e2 : IntKind.i64.wrap ((i : Int) + 2) = ((i + 2 : Nat) : Int) := (IntWalk.i64_in _ (by omega)).trans (by omega)
    have b1 : ((i + 1 : Nat) : Int) < 30 := by omega
    have b2 : ((i + 2 : Nat) : Int) < 30 := by omega
    have b3 : (0 : Int) ≤ ((i + 1 : Nat) : Int) := by omega
    have b4 : (0 : Int) ≤ ((i + 2 : Nat) : Int) := by omega
    have d0 : wr.cell? ⟨N, i, none⟩ = some (.int .u8 (a.toNat : Int)) := (HS.out.2.1.cell _).trans (by simp [keyC, hA])
    have d1 : wr.cell? ⟨N, i + 1, none⟩ = some (.int .u8 (b.toNat : Int)) := (HS.out.2.1.cell _).trans (by simp [keyC, hBB])
    have d2 : wr.cell? ⟨N, i + 2, none⟩ = some (.int .u8 (c.toNat : Int)) := (HS.out.2.1.cell _).trans (by simp [keyC, hC])
    clear hi
    go_upto_region 5 with fail
    go_quiet (fail)
    rw [or3_u32 a b c]
    have HNL : Hid (num3 a b c < 16777216) := Lib.hid (num3_lt a b c)
    have HEN : Hid (enc3 a b c = [letter (num3 a b c / 262144), letter (num3 a b c / 4096 % 64), letter (num3 a b c / 64 % 64), letter (num3 a b c % 64)]) := Lib.hid rfl
    have HBS : Hid (Lib.IsBuilder 185 5 (N + 1) (N + 1) (Lib.byteCells (encK (k.take (3 * t)))) (wr.drewN nq) ∧ Whole (wr.drewN nq) N 80 (keyC k).toArray ∧ Below N w (wr.drewN nq)) := Lib.hid ⟨HS.out.1, HS.out.2.1, below_drewN' HS.out.2.2 _⟩
    have HSZ : Hid ((encK (k.take (3 * t))).length = 4 * t) := Lib.hid (encK_len t _ (by rw [List.length_take]; omega))
    obtain ⟨E, hE⟩ : ∃ E, encK (k.take (3 * t)) = E := ⟨_, rfl⟩
    rw [hE] at HBS HSZ hTK
    have HTK := Lib.hid hTK
    clear hTK hE d0 d1 d2 hA hBB hC
    generalize wr.drewN nq = wx at *
    generalize num3 a b c = n at *
    go_wp2
    go_loopw [30] (fun sp wq => ∃ p : Nat, p ≤ 4 ∧ sp = .int .i64 (p : Int) ∧ (Lib.IsBuilder 185 5 (N + 1) (N + 1) (Lib.byteCells (E ++ (enc3 a b c).take p)) wq ∧ Whole wq N 80 (keyC k).toArray ∧ Below N w wq)) (fun sp _ => 4 - (intOf sp).toNat)
    case atStart => exact ⟨0, by omega, rfl, by simpa using HBS.out.1, HBS.out.2.1, HBS.out.2.2⟩
    case round =>
     obtain ⟨p, hp, rfl, hst⟩ := hrel
     have HI := Lib.hid hst
     clear hst
     have HNQ : Hid (N + 1 ≤ wr.heap.size) := Lib.hid (Nat.le_of_lt (isB_lt HI.out.1))
     have hn := HNL.out
     have hp4 : p = 4 ∨ p = 0 ∨ p = 1 ∨ p = 2 ∨ p = 3 := by omega
     rcases hp4 with rfl | rfl | rfl | rfl | rfl
     · have HFE : Hid (encK (k.take (3 * (t + 1))) = E ++ (enc3 a b c).take 4) := Lib.hid (by rw [HTK.out, HEN.out]; rfl)
       go_wp2
       go_roundw
       case rel =>
        have hti := HTI.out
        exact ⟨t + 1, by omega, by go_num, by rw [HFE.out]; exact HI.out.1, HI.out.2.1, HI.out.2.2⟩
       case measure => simp [intOf]; omega
     · have hv : bits BinOp.and IntKind.u32 ((n : Int) / 262144) 63 = ((n / 262144 : Nat) : Int) := and63_u32 _ _ (by omega) (by omega) (by omega)
       obtain ⟨v, hvv⟩ : ∃ v : Nat, n / 262144 = v := ⟨_, rfl⟩
       rw [hvv] at hv
       have hv64 : v < 64 := by omega
       have hvi : (v : Int) < 64 := by omega
       have hv0 : (0 : Int) ≤ (v : Int) := by omega
       have HTAKE : Hid ((enc3 a b c).take (0 + 1) = (enc3 a b c).take 0 ++ [letter v]) := Lib.hid (by rw [HEN.out, ← hvv]; rfl)
       have HLV : Hid (∀ h : v < letS.size, letS[v]'h = letter v) := Lib.hid (letS_at v)
       have HWB : Hid (∀ c' : Int, Calls Tryz.prog 139 #[.pointer (some ⟨N + 1, 0, none⟩), .int .u8 c'] wr fun e w' => e = .returned .nilIface ∧ (Lib.IsBuilder 185 5 (N + 1) (N + 1) (Lib.byteCells (E ++ (enc3 a b c).take 0) ++ [.int .u8 c']) w' ∧ Below (N + 1) wr w')) := Lib.hid fun c' => writeByte_any (N + 1) (N + 1) _ c' wr HI.out.1 (by
        rw [Lib.byteCells_length, List.length_append, HSZ.out]
        have := List.length_take_le 0 (enc3 a b c)
        omega) HNQ.out
       clear hvv
       go_wp2_with (go_at_call 139; (refine (HWB.out _).mono ?_); rintro e w2 ⟨rfl, hb2, hb3⟩)
       go_roundw
       case rel =>
        refine ⟨0 + 1, by omega, by go_num, ?_, HI.out.2.1.below hb3 (Nat.lt_succ_self N), HI.out.2.2.trans (hb3.mono (Nat.le_succ N))⟩
        have e1 := HLV.out (by rw [letS_size]; exact hv64)
        rw [HTAKE.out, ← List.append_assoc, ← bytes_snoc, ← e1]
        exact hb2
       case measure => simp [intOf]
     · have hv : bits BinOp.and IntKind.u32 ((n : Int) / 4096) 63 = ((n / 4096 % 64 : Nat) : Int) := and63_u32 _ _ (by omega) (by omega) (by omega)
       obtain ⟨v, hvv⟩ : ∃ v : Nat, n / 4096 % 64 = v := ⟨_, rfl⟩
       rw [hvv] at hv
       have hv64 : v < 64 := by omega
       have hvi : (v : Int) < 64 := by omega
       have hv0 : (0 : Int) ≤ (v : Int) := by omega
       have HTAKE : Hid ((enc3 a b c).take (1 + 1) = (enc3 a b c).take 1 ++ [letter v]) := Lib.hid (by rw [HEN.out, ← hvv]; rfl)
       have HLV : Hid (∀ h : v < letS.size, letS[v]'h = letter v) := Lib.hid (letS_at v)
       have HWB : Hid (∀ c' : Int, Calls Tryz.prog 139 #[.pointer (some ⟨N + 1, 0, none⟩), .int .u8 c'] wr fun e w' => e = .returned .nilIface ∧ (Lib.IsBuilder 185 5 (N + 1) (N + 1) (Lib.byteCells (E ++ (enc3 a b c).take 1) ++ [.int .u8 c']) w' ∧ Below (N + 1) wr w')) := Lib.hid fun c' => writeByte_any (N + 1) (N + 1) _ c' wr HI.out.1 (by
        rw [Lib.byteCells_length, List.length_append, HSZ.out]
        have := List.length_take_le 1 (enc3 a b c)
        omega) HNQ.out
       clear hvv
       go_wp2_with (go_at_call 139; (refine (HWB.out _).mono ?_); rintro e w2 ⟨rfl, hb2, hb3⟩)
       go_roundw
       case rel =>
        refine ⟨1 + 1, by omega, by go_num, ?_, HI.out.2.1.below hb3 (Nat.lt_succ_self N), HI.out.2.2.trans (hb3.mono (Nat.le_succ N))⟩
        have e1 := HLV.out (by rw [letS_size]; exact hv64)
        rw [HTAKE.out, ← List.append_assoc, ← bytes_snoc, ← e1]
        exact hb2
       case measure => simp [intOf]
     · have hv : bits BinOp.and IntKind.u32 ((n : Int) / 64) 63 = ((n / 64 % 64 : Nat) : Int) := and63_u32 _ _ (by omega) (by omega) (by omega)
       obtain ⟨v, hvv⟩ : ∃ v : Nat, n / 64 % 64 = v := ⟨_, rfl⟩
       rw [hvv] at hv
       have hv64 : v < 64 := by omega
       have hvi : (v : Int) < 64 := by omega
       have hv0 : (0 : Int) ≤ (v : Int) := by omega
       have HTAKE : Hid ((enc3 a b c).take (2 + 1) = (enc3 a b c).take 2 ++ [letter v]) := Lib.hid (by rw [HEN.out, ← hvv]; rfl)
       have HLV : Hid (∀ h : v < letS.size, letS[v]'h = letter v) := Lib.hid (letS_at v)
       have HWB : Hid (∀ c' : Int, Calls Tryz.prog 139 #[.pointer (some ⟨N + 1, 0, none⟩), .int .u8 c'] wr fun e w' => e = .returned .nilIface ∧ (Lib.IsBuilder 185 5 (N + 1) (N + 1) (Lib.byteCells (E ++ (enc3 a b c).take 2) ++ [.int .u8 c']) w' ∧ Below (N + 1) wr w')) := Lib.hid fun c' => writeByte_any (N + 1) (N + 1) _ c' wr HI.out.1 (by
        rw [Lib.byteCells_length, List.length_append, HSZ.out]
        have := List.length_take_le 2 (enc3 a b c)
        omega) HNQ.out
       clear hvv
       go_wp2_with (go_at_call 139; (refine (HWB.out _).mono ?_); rintro e w2 ⟨rfl, hb2, hb3⟩)
       go_roundw
       case rel =>
        refine ⟨2 + 1, by omega, by go_num, ?_, HI.out.2.1.below hb3 (Nat.lt_succ_self N), HI.out.2.2.trans (hb3.mono (Nat.le_succ N))⟩
        have e1 := HLV.out (by rw [letS_size]; exact hv64)
        rw [HTAKE.out, ← List.append_assoc, ← bytes_snoc, ← e1]
        exact hb2
       case measure => simp [intOf]
     · have hv : bits BinOp.and IntKind.u32 (n : Int) 63 = ((n % 64 : Nat) : Int) := and63_u32 _ _ (by omega) (by omega) (by omega)
       obtain ⟨v, hvv⟩ : ∃ v : Nat, n % 64 = v := ⟨_, rfl⟩
       rw [hvv] at hv
       have hv64 : v < 64 := by omega
       have hvi : (v : Int) < 64 := by omega
       have hv0 : (0 : Int) ≤ (v : Int) := by omega
       have HTAKE : Hid ((enc3 a b c).take (3 + 1) = (enc3 a b c).take 3 ++ [letter v]) := Lib.hid (by rw [HEN.out, ← hvv]; rfl)
       have HLV : Hid (∀ h : v < letS.size, letS[v]'h = letter v) := Lib.hid (letS_at v)
       have HWB : Hid (∀ c' : Int, Calls Tryz.prog 139 #[.pointer (some ⟨N + 1, 0, none⟩), .int .u8 c'] wr fun e w' => e = .returned .nilIface ∧ (Lib.IsBuilder 185 5 (N + 1) (N + 1) (Lib.byteCells (E ++ (enc3 a b c).take 3) ++ [.int .u8 c']) w' ∧ Below (N + 1) wr w')) := Lib.hid fun c' => writeByte_any (N + 1) (N + 1) _ c' wr HI.out.1 (by
        rw [Lib.byteCells_length, List.length_append, HSZ.out]
        have := List.length_take_le 3 (enc3 a b c)
        omega) HNQ.out
       clear hvv
       go_wp2_with (go_at_call 139; (refine (HWB.out _).mono ?_); rintro e w2 ⟨rfl, hb2, hb3⟩)
       go_roundw
       case rel =>
        refine ⟨3 + 1, by omega, by go_num, ?_, HI.out.2.1.below hb3 (Nat.lt_succ_self N), HI.out.2.2.trans (hb3.mono (Nat.le_succ N))⟩
        have e1 := HLV.out (by rw [letS_size]; exact hv64)
        rw [HTAKE.out, ← List.append_assoc, ← bytes_snoc, ← e1]
        exact hb2
       case measure => simp [intOf]
  · have e : t = 10 := by omega
    subst e
    have HFE : Hid (encK (k.take (3 * 10)) = encK k) := Lib.hid (by rw [List.take_of_length_le (by omega)])
    have HST : Hid (Calls Tryz.prog 140 #[.pointer (some ⟨N + 1, 0, none⟩)] wr fun e w' => e = .returned (.string (bs (encK k))) ∧ Below (N + 1) wr w') := Lib.hid (by
     have := Tryz.Builder_String_any (N + 1) (N + 1) (encK (k.take (3 * 10))) wr HS.out.1 (Nat.le_of_lt (isB_lt HS.out.1))
     rw [HFE.out] at this
     exact this)
    go_wp2_with (go_at_call 140; (with_reducible refine HST.out.mono ?_); rintro e w2 ⟨rfl, hb2⟩)
    go_ret
    exact ⟨rfl, HS.out.2.2.trans (hb2.mono (Nat.le_succ N))⟩
abbrev zKey : Array Value := #[.int .u8 0, .int .u8 0, .int .u8 0, .int .u8 0, .int .u8 0, .int .u8 0, .int .u8 0, .int .u8 0, .int .u8 0, .int .u8 0, .int .u8 0, .int .u8 0, .int .u8 0, .int .u8 0, .int .u8 0, .int .u8 0, .int .u8 0, .int .u8 0, .int .u8 0, .int .u8 0, .int .u8 0, .int .u8 0, .int .u8 0, .int .u8 0, .int .u8 0, .int .u8 0, .int .u8 0, .int .u8 0, .int .u8 0, .int .u8 0]
def pre4 (l : Tx) : Nat := l.foldl (fun n c => n * 64 + sixP c) 0
theorem pre4_snoc (l : Tx) (c : UInt8) : pre4 (l ++ [c]) = pre4 l * 64 + sixP c := by unfold pre4; rw [List.foldl_append]; rfl
theorem pre_lt : ∀ (l : Tx) (acc B : Nat), acc < B → l.foldl (fun n c => n * 64 + sixP c) acc < B * 64 ^ l.length
 | [], acc, B, h => by simpa using h
 | c :: r, acc, B, h => by
   have hc := sixP_lt c
   have := pre_lt r (acc * 64 + sixP c) (B * 64) (by omega)
   rw [List.length_cons, Nat.pow_succ, Nat.mul_comm (64 ^ r.length) 64, ← Nat.mul_assoc]
   exact this
theorem pre4_lt (l : Tx) : pre4 l < 64 ^ l.length := by
 have := pre_lt l 0 1 (by decide)
 rw [Nat.one_mul] at this
 exact this
theorem six_u32 (c : UInt8) : bits BinOp.and IntKind.u32 (Lib.indexByte wLetters c % 4294967296) 63 = ((sixP c : Nat) : Int) := by
 unfold sixP
 by_cases h : Lib.indexByte wLetters c = -1
 · rw [h, if_pos rfl]
   exact and63_u32 4294967295 63 (by decide) (by decide) (by decide)
 · have hlt := sixP_lt c
   unfold sixP at hlt
   rw [if_neg h] at hlt ⊢
   have hge := Lib.indexByte_ge wLetters c
   obtain ⟨k, hk⟩ : ∃ k : Nat, Lib.indexByte wLetters c = k := ⟨(Lib.indexByte wLetters c).toNat, by omega⟩
   rw [hk] at hlt ⊢
   have hk64 : k < 64 := by simpa using hlt
   rw [show ((k : Nat) : Int) % 4294967296 = ((k : Nat) : Int) by omega]
   exact and63_u32 k _ (by omega) (by omega) (by simp; omega)
theorem step_u32 (x : Nat) (hx : x < 262144) (c : UInt8) : bits BinOp.or IntKind.u32 ((x : Int) * 64 % 4294967296) (bits BinOp.and IntKind.u32 (Lib.indexByte wLetters c % 4294967296) 63) = ((x * 64 + sixP c : Nat) : Int) := by
 have hc := sixP_lt c
 rw [six_u32, show (x : Int) * 64 % 4294967296 = ((x * 64 : Nat) : Int) by omega, u32_or_nat _ _ (by omega) (by omega)]
 have := nat_or x (sixP c) 6 (by simpa using hc)
 rw [show (2 : Nat) ^ 6 = 64 by decide] at this
 rw [this]
theorem key_set (A : Tx) (k : Nat) (x y z : UInt8) :
 (((keyC (A ++ List.replicate (k + 3) 0)).toArray.setIfInBounds A.length (.int .u8 (x.toNat : Int))).setIfInBounds (A.length + 1) (.int .u8 (y.toNat : Int))).setIfInBounds (A.length + 2) (.int .u8 (z.toNat : Int)) = (keyC (A ++ [x, y, z] ++ List.replicate k 0)).toArray := by
 have e : keyC (A ++ List.replicate (k + 3) 0) = keyC A ++ (.int .u8 0 :: .int .u8 0 :: .int .u8 0 :: keyC (List.replicate k 0)) := by
  unfold keyC
  rw [List.map_append, List.replicate_succ, List.replicate_succ, List.replicate_succ]
  rfl
 have hl : (keyC A).length = A.length := by simp [keyC]
 rw [e, List.setIfInBounds_toArray, List.setIfInBounds_toArray, List.setIfInBounds_toArray]
 congr 1
 rw [← hl, List.set_append_right _ _ (Nat.le_refl _), List.set_append_right _ _ (by omega), List.set_append_right _ _ (by omega)]
 rw [Nat.sub_self, show (keyC A).length + 1 - (keyC A).length = 1 by omega, show (keyC A).length + 2 - (keyC A).length = 2 by omega]
 unfold keyC
 simp
set_option maxHeartbeats 3200000 in
set_option maxRecDepth 100000 in
theorem readKey_any (s : ByteArray) (w : World) (hs : s.size ≤ 281474976710656) : Calls Tryz.prog 175 #[.string s] w fun e w' => e = .returned (.agg (keyC (keyP (tx s))).toArray) ∧ Below w.heap.size w w' := by
 have hb0 : Below w.heap.size w ((w.alloc (.cells zKey 80)).alloc (.cells zKey 80)) := two_new _ _ _ _
 have hr := (Whole.new w 80 zKey).alloc (.cells zKey 80)
 have hk := Whole.new2 w (.cells zKey 80) 80 zKey
 obtain ⟨N, hN⟩ : ∃ N, w.heap.size = N := ⟨_, rfl⟩
 have HN := Lib.hid hN
 have H0 := Lib.hid (And.intro hb0 (And.intro hr hk))
 rw [hN] at H0
 clear hN hb0 hr hk
 obtain ⟨l, hl⟩ : ∃ l, tx s = l := ⟨_, rfl⟩
 have HTS := Lib.hid hl
 have hlen : l.length = s.size := by rw [← hl, tx_length]
 rw [hl]
 clear hl
 go_enter Tryz.func175, Tryz.ntmps175
 go_upto_region 2 with fail
 simp only [HN.out]
 generalize (w.alloc (.cells zKey 80)).alloc (.cells zKey 80) = W0 at *
 by_cases h40 : s.size = 40
 · have h40i : (s.size : Int) = 40 := by omega
   have HL : Hid (l.length = 40) := Lib.hid (by omega)
   clear hlen
   have HKP : Hid (keyP l = decK l) := Lib.hid (by unfold keyP; rw [if_pos HL.out])
   have HIX : Hid (∀ (c : UInt8) W, Calls Tryz.prog 201 #[.string letS, .int .u8 (c.toNat : Int)] W fun e w' => e = .returned (.int .i64 (Lib.indexByte wLetters c)) ∧ w' = W) := Lib.hid fun c W => by
    have := Tryz.strings_IndexByte letS (c.toNat : Int) W
    rw [show ((c.toNat : Int).toNat.toUInt8) = c by simp] at this
    exact this
   go_wp2
   go_loopw [4, 0, 5] (fun s4 s0 _ wr => ∃ (t : Nat) (r : ByteArray), t ≤ 10 ∧ s4 = .int .i64 ((3 * t : Nat) : Int) ∧ s0 = .string r ∧ (tx r = l.drop (4 * t) ∧ Below N w wr ∧ Whole wr N 80 zKey ∧ Whole wr (N + 1) 80 (keyC (decK (l.take (4 * t)) ++ List.replicate (30 - 3 * t) 0)).toArray)) (fun s4 _ _ _ => 30 - (intOf s4).toNat)
   case atStart => exact ⟨0, s, by omega, rfl, rfl, HTS.out, H0.out.1, H0.out.2.1, H0.out.2.2⟩
   case round =>
    obtain ⟨t, r, ht, rfl, rfl, hst⟩ := hrel
    have HS := Lib.hid hst
    clear hst
    by_cases hlt : t < 10
    · obtain ⟨i, hi⟩ : ∃ i, 3 * t = i := ⟨_, rfl⟩
      have HTI := Lib.hid hi
      simp only [hi]
      have hi1 : (i : Int) < 30 := by omega
      have hi0 : (0 : Int) ≤ (i : Int) := by omega
      clear hi
      generalize wr = wo at *
      go_wp2
      go_loopw [14, 5, 0] (fun s14 s5 s0 wq => ∃ (p : Nat) (r : ByteArray), p ≤ 4 ∧ s14 = .int .i64 p ∧ s5 = .int .u32 (pre4 ((l.drop (4 * t)).take p) : Nat) ∧ s0 = .string r ∧ (tx r = l.drop (4 * t + p) ∧ wq = wo)) (fun s14 _ _ _ => 4 - (intOf s14).toNat)
      case atStart => exact ⟨0, r, by omega, rfl, rfl, rfl, HS.out.1, rfl⟩
      case round =>
       obtain ⟨p, r, hp, rfl, rfl, rfl, hst⟩ := hrel
       obtain ⟨hst, rfl⟩ := hst
       have HI := Lib.hid (And.intro hst True.intro)
       clear hst
       by_cases hlp : p < 4
       · have hrl : r.size = 40 - (4 * t + p) := by rw [← tx_length, HI.out.1, List.length_drop, HL.out]
         have hr0 : 0 < r.size := by omega
         have hr0i : (0 : Int) < (r.size : Int) := by omega
         have hr1 : (1 : Int) ≤ (r.size : Int) := by omega
         have hr2 : 1 ≤ r.size := by omega
         have hp0 : (p : Int) < 4 := by omega
         obtain ⟨x, hx⟩ : ∃ x, pre4 ((l.drop (4 * t)).take p) = x := ⟨_, rfl⟩
         simp only [hx]
         have HX := Lib.hid hx
         have HRL := Lib.hid hrl
         have HXL : Hid (x < 262144) := Lib.hid (by
          rw [← hx]
          have h1 := pre4_lt ((l.drop (4 * t)).take p)
          have h2 : 64 ^ ((l.drop (4 * t)).take p).length ≤ 64 ^ 3 := Nat.pow_le_pow_right (by decide) (by have := List.length_take_le p (l.drop (4 * t)); omega)
          have h3 : (64 : Nat) ^ 3 = 262144 := by decide
          omega)
         have HPX : Hid (∀ h : 0 < r.size, pre4 ((l.drop (4 * t)).take (p + 1)) = x * 64 + sixP (r[0]'h)) := Lib.hid fun h => by
          have h1 : (l.drop (4 * t))[p]? = some (r[0]'h) := by
           have h2 : (tx r)[0]? = some (r[0]'h) := by
            rw [List.getElem?_eq_getElem (by rw [tx_length]; exact h)]
            rfl
           rw [HI.out.1, List.getElem?_drop] at h2
           rw [List.getElem?_drop]
           exact h2
          rw [List.take_add_one, h1, ← hx]
          exact pre4_snoc _ _
         clear hx hrl
         go_wp2_with (go_at_call 201; (refine (HIX.out _ _).mono ?_); rintro e w3 ⟨rfl, rfl⟩; dsimp only)
         go_roundw
         case rel =>
          refine ⟨p + 1, _, by omega, by go_num, ?_, rfl, ?_, trivial⟩
          · rw [step_u32 x HXL.out, HPX.out hr0]
          · rw [tx_extract, HI.out.1, List.drop_drop, List.take_of_length_le (by rw [List.length_drop, HL.out]; have := HRL.out; omega)]
            rfl
         case measure => simp [intOf]; omega
       · have e : p = 4 := by omega
         subst e
         obtain ⟨a, b, c, d, habcd⟩ : ∃ a b c d : UInt8, (l.drop (4 * t)).take 4 = [a, b, c, d] := by
          have h4 : ((l.drop (4 * t)).take 4).length = 4 := by rw [List.length_take, List.length_drop, HL.out]; omega
          match (l.drop (4 * t)).take 4, h4 with
          | [a, b, c, d], _ => exact ⟨a, b, c, d, rfl⟩
         have HD : Hid (decK (l.take (4 * (t + 1))) = decK (l.take (4 * t)) ++ dec4 a b c d) := Lib.hid (by
          rw [show 4 * (t + 1) = 4 * t + 4 by omega, List.take_add, habcd, decK_snoc a b c d t _ (by rw [List.length_take, HL.out]; omega)])
         have HN4 : Hid (pre4 [a, b, c, d] = num4 a b c d) := Lib.hid (by
          unfold pre4 num4
          simp)
         rw [habcd, HN4.out]
         have HLT := Lib.hid (num4_lt a b c d)
         have HD4 : Hid (dec4 a b c d = [UInt8.ofNat (num4 a b c d / 65536), UInt8.ofNat (num4 a b c d / 256), UInt8.ofNat (num4 a b c d)]) := Lib.hid rfl
         obtain ⟨n, hn⟩ : ∃ n, num4 a b c d = n := ⟨_, rfl⟩
         simp only [hn] at HLT HD4 ⊢
         clear habcd hn HN4
         have hn0 := HLT.out
         obtain ⟨A, hA⟩ : ∃ A, decK (l.take (4 * t)) = A := ⟨_, rfl⟩
         have HAL : Hid (A.length = i) := Lib.hid (by rw [← hA, decK_len t _ (by rw [List.length_take, HL.out]; omega)]; exact HTI.out)
         rw [hA] at HD
         obtain ⟨k, hk⟩ : ∃ k, 30 - 3 * t = k + 3 := ⟨27 - 3 * t, by omega⟩
         have HS4 : Hid (Whole wr (N + 1) 80 (keyC (A ++ List.replicate (k + 3) 0)).toArray) := Lib.hid (by have := HS.out.2.2.2; rw [hA, hk] at this; exact this)
         have HK : Hid (30 - 3 * (t + 1) = k) := Lib.hid (by omega)
         clear hA hk
         have hz : ∀ j, j < 3 → (keyC (A ++ List.replicate (k + 3) 0)).toArray[i + j]? = some (.int .u8 0) := fun j hj => by
          rw [List.getElem?_toArray]
          unfold keyC
          rw [List.getElem?_map, List.getElem?_append_right (by rw [HAL.out]; omega), HAL.out, List.getElem?_replicate, if_pos (by omega)]
          rfl
         have d0 : wr.cell? ⟨N + 1, i, none⟩ = some (.int .u8 0) := (HS4.out.cell i).trans (hz 0 (by decide))
         have d1 : wr.cell? ⟨N + 1, i + 1, none⟩ = some (.int .u8 0) := (HS4.out.cell (i + 1)).trans (hz 1 (by decide))
         have d2 : wr.cell? ⟨N + 1, i + 2, none⟩ = some (.int .u8 0) := (HS4.out.cell (i + 2)).trans (hz 2 (by decide))
         have fz := HS4.out.frz
         have hi27 : (i : Int) + 2 < 30 := by have := HTI.out; omega
         have e1 : IntKind.i64.wrap ((i : Int) + 1) = ((i + 1 : Nat) : Int) := (IntWalk.i64_in _ (by omega)).trans (by omega)
         have e2 : IntKind.i64.wrap ((i : Int) + 2) = ((i + 2 : Nat) : Int) := (IntWalk.i64_in _ (by omega)).trans (by omega)
         have b1 : ((i + 1 : Nat) : Int) < 30 := by omega
         have b2 : ((i + 2 : Nat) : Int) < 30 := by omega
         have b3 : (0 : Int) ≤ ((i + 1 : Nat) : Int) := by omega
         have b4 : (0 : Int) ≤ ((i + 2 : Nat) : Int) := by omega
         clear hz
         have HRN : Hid (tx r = l.drop (4 * (t + 1))) := Lib.hid HI.out.1
         have HV : Hid ((n : Int) / 65536 = ((UInt8.ofNat (n / 65536)).toNat : Int) ∧ (n : Int) / 256 % 256 = ((UInt8.ofNat (n / 256)).toNat : Int) ∧ (n : Int) % 256 = ((UInt8.ofNat n).toNat : Int)) := Lib.hid (by
          simp only [UInt8.toNat_ofNat']
          omega)
         have HKS := Lib.hid (key_set A k (UInt8.ofNat (n / 65536)) (UInt8.ofNat (n / 256)) (UInt8.ofNat n))
         go_wp2
         go_roundw
         case rel =>
          refine ⟨t + 1, r, by omega, by have := HTI.out; go_num, rfl, HRN.out, ?_, ?_, ?_⟩
          · exact ((HS.out.2.1.setCell (p := ⟨N + 1, i, none⟩) (Nat.le_succ N) _).setCell (p := ⟨N + 1, i + 1, none⟩) (Nat.le_succ N) _).setCell (p := ⟨N + 1, i + 2, none⟩) (Nat.le_succ N) _
          · exact ((HS.out.2.2.1.far (p := ⟨N + 1, i, none⟩) (Nat.ne_of_lt (Nat.lt_succ_self N)) _).far (p := ⟨N + 1, i + 1, none⟩) (Nat.ne_of_lt (Nat.lt_succ_self N)) _).far (p := ⟨N + 1, i + 2, none⟩) (Nat.ne_of_lt (Nat.lt_succ_self N)) _
          · have h3 := ((HS4.out.set i (.int .u8 ((n : Int) / 65536))).set (i + 1) (.int .u8 ((n : Int) / 256 % 256))).set (i + 2) (.int .u8 ((n : Int) % 256))
            rw [HD.out, HD4.out, HK.out]
            have h4 := HKS.out
            rw [HAL.out, ← HV.out.1, ← HV.out.2.1, ← HV.out.2.2] at h4
            rw [h4] at h3
            exact h3
         case measure => simp [intOf]; omega
    · have e : t = 10 := by omega
      subst e
      have HA : Hid ((keyC (decK (l.take (4 * 10)) ++ List.replicate (30 - 3 * 10) 0)).toArray = (keyC (keyP l)).toArray) := Lib.hid (by
       rw [HKP.out, List.take_of_length_le (by rw [HL.out]; decide)]
       simp)
      have HF : Hid (Whole wr (N + 1) 80 (keyC (keyP l)).toArray) := Lib.hid (by rw [← HA.out]; exact HS.out.2.2.2)
      obtain ⟨X, hX⟩ : ∃ X, (keyC (keyP l)).toArray = X := ⟨_, rfl⟩
      have HX : Hid (X.size = 30 ∧ X.toList.all (·.oneCell') = true) := Lib.hid (by
       rw [← hX]
       refine ⟨by simp [keyC, keyP_len], ?_⟩
       rw [List.all_eq_true]
       intro v hv
       simp only [keyC, List.mem_map] at hv
       obtain ⟨_, _, rfl⟩ := hv
       rfl)
      rw [hX] at HF
      have HXE := Lib.hid hX
      clear hX
      have HFIN : Hid (Ending.returned (.agg X) = .returned (.agg (keyC (keyP l)).toArray) ∧ Below w.heap.size w (wr.setRow N X)) := Lib.hid ⟨by rw [HXE.out], by rw [HN.out]; exact below_row HS.out.2.1 (Nat.le_refl _) _⟩
      go_wp2_with (first
       | ((with_reducible refine wpList_load_all ?_ 80 (.tmp 3) ?_ HF.out ?_ Tryz.sizeKey HX.out.1 Tryz.underlying80 ?_ ?_); (with_reducible rfl); (with_reducible rfl); rfl; rfl)
       | ((with_reducible refine wpList_storeS X ?_ 80 (.tmp 2) (.tmp 43) ?_ ?_ ?_ HS.out.2.2.1 Tryz.sizeKey HX.out.1 ?_ HX.out.2 ?_); (with_reducible rfl); (with_reducible rfl); rfl; rfl; rfl)
       | ((with_reducible show bodyPost _ _ _ _ _ _); exact bodyPost_ret (ret_struct rfl rfl (HS.out.2.2.1.row _) Tryz.underlying80 rfl Tryz.sizeKey HX.out.1) rfl HFIN.out))
 · have hne : ¬ (s.size : Int) = 40 := by omega
   have HK : Hid (zKey = (keyC (keyP l)).toArray) := Lib.hid (by
    unfold keyP
    rw [if_neg (by omega)]
    rfl)
   have HFIN : Hid (Ending.returned (.agg zKey) = .returned (.agg (keyC (keyP l)).toArray) ∧ Below w.heap.size w (W0.setRow N zKey)) := Lib.hid ⟨by rw [HK.out], by rw [HN.out]; exact below_row H0.out.1 (Nat.le_refl _) _⟩
   go_wp2_with (first
    | ((with_reducible refine wpList_load_all ?_ 80 (.tmp 3) ?_ H0.out.2.2 ?_ Tryz.sizeKey ?_ Tryz.underlying80 ?_ ?_); (with_reducible rfl); (with_reducible rfl); rfl; rfl; rfl)
    | ((with_reducible refine wpList_storeS zKey ?_ 80 (.tmp 2) (.tmp 9) ?_ ?_ ?_ H0.out.2.1 Tryz.sizeKey ?_ ?_ ?_ ?_); (with_reducible rfl); (with_reducible rfl); rfl; rfl; rfl; rfl; rfl)
    | ((with_reducible show bodyPost _ _ _ _ _ _); exact bodyPost_ret (ret_struct rfl rfl (H0.out.2.1.row _) Tryz.underlying80 rfl Tryz.sizeKey rfl) rfl HFIN.out))
end Go.Proofs.YtlekmakofkpcdaaGreatDoor
