/- What is left of a message is hashed (end, Sum). -/
import Derived.Test.YtloekfphkepafaaShaTail
import Derived.Test.YtloekfphkepafaaShaPlain
namespace Go.Proofs.Ytloekfphkepafaa
open Go.RowKit
set_option linter.unusedVariables false

theorem state_cells {w : World} {g : Nat} {s : S5} (h : Whole w g 33 (arr .u32 s.list)) : w.cell? ⟨g, 0, none⟩ = some (.int .u32 s.a) ∧ w.cell? ⟨g, 1, none⟩ = some (.int .u32 s.b) ∧ w.cell? ⟨g, 2, none⟩ = some (.int .u32 s.c) ∧ w.cell? ⟨g, 3, none⟩ = some (.int .u32 s.d) ∧ w.cell? ⟨g, 4, none⟩ = some (.int .u32 s.e) :=
  ⟨h.cell 0, h.cell 1, h.cell 2, h.cell 3, h.cell 4⟩

/-- What the first loop keeps. -/
structure EndAt (w : World) (m : List Int) (s : S5) (B : Nat) (n : Nat) (xs : List Int) (k : Nat) (A : Option Addr) (len cap : Nat) (wr : World) : Prop where
  lenIs : len + 64 * k = n
  capIn : len ≤ cap
  capBig : cap ≤ maxLen
  bytes : Bs wr B A len (xs.drop (64 * k))
  state : Whole wr w.heap.size 33 (arr .u32 (blks s m k).list)
  res : Whole wr (w.heap.size + 1) 24 (arr .u8 z20)
  below : Below w.heap.size w wr

/-- One block more, as the walk meets it. -/
theorem next_block {T : Nat} {w : World} {m : List Int} {s : S5} {B n : Nat} {xs : List Int} {k : Nat} {ad : Addr} {len cap : Nat} {wr : World} (hE : EndAt w m s B n xs k (some ad) len cap wr) (hlt : 64 ≤ len) (hm : m = xs ++ padT n T) (hxn : xs.length = n) (hx : ∀ i, 0 ≤ xs.getD i 0 ∧ xs.getD i 0 < 256) (hB : B ≤ w.heap.size) :
    Calls Try.prog 19 #[.agg (arr .u32 (blks s m k).list), .slice (some ad) 64 cap] wr.drew fun e w' => e = .returned (.agg (arr .u32 (blks s m (k + 1)).list)) ∧ Below wr.heap.size wr.drew w' := by
  obtain ⟨ad', hA, hab, hc⟩ := hE.bytes.2 (by omega)
  cases hA
  have hz := hE.below.size
  have hb := behind_arr (blks s m k) ad cap (xs.drop (64 * k)) wr.drew (fun i => by rw [getD_drop]; exact hx _) (fun i hi => hc i (by omega)) (by show ad.block < wr.heap.size; omega)
  have e : blk (blks s m k) (xs.drop (64 * k)) = blks s m (k + 1) := by
    rw [blks]
    refine blk_congr _ _ _ fun i hi => ?_
    have := hE.lenIs
    rw [getD_drop, getD_drop, hm, getD_append, if_pos (by omega)]
  rw [e] at hb
  exact hb

theorem EndAt.next {w : World} {m : List Int} {s : S5} {B n : Nat} {xs : List Int} {k : Nat} {A : Option Addr} {len cap : Nat} {wr w' : World} (hE : EndAt w m s B n xs k A len cap wr) (hlt : 64 ≤ len) (hb : Below wr.heap.size wr.drew w') (hB : B ≤ w.heap.size) {S' : Array Value} (hS : S' = arr .u32 (blks s m (k + 1)).list) :
    EndAt w m s B n xs (k + 1) (if cap = 64 then A else A.map (·.add 64)) (len - 64) (cap - 64) (w'.setRow w.heap.size S') := by
  have hbw : Below w.heap.size w w' := hE.below.drew.trans (hb.mono hE.below.size)
  have h1 : Whole w' w.heap.size 33 (arr .u32 (blks s m k).list) := hE.state.drew.below hb hE.state.lt
  have h2 : Whole w' (w.heap.size + 1) 24 (arr .u8 z20) := hE.res.drew.below hb hE.res.lt
  have e := hE.lenIs
  have e1 := hE.capIn
  have e2 := hE.capBig
  have hz := hE.below.size
  have h3 := hE.bytes.cut hlt e1
  have hd : (xs.drop (64 * k)).drop 64 = xs.drop (64 * (k + 1)) := by rw [List.drop_drop]; congr 1
  rw [hd] at h3
  have h4 : Bs w' B (if cap = 64 then A else A.map (·.add 64)) (len - 64) (xs.drop (64 * (k + 1))) := Bs.below (w := wr) (show Bs wr B _ _ _ from h3) (Below.mono (show Below wr.heap.size wr w' from ⟨hb.os, hb.tape, hb.output, hb.size, hb.block⟩) (by omega))
  subst hS
  exact ⟨by omega, by omega, by omega, h4.below (below_row (Below.refl _ _) (by omega) _), Whole.row h1 _, h2.farRow (by omega) _, below_row hbw (Nat.le_refl _) _⟩

/-- What the second loop keeps: j blocks of the last ones are done, k0 lie ahead of them. -/
structure TailAt (w : World) (m : List Int) (s : S5) (k0 : Nat) (tl : List Int) (g room : Nat) (j : Nat) (off len : Nat) (wr : World) : Prop where
  lenIs : len + 64 * j = room
  offIs : 0 < len → off = 64 * j
  row : Whole wr g 5 (arr .u8 tl)
  state : Whole wr w.heap.size 33 (arr .u32 (blks s m (k0 + j)).list)
  res : Whole wr (w.heap.size + 1) 24 (arr .u8 z20)
  below : Below w.heap.size w wr

/-- What is known of the last blocks. -/
structure Last (w : World) (m : List Int) (n k0 : Nat) (tl : List Int) (g room : Nat) : Prop where
  roomIs : room = 64 ∨ room = 128
  size : tl.length = room
  msg : ∀ i, i < room → tl.getD i 0 = m.getD (64 * k0 + i) 0
  in8 : ∀ i, 0 ≤ tl.getD i 0 ∧ tl.getD i 0 < 256
  apart : w.heap.size + 1 < g
  all : blocks n = k0 + room / 64

theorem last_of {w : World} {m : List Int} {s : S5} {B n : Nat} {xs : List Int} {k : Nat} {A : Option Addr} {len cap : Nat} {wr w' : World} {T room : Nat} (hE : EndAt w m s B n xs k A len cap wr) (hm : m = xs ++ padT n T) (hxn : xs.length = n) (hx : ∀ i, 0 ≤ xs.getD i 0 ∧ xs.getD i 0 < 256)
    (hroom : (room = 64 ∧ len + 9 ≤ 64) ∨ (room = 128 ∧ 64 < len + 9 ∧ len < 64)) (hW : ∃ j, j ≤ 8 ∧ T * 8 / 256 ^ j = 0 ∧ Whole w' wr.heap.size 5 (arr .u8 (tlN room (xs.drop (64 * k)) (T * 8) j))) (hb : Below wr.heap.size wr w') :
    ∃ tl, Last w m n k tl wr.heap.size room ∧ TailAt w m s k tl wr.heap.size room 0 0 room w' := by
  obtain ⟨j, hj, h0, hW⟩ := hW
  have hl := hE.lenIs
  have hr : n % 64 = len := by omega
  have hk : n / 64 = k := by omega
  have hd : (xs.drop (64 * k)).length = len := by rw [List.length_drop]; omega
  have e := tlN_eq room len (xs.drop (64 * k)) (T * 8) hd (by omega) (by omega) j hj h0
  rw [e] at hW
  have hp : 128 :: (List.replicate ((119 - len) % 64) 0 ++ be8 (T * 8)) = padT n T := by rw [padT, hr]
  rw [hp] at hW
  have hz := hE.res.lt
  refine ⟨xs.drop (64 * k) ++ padT n T, ⟨by omega, ?_, fun i hi => ?_, ?_, by omega, ?_⟩, ⟨by omega, fun _ => rfl, hW, ?_, ?_, hE.below.trans (hb.mono hE.below.size)⟩⟩
  · rw [List.length_append, hd, padT, hr]
    simp
    omega
  · rw [hm, getD_append, getD_append, hd]
    by_cases h : i < len
    · rw [if_pos h, if_pos (by omega), getD_drop]
    · rw [if_neg h, if_neg (by omega)]
      congr 1
      omega
  · exact append_in8 (fun i => by rw [getD_drop]; exact hx _) (padT_in8 _ _)
  · rw [← hk]
    exact blocks_is n room (by omega)
  · exact hE.state.under hb
  · exact hE.res.under hb

theorem next_last {w : World} {m : List Int} {s : S5} {n k0 : Nat} {tl : List Int} {g room j off len : Nat} {wr : World} (hL : Last w m n k0 tl g room) (hE : TailAt w m s k0 tl g room j off len wr) (hlt : 0 < len) :
    Calls Try.prog 19 #[.agg (arr .u32 (blks s m (k0 + j)).list), .slice (some ⟨g, off, none⟩) 64 len] wr.drew fun e w' => e = .returned (.agg (arr .u32 (blks s m (k0 + (j + 1))).list)) ∧ Below wr.heap.size wr.drew w' := by
  obtain rfl := hE.offIs hlt
  have h1 := hL.size
  have h2 := hE.lenIs
  have h3 := hL.roomIs
  have hb := behind_arr (blks s m (k0 + j)) ⟨g, 64 * j, none⟩ len (tl.drop (64 * j)) wr.drew (fun i => by rw [getD_drop]; exact hL.in8 _) (fun i hi => by
    rw [Addr.add_lit, getD_drop]
    exact hE.row.at_ (by omega)) hE.row.lt
  have e : blk (blks s m (k0 + j)) (tl.drop (64 * j)) = blks s m (k0 + (j + 1)) := by
    rw [show k0 + (j + 1) = (k0 + j) + 1 by omega, blks]
    refine blk_congr _ _ _ fun i hi => ?_
    rw [getD_drop, getD_drop, hL.msg _ (by omega)]
    congr 1
    omega
  rw [e] at hb
  exact hb

theorem TailAt.next {w : World} {m : List Int} {s : S5} {n k0 : Nat} {tl : List Int} {g room j off len : Nat} {wr w' : World} (hL : Last w m n k0 tl g room) (hE : TailAt w m s k0 tl g room j off len wr) (hlt : 0 < len) (hb : Below wr.heap.size wr.drew w') :
    TailAt w m s k0 tl g room (j + 1) (if len = 64 then off else off + 64) (len - 64) (w'.setRow w.heap.size (arr .u32 (blks s m (k0 + (j + 1))).list)) := by
  have e := hE.lenIs
  have eo := hE.offIs hlt
  have h3 := hL.roomIs
  have ha := hL.apart
  have hbw : Below w.heap.size w w' := hE.below.drew.trans (hb.mono hE.below.size)
  have h1 : Whole w' w.heap.size 33 (arr .u32 (blks s m (k0 + j)).list) := hE.state.drew.below hb hE.state.lt
  have h2 : Whole w' (w.heap.size + 1) 24 (arr .u8 z20) := hE.res.drew.below hb hE.res.lt
  have h4 : Whole w' g 5 (arr .u8 tl) := hE.row.drew.below hb hE.row.lt
  exact ⟨by omega, fun h => by rw [if_neg (by omega)]; omega, h4.farRow (by omega) _, Whole.row h1 _, h2.farRow (by omega) _, below_row hbw (Nat.le_refl _) _⟩

set_option maxHeartbeats 6400000 in
set_option maxRecDepth 100000 in
theorem end_walk (s : S5) (ahead : Nat) (A : Option Addr) (n cap : Nat) (xs : List Int) (B : Nat) (w : World) (h : Bs w B A n xs) (hB : B ≤ w.heap.size) (hcap : n ≤ cap) (hmax : cap ≤ maxLen) (hx : ∀ i, 0 ≤ xs.getD i 0 ∧ xs.getD i 0 < 256)
    (ha : ahead ≤ 281474976710656) (hn : n ≤ 281474976710656) (m : List Int) (hm : m = xs ++ padT n (ahead + n)) :
    Calls Try.prog 16 #[.agg (arr .u32 s.list), .int .u64 ahead, .slice A n cap] w fun e w' => e = .returned (.agg (arr .u8 (dig (blks s m (blocks n))))) ∧ Below w.heap.size w w' := by
  have hz := Try.zero24
  have hE0 : EndAt w m s B n xs 0 A n cap ((w.alloc (.cells (arr .u32 s.list) 33)).alloc (.cells (arr .u8 z20) 24)) :=
    ⟨by omega, hcap, hmax, h.below ((two_new _ _ _ _).mono hB), (Whole.new _ _ _).alloc _, Whole.new2 _ _ _ _, two_new _ _ _ _⟩
  have HE := Lib.hid hE0
  have HM := Lib.hid (And.intro hm (And.intro h.1 (And.intro hx hB)))
  obtain ⟨S0, hS0⟩ : ∃ S0, arr .u32 s.list = S0 := ⟨_, rfl⟩
  rw [hS0] at HE ⊢
  clear hE0 h hm hx hS0
  go_enter Try.func16, Try.ntmps16
  go_wp2_with fail
  go_loopw [2] (fun s2 wr => ∃ k A' len cap', s2 = .slice A' len cap' ∧ EndAt w m s B n xs k A' len cap' wr) (fun s2 _ => match s2 with | .slice _ len _ => len | _ => 0)
  case atStart => exact ⟨0, A, n, cap, rfl, HE.out⟩
  case round =>
    obtain ⟨k, A', len, cap', rfl, hE⟩ := hrel
    by_cases hlt : 64 ≤ len
    · have hl := hE.lenIs
      have hc1 := hE.capIn
      have hc2 := hE.capBig
      obtain ⟨ad, rfl, _, _⟩ := hE.bytes.2 (by omega)
      have hN := next_block (T := ahead + n) hE hlt HM.out.1 HM.out.2.1 HM.out.2.2.1 HM.out.2.2.2
      have hX : ∀ w', Below wr.heap.size wr.drew w' → EndAt w m s B n xs (k + 1) (if cap' = 64 then some ad else some (ad.add 64)) (len - 64) (cap' - 64) (w'.setRow w.heap.size (arr .u32 (blks s m (k + 1)).list)) := fun w' hb => hE.next hlt hb HM.out.2.2.2 rfl
      obtain ⟨q0, q1, q2, q3, q4⟩ := state_cells hE.state
      have hst : ∀ w', Below wr.heap.size wr.drew w' → Whole w' w.heap.size 33 (arr .u32 (blks s m k).list) := fun w' hb => hE.state.drew.below hb hE.state.lt
      have hlit : arr .u32 (blks s m k).list = #[.int .u32 (blks s m k).a, .int .u32 (blks s m k).b, .int .u32 (blks s m k).c, .int .u32 (blks s m k).d, .int .u32 (blks s m k).e] := rfl
      rw [hlit] at hN hst
      obtain ⟨r, hr⟩ : ∃ r, blks s m k = r := ⟨_, rfl⟩
      obtain ⟨S', hS'⟩ : ∃ S', arr .u32 (blks s m (k + 1)).list = S' := ⟨_, rfl⟩
      have hS1 : S'.size = 5 ∧ S'.all (·.oneCell') = true := by rw [← hS']; exact ⟨rfl, arr_one _ _⟩
      rw [hr] at q0 q1 q2 q3 q4 hN hst
      rw [hS'] at hN hX
      obtain ⟨a0, b0, c0, d0, e0⟩ := r
      dsimp only at q0 q1 q2 q3 q4 hN hst
      unfold maxLen at hc2
      have hl64 : (64 : Int) ≤ (len : Int) := by omega
      have hc64 : (64 : Int) ≤ (cap' : Int) := by omega
      have HN := Lib.hid (And.intro hN (And.intro hX (And.intro hst hS1)))
      clear hN hX hE hl hS' hr hst hlit hS1
      by_cases hcc : cap' = 64
      · subst hcc
        go_upto_region 4 with fail
        go_still_tail 3, (by kernel_rfl)
        change wpList _ _ _ _ _ wr.drew
        go_wp2_with (first
          | (go_at_call 19; (with_reducible refine HN.out.1.mono ?_); rintro e w' ⟨rfl, hb⟩)
          | (refine wpList_store_whole rfl 33 (.tmp 3) (.tmp 22) rfl rfl rfl (HN.out.2.2.1 _ (by assumption)) Try.info33 HN.out.2.2.2.1 (by rfl) HN.out.2.2.2.2 ?_))
        have hX := HN.out.2.1 w' hb
        rw [if_pos trivial, show len - 64 = 0 by omega] at hX
        exact ⟨⟨k + 1, _, _, _, rfl, hX⟩, show 0 < len by omega⟩
      · have hcc' : ¬ (64 : Int) = (cap' : Int) := by omega
        go_upto_region 4 with fail
        go_still_tail 3, (by kernel_rfl)
        change wpList _ _ _ _ _ wr.drew
        go_wp2_with (first
          | (go_at_call 19; (with_reducible refine HN.out.1.mono ?_); rintro e w' ⟨rfl, hb⟩)
          | (refine wpList_store_whole rfl 33 (.tmp 3) (.tmp 22) rfl rfl rfl (HN.out.2.2.1 _ (by assumption)) Try.info33 HN.out.2.2.2.1 (by rfl) HN.out.2.2.2.2 ?_))
        have hX := HN.out.2.1 w' hb
        rw [if_neg hcc] at hX
        exact ⟨⟨k + 1, _, _, _, rfl, hX⟩, show len - 64 < len by omega⟩
    · have hl := hE.lenIs
      have hc1 := hE.capIn
      have hc2 := hE.capBig
      have hlen : len < 64 := by omega
      obtain ⟨room, hroom⟩ : ∃ room, (room = 64 ∧ len + 9 ≤ 64) ∨ (room = 128 ∧ 64 < len + 9 ∧ len < 64) := by
        by_cases h9 : len + 9 ≤ 64
        · exact ⟨64, .inl ⟨rfl, h9⟩⟩
        · exact ⟨128, .inr ⟨rfl, by omega, by omega⟩⟩
      have hT := tail_walk A' len cap' (ahead + n) room (xs.drop (64 * k)) B wr hE.bytes (Nat.le_trans HM.out.2.2.2 hE.below.size) hroom (by omega)
      rw [Int.natCast_add] at hT
      have HT := Lib.hid hT
      have HN := Lib.hid (And.intro hE hroom)
      clear hE hT hroom HE
      go_wp2_with (go_at_call 20; (with_reducible refine HT.out.mono ?_))
      rintro e w1 ⟨rfl, hj, hb1⟩
      obtain ⟨hE, hroom⟩ := HN.out
      obtain ⟨tl, hL, hA⟩ := last_of (T := ahead + n) hE HM.out.1 HM.out.2.1 HM.out.2.2.1 hroom hj hb1
      obtain ⟨g, hg⟩ : ∃ g, wr.heap.size = g := ⟨_, rfl⟩
      rw [hg] at hL hA ⊢
      have HL := Lib.hid (And.intro hL hA)
      clear hL hA hj hb1 hE hroom hg HN HT hlen hl hc1 hc2 hlt
      go_wp2_with fail
      clear HM
      go_loopw [8] (fun s8 wr => ∃ j off len, s8 = .slice (some ⟨g, off, none⟩) len len ∧ TailAt w m s k tl g room j off len wr) (fun s8 _ => match s8 with | .slice _ len _ => len | _ => 0)
      case atStart => exact ⟨0, 0, room, rfl, HL.out.2⟩
      case round =>
        obtain ⟨j, off, len, rfl, hE⟩ := hrel
        have hl := hE.lenIs
        have hr := HL.out.1.roomIs
        by_cases hlt : 0 < len
        · have hN := next_last HL.out.1 hE hlt
          have hX := fun w' hb => TailAt.next (w' := w') HL.out.1 hE hlt hb
          obtain ⟨q0, q1, q2, q3, q4⟩ := state_cells hE.state
          have hst : ∀ w', Below wr.heap.size wr.drew w' → Whole w' w.heap.size 33 (arr .u32 (blks s m (k + j)).list) := fun w' hb => hE.state.drew.below hb hE.state.lt
          have hlit : arr .u32 (blks s m (k + j)).list = #[.int .u32 (blks s m (k + j)).a, .int .u32 (blks s m (k + j)).b, .int .u32 (blks s m (k + j)).c, .int .u32 (blks s m (k + j)).d, .int .u32 (blks s m (k + j)).e] := rfl
          rw [hlit] at hN hst
          obtain ⟨r, hr⟩ : ∃ r, blks s m (k + j) = r := ⟨_, rfl⟩
          obtain ⟨S', hS'⟩ : ∃ S', arr .u32 (blks s m (k + (j + 1))).list = S' := ⟨_, rfl⟩
          have hS1 : S'.size = 5 ∧ S'.all (·.oneCell') = true := by rw [← hS']; exact ⟨rfl, arr_one _ _⟩
          rw [hr] at q0 q1 q2 q3 q4 hN hst
          rw [hS'] at hN hX
          obtain ⟨a0, b0, c0, d0, e0⟩ := r
          dsimp only at q0 q1 q2 q3 q4 hN hst
          have HN := Lib.hid (And.intro hN (And.intro hX (And.intro hst hS1)))
          clear hN hX hE hS' hr hst hlit hS1
          obtain h64 | h128 : len = 64 ∨ len = 128 := by omega
          · subst h64
            clear hl
            go_upto_region 8 with fail
            go_still_tail 3, (by kernel_rfl)
            change wpList _ _ _ _ _ wr.drew
            go_wp2_with (first
              | (go_at_call 19; (with_reducible refine HN.out.1.mono ?_); rintro e w' ⟨rfl, hb⟩)
              | (refine wpList_store_whole rfl 33 (.tmp 3) (.tmp 34) rfl rfl rfl (HN.out.2.2.1 _ (by assumption)) Try.info33 HN.out.2.2.2.1 (by rfl) HN.out.2.2.2.2 ?_))
            have hX := HN.out.2.1 w' hb
            rw [if_pos trivial] at hX
            exact ⟨⟨j + 1, _, _, rfl, hX⟩, show 0 < 64 by omega⟩
          · subst h128
            clear hl
            go_upto_region 8 with fail
            go_still_tail 3, (by kernel_rfl)
            change wpList _ _ _ _ _ wr.drew
            go_wp2_with (first
              | (go_at_call 19; (with_reducible refine HN.out.1.mono ?_); rintro e w' ⟨rfl, hb⟩)
              | (refine wpList_store_whole rfl 33 (.tmp 3) (.tmp 34) rfl rfl rfl (HN.out.2.2.1 _ (by assumption)) Try.info33 HN.out.2.2.2.1 (by rfl) HN.out.2.2.2.2 ?_))
            have hX := HN.out.2.1 w' hb
            exact ⟨⟨j + 1, _, _, rfl, hX⟩, show 64 < 128 by omega⟩
        · obtain rfl : len = 0 := by omega
          have hall := HL.out.1.all
          have hj : k + j = blocks n := by omega
          have hst := hE.state
          rw [hj] at hst
          have HN := Lib.hid (And.intro hst (And.intro hE.res hE.below))
          have HS := Lib.hid (sbytes_any (blks s m (blocks n)) wr)
          obtain ⟨S', hS'⟩ : ∃ S', arr .u32 (blks s m (blocks n)).list = S' := ⟨_, rfl⟩
          have hS1 : S'.size = 5 := by rw [← hS']; rfl
          rw [hS'] at HN HS
          have H5 := Lib.hid hS1
          clear hst hE hall hj hl hr hS' hS1
          go_wp2_with (first
            | (refine wpList_load_whole rfl 33 (.tmp 3) rfl rfl HN.out.1 Try.underlying33 Try.info33 H5.out ?_)
            | (go_at_call 21; (with_reducible refine HS.out.mono ?_); rintro e w' ⟨rfl, hb⟩)
            | (refine wpList_store_whole rfl 24 (.tmp 6) (.tmp 36) rfl rfl rfl (HN.out.2.1.under hb) Try.info24 (by rw [arr_size]; exact digN_length _ _) (by rfl) (arr_one _ _) ?_))
          refine bodyPost_ret (v := .agg (arr .u8 (dig (blks s m (blocks n))))) ?_ rfl ?_
          · exact ret_whole (g := w.heap.size + 1) rfl rfl (Whole.row (HN.out.2.1.under hb) _) Try.underlying24 Try.info24 (by rw [arr_size]; exact digN_length _ _)
          · exact ⟨rfl, below_row (HN.out.2.2.trans (hb.mono HN.out.2.2.size)) (by omega) _⟩

theorem end_any (s : S5) (ahead : Nat) (A : Option Addr) (n cap : Nat) (xs : List Int) (B : Nat) (w : World) (h : Bs w B A n xs) (hB : B ≤ w.heap.size) (hcap : n ≤ cap) (hmax : cap ≤ maxLen) (hx : ∀ i, 0 ≤ xs.getD i 0 ∧ xs.getD i 0 < 256)
    (ha : ahead ≤ 281474976710656) (hn : n ≤ 281474976710656) :
    Calls Try.prog 16 #[.agg (arr .u32 s.list), .int .u64 ahead, .slice A n cap] w fun e w' => e = .returned (.agg (arr .u8 (shaFrom s ahead xs))) ∧ Below w.heap.size w w' := by
  have h1 := end_walk s ahead A n cap xs B w h hB hcap hmax hx ha hn _ rfl
  unfold shaFrom
  rw [h.1]
  exact h1

end Go.Proofs.Ytloekfphkepafaa
