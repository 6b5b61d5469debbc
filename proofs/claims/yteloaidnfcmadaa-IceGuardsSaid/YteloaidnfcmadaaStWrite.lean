/- A message is written (write), built (Build). -/
import Derived.Test.YteloaidnfcmadaaStBase
namespace Go.Proofs.Yteloaidnfcmadaa
open Go.RowKit
set_option linter.unusedVariables false

/-- make([]byte, 0, n). -/
theorem make_room (n : Nat) (hn : n ≤ 281474976710656) (w : World) : (Instr.makeSlice 22 (.int .i64 0) (.int .i64 n)).run Try.prog w = .ok (.slice (some ⟨w.heap.size, 0, none⟩) 0 n) (w.alloc (.cells (arr .u8 (List.replicate n 0)) 5)) := by
  obtain ⟨i0, hi, hz0, hz1, hz2⟩ := info_parts Try.infoU8
  have h := run_make (P := Try.prog) w 22 5 i0 (.int .u8 0) Try.underlying22 hi hz0 .i64 .i64 0 n (by omega) (by omega) (by rw [hz2]; omega) (by omega)
  have e : madeCells (Value.int .u8 0).cells (n * i0.size) = arr .u8 (List.replicate n 0) := by
    rw [hz1]
    apply Array.ext
    · simp [madeCells, arr]
    · intro j h1 h2
      simp [madeCells, arr, Value.cells, Nat.mod_one]
  simp only [Int.toNat_natCast, e] at h
  exact h

theorem Own8.low {w : World} {base b : Nat} {v : Value} {xs : List Int} (h : Own8 w base v xs) (hb : b ≤ base) : Own8 w b v xs := by
  refine ⟨h.1, ?_⟩
  rcases h.2 with h0 | ⟨g, cap, cur, h1, h2, h3⟩
  · exact .inl h0
  · exact .inr ⟨g, cap, cur, h1, Nat.le_trans hb h2, h3⟩
/-- What is known while a message is written: its box in block N, and the bytes so far. -/
structure Wr (N : Nat) (M : Array Value) (w wr : World) (v : Value) (xs : List Int) : Prop where
  own : Own8 wr (N + 1) v xs
  box : Whole wr N 69 M
  below : Below N w wr
section
variable {N : Nat} {M : Array Value} {w wr w' : World} {v v' : Value} {xs xs' : List Int}
theorem Wr.size (h : Wr N M w wr v xs) : N + 1 ≤ wr.heap.size := h.box.lt
theorem Wr.grew (h : Wr N M w wr v xs) (g : Grew (N + 1) wr w' v v' xs') : Wr N M w w' v' xs' :=
  ⟨g.own, g.keep h.own h.box (by decide), h.below.trans ((g.below h.own h.size).mono (Nat.le_succ _))⟩
/-- What is no row of bytes is kept. -/
def Kept (w w' : World) : Prop := ∀ g t cs, 5 ≠ t → Whole w g t cs → Whole w' g t cs
theorem Wr.kept (h : Wr N M w wr v xs) (g : Grew (N + 1) wr w' v v' xs') : Kept wr w' := fun _ _ _ ht hg => g.keep h.own hg ht
theorem Wr.alloc (h : Wr N M w wr v xs) (o : Obj) : Wr N M w (wr.alloc o) v xs :=
  ⟨h.own.alloc o, h.box.alloc o, h.below.alloc (Nat.le_of_succ_le h.size) o⟩
theorem Wr.under (h : Wr N M w wr v xs) (hb : Below wr.heap.size wr w') : Wr N M w w' v xs :=
  ⟨h.own.under hb, h.box.under hb, h.below.trans (hb.mono (Nat.le_of_succ_le h.size))⟩
theorem Wr.cong (h : Wr N M w wr v xs) (e : xs = xs') : Wr N M w wr v xs' := e ▸ h
theorem Wr.live (h : Wr N M w wr v xs) (hx : 0 < xs.length) : v ≠ .slice none 0 0 := by
  rintro rfl
  obtain ⟨A, c, e, _⟩ := h.own.form
  injection e with _ e2
  omega
end
theorem wr_put16 {N : Nat} {M : Array Value} {w W : World} {v : Value} {xs : List Int} (h : Wr N M w W v xs) (y : Int) (hl : xs.length ≤ 5000) :
    Calls Try.prog 65 #[v, .int .u16 y] W fun e w' => ∃ v', e = .returned v' ∧ Wr N M w w' v' (xs ++ be2 y) ∧ Kept W w' :=
  (put16_any y v (N + 1) xs W h.own h.size (by omega)).mono fun e w' ⟨v', he, hg⟩ => ⟨v', he, h.grew hg, h.kept hg⟩
theorem wr_put32 {N : Nat} {M : Array Value} {w W : World} {v : Value} {xs : List Int} (h : Wr N M w W v xs) (y : Int) (hl : xs.length ≤ 5000) :
    Calls Try.prog 66 #[v, .int .u32 y] W fun e w' => ∃ v', e = .returned v' ∧ Wr N M w w' v' (xs ++ be4 y) ∧ Kept W w' :=
  (put32_any y v (N + 1) xs W h.own h.size (by omega)).mono fun e w' ⟨v', he, hg⟩ => ⟨v', he, h.grew hg, h.kept hg⟩
theorem wr_size {N : Nat} {M : Array Value} {m : Msg} {A : Option Addr} {c : Nat} {w W : World} {v : Value} {xs : List Int} (h : Wr N M w W v xs) (hm : MsgV w N M m A c) (h16 : m.at_.length ≤ 16) (hv : ∀ a ∈ m.at_, a.val.length ≤ 512) :
    Calls Try.prog 62 #[.agg M] W fun e w' => e = .returned (.int .i64 (szN m)) ∧ Wr N M w w' v xs :=
  (size_any M m A c W ((hm.below h.below).more (Nat.le_of_succ_le h.size)) h16 hv).mono fun e w' ⟨he, hb⟩ => ⟨he, h.under hb⟩
theorem wr_id {N : Nat} {M : Array Value} {m : Msg} {A : Option Addr} {c : Nat} {w W : World} (h : Whole W N 69 M) (hm : MsgV w N M m A c) : Bs W (N + 1) (some ⟨N, 2, none⟩) 12 m.id :=
  ⟨hm.id12, fun _ => ⟨_, rfl, Nat.lt_succ_self _, fun i hi => by
    have := hm.id h i (.int .u8 (m.id.getD i 0)) (by have := hm.id12; simp [List.getD, show i < m.id.length by omega])
    rw [Addr.add_lit]
    exact this⟩⟩

theorem body_take (L : List At) (k : Nat) (hk : k < L.length) : body (L.take (k + 1)) = body (L.take k) ++ atBytes (L.getD k default) := by
  rw [List.take_succ_eq_append_getElem hk, body_append]
  simp [body, List.getD, hk]

set_option maxHeartbeats 3200000 in
set_option maxRecDepth 100000 in
theorem write_any (M : Array Value) (m : Msg) (A : Option Addr) (c : Nat) (w : World) (h : MsgV w w.heap.size M m A c) (hv : Valid m) :
    Calls Try.prog 45 #[.agg M] w fun e w' => ∃ v, e = .returned v ∧ Own8 w' w.heap.size v (msgBytes m) ∧ v ≠ .slice none 0 0 ∧ Below w.heap.size w w' := by
  have HM := Lib.hid (And.intro h hv)
  have HS := Lib.hid (And.intro h.size h.one)
  obtain ⟨sz, hsz⟩ : ∃ s, szN m = s := ⟨_, rfl⟩
  have hs1 : sz ≤ 1500 := by rw [← hsz]; exact hv.size
  have hs2 : 20 ≤ sz := by rw [← hsz]; unfold szN; omega
  have hbl : (body m.at_).length = sz - 20 := by rw [body_length, ← hsz]; unfold szN; omega
  have HZ := Lib.hid (And.intro hsz hbl)
  have HKI : Hid (∀ W, Calls Try.prog 58 #[.int .i64 m.cl, .int .i64 m.me] W fun e w' => e = .returned (.int .u16 (kindOf m.cl m.me)) ∧ W = w') := Lib.hid fun W => headKind_any m.cl m.me hv.c0 hv.c3 hv.m0 hv.m4 W
  have hg := Whole.new w 69 M
  have hb0 : Below w.heap.size w (w.alloc (.cells M 69)) := (Below.refl _ w).alloc (Nat.le_refl _) _
  have HG := Lib.hid (And.intro hg hb0)
  clear h hv hsz hbl hg hb0
  obtain ⟨cl, hcl⟩ : ∃ x, m.cl = x := ⟨_, rfl⟩
  obtain ⟨me, hme⟩ : ∃ x, m.me = x := ⟨_, rfl⟩
  rw [hcl, hme] at HKI
  have HE := Lib.hid (And.intro hcl hme)
  clear hcl hme
  have hmk := make_room sz (by omega)
  have HMK := Lib.hid hmk
  obtain ⟨N, hN⟩ : ∃ N, w.heap.size = N := ⟨_, rfl⟩
  have HN := Lib.hid hN
  rw [hN] at HM HG
  go_enter Try.func45, Try.ntmps45
  go_upto_region 1 with fail
  generalize w.alloc (.cells M 69) = W0 at *
  clear hN
  have HSZ : Hid (Calls Try.prog 62 #[.agg M] W0 fun e w' => e = .returned (.int .i64 (szN m)) ∧ Below W0.heap.size W0 w') :=
    Lib.hid (size_any M m A c W0 ((HM.out.1.below HG.out.2).more (Nat.le_of_lt HG.out.1.lt)) HM.out.2.most HM.out.2.vals)
  rw [HZ.out.1] at HSZ
  go_upto_region 2 with (first
    | (refine wpList_load_all rfl 69 (.tmp 1) rfl HG.out.1 rfl Try.sizeMsg HS.out.1 Try.underlying69 rfl ?_)
    | (go_at_call 62; (with_reducible refine HSZ.out.mono ?_); rintro e w1 ⟨rfl, hb1⟩))
  have ho : Own8 (w1.alloc (.cells (arr .u8 (List.replicate sz 0)) 5)) (N + 1) (.slice (some ⟨w1.heap.size, 0, none⟩) 0 sz) [] :=
    World.ownsRow_made w1 (arr .u8 (List.replicate sz 0)) sz (Nat.le_trans HG.out.1.lt hb1.size) (by unfold maxLen; omega) (by simp)
  have hw0 : Wr N M w (w1.alloc (.cells (arr .u8 (List.replicate sz 0)) 5)) (.slice (some ⟨w1.heap.size, 0, none⟩) 0 sz) [] :=
    ⟨ho, (HG.out.1.under hb1).alloc _, (HG.out.2.trans (hb1.mono (Nat.le_of_lt HG.out.1.lt))).alloc (Nat.le_trans (Nat.le_of_lt HG.out.1.lt) hb1.size) _⟩
  generalize w1.alloc (.cells (arr .u8 (List.replicate sz 0)) 5) = W1 at *
  generalize w1.heap.size = g1 at *
  have H1 := Lib.hid hw0
  clear hw0 ho hb1 HG HSZ hmk
  have HP16 : Hid (∀ W v xs y, Wr N M w W v xs → xs.length ≤ 5000 → Calls Try.prog 65 #[v, .int .u16 y] W fun e w' => ∃ v', e = .returned v' ∧ Wr N M w w' v' (xs ++ be2 y) ∧ Kept W w') := Lib.hid fun W v xs y h hl => wr_put16 h y hl
  have c0 : W1.cell? ⟨N, 0, none⟩ = some (.int .i64 cl) := by have := HM.out.1.cl H1.out.box; rw [HE.out.1] at this; exact this
  have c1 : W1.cell? ⟨N, 1, none⟩ = some (.int .i64 me) := by have := HM.out.1.me H1.out.box; rw [HE.out.2] at this; exact this
  go_upto_region 3 with (first
    | (go_at_call 58; (with_reducible refine (HKI.out _).mono ?_); rintro e w' ⟨rfl, rfl⟩)
    | (go_at_call 65; (with_reducible refine (HP16.out _ _ _ _ H1.out (by simp)).mono ?_); rintro e w2 ⟨v2, rfl, hw2, -⟩))
  rw [List.nil_append] at hw2
  have H2 := Lib.hid hw2
  clear hw2 c0 c1 HKI
  have HSZ : Hid (Calls Try.prog 62 #[.agg M] w2 fun e w' => e = .returned (.int .i64 (szN m)) ∧ Wr N M w w' v2 (be2 (kindOf cl me))) := Lib.hid (wr_size H2.out HM.out.1 HM.out.2.most HM.out.2.vals)
  rw [HZ.out.1] at HSZ
  go_upto_region 4 with (first
    | (refine wpList_load_all rfl 69 (.tmp 1) rfl H2.out.box rfl Try.sizeMsg HS.out.1 Try.underlying69 rfl ?_)
    | (go_at_call 62; (with_reducible refine HSZ.out.mono ?_); rintro e w3 ⟨rfl, hw3⟩)
    | (go_at_call 65; (with_reducible refine (HP16.out _ _ _ _ hw3 (by simp)).mono ?_); rintro e w4 ⟨v4, rfl, hw4, -⟩))
  have H4 := Lib.hid hw4
  clear hw4 hw3 HSZ
  have HP32 : Hid (∀ W v xs y, Wr N M w W v xs → xs.length ≤ 5000 → Calls Try.prog 66 #[v, .int .u32 y] W fun e w' => ∃ v', e = .returned v' ∧ Wr N M w w' v' (xs ++ be4 y) ∧ Kept W w') := Lib.hid fun W v xs y h hl => wr_put32 h y hl
  go_upto_region 5 with (go_at_call 66; (with_reducible refine (HP32.out _ _ _ _ H4.out (by simp)).mono ?_); rintro e w5 ⟨v5, rfl, hw5, -⟩)
  have H5 := Lib.hid hw5
  have HID := Lib.hid (wr_id H5.out.box HM.out.1)
  clear hw5 HP32
  go_upto_region 6 with (at_builtin; go_must (refine wpList_append8 rfl (.tmp 24) (.tmp 26) rfl rfl H5.out.own rfl HID.out (fun e => by cases e) (by simp) H5.out.size ?_); intro v6 w6 h6 hg6 hh6)
  have hw6 := H5.out.grew (Grew.of0 h6 hg6 hh6)
  obtain ⟨pre, hpre⟩ : ∃ p, be2 (kindOf cl me) ++ be2 ((sz : Int) - 20) ++ be4 554869826 ++ m.id = p := ⟨_, rfl⟩
  rw [hpre] at hw6
  have hpl : pre.length = 20 := by rw [← hpre]; simp [HM.out.1.id12]
  have hpm : pre ++ body m.at_ = msgBytes m := by
    unfold msgBytes
    rw [← hpre, HE.out.1, HE.out.2, HZ.out.2, show ((sz - 20 : Nat) : Int) = (sz : Int) - 20 by omega]
    simp only [List.append_assoc]
  have H6 := Lib.hid (And.intro hw6 (And.intro hpl hpm))
  clear hw6 h6 hg6 hh6 hpre hpl hpm HID
  have c14 := HM.out.1.sl H6.out.1.box
  have hn16 := HM.out.2.most
  have HVL := Lib.hid HM.out.2.vals
  have HAT := Lib.hid HM.out.1.ats
  have HBS : Hid (∀ k, (body (m.at_.take k)).length ≤ 1480) := Lib.hid fun k => by
    have h1 := body_append (m.at_.take k) (m.at_.drop k)
    rw [List.take_append_drop] at h1
    have h2 := HZ.out.2
    rw [h1, List.length_append] at h2
    omega
  obtain ⟨L, hL⟩ : ∃ L, m.at_ = L := ⟨_, rfl⟩
  rw [hL] at c14 hn16 HVL HAT HBS H6
  clear hL
  go_wp2
  go_loopw [3, 31] (fun s3 s31 wr => ∃ k : Nat, k ≤ L.length ∧ s31 = .int .i64 k ∧ Wr N M w wr s3 (pre ++ body (L.take k))) (fun _ s31 _ => L.length - (intOf s31).toNat)
  case atStart => exact ⟨0, by omega, rfl, H6.out.1.cong (by simp [body])⟩
  case round =>
    obtain ⟨k, hk, rfl, hw⟩ := hrel
    by_cases hlt : k < L.length
    · obtain ⟨ad, A', c', rfl, had, x0, x1, _, _, hnil, hbs⟩ := HAT.out.at_ hlt
      have c0 := (hw.below.cell (p := ad.add (k * 2)) (by rw [add_block]; exact had)).trans x0
      have c1 := (hw.below.cell (p := ⟨(ad.add (k * 2)).block, (ad.add (k * 2)).off + 1, none⟩) (by show (ad.add (k * 2)).block < N; rw [add_block]; exact had)).trans x1
      have hvl := HVL.out _ (getD_mem hlt)
      have hbt := body_take L k hlt
      have hbz := HBS.out k
      obtain ⟨a, ha⟩ : ∃ a, L.getD k default = a := ⟨_, rfl⟩
      rw [ha] at c0 c1 hvl hbt hbs
      have hbt2 : atBytes a = be2 a.ty ++ (be2 a.val.length ++ (a.val ++ List.replicate (padN a.val.length) 0)) := rfl
      rw [hbt2] at hbt
      obtain ⟨n, hn⟩ : ∃ n, a.val.length = n := ⟨_, rfl⟩
      rw [hn] at c1 hvl hbt hbs
      have HPD : Hid (∀ W, Calls Try.prog 61 #[.int .i64 (n : Nat)] W fun e w' => e = .returned (.int .i64 (padN n)) ∧ W = w') := Lib.hid fun W => padding_any n (by omega) W
      have hpl := padN_lt n
      obtain ⟨p, hp⟩ : ∃ p, padN n = p := ⟨_, rfl⟩
      rw [hp] at hbt hpl
      simp only [hp] at HPD
      obtain ⟨bs, hbse⟩ : ∃ bs, pre ++ body (L.take k) = bs := ⟨_, rfl⟩
      have hbl : bs.length ≤ 1500 := by rw [← hbse, List.length_append, H6.out.2.1]; omega
      rw [hbse] at hw
      have hfin : bs ++ be2 a.ty ++ be2 (n : Int) ++ a.val ++ List.replicate p 0 = pre ++ body (L.take (k + 1)) := by
        rw [hbt, ← hbse]
        simp only [List.append_assoc]
      have HR := Lib.hid (And.intro hw (And.intro hfin (And.intro hnil (And.intro hbs (And.intro hbl hn)))))
      clear hw hbt hbt2 hnil hbs hbz x0 x1 ha hbse hbl hfin hp hn
      go_upto_region 9 with fail
      have hg5 := Whole.new wr 92 #[.int .u16 a.ty, .slice A' n c']
      have hr5 := HR.out.1.alloc (.cells #[.int .u16 a.ty, .slice A' n c'] 92)
      generalize wr.alloc (.cells #[.int .u16 a.ty, .slice A' n c'] 92) = W5 at *
      generalize wr.heap.size = g5 at *
      have d0 : W5.cell? ⟨g5, 0, none⟩ = some (.int .u16 a.ty) := hg5.cell 0
      have H5 := Lib.hid (And.intro hg5 hr5)
      clear hg5 hr5 c0 c1
      go_upto_region 10 with (go_at_call 65; (with_reducible refine (HP16.out _ _ _ _ H5.out.2 (by have := HR.out.2.2.2.2.1; omega)).mono ?_); rintro e w6 ⟨v6, rfl, hw6, hk6⟩)
      have hg6 := hk6 _ _ _ (by decide) H5.out.1
      have d1 : w6.cell? ⟨g5, 1, none⟩ = some (.slice A' n c') := hg6.cell 1
      have H6' := Lib.hid (And.intro hg6 hw6)
      clear hg6 hw6 hk6 d0
      go_upto_region 11 with (go_at_call 65; (with_reducible refine (HP16.out _ _ _ _ H6'.out.2 (by have := HR.out.2.2.2.2.1; simp; omega)).mono ?_); rintro e w7 ⟨v7, rfl, hw7, hk7⟩)
      have hg7 := hk7 _ _ _ (by decide) H6'.out.1
      have d1 : w7.cell? ⟨g5, 1, none⟩ = some (.slice A' n c') := hg7.cell 1
      have hb7 := HR.out.2.2.2.1.below hw7.below
      have H7 := Lib.hid (And.intro hg7 (And.intro hw7 hb7))
      clear hg7 hw7 hk7 hb7
      go_upto_region 12 with (at_builtin; go_must (refine wpList_append8 rfl (.tmp 45) (.tmp 47) rfl rfl H7.out.2.1.own rfl H7.out.2.2 HR.out.2.2.1 (by have := HR.out.2.2.2.2.1; simp; omega) H7.out.2.1.size ?_); intro v8 w8 h8 hg8 hh8)
      have hgr8 := Grew.of0 h8 hg8 hh8
      have hw8 := H7.out.2.1.grew hgr8
      have hg8' := H7.out.2.1.kept hgr8 _ _ _ (by decide) H7.out.1
      have d1 : w8.cell? ⟨g5, 1, none⟩ = some (.slice A' n c') := hg8'.cell 1
      have hlive := hw8.live (by simp; omega)
      have H8 := Lib.hid (And.intro hw8 hlive)
      clear hgr8 hw8 hg8' h8 hg8 hh8 hlive
      go_wp2_with (first
        | (go_at_call 61; (with_reducible refine (HPD.out _).mono ?_); rintro e w' ⟨rfl, rfl⟩)
        | (at_builtin; go_must (refine wpList_append_zeros8 rfl (.tmp 49) (.tmp 53) rfl rfl H8.out.1.own H8.out.2 (k := p) rfl (by have := HR.out.2.2.2.2.1; have := HR.out.2.2.2.2.2; simp; omega) H8.out.1.size ?_); intro v9 w9 h9 hg9 hh9))
      have hw9 := H8.out.1.grew (Grew.of0 h9 hg9 hh9)
      rw [HR.out.2.1] at hw9
      have H9 := Lib.hid hw9
      clear hw9 h9 hg9 hh9
      go_roundw
      case rel => exact ⟨k + 1, by omega, by go_num, H9.out⟩
      case measure => simp [intOf]; omega
    · have e : body (L.take k) = body L := by rw [List.take_of_length_le (by omega)]
      rw [e, H6.out.2.2] at hw
      have HR := Lib.hid hw
      obtain rfl : k = L.length := by omega
      clear hw e
      go_wp2
      go_ret
      refine ⟨_, rfl, HR.out.own.low ?_, HR.out.live ?_, ?_⟩
      · rw [HN.out]; omega
      · rw [← H6.out.2.2, List.length_append, H6.out.2.1]; omega
      · rw [HN.out]; exact HR.out.below

set_option maxHeartbeats 800000 in
theorem build_any (M : Array Value) (m : Msg) (A : Option Addr) (c : Nat) (w : World) (h : MsgV w w.heap.size M m A c) :
    Calls Try.prog 24 #[.agg M] w fun e w' => ((Valid m ∧ ∃ v, e = .returned (.tuple #[v, .int .i64 0]) ∧ Own8 w' w.heap.size v (msgBytes m) ∧ v ≠ .slice none 0 0) ∨ (¬ Valid m ∧ e = .returned (.tuple #[.slice none 0 0, .int .i64 1]))) ∧ Below w.heap.size w w' := by
  have HM := Lib.hid h
  have HS := Lib.hid (And.intro h.size h.one)
  have hg := Whole.new w 69 M
  have hb0 : Below w.heap.size w (w.alloc (.cells M 69)) := (Below.refl _ w).alloc (Nat.le_refl _) _
  have HG := Lib.hid (And.intro hg hb0)
  clear h hg hb0
  obtain ⟨N, hN⟩ : ∃ N, w.heap.size = N := ⟨_, rfl⟩
  have HN := Lib.hid hN
  rw [hN] at HM HG
  obtain ⟨vb, hvb⟩ : ∃ b, valid? m = b := ⟨_, rfl⟩
  have hvi := valid_iff m
  go_enter Try.func24, Try.ntmps24
  go_upto_region 1 with fail
  generalize w.alloc (.cells M 69) = W0 at *
  clear hN
  have HV : Hid (Calls Try.prog 41 #[.agg M] W0 fun e w' => e = .returned (.bool (valid? m)) ∧ Below W0.heap.size W0 w') :=
    Lib.hid (valid_any M m A c W0 ((HM.out.below HG.out.2).more (Nat.le_of_lt HG.out.1.lt)))
  rw [hvb] at HV hvi
  have HI := Lib.hid hvi
  clear hvi hvb
  cases vb with
  | false =>
    have HNV : Hid (¬ Valid m) := Lib.hid fun hv => by cases HI.out.2 hv
    go_wp2_with (first
      | (refine wpList_load_all rfl 69 (.tmp 1) rfl HG.out.1 rfl Try.sizeMsg HS.out.1 Try.underlying69 rfl ?_)
      | (go_at_call 41; (with_reducible refine HV.out.mono ?_); rintro e w1 ⟨rfl, hb1⟩))
    go_ret2
    refine ⟨.inr ⟨HNV.out, rfl⟩, ?_⟩
    · rw [HN.out]
      exact HG.out.2.trans (hb1.mono (Nat.le_of_lt HG.out.1.lt))
  | true =>
    have HVV := Lib.hid (HI.out.1 rfl)
    go_upto_region 3 with (first
      | (refine wpList_load_all rfl 69 (.tmp 1) rfl HG.out.1 rfl Try.sizeMsg HS.out.1 Try.underlying69 rfl ?_)
      | (go_at_call 41; (with_reducible refine HV.out.mono ?_); rintro e w1 ⟨rfl, hb1⟩))
    have hg1 := HG.out.1.under hb1
    have hb2 := HG.out.2.trans (hb1.mono (Nat.le_of_lt HG.out.1.lt))
    have HW := Lib.hid (write_any M m A c w1 ((HM.out.below hb2).more (Nat.le_of_lt hg1.lt)) HVV.out)
    have H1 := Lib.hid (And.intro hg1 hb2)
    clear hg1 hb2 hb1
    go_wp2_with (first
      | (refine wpList_load_all rfl 69 (.tmp 1) rfl H1.out.1 rfl Try.sizeMsg HS.out.1 Try.underlying69 rfl ?_)
      | (go_at_call 45; (with_reducible refine HW.out.mono ?_); rintro e w2 ⟨v, rfl, ho, hne, hb3⟩))
    go_ret2
    have hl := H1.out.1.lt
    refine ⟨.inl ⟨HVV.out, v, rfl, ho.low (by rw [HN.out]; omega), hne⟩, ?_⟩
    rw [HN.out]
    exact H1.out.2.trans (hb3.mono (by omega))
end Go.Proofs.Yteloaidnfcmadaa
