/- Pairs of an agent: a copy of its pairs. -/
import Derived.Test.YteloaidnfcmadaaIceNom
import Derived.Test.YteloaidnfcmadaaIceBytesAny
import Derived.Test.YteloaidnfcmadaaIceHandle
import Derived.Test.YteloaidnfcmadaaIceAwake
import Derived.Test.YteloaidnfcmadaaStRCheck
namespace Go.Proofs.Yteloaidnfcmadaa
open Go.RowKit
set_option linter.unusedVariables false
set_option linter.unusedSimpArgs false

theorem pcells_one (ps : List Pr) : ∀ u ∈ pcells ps, u.oneCell' = true := by
  induction ps with
  | nil => intro u hu; cases hu
  | cons p r ih =>
    intro u hu
    simp only [pcells, List.mem_cons] at hu
    rcases hu with rfl | rfl | rfl | rfl | hu
    · rfl
    · rfl
    · rfl
    · rfl
    · exact ih u hu
/-- A row of pairs is appended to an empty row. -/
theorem wpList_appP {ops : Array Oper} {rest : List Oper} {o : Oper} {a : Act} {Q : Exit → Act → World → Prop} (hgd : o.guard = none) (s y : Operand) (ho : o.op = .call { callee := .builtin .append, args := #[s, y], argTypes := #[46, 46] })
    {w : World} {base base' g n c : Nat} {ps : List Pr} (h : Row4 w base (.slice (some ⟨g, 0, none⟩) n c) ps) (hn : ps.length = n) (hf : n ≤ 4) {v0 : Value} (h0 : Row4 w base' v0 []) (hbase : base' ≤ w.heap.size) (hs : a.eval s = v0) (hy : a.eval y = .slice (some ⟨g, 0, none⟩) n c)
    (hK : ∀ v' w', Row4 w' base' v' ps → w.grownBy w' v0.ownBlock → wpList Try.prog ops Q rest (a.put o.dst v') w') : wpList Try.prog ops Q (o :: rest) a w := by
  subst hn
  obtain ⟨i0, hi0, hz0, hz1, hz2⟩ := info_parts Try.infoPair
  obtain ⟨v', w', hrun, h2, h3, _, h5⟩ := run_append_own_at (P := Try.prog) w base' 46 o.type 63 i0 (.agg #[.int .u32 0, .int .u16 0, .int .i64 0, .bool false]) 4 24 Try.underlying46 hi0 hz0 hz1 hz2 rfl (by decide) v0 0 [] h0 ⟨g, 0, none⟩ ps.length c (pcells ps) (by simp)
    (fun j u hj => World.ownsRow.cells (g := g) h rfl j u hj) (pcells_one ps) (by unfold maxLen; omega) (by omega) hbase
  refine wpList_plain hgd fun K hk => ?_
  unfold Oper.wp execOp
  simp only [ho, resolve, invoke, builtin, Sem.run_bind, Sem.run_pure, Result.andThen_ok, List.map_toArray, List.map_cons, List.map_nil, hs, hy, hrun]
  refine hk _ _ (hK v' w' ?_ h3)
  unfold Row4
  rw [Nat.zero_add, List.nil_append] at h2
  exact h2

set_option maxHeartbeats 1600000 in
set_option maxRecDepth 100000 in
theorem cloneP_any (base : Nat) (v : Value) (ps : List Pr) (w : World) (h : Row4 w base v ps) (hf : ps.length ≤ 4) :
    Calls Try.prog 21 #[v] w fun e w' => ∃ A c, e = .returned (.slice A ps.length c) ∧ Below w.heap.size w w' := by
  have q : ∀ (w : World) (a : Option Addr) (n c n' c' : Nat), (binOp .eql 46 (.slice a n c) (.slice none n' c')).run Try.prog w = .ok (.bool a.isNone) w := fun w a n c n' c' => Lib.run_eql_slice_nil w 46 63 a n c n' c' Try.underlying46
  rcases h.2 with ⟨rfl, h0⟩ | ⟨g, cap, cur, rfl, -⟩
  · rw [h0]
    clear h
    go_enter Try.func21, Try.ntmps21
    go_wp2
    go_ret
    exact ⟨_, _, rfl, Below.refl _ w⟩
  · have hal := (Below.refl w.heap.size w).alloc (Nat.le_refl _) (.cells #[] 63)
    have hr := h.under hal
    have h0 : Row4 (w.alloc (.cells #[] 63)) w.heap.size (.slice (some ⟨w.heap.size, 0, none⟩) 0 0) [] := World.ownsRow_made w #[] 0 (Nat.le_refl _) (Nat.zero_le _) rfl
    obtain ⟨n, hn⟩ : ∃ n, ps.length = n := ⟨_, rfl⟩
    rw [hn] at hr hf ⊢
    have H := Lib.hid (And.intro hr (And.intro h0 (And.intro hal (And.intro hn hf))))
    clear hal hr h0 hn h
    go_enter Try.func21, Try.ntmps21
    go_wp2_with (refine wpList_appP rfl (.tmp 5) (.tmp 6) rfl H.out.1 H.out.2.2.2.1 H.out.2.2.2.2 H.out.2.1 H.out.2.2.1.size rfl rfl ?_; intro v7 w7 h7 hg7; obtain ⟨A7, c7, hv7, -⟩ := h7.form; rw [H.out.2.2.2.1] at hv7; subst hv7)
    go_ret
    exact ⟨A7, c7, rfl, H.out.2.2.1.grown hg7 H.out.2.2.1.size (fun k hk => by cases hk; exact Nat.le_refl _)⟩

set_option maxHeartbeats 1600000 in
theorem pairs_any (base ga : Nat) (v : Value) (s : Ag) (w : World) (h : AgV w base ga v s) :
    Calls Try.prog 14 #[.pointer (some ⟨ga, 0, none⟩)] w fun e w' => ∃ A c, e = .returned (.slice A s.ps.length c) ∧ Below w.heap.size w w' := by
  have HC := Lib.hid (cloneP_any base v s.ps w h.row h.few)
  have c2 : w.cell? ⟨ga, 2, none⟩ = some v := h.box.cell 2
  obtain ⟨A, c, hv, -⟩ := h.row.form
  obtain ⟨n, hn⟩ : ∃ n, s.ps.length = n := ⟨_, rfl⟩
  rw [hn] at hv HC ⊢
  subst hv
  clear h hn
  go_enter Try.func14, Try.ntmps14
  go_wp2_with (go_at_call 21; (with_reducible refine HC.out.mono ?_); rintro e w1 ⟨A1, c1, rfl, hb1⟩)
  go_ret
  exact ⟨A1, c1, rfl, hb1⟩
end Go.Proofs.Yteloaidnfcmadaa

namespace Go.Proofs.Yteloaidnfcmadaa
open Go.RowKit
set_option linter.unusedVariables false
set_option linter.unusedSimpArgs false

/-- A check's parts are in range, and what hangs from it lies below B. -/
structure ChkOk (W : World) (B : Nat) (k : Chk) (A : Option Addr) (n c : Nat) (us : List Int) (rv : Value) (rs : List Int) : Prop where
  hs : Hs W B A n us
  us16 : ∀ i, 0 ≤ us.getD i 0 ∧ us.getD i 0 < 65536
  nl : n ≤ 140737488351232
  raw : V8 W B rv rs
  rs8 : In256 rs
  rl : rs.length ≤ 140737488351232
  usz : k.user.size ≤ 140737488351232
  ksz : k.key.size ≤ 140737488351232
  now1 : k.now < 9223372036854775808
theorem ChkOk.below {W W' : World} {B : Nat} {k : Chk} {A : Option Addr} {n c : Nat} {us : List Int} {rv : Value} {rs : List Int} (h : ChkOk W B k A n c us rv rs) (hb : Below B W W') : ChkOk W' B k A n c us rv rs :=
  ⟨h.hs.below hb, h.us16, h.nl, h.raw.below hb, h.rs8, h.rl, h.usz, h.ksz, h.now1⟩
theorem Hs.more {w : World} {B B' : Nat} {A : Option Addr} {n : Nat} {us : List Int} (h : Hs w B A n us) (hB : B ≤ B') : Hs w B' A n us :=
  ⟨h.1, fun hn => by
    obtain ⟨ad, h1, h2, h3⟩ := h.2 hn
    exact ⟨ad, h1, by omega, h3⟩⟩
/-- What a call of bytesOf comes to. -/
def BytesA (w : World) (e : Ending) (w' : World) : Prop := ∃ v xs, e = .returned v ∧ V8 w' w'.heap.size v xs ∧ In256 xs ∧ xs.length ≤ 140737488351232 ∧ Below w.heap.size w w'

set_option maxHeartbeats 1600000 in
theorem bytesOf_plain (k : Chk) (A : Option Addr) (n c : Nat) (rv : Value) (rs : List Int) (hp : k.plain = true) (w : World) (hr : V8 w w.heap.size rv rs) (hx : In256 rs) (hl : rs.length ≤ 140737488351232) :
    Calls Try.prog 11 #[.agg (chkc k (.slice A n c) rv)] w fun e w' => BytesA w e w' := by
  have hb0 : Below w.heap.size w (w.alloc (.cells (chkc k (.slice A n c) rv) 36)) := (Below.refl _ w).alloc (Nat.le_refl _) _
  have g0 := Whole.new w 36 (chkc k (.slice A n c) rv)
  have HF := Lib.hid (show V8 (w.alloc (.cells (chkc k (.slice A n c) rv) 36)) (w.alloc (.cells (chkc k (.slice A n c) rv) 36)).heap.size rv rs ∧ In256 rs ∧ rs.length ≤ 140737488351232 ∧ Below w.heap.size w (w.alloc (.cells (chkc k (.slice A n c) rv) 36)) from ⟨(hr.below hb0).more hb0.size, hx, hl, hb0⟩)
  unfold chkc at g0 HF ⊢
  obtain ⟨ip, port, now, user, key, cl, me, pri, cand, at_, by_, plain⟩ := k
  simp only at hp g0 HF ⊢
  subst hp
  have d12 := g0.cell 12
  have d13 := g0.cell 13
  clear g0 hb0 hr hx hl
  obtain ⟨N, hN⟩ : ∃ N, w.heap.size = N := ⟨_, rfl⟩
  rw [hN] at d12 d13
  go_enter Try.func11, Try.ntmps11
  go_wp2
  go_ret
  exact ⟨rv, rs, rfl, HF.out.1, HF.out.2.1, HF.out.2.2.1, HF.out.2.2.2⟩
theorem bytesOf_all (k : Chk) (A : Option Addr) (n c : Nat) (us : List Int) (rv : Value) (rs : List Int) (w : World) (h : ChkOk w w.heap.size k A n c us rv rs) :
    Calls Try.prog 11 #[.agg (chkc k (.slice A n c) rv)] w fun e w' => BytesA w e w' := by
  cases hp : k.plain with
  | true => exact bytesOf_plain k A n c rv rs hp w h.raw h.rs8 h.rl
  | false =>
    refine (bytesOf_some k A n c us rv hp h.usz h.ksz w h.hs h.us16 h.nl).mono fun e w' hh => ?_
    obtain ⟨v, xs, h1, h2, h3, h4, h5⟩ := hh
    exact ⟨v, xs, h1, h2.v8, h3, by omega, h5⟩
end Go.Proofs.Yteloaidnfcmadaa

namespace Go.Proofs.Yteloaidnfcmadaa
open Go.RowKit
set_option linter.unusedVariables false
set_option linter.unusedSimpArgs false

/-- The check k lies at p. -/
structure ChkCells (W : World) (p : Addr) (cs : Array Value) : Prop where
  c0 : W.cell? p = cs[0]?
  cj : ∀ j, 0 < j → j < 14 → W.cell? ⟨p.block, p.off + j, none⟩ = cs[j]?
theorem ChkCells.below {W W' : World} {p : Addr} {cs : Array Value} {B : Nat} (h : ChkCells W p cs) (hp : p.block < B) (hb : Below B W W') : ChkCells W' p cs :=
  ⟨(hb.cell hp).trans h.c0, fun j h0 h1 => (hb.cell (p := ⟨p.block, p.off + j, none⟩) hp).trans (h.cj j h0 h1)⟩
/-- The n checks at A. -/
def ChksIn (w : World) (A : Option Addr) (n : Nat) : Prop := ∀ i, i < n → ∃ ad k Am nm cm us rv rs, A = some ad ∧ ad.block < w.heap.size ∧ ChkCells w (ad.add (i * 14)) (chkc k (.slice Am nm cm) rv) ∧ ChkOk w w.heap.size k Am nm cm us rv rs

set_option maxHeartbeats 6400000 in
set_option maxRecDepth 100000 in
theorem guards_walk (nm pw : ByteArray) (A : Option Addr) (n c : Nat) (w : World) (hnm : nm.size ≤ 140737488351232) (hpw : pw.size ≤ 140737488351232) (hc : ChksIn w A n) :
    Calls Try.prog 4 #[.string nm, .string pw, .slice A n c] w fun e w' => e = .returned (.bool true) ∧ Below w.heap.size w w' := by
  have HAW := Lib.hid awake5_yes
  have HC := Lib.hid hc
  have HPW := Lib.hid hpw
  have HNW : Hid (∀ W, Calls Try.prog 10 #[.string nm, .string pw] W fun e w' => e = .returned (.pointer (some ⟨W.heap.size, 0, none⟩)) ∧ w' = W.alloc (.cells #[.string nm, .string pw, .slice none 0 0, .int .i64 0] 55)) := Lib.hid fun W => new_any nm pw W
  have HAG : Hid (∀ W : World, AgV (W.alloc (.cells #[.string nm, .string pw, .slice none 0 0, .int .i64 0] 55)) W.heap.size W.heap.size (.slice none 0 0) ⟨nm, pw, [], 0⟩) := Lib.hid fun W => new_agv nm pw W hnm hpw W.heap.size (Nat.le_refl _)
  clear hc hnm hpw
  obtain ⟨N, hN⟩ : ∃ N, w.heap.size = N := ⟨_, rfl⟩
  have HN := Lib.hid hN
  rw [hN]
  go_enter Try.func4, Try.ntmps4
  go_upto_region 3 with (go_at_call 7; (with_reducible refine (HAW.out _).mono ?_); rintro e w1 ⟨rfl, hb1⟩)
  have hA0 := HAG.out w1
  have hB0 := (Below.refl w1.heap.size w1).alloc (Nat.le_refl _) (.cells #[.string nm, .string pw, .slice none 0 0, .int .i64 0] 55)
  go_upto_region 4 with (go_at_call 10; (with_reducible refine (HNW.out _).mono ?_); rintro e w2 ⟨rfl, rfl⟩)
  have HN1 := Lib.hid (And.intro hb1 hb1.size)
  rw [hN] at HN1
  clear hN hb1
  obtain ⟨N1, hN1⟩ : ∃ N, w1.heap.size = N := ⟨_, rfl⟩
  rw [hN1] at hA0 hB0 HN1 ⊢
  have HB0 := Lib.hid (And.intro hA0 hB0)
  clear hA0 hB0
  generalize w1.alloc (.cells #[.string nm, .string pw, .slice none 0 0, .int .i64 0] 55) = W2 at *
  clear hN1
  go_wp2
  go_loopw [26] (fun s26 wr => ∃ (j : Nat) (v : Value) (s : Ag), j ≤ n ∧ s26 = .int .i64 j ∧ AgV wr N1 N1 v s ∧ s.pw = pw ∧ Below N1 w1 wr) (fun s26 _ => n - (intOf s26).toNat)
  case atStart => exact ⟨0, _, _, by omega, rfl, HB0.out.1, rfl, HB0.out.2⟩
  case round =>
    obtain ⟨j, v, s, hjn, rfl, hA, hsp, hb⟩ := hrel
    have HR := Lib.hid (And.intro hA (And.intro hsp hb))
    have HW : Hid (Below N w wr) := Lib.hid (HN1.out.1.trans (hb.mono HN1.out.2))
    clear hA hsp hb
    by_cases hj : j < n
    · have hj0 : (0 : Int) ≤ (j : Int) := by omega
      have hj1 : (j : Int) < (n : Int) := by omega
      by_cases hj30 : j < 30
      · have hj3 : (j : Int) < 30 := by omega
        obtain ⟨ad, k, Am, nm', cm, us, rv, rs, hA, hadN, hcl, hok⟩ := HC.out j hj
        subst hA
        have hok' := hok.below (by rw [HN.out]; exact HW.out)
        rw [HN.out] at hadN hok'
        have hcr := hcl.below (B := N) (by rw [add_block]; exact hadN) HW.out
        have hNr : N ≤ wr.heap.size := Nat.le_trans (by rw [← HN.out]; exact Nat.le_refl _) HW.out.size
        have HBY := Lib.hid (bytesOf_all k Am nm' cm us rv rs wr ⟨hok'.hs.more hNr, hok'.us16, hok'.nl, hok'.raw.more hNr, hok'.rs8, hok'.rl, hok'.usz, hok'.ksz, hok'.now1⟩)
        have HCL := Lib.hid (And.intro hcl (And.intro hadN hok'.now1))
        obtain ⟨ip, port, now, user, key, cl, me, pri, cand, at_, by_, plain⟩ := k
        unfold chkc at HBY HCL hcr
        have d0 := hcr.c0
        have d1 := hcr.cj 1 (by omega) (by omega)
        have d2 := hcr.cj 2 (by omega) (by omega)
        have d3 := hcr.cj 3 (by omega) (by omega)
        have d4 := hcr.cj 4 (by omega) (by omega)
        have d5 := hcr.cj 5 (by omega) (by omega)
        have d6 := hcr.cj 6 (by omega) (by omega)
        have d7 := hcr.cj 7 (by omega) (by omega)
        have d8 := hcr.cj 8 (by omega) (by omega)
        have d9 := hcr.cj 9 (by omega) (by omega)
        have d10 := hcr.cj 10 (by omega) (by omega)
        have d11 := hcr.cj 11 (by omega) (by omega)
        have d12 := hcr.cj 12 (by omega) (by omega)
        have d13 := hcr.cj 13 (by omega) (by omega)
        clear hcr hcl hok hok' hNr
        go_upto_region 9 with (go_at_call 11; (with_reducible refine HBY.out.mono ?_); intro e w9 hh; obtain ⟨v9, xs9, he9, hv9, hx9, hl9, hb9⟩ := hh; subst he9)
        clear d0 d1 d2 d3 d4 d5 d6 d7 d8 d9 d10 d11 d12 d13
        have hz := Try.zeroRMsg
        obtain ⟨Z, hZ⟩ : ∃ Z, zM = Z := ⟨_, rfl⟩
        have HZ : Hid (Z.size = 15) := Lib.hid (by rw [← hZ]; rfl)
        simp only [hZ] at hz
        clear hZ
        have HX9 := Lib.hid (And.intro hv9 (And.intro hx9 (And.intro hl9 (And.intro (HR.out.1.under hb9) (HR.out.2.2.trans (hb9.mono HR.out.1.lowsz))))))
        clear hv9 hx9 hl9 hb9
        obtain ⟨cp, W10, hcv, -, hv10, hb10⟩ := conv_bytes pw w9 (by have := HPW.out; unfold maxLen; omega)
        have HCK := Lib.hid (rcheck_any v9 _ xs9 (nums pw) W10 ((HX9.out.1.below hb10).more hb10.size) HX9.out.2.1 (by have := HX9.out.2.2.1; omega) hv10 (nums_in pw) (by rw [nums_length]; exact HPW.out))
        have HB10 := Lib.hid hb10
        clear hv10 hb10
        obtain ⟨g9, hg9⟩ : ∃ g, w9.heap.size = g := ⟨_, rfl⟩
        obtain ⟨np, hnp⟩ : ∃ g, pw.size = g := ⟨_, rfl⟩
        rw [hg9, hnp] at hcv HCK
        clear hg9 hnp
        go_upto_region 10 with (first
          | (go_at_call 12; (with_reducible refine HCK.out.mono ?_); rintro e w11 ⟨M, x11, rfl, hck, hb11⟩; have hS := Lib.hid (check_size hck))
          | (refine wpList_store_whole rfl 40 (.tmp 10) (.tmp 41) rfl rfl rfl (Whole.new _ _ _) Try.sizeRMsg hS.out.1 HZ.out hS.out.2 ?_))
        have hb12 : Below w9.heap.size w9 ((w11.alloc (.cells Z 40)).setRow w11.heap.size M) := by
          have h1 : Below w11.heap.size w11 ((w11.alloc (.cells Z 40)).setRow w11.heap.size M) := below_row ((Below.refl _ _).alloc (Nat.le_refl _) _) (Nat.le_refl _) _
          have h2 : Below w9.heap.size w9 w11 := HB10.out.trans (hb11.mono HB10.out.size)
          exact h2.trans (h1.mono h2.size)
        have HCV : Hid (∀ m, Is xs9 m → (x11 = 0 ∧ SignedBy m (nums pw)) ∨ (x11 = 4 ∧ ¬ SignedBy m (nums pw))) := Lib.hid fun m hi => check_iff hi hck
        have HX12 := Lib.hid (show V8 ((w11.alloc (.cells Z 40)).setRow w11.heap.size M) ((w11.alloc (.cells Z 40)).setRow w11.heap.size M).heap.size v9 xs9 ∧ AgV ((w11.alloc (.cells Z 40)).setRow w11.heap.size M) N1 N1 v s ∧ Below N1 w1 ((w11.alloc (.cells Z 40)).setRow w11.heap.size M) from ⟨(HX9.out.1.below hb12).more hb12.size, HX9.out.2.2.2.1.under hb12, HX9.out.2.2.2.2.trans (hb12.mono HX9.out.2.2.2.1.lowsz)⟩)
        clear hb12 hb11 hck hz hcv HCK HB10
        generalize (w11.alloc (.cells Z 40)).setRow w11.heap.size M = W12 at *
        generalize w11.heap.size = g10 at *
        have HSL := Lib.hid (selected_any N1 N1 v s W12 HX12.out.2.1)
        obtain ⟨q, hq⟩ : ∃ q, nomF s.ps = q := ⟨_, rfl⟩
        have HQ := Lib.hid hq
        rw [hq] at HSL
        clear hq
        obtain ⟨⟨ip0, po0, la0, no0⟩, b0⟩ := q
        simp only at HSL
        go_upto_region 11 with (go_at_call 13; (with_reducible refine HSL.out.mono ?_); rintro e w13 ⟨rfl, hb13⟩)
        have hb14 : Below W12.heap.size W12 (w13.alloc (.cells #[.int .u32 ip0, .int .u16 po0] 33)) := hb13.alloc hb13.size _
        have HX14 := Lib.hid (And.intro ((HX12.out.1.below hb14).more hb14.size) (And.intro (HX12.out.2.1.under hb14) (And.intro (HX12.out.2.2.trans (hb14.mono HX12.out.2.1.lowsz)) (Whole.new w13 33 #[.int .u32 ip0, .int .u16 po0]))))
        clear hb13 hb14 HSL
        generalize w13.alloc (.cells #[.int .u32 ip0, .int .u16 po0] 33) = W14 at *
        generalize w13.heap.size = g12 at *
        have HPR := Lib.hid (pairs_any N1 N1 v s W14 HX14.out.2.1)
        obtain ⟨np2, hnp2⟩ : ∃ l, s.ps.length = l := ⟨_, rfl⟩
        have HNP := Lib.hid hnp2
        rw [hnp2] at HPR
        clear hnp2
        go_upto_region 12 with (go_at_call 14; (with_reducible refine HPR.out.mono ?_); rintro e w15 ⟨A15, c15, rfl, hb15⟩)
        have HX15 := Lib.hid (And.intro ((HX14.out.1.below hb15).more hb15.size) (And.intro (HX14.out.2.1.under hb15) (And.intro (HX14.out.2.2.1.trans (hb15.mono HX14.out.2.1.lowsz)) (HX14.out.2.2.2.under hb15))))
        clear hb15 HPR
        have hbw : Below N w w15 := HN1.out.1.trans (HX15.out.2.2.1.mono HN1.out.2)
        have HBW := Lib.hid hbw
        have HL : Hid (∀ W, Below N w15 W → W.cell? (ad.add (j * 14)) = some (.int .u32 ip) ∧ W.cell? ⟨(ad.add (j * 14)).block, (ad.add (j * 14)).off + 1, none⟩ = some (.int .u16 port) ∧ W.cell? ⟨(ad.add (j * 14)).block, (ad.add (j * 14)).off + 2, none⟩ = some (.int .i64 now)) := Lib.hid fun W hW =>
          have h := HCL.out.1.below (B := N) (by rw [add_block]; exact HCL.out.2.1) (HBW.out.trans hW)
          ⟨h.c0, h.cj 1 (by omega) (by omega), h.cj 2 (by omega) (by omega)⟩
        have hnow : now < 9223372036854775808 := HCL.out.2.2
        clear hbw
        obtain ⟨A9, c9, hv9, -, -, hn9, hbs9⟩ := HX15.out.1
        subst hv9
        have HBS := Lib.hid (And.intro hn9 hbs9)
        obtain ⟨l9, hl9⟩ : ∃ l, xs9.length = l := ⟨_, rfl⟩
        have HL9 := Lib.hid hl9
        rw [hl9] at HBS ⊢
        clear hn9 hbs9 hl9
        have hN15 : N ≤ w15.heap.size := Nat.le_trans HN1.out.2 HX15.out.2.1.lowsz
        have HN15 := Lib.hid hN15
        have hb0 : Below N w15 w15.drew := (Below.refl N w15).drew
        clear hN15
        refine wp_region_held_drew (S := fun W => Below N w15 W) (by kernel_rfl) hb0 (fun hHeld => ?_)
        refine wpAnyH_take (i := 0) (v := .pointer (some ⟨N1, 0, none⟩)) rfl (by kernel_rfl) (by kernel_rfl) (by kernel_rfl) (fun _ _ _ h => h) (Or.inl ⟨by rfl, fun w h => by go_simp⟩) (by assumption) ?_
        simp only [Act.put, List.getElem_toArray, List.getElem_cons_succ, List.getElem_cons_zero, List.setIfInBounds_toArray, List.set_cons_succ, List.set_cons_zero]
        refine wpAnyH_take (i := 2) (v := .slice A9 l9 c9) rfl (by kernel_rfl) (by kernel_rfl) (by kernel_rfl) (fun _ _ _ h => h) (Or.inl ⟨by rfl, fun w h => by go_simp⟩) (by assumption) ?_
        simp only [Act.put, List.getElem_toArray, List.getElem_cons_succ, List.getElem_cons_zero, List.setIfInBounds_toArray, List.set_cons_succ, List.set_cons_zero]
        refine wpAnyH_take (i := 4) (v := .slice (some ad) n c) rfl (by kernel_rfl) (by kernel_rfl) (by kernel_rfl) (fun _ _ _ h => h) (Or.inl ⟨by rfl, fun w h => by go_simp⟩) (by assumption) ?_
        simp only [Act.put, List.getElem_toArray, List.getElem_cons_succ, List.getElem_cons_zero, List.setIfInBounds_toArray, List.set_cons_succ, List.set_cons_zero]
        refine wpAnyH_take (i := 5) (v := .int .i64 (j : Int)) rfl (by kernel_rfl) (by kernel_rfl) (by kernel_rfl) (fun _ _ _ h => h) (Or.inl ⟨by rfl, fun w h => by go_simp⟩) (by assumption) ?_
        simp only [Act.put, List.getElem_toArray, List.getElem_cons_succ, List.getElem_cons_zero, List.setIfInBounds_toArray, List.set_cons_succ, List.set_cons_zero]
        refine wpAnyH_take (i := 6) (v := .pointer (some (ad.add (j * 14)))) rfl (by kernel_rfl) (by kernel_rfl) (by kernel_rfl) (fun _ _ _ h => h) (Or.inl ⟨by rfl, fun w h => by go_simp⟩) (by assumption) ?_
        simp only [Act.put, List.getElem_toArray, List.getElem_cons_succ, List.getElem_cons_zero, List.setIfInBounds_toArray, List.set_cons_succ, List.set_cons_zero]
        refine wpAnyH_take (i := 7) (v := .pointer (some (ad.add (j * 14)))) rfl (by kernel_rfl) (by kernel_rfl) (by kernel_rfl) (fun _ _ _ h => h) (Or.inl ⟨by rfl, fun w h => by go_simp⟩) (by assumption) ?_
        simp only [Act.put, List.getElem_toArray, List.getElem_cons_succ, List.getElem_cons_zero, List.setIfInBounds_toArray, List.set_cons_succ, List.set_cons_zero]
        refine wpAnyH_take (i := 8) (v := .agg #[.int .u32 ip, .int .u16 port]) rfl (by kernel_rfl) (by kernel_rfl) (by kernel_rfl) (fun _ _ _ h => h) (Or.inl ⟨by rfl, fun w h => by have e := HL.out w h; clear h; obtain ⟨e1, e2, e3⟩ := e; go_simp⟩) (by assumption) ?_
        simp only [Act.put, List.getElem_toArray, List.getElem_cons_succ, List.getElem_cons_zero, List.setIfInBounds_toArray, List.set_cons_succ, List.set_cons_zero]
        refine wpAnyH_take (i := 9) (v := .slice (some ad) n c) rfl (by kernel_rfl) (by kernel_rfl) (by kernel_rfl) (fun _ _ _ h => h) (Or.inl ⟨by rfl, fun w h => by go_simp⟩) (by assumption) ?_
        simp only [Act.put, List.getElem_toArray, List.getElem_cons_succ, List.getElem_cons_zero, List.setIfInBounds_toArray, List.set_cons_succ, List.set_cons_zero]
        refine wpAnyH_take (i := 10) (v := .int .i64 (j : Int)) rfl (by kernel_rfl) (by kernel_rfl) (by kernel_rfl) (fun _ _ _ h => h) (Or.inl ⟨by rfl, fun w h => by go_simp⟩) (by assumption) ?_
        simp only [Act.put, List.getElem_toArray, List.getElem_cons_succ, List.getElem_cons_zero, List.setIfInBounds_toArray, List.set_cons_succ, List.set_cons_zero]
        refine wpAnyH_take (i := 11) (v := .pointer (some (ad.add (j * 14)))) rfl (by kernel_rfl) (by kernel_rfl) (by kernel_rfl) (fun _ _ _ h => h) (Or.inl ⟨by rfl, fun w h => by go_simp⟩) (by assumption) ?_
        simp only [Act.put, List.getElem_toArray, List.getElem_cons_succ, List.getElem_cons_zero, List.setIfInBounds_toArray, List.set_cons_succ, List.set_cons_zero]
        refine wpAnyH_take (i := 12) (v := .pointer (some ⟨(ad.add (j * 14)).block, (ad.add (j * 14)).off + 2, none⟩)) rfl (by kernel_rfl) (by kernel_rfl) (by kernel_rfl) (fun _ _ _ h => h) (Or.inl ⟨by rfl, fun w h => by go_simp⟩) (by assumption) ?_
        simp only [Act.put, List.getElem_toArray, List.getElem_cons_succ, List.getElem_cons_zero, List.setIfInBounds_toArray, List.set_cons_succ, List.set_cons_zero]
        refine wpAnyH_take (i := 13) (v := .int .i64 now) rfl (by kernel_rfl) (by kernel_rfl) (by kernel_rfl) (fun _ _ _ h => h) (Or.inl ⟨by rfl, fun w h => by have e := HL.out w h; clear h; obtain ⟨e1, e2, e3⟩ := e; go_simp⟩) (by assumption) ?_
        simp only [Act.put, List.getElem_toArray, List.getElem_cons_succ, List.getElem_cons_zero, List.setIfInBounds_toArray, List.set_cons_succ, List.set_cons_zero]
        have hB16 : Below w15.heap.size w15 (w15.drew.alloc (.cells #[] 5)) := (Below.refl w15.heap.size w15).drew.alloc (Nat.le_refl _) _
        have H16 := Lib.hid (And.intro hB16 (Own8.made w15.drew (Nat.le_refl _)))
        clear hB16
        refine wpAnyH_ready (rs := [1]) (by kernel_rfl) (by simp) ?_
        refine AllReadyH.cons (i := 1) rfl (fun K hK => ?_) AllReadyH.nil
        go_simp
        refine hK.out _ _ (H16.out.1.mono HN15.out) (fun hHeld => ?_)
        clear hK K
        try simp only [Act.put]
        refine wpAnyH_ready (rs := [3]) (by kernel_rfl) (by simp) ?_
        refine AllReadyH.cons (i := 3) rfl (fun K hK => ?_) AllReadyH.nil
        refine step_of rfl (wp_append8 (.tmp 53) (.tmp 54) rfl rfl H16.out.2 rfl (HBS.out.2.below H16.out.1) HBS.out.1 (by have := HX9.out.2.2.1; have := HL9.out; simp; omega) H16.out.1.size ?_)
        intro v17 w17 h17 hg17 _
        rw [List.nil_append] at h17
        have hb17 : Below w15.heap.size w15 w17 := H16.out.1.grown hg17 H16.out.1.size (fun k hk => (H16.out.2.lt hk).1)
        have H17 := Lib.hid (And.intro h17 hb17)
        clear h17 hg17 hb17
        refine hK.out _ _ (H17.out.2.mono HN15.out) (fun hHeld => ?_)
        clear hK K
        try simp only [Act.put]
        refine wpAnyH_ready (rs := [14]) (by kernel_rfl) (by simp) ?_
        refine AllReadyH.cons (i := 14) rfl (fun K hK => ?_) AllReadyH.nil
        go_simp
        refine (handle_any N1 N1 v s _ v17 xs9 ip port now w17 (HX15.out.2.1.under H17.out.2) H17.out.1 HX9.out.2.1 (by have := HX9.out.2.2.1; omega) hnow).mono ?_
        intro e w18 hh
        obtain ⟨vr, x16, s', v', he, hA', hs', hd⟩ := hh
        subst he
        have hb18 : Below N1 w17 w18 := hs'.only.below (fun k hk => (HX15.out.2.1.under H17.out.2).mine_low hk) (HX15.out.2.1.under H17.out.2).lowsz
        have hb18' : Below N w15 w18 := (H17.out.2.mono HN15.out).trans (hb18.mono HN1.out.2)
        have H18 := Lib.hid (And.intro hA' (And.intro (((HX15.out.2.2.1.trans (H17.out.2.mono HX15.out.2.1.lowsz))).trans hb18) (And.intro ((HX15.out.2.2.2.under H17.out.2).only hs'.only ((HX15.out.2.1.under H17.out.2).not_mine (HX15.out.2.2.2.under H17.out.2) (by decide) (by decide))) hd)))
        have HB18 := Lib.hid hb18'
        clear hA' hs' hd hb18 hb18'
        refine hK.out _ _ HB18.out (fun hHeld => ?_)
        clear hK K
        try simp only [Act.put]
        refine wpAnyH_take (i := 15) (v := .tuple #[vr, .int .i64 x16]) rfl (by kernel_rfl) (by kernel_rfl) (by kernel_rfl) (fun _ _ _ h => h) (Or.inl ⟨by rfl, fun w h => by go_simp⟩) (by assumption) ?_
        simp only [Act.put, List.getElem_toArray, List.getElem_cons_succ, List.getElem_cons_zero, List.setIfInBounds_toArray, List.set_cons_succ, List.set_cons_zero]
        refine wpAnyH_take (i := 16) (v := vr) rfl (by kernel_rfl) (by kernel_rfl) (by kernel_rfl) (fun _ _ _ h => h) (Or.inl ⟨by rfl, fun w h => by go_simp⟩) (by assumption) ?_
        simp only [Act.put, List.getElem_toArray, List.getElem_cons_succ, List.getElem_cons_zero, List.setIfInBounds_toArray, List.set_cons_succ, List.set_cons_zero]
        refine wpAnyH_take (i := 17) (v := .int .i64 x16) rfl (by kernel_rfl) (by kernel_rfl) (by kernel_rfl) (fun _ _ _ h => h) (Or.inl ⟨by rfl, fun w h => by go_simp⟩) (by assumption) ?_
        simp only [Act.put, List.getElem_toArray, List.getElem_cons_succ, List.getElem_cons_zero, List.setIfInBounds_toArray, List.set_cons_succ, List.set_cons_zero]
        refine wpAnyH_ready (rs := [18]) (by kernel_rfl) (by simp) ?_
        refine AllReadyH.cons (i := 18) rfl (fun K hK => ?_) AllReadyH.nil
        go_simp
        refine hK.out _ _ HB18.out (fun hHeld => ?_)
        clear hK K
        try simp only [Act.put]
        refine wpAnyH_ready (rs := [19]) (by kernel_rfl) (by simp) ?_
        refine AllReadyH.cons (i := 19) rfl (fun K hK => ?_) AllReadyH.nil
        go_simp
        refine hK.out _ _ HB18.out (fun hHeld => ?_)
        clear hK K
        refine wpAnyH_done (by kernel_rfl) ?_ _
        clear hHeld hb0
        go_upto_region 13 with fail
        rcases H18.out.2.2.2 with ⟨hx0, m, ps', hi, hg, -, hse, -⟩ | ⟨hx0, hse, -⟩
        · have hx11 : x11 = 0 := by
            rcases HCV.out m hi with h | h
            · exact h.1
            · exact (h.2 (by rw [← HR.out.2.1]; exact hg.2.2.1.2.2)).elim
          have HSP : Hid (s'.pw = pw) := Lib.hid (by rw [hse]; exact HR.out.2.1)
          have HA18 := Lib.hid H18.out.1
          clear hi hg hse
          subst hx0
          subst hx11
          obtain ⟨q, hq⟩ : ∃ q, nomF s'.ps = q := ⟨_, rfl⟩
          obtain ⟨⟨ip1, po1, la1, no1⟩, b1⟩ := q
          obtain ⟨n4, hn4⟩ : ∃ l, s'.ps.length = l := ⟨_, rfl⟩
          have HNL := Lib.hid hn4
          have hn44 : (n4 : Int) ≤ 4 := by have := HA18.out.few; omega
          have hn40 : (0 : Int) ≤ (n4 : Int) := by omega
          have HSL := Lib.hid (selected_any N1 N1 v' s' w18 HA18.out)
          rw [hq] at HSL
          simp only at HSL
          go_upto_region 14 with (go_at_call 13; (with_reducible refine HSL.out.mono ?_); rintro e w19 ⟨rfl, hb19⟩)
          have hb20 : Below w18.heap.size w18 (w19.alloc (.cells #[.int .u32 ip1, .int .u16 po1] 33)) := hb19.alloc hb19.size _
          have hg12 := H18.out.2.2.1.under hb20
          have hg17 := Whole.new w19 33 #[.int .u32 ip1, .int .u16 po1]
          have e0 := hg12.cell 0
          have e1 := hg12.cell 1
          have f0 := hg17.cell 0
          have f1 := hg17.cell 1
          have HX20 := Lib.hid (And.intro (HA18.out.under hb20) (H18.out.2.1.trans (hb20.mono HA18.out.lowsz)))
          clear hg12 hg17 hb19 hb20 HSL
          generalize w19.alloc (.cells #[.int .u32 ip1, .int .u16 po1] 33) = W20 at *
          generalize w19.heap.size = g17 at *
          have HPR : Hid (∀ W, Below W20.heap.size W20 W → Calls Try.prog 14 #[.pointer (some ⟨N1, 0, none⟩)] W fun e w' => ∃ A c, e = .returned (.slice A n4 c) ∧ Below W.heap.size W w') := Lib.hid fun W hW => by
            rw [← HNL.out]
            exact pairs_any N1 N1 v' s' W (HX20.out.1.under hW)
          clear hq hn4
          go_wp2_with (go_at_call 14; (with_reducible refine (HPR.out _ (Below.refl _ _)).mono ?_); rintro e w21 ⟨A21, c21, rfl, hb21⟩)
          have HXX := Lib.hid (And.intro (HX20.out.1.under hb21) (HX20.out.2.trans (hb21.mono HX20.out.1.lowsz)))
          clear hb21
          go_roundw
          case rel => exact ⟨j + 1, v', s', by omega, by go_num, HXX.out.1, HSP.out, HXX.out.2⟩
          case measure => simp [intOf]; omega
        · have HA18 : Hid (AgV w18 N1 N1 v' (s.tick now)) := Lib.hid (by rw [← hse]; exact H18.out.1)
          have HSP : Hid ((s.tick now).pw = pw) := Lib.hid HR.out.2.1
          have hq : nomF (s.tick now).ps = (⟨ip0, po0, la0, no0⟩, b0) := HQ.out
          have HNL : Hid ((s.tick now).ps.length = np2) := Lib.hid HNP.out
          have hn44 : (np2 : Int) ≤ 4 := by have := HA18.out.few; have := HNL.out; omega
          have hn40 : (0 : Int) ≤ (np2 : Int) := by omega
          have hxb : (x16 == 0) = false := by simp [hx0]
          have hxc : (x16 != 0) = true := by simp [hx0]
          clear hse
          have HSL := Lib.hid (selected_any N1 N1 v' (s.tick now) w18 HA18.out)
          rw [hq] at HSL
          simp only at HSL
          go_upto_region 14 with (go_at_call 13; (with_reducible refine HSL.out.mono ?_); rintro e w19 ⟨rfl, hb19⟩)
          have hb20 : Below w18.heap.size w18 (w19.alloc (.cells #[.int .u32 ip0, .int .u16 po0] 33)) := hb19.alloc hb19.size _
          have hg12 := H18.out.2.2.1.under hb20
          have hg17 := Whole.new w19 33 #[.int .u32 ip0, .int .u16 po0]
          have e0 := hg12.cell 0
          have e1 := hg12.cell 1
          have f0 := hg17.cell 0
          have f1 := hg17.cell 1
          have HX20 := Lib.hid (And.intro (HA18.out.under hb20) (H18.out.2.1.trans (hb20.mono HA18.out.lowsz)))
          clear hg12 hg17 hb19 hb20 HSL
          generalize w19.alloc (.cells #[.int .u32 ip0, .int .u16 po0] 33) = W20 at *
          generalize w19.heap.size = g17 at *
          have HPR : Hid (∀ W, Below W20.heap.size W20 W → Calls Try.prog 14 #[.pointer (some ⟨N1, 0, none⟩)] W fun e w' => ∃ A c, e = .returned (.slice A np2 c) ∧ Below W.heap.size W w') := Lib.hid fun W hW => by
            rw [← HNL.out]
            exact pairs_any N1 N1 v' (s.tick now) W (HX20.out.1.under hW)
          clear hq
          by_cases hx11 : x11 = 0
          · subst hx11
            go_wp2_with (first
              | (go_at_call 14; (with_reducible refine (HPR.out _ (Below.refl _ _)).mono ?_); rintro e w21 ⟨A21, c21, rfl, hb21⟩)
              | (go_at_call 14; (with_reducible refine (HPR.out _ hb21).mono ?_); rintro e w22 ⟨A22, c22, rfl, hb22⟩))
            have hb23 := hb21.trans (hb22.mono hb21.size)
            have HXX := Lib.hid (And.intro (HX20.out.1.under hb23) (HX20.out.2.trans (hb23.mono HX20.out.1.lowsz)))
            clear hb21 hb22 hb23
            go_roundw
            case rel => exact ⟨j + 1, v', s.tick now, by omega, by go_num, HXX.out.1, HSP.out, HXX.out.2⟩
            case measure => simp [intOf]; omega
          · have hyb : (x11 == 0) = false := by simp [hx11]
            have hyc : (x11 != 0) = true := by simp [hx11]
            go_wp2_with (first
              | (go_at_call 14; (with_reducible refine (HPR.out _ (Below.refl _ _)).mono ?_); rintro e w21 ⟨A21, c21, rfl, hb21⟩)
              | (go_at_call 14; (with_reducible refine (HPR.out _ hb21).mono ?_); rintro e w22 ⟨A22, c22, rfl, hb22⟩))
            have hb23 := hb21.trans (hb22.mono hb21.size)
            have HXX := Lib.hid (And.intro (HX20.out.1.under hb23) (HX20.out.2.trans (hb23.mono HX20.out.1.lowsz)))
            clear hb21 hb22 hb23
            go_roundw
            case rel => exact ⟨j + 1, v', s.tick now, by omega, by go_num, HXX.out.1, HSP.out, HXX.out.2⟩
            case measure => simp [intOf]; omega
      · have hj3 : (30 : Int) ≤ (j : Int) := by omega
        go_wp2
        go_ret
        exact ⟨rfl, HW.out⟩
    · have hj2 : ¬ (j : Int) < (n : Int) := by omega
      go_wp2
      go_ret
      exact ⟨rfl, HW.out⟩
end Go.Proofs.Yteloaidnfcmadaa
