/- bytesOf: a check's bytes, where it has no further attributes. -/
import Derived.Test.YteloaidnfcmadaaIceBytesP
namespace Go.Proofs.Yteloaidnfcmadaa
open Go.RowKit
set_option linter.unusedVariables false
set_option linter.unusedSimpArgs false

/-- A check's plain parts. -/
structure Chk where
  ip : Int
  port : Int
  now : Int
  user : ByteArray
  key : ByteArray
  cl : Int
  me : Int
  pri : Bool
  cand : Bool
  at_ : Int
  by_ : Int
  plain : Bool
def chkc (k : Chk) (more raw : Value) : Array Value := #[.int .u32 k.ip, .int .u16 k.port, .int .i64 k.now, .string k.user, .string k.key, .int .i64 k.cl, .int .i64 k.me, .bool k.pri, .bool k.cand, more, .int .i64 k.at_, .int .u8 k.by_, .bool k.plain, raw]
def id0 (a : Int) : List Int := [a % 256, 0, 0, 0, 0, 0, 0, 0, 0, 0, 0, 0]
/-- The request's attributes ahead of the further ones. -/
def aU (user : ByteArray) : List At := if user.size = 0 then [] else [⟨6, nums user⟩]
def aP (pri : Bool) : List At := if pri = true then [⟨36, [1, 2, 3, 4]⟩] else []
def aC (cand : Bool) : List At := if cand = true then [⟨37, []⟩] else []
theorem aU_len (u : ByteArray) : (aU u).length ≤ 1 := by unfold aU; split <;> simp
theorem aP_len (b : Bool) : (aP b).length ≤ 1 := by unfold aP; split <;> simp
theorem aC_len (b : Bool) : (aC b).length ≤ 1 := by unfold aC; split <;> simp
theorem parts_fine (u : ByteArray) (p c : Bool) : ∀ a ∈ aU u ++ aP p ++ aC c, (0 ≤ a.ty ∧ a.ty < 65536) ∧ In256 a.val := by
  intro a ha
  rw [List.mem_append, List.mem_append] at ha
  rcases ha with (ha | ha) | ha
  · unfold aU at ha
    split at ha
    · cases ha
    · rw [List.mem_singleton] at ha
      subst ha
      exact ⟨by simp, nums_in u⟩
  · unfold aP at ha
    split at ha
    · rw [List.mem_singleton] at ha
      subst ha
      exact ⟨by simp, In256.of_all (by simp)⟩
    · cases ha
  · unfold aC at ha
    split at ha
    · rw [List.mem_singleton] at ha
      subst ha
      exact ⟨by simp, In256.nil⟩
    · cases ha
theorem fine_of (cl me at_ : Int) (L : List At) (h : ∀ a ∈ L, (0 ≤ a.ty ∧ a.ty < 65536) ∧ In256 a.val) : Fine ⟨cl, me, id0 at_, L⟩ :=
  ⟨rfl, In256.of_all (fun x hx => by
    simp only [id0, List.mem_cons, List.not_mem_nil, or_false] at hx
    rcases hx with rfl | rfl | rfl | rfl | rfl | rfl | rfl | rfl | rfl | rfl | rfl | rfl <;> omega), fun a ha => (h a ha).1, fun a ha => (h a ha).2⟩
def msgOf (k : Chk) (X : List At) : Msg := ⟨k.cl, k.me, id0 k.at_, aU k.user ++ aP k.pri ++ aC k.cand ++ X⟩
theorem Try.zeroRMsg5 (w : World) : (zeroValue 40).run Try.prog w = .ok (.agg zM) w := Try.zeroRMsg w
theorem built_id : ∀ x : Int, Try.prog.built 37 [(0, .int .u8 x)] = some (arr .u8 [x, 0, 0, 0, 0, 0, 0, 0, 0, 0, 0, 0]) := by intros; kernel_rfl
theorem build_id (x : Int) (w : World) : (Instr.build 37 #[(0, .int .u8 x)]).run Try.prog w = .ok (.agg (arr .u8 [x, 0, 0, 0, 0, 0, 0, 0, 0, 0, 0, 0])) w := run_build w 37 _ _ (built_id x)

def reqOf (k : Chk) : Msg := ⟨k.cl, k.me, id0 k.at_, aU k.user ++ aP k.pri ++ aC k.cand⟩
theorem Own8.put {w : World} {base g n c : Nat} {xs : List Int} (h : Own8 w base (.slice (some ⟨g, 0, none⟩) n c) xs) (hn : xs.length = n) (q : Nat) (y : Int) : Own8 (w.setCell ⟨g, q, none⟩ (.int .u8 y)) base (.slice (some ⟨g, 0, none⟩) n c) (xs.set q y) := by
  subst hn
  have := (World.ownsRow.stored h q (.int .u8 y)).1
  unfold Own8
  rw [List.length_set]
  have e : u8s (xs.set q y) = (u8s xs).set q (.int .u8 y) := by simp [u8s]
  rw [e]
  exact this
theorem Mk.frame {w W : World} {N g n c : Nat} {xs : List Int} (hb : Below N w W) (h : Own8 W N (.slice (some ⟨g, 0, none⟩) n c) xs) (hn : xs.length = n) (h0 : 0 < n) (q : Nat) (u : Value) : Below N w (W.setCell ⟨g, q, none⟩ u) :=
  hb.trans ((Below.refl N W).setCell (p := ⟨g, q, none⟩) ((h.lt (k := g) rfl).1) u)
theorem in256_put {xs : List Int} (h : In256 xs) (q : Nat) {y : Int} (hy : 0 ≤ y ∧ y < 256) : In256 (xs.set q y) := fun i => by
  by_cases e : q = i
  · subst e
    by_cases hq : q < xs.length
    · simp [List.getD, hq]
      exact hy
    · rw [List.set_eq_of_length_le (by omega)]
      exact h q
  · have := h i
    simp only [List.getD] at this ⊢
    rwa [List.getElem?_set_ne e]
theorem put_same {xs : List Int} {q : Nat} (h : In256 xs) (hq : q < xs.length) : xs.set q ((xs[q]?.getD 0 + 0) % 256) = xs := by
  have h1 := h q
  simp only [List.getD] at h1
  have e : (xs[q]?.getD 0 + 0) % 256 = xs[q] := by
    rw [List.getElem?_eq_getElem hq] at h1 ⊢
    simp only [Option.getD_some] at h1 ⊢
    omega
  rw [e, List.set_getElem_self]

/-- What a call of bytesOf comes to, where it isn't plain. -/
def BytesV (k : Chk) (w : World) (N : Nat) (e : Ending) (w' : World) : Prop := ∃ v xs, e = .returned v ∧ Own8 w' N v xs ∧ In256 xs ∧ xs.length ≤ 1500 ∧ (k.by_ = 0 → ¬ k.key.size = 0 → CanSign (reqOf k) → xs = signB (reqOf k) (nums k.key)) ∧ Below N w w'

set_option maxHeartbeats 6400000 in
set_option maxRecDepth 100000 in
theorem bytesOf_none (k : Chk) (A : Option Addr) (c : Nat) (raw : Value) (hp : k.plain = false) (hu : k.user.size ≤ 140737488351232) (hk : k.key.size ≤ 140737488351232) (w : World) :
    Calls Try.prog 11 #[.agg (chkc k (.slice A 0 c) raw)] w fun e w' => BytesV k w w.heap.size e w' := by
  have hb0 : Below w.heap.size w (w.alloc (.cells (chkc k (.slice A 0 c) raw) 36)) := (Below.refl _ w).alloc (Nat.le_refl _) _
  have g0 := Whole.new w 36 (chkc k (.slice A 0 c) raw)
  have hbi := build_id
  unfold chkc at g0 hb0 ⊢
  obtain ⟨ip, port, now, user, key, cl, me, pri, cand, at_, by_, plain⟩ := k
  simp only at hp hu hk g0 hb0 ⊢
  subst hp
  have d11 := g0.cell 11
  have d12 := g0.cell 12
  have d5 := g0.cell 5
  have d6 := g0.cell 6
  have d10 := g0.cell 10
  have H0 := Lib.hid (And.intro g0 hb0)
  clear g0 hb0
  obtain ⟨N, hN⟩ : ∃ N, w.heap.size = N := ⟨_, rfl⟩
  rw [hN] at H0 d11 d12 d5 d6 d10 ⊢
  go_enter Try.func11, Try.ntmps11
  go_upto_region 3 with fail
  have hz := Try.zeroRMsg5
  obtain ⟨Z, hZ⟩ : ∃ Z, zM = Z := ⟨_, rfl⟩
  have HZ : Hid (Z.size = 15) := Lib.hid (by rw [← hZ]; rfl)
  simp only [hZ] at hz
  clear hZ
  have HBR : Hid (∀ x W, (Instr.build 40 #[(0, .int .i64 cl), (1, .int .i64 me), (2, .agg (arr .u8 [x, 0, 0, 0, 0, 0, 0, 0, 0, 0, 0, 0]))]).run Try.prog W = .ok (.agg (mv cl me [x, 0, 0, 0, 0, 0, 0, 0, 0, 0, 0, 0] (.slice none 0 0))) W) := Lib.hid fun x W => build_msg built_rmsg cl me [x, 0, 0, 0, 0, 0, 0, 0, 0, 0, 0, 0] rfl W
  generalize w.alloc (.cells #[.int .u32 ip, .int .u16 port, .int .i64 now, .string user, .string key, .int .i64 cl, .int .i64 me, .bool pri, .bool cand, .slice A 0 c, .int .i64 at_, .int .u8 by_, .bool false, raw] 36) = W0 at *
  go_upto_region 4 with (first
    | (refine wpList_build3 rfl 40 (.tmp 12) (.tmp 14) (.tmp 18) rfl (u1 := .int .i64 cl) (u2 := .int .i64 me) (u3 := .agg (arr .u8 [at_ % 256, 0, 0, 0, 0, 0, 0, 0, 0, 0, 0, 0])) rfl rfl rfl (v := .agg (mv cl me [at_ % 256, 0, 0, 0, 0, 0, 0, 0, 0, 0, 0, 0] (.slice none 0 0))) (HBR.out _ _) ?_)
    | (refine wpList_store_whole rfl 40 (.tmp 3) (.tmp 19) rfl rfl rfl (Whole.new _ _ _) Try.sizeRMsg (mv_size rfl) HZ.out (mv_one rfl) ?_))
  try simp only [Act.put]
  have hb4 : Below W0.heap.size W0 ((W0.alloc (.cells Z 40)).setRow W0.heap.size (mv cl me [at_ % 256, 0, 0, 0, 0, 0, 0, 0, 0, 0, 0, 0] (.slice none 0 0))) := below_row ((Below.refl _ _).alloc (Nat.le_refl _) _) (Nat.le_refl _) _
  have hN0 : N ≤ W0.heap.size := Nat.le_of_lt H0.out.1.lt
  have HM4 := Lib.hid (Mk.mk (H0.out.1.under hb4) ((Whole.new W0 40 Z).row (mv cl me [at_ % 256, 0, 0, 0, 0, 0, 0, 0, 0, 0, 0, 0] (.slice none 0 0))) rfl (Row2.nil 57 _ N) (ElsB.nil _) (H0.out.2.trans (hb4.mono hN0)) hN0)
  have HCK : Hid (∀ W, Whole W N 36 #[.int .u32 ip, .int .u16 port, .int .i64 now, .string user, .string key, .int .i64 cl, .int .i64 me, .bool pri, .bool cand, .slice A 0 c, .int .i64 at_, .int .u8 by_, .bool false, raw] → W.cell? ⟨N, 3, none⟩ = some (.string user) ∧ W.cell? ⟨N, 4, none⟩ = some (.string key) ∧ W.cell? ⟨N, 7, none⟩ = some (.bool pri) ∧ W.cell? ⟨N, 8, none⟩ = some (.bool cand) ∧ W.cell? ⟨N, 9, none⟩ = some (.slice A 0 c) ∧ W.cell? ⟨N, 10, none⟩ = some (.int .i64 at_) ∧ W.cell? ⟨N, 11, none⟩ = some (.int .u8 by_)) := Lib.hid fun W h => ⟨h.cell 3, h.cell 4, h.cell 7, h.cell 8, h.cell 9, h.cell 10, h.cell 11⟩
  clear hb4 hN0 d11 d12 d5 d6 d10 hz hbi
  generalize (W0.alloc (.cells Z 40)).setRow W0.heap.size (mv cl me [at_ % 256, 0, 0, 0, 0, 0, 0, 0, 0, 0, 0, 0] (.slice none 0 0)) = W4 at *
  generalize W0.heap.size = gm at *
  obtain ⟨C, hC⟩ : ∃ C, (#[.int .u32 ip, .int .u16 port, .int .i64 now, .string user, .string key, .int .i64 cl, .int .i64 me, .bool pri, .bool cand, .slice A 0 c, .int .i64 at_, .int .u8 by_, .bool false, raw] : Array Value) = C := ⟨_, rfl⟩
  obtain ⟨ids, hids⟩ : ∃ l, [at_ % 256, 0, 0, 0, 0, 0, 0, 0, 0, 0, 0, 0] = l := ⟨_, rfl⟩
  have HID := Lib.hid hids
  rw [hC] at HM4 HCK ⊢
  rw [hids] at HM4
  clear H0 hC hids HBR
  have c3 := (HCK.out W4 HM4.out.chk).1
  go_upto_if 22 with fail
  obtain ⟨bu, hbu⟩ : ∃ b, (!user.toList.isEmpty) = b := ⟨_, rfl⟩
  rw [hbu]
  have HBU : Hid (bu = true ↔ ¬ user.size = 0) := Lib.hid (by
    have hs : user.size = user.data.toList.length := by rw [Array.length_toList]; rfl
    rw [← hbu, ByteArray.toList_eq, hs]
    cases user.data.toList <;> simp)
  clear hbu
  go_cut [23] from 23 to 31 (fun s23 wc => ∃ v ps, Mk N gm N C cl me ids w wc v ps (aU user))
  case first =>
    cases bu with
    | false =>
      have hu0 : user.size = 0 := Classical.byContradiction fun h => by have := HBU.out.2 h; cases this
      have HR : Hid (Mk N gm N C cl me ids w W4 (.slice none 0 0) [] (aU user)) := Lib.hid (by rw [show aU user = [] from if_pos hu0]; exact HM4.out)
      clear hu0
      go_wp2
      go_meet
      exact ⟨_, _, HR.out⟩
    | true =>
      have hu0 : ¬ user.size = 0 := HBU.out.1 rfl
      have c14 := HM4.out.slot
      obtain ⟨cu, W5, hcv, -, hby, hb5⟩ := conv_byt user W4 (by unfold maxLen; omega)
      have hM5 := HM4.out.under hb5
      have hal := (Below.refl W5.heap.size W5).alloc (Nat.le_refl _) (.cells #[.int .u16 6, .slice (some ⟨W4.heap.size, 0, none⟩) user.size cu] 57)
      have H6 := Lib.hid (And.intro (hM5.under hal) (And.intro (Whole.new W5 57 #[.int .u16 6, .slice (some ⟨W4.heap.size, 0, none⟩) user.size cu]) (hby.keep (KeptB.under hal))))
      have HHU := Lib.hid hu0
      have HLN : Hid (([] : List At).length ≤ 4) := Lib.hid (by simp)
      clear hM5 hal hby hb5 hu0
      go_wp2_with (refine wpList_appR rfl (.tmp 24) (.tmp 29) rfl rfl H6.out.1.row rfl H6.out.2.1 rfl (by have := H6.out.1.els.1; have := HLN.out; omega) H6.out.1.hN ?_; intro v7 w7 hr7 hg7; have hF7 := (H6.out.1.box.grown hg7 (fun e => H6.out.1.row.far H6.out.1.box (by decide) e.symm)).frz 14; have hC7 := ((H6.out.1.box.grown hg7 (fun e => H6.out.1.row.far H6.out.1.box (by decide) e.symm)).cell 14).trans (mv_14 _ _ _ _ H6.out.1.id12); have hK7 := Lib.hid (fun (a : At) (ha : a.ty = 6) (hu : Byt _ _ a.val) => H6.out.1.grow (a := a) (by rw [ha]; exact hr7) hg7 hu); obtain ⟨A7, c7, hv7, -⟩ := hr7.form; generalize List.length _ = l7 at hv7; subst hv7)
      go_meet
      have hfin := hK7.out ⟨6, nums user⟩ rfl H6.out.2.2
      rw [show aU user = [] ++ [⟨6, nums user⟩] from if_neg HHU.out]
      exact ⟨_, _, hfin⟩
  case rest =>
    obtain ⟨v1, ps1, hM1⟩ := hcut
    clear HBU HM4 c3
    have HM1 := Lib.hid hM1
    have c7 := (HCK.out wc hM1.chk).2.2.1
    obtain ⟨A1, c1, hv1, -⟩ := hM1.row.form
    subst hv1
    clear hM1
    go_upto_if 33 with fail
    go_cut [34] from 34 to 40 (fun s34 wx => ∃ v ps, Mk N gm N C cl me ids w wx v ps ((aU user) ++ aP pri))
    case first =>
      cases pri with
      | false =>
        have HR : Hid (Mk N gm N C cl me ids w wc (.slice A1 ps1.length c1) ps1 ((aU user) ++ aP false)) := Lib.hid (by rw [show aP false = [] from rfl, List.append_nil]; exact HM1.out)
        go_wp2
        go_meet
        exact ⟨_, _, HR.out⟩
      | true =>
        have c14 := HM1.out.slot
        have hb5 := (Below.refl wc.heap.size wc).alloc (Nat.le_refl _) (.cells #[.int .u8 1, .int .u8 2, .int .u8 3, .int .u8 4] 5)
        have hby : Byt (wc.alloc (.cells #[.int .u8 1, .int .u8 2, .int .u8 3, .int .u8 4] 5)) (.slice (some ⟨wc.heap.size, 0, none⟩) 4 4) [1, 2, 3, 4] := Byt.whole (xs := [1, 2, 3, 4]) (Whole.new wc 5 #[.int .u8 1, .int .u8 2, .int .u8 3, .int .u8 4]) (by simp)
        have hM5 := HM1.out.under hb5
        have hal := (Below.refl (wc.alloc (.cells #[.int .u8 1, .int .u8 2, .int .u8 3, .int .u8 4] 5)).heap.size (wc.alloc (.cells #[.int .u8 1, .int .u8 2, .int .u8 3, .int .u8 4] 5))).alloc (Nat.le_refl _) (.cells #[.int .u16 36, .slice (some ⟨wc.heap.size, 0, none⟩) 4 4] 57)
        have H6 := Lib.hid (And.intro (hM5.under hal) (And.intro (Whole.new2 wc (.cells #[.int .u8 1, .int .u8 2, .int .u8 3, .int .u8 4] 5) 57 #[.int .u16 36, .slice (some ⟨wc.heap.size, 0, none⟩) 4 4]) (hby.keep (KeptB.under hal))))
        have HLN : Hid (((aU user) : List At).length ≤ 4) := Lib.hid (by have := aU_len user; omega)
        clear hM5 hal hby hb5
        go_wp2_with (refine wpList_appR rfl (.tmp 35) (.tmp 38) rfl rfl H6.out.1.row rfl H6.out.2.1 rfl (by have := H6.out.1.els.1; have := HLN.out; omega) H6.out.1.hN ?_; intro v7 w7 hr7 hg7; have hF7 := (H6.out.1.box.grown hg7 (fun e => H6.out.1.row.far H6.out.1.box (by decide) e.symm)).frz 14; have hC7 := ((H6.out.1.box.grown hg7 (fun e => H6.out.1.row.far H6.out.1.box (by decide) e.symm)).cell 14).trans (mv_14 _ _ _ _ H6.out.1.id12); have hK7 := Lib.hid (fun (a : At) (ha : a.ty = 36) (hu : Byt _ _ a.val) => H6.out.1.grow (a := a) (by rw [ha]; exact hr7) hg7 hu); obtain ⟨A7, c7, hv7, -⟩ := hr7.form; generalize List.length _ = l7 at hv7; subst hv7)
        go_meet
        have hfin := hK7.out ⟨36, [1, 2, 3, 4]⟩ rfl H6.out.2.2
        exact ⟨_, _, hfin⟩
    case rest =>
      obtain ⟨v2, ps2, hM2⟩ := hcut
      clear HM1 c7
      have HM2 := Lib.hid hM2
      have c8 := (HCK.out wc hM2.chk).2.2.2.1
      obtain ⟨A2, c2, hv2, -⟩ := hM2.row.form
      subst hv2
      clear hM2
      go_upto_if 42 with fail
      go_cut [43] from 43 to 48 (fun s43 wx => ∃ v ps, Mk N gm N C cl me ids w wx v ps (((aU user) ++ aP pri) ++ aC cand))
      case first =>
        cases cand with
        | false =>
          have HR : Hid (Mk N gm N C cl me ids w wc (.slice A2 ps2.length c2) ps2 (((aU user) ++ aP pri) ++ aC false)) := Lib.hid (by rw [show aC false = [] from rfl, List.append_nil]; exact HM2.out)
          go_wp2
          go_meet
          exact ⟨_, _, HR.out⟩
        | true =>
          have c14 := HM2.out.slot
          have hal := (Below.refl wc.heap.size wc).alloc (Nat.le_refl _) (.cells #[.int .u16 37, .slice none 0 0] 57)
          have H6 := Lib.hid (And.intro (HM2.out.under hal) (And.intro (Whole.new wc 57 #[.int .u16 37, .slice none 0 0]) (Byt.nil (wc.alloc (.cells #[.int .u16 37, .slice none 0 0] 57)))))
          have HLN : Hid ((((aU user) ++ aP pri) : List At).length ≤ 4) := Lib.hid (by have := aU_len user; have := aP_len pri; rw [List.length_append]; omega)
          clear hal
          go_wp2_with (refine wpList_appR rfl (.tmp 44) (.tmp 46) rfl rfl H6.out.1.row rfl H6.out.2.1 rfl (by have := H6.out.1.els.1; have := HLN.out; omega) H6.out.1.hN ?_; intro v7 w7 hr7 hg7; have hF7 := (H6.out.1.box.grown hg7 (fun e => H6.out.1.row.far H6.out.1.box (by decide) e.symm)).frz 14; have hC7 := ((H6.out.1.box.grown hg7 (fun e => H6.out.1.row.far H6.out.1.box (by decide) e.symm)).cell 14).trans (mv_14 _ _ _ _ H6.out.1.id12); have hK7 := Lib.hid (fun (a : At) (ha : a.ty = 37) (hu : Byt _ _ a.val) => H6.out.1.grow (a := a) (by rw [ha]; exact hr7) hg7 hu); obtain ⟨A7, c7, hv7, -⟩ := hr7.form; generalize List.length _ = l7 at hv7; subst hv7)
          go_meet
          have hfin := hK7.out ⟨37, []⟩ rfl H6.out.2.2
          exact ⟨_, _, hfin⟩
      case rest =>
        obtain ⟨v3, ps3, hM3⟩ := hcut
        clear HM2 c8
        have c9 := (HCK.out wc hM3.chk).2.2.2.2.1
        obtain ⟨A3, c3, hv3, -⟩ := hM3.row.form
        subst hv3
        have hm3 := hM3.msg
        have HFN : Hid (Fine ⟨cl, me, ids, aU user ++ aP pri ++ aC cand⟩) := Lib.hid (by rw [← HID.out]; exact fine_of cl me at_ _ (parts_fine user pri cand))
        have HL3 : Hid ((aU user ++ aP pri ++ aC cand).length ≤ 4398046511102) := Lib.hid (by have := aU_len user; have := aP_len pri; have := aC_len cand; rw [List.length_append, List.length_append]; omega)
        obtain ⟨L3, hL3⟩ : ∃ l, aU user ++ aP pri ++ aC cand = l := ⟨_, rfl⟩
        have HRQ : Hid (reqOf ⟨ip, port, now, user, key, cl, me, pri, cand, at_, by_, false⟩ = ⟨cl, me, ids, L3⟩) := Lib.hid (by rw [← HID.out, ← hL3]; rfl)
        rw [hL3] at hM3 hm3 HFN HL3
        clear hL3
        obtain ⟨l3, hl3⟩ : ∃ l, ps3.length = l := ⟨_, rfl⟩
        rw [hl3] at hM3 hm3
        have HM3 := Lib.hid (And.intro hM3 hm3)
        clear hl3 hM3 hm3
        go_wp2
        go_loopw [52] (fun s52 wr => s52 = .int .i64 0 ∧ wr = wc) (fun s52 _ => 0)
        case atStart => exact ⟨rfl, rfl⟩
        case round =>
          obtain ⟨rfl, rfl⟩ := hrel
          have ck := (HCK.out wr HM3.out.1.chk).2.1
          obtain ⟨ck2, W5, hcv, -, hby, hb5⟩ := conv_byt key wr (by unfold maxLen; omega)
          have HSG := Lib.hid (rsign_any _ _ _ _ (.slice (some ⟨wr.heap.size, 0, none⟩) key.size ck2) (nums key) W5 ((HM3.out.2.below hb5).more hb5.size) HFN.out HL3.out hby.v8 (nums_in key) (by rw [nums_length]; exact hk))
          have HM5 := Lib.hid (And.intro (HM3.out.1.under hb5) hb5.size)
          have HMS := Lib.hid (HM3.out.2.size)
          clear hby hb5
          obtain ⟨g5, hg5⟩ : ∃ g, wr.heap.size = g := ⟨_, rfl⟩
          obtain ⟨nk, hnk⟩ : ∃ g, key.size = g := ⟨_, rfl⟩
          rw [hg5] at hcv HSG
          rw [hnk] at hcv HSG
          clear hg5
          go_upto_region 17 with (first
            | (refine wpList_load_all rfl 40 (.tmp 3) rfl HM3.out.1.box rfl Try.sizeRMsg HMS.out Try.underlying40 rfl ?_)
            | (go_at_call 17; (with_reducible refine HSG.out.mono ?_); rintro e w6 ⟨v6, x6, rfl, hsg, hb6⟩))
          have hM6 := HM5.out.1.under hb6
          have H6 : Hid (∃ xs6, Own8 w6 N v6 xs6 ∧ In256 xs6 ∧ xs6.length ≤ 1500 ∧ (x6 = 0 → xs6 = signB ⟨cl, me, ids, L3⟩ (nums key)) ∧ (CanSign ⟨cl, me, ids, L3⟩ → x6 = 0)) := Lib.hid (by
            have hN5 : N ≤ W5.heap.size := HM5.out.1.hN
            rcases hsg with ⟨h1, h2, h3⟩ | ⟨h1, h2, h3⟩
            · refine ⟨_, h3.low hN5, in256_msg (signed_fine HFN.out), ?_, fun _ => rfl, fun _ => h2⟩
              have := (h1.ok (key := nums key)).size
              rw [signB, msgBytes_length _ (signed_fine HFN.out).id12]
              exact this
            · refine ⟨[], by rw [h3]; exact Own8.nil _ _, In256.nil, by simp, (fun h => by rw [h2] at h; cases h), fun h => (h1 h).elim⟩)
          have HM6 := Lib.hid hM6
          clear hM6 hsg hb6 hcv ck HSG
          have ck := (HCK.out w6 HM6.out.chk).2.1
          obtain ⟨bq, hbq⟩ : ∃ b, decide (key.size = 0 ∨ ¬ x6 = 0) = b := ⟨_, rfl⟩
          go_cut [84] from 78 to 84 (fun s84 wx => s84 = .bool bq ∧ wx = w6)
          case first =>
            by_cases hk0 : key.size = 0
            · have hbk : key.toList.isEmpty = true := by
                rw [ByteArray.toList_eq]
                have hs : key.size = key.data.toList.length := by rw [Array.length_toList]; rfl
                rw [hs] at hk0
                rw [List.eq_nil_of_length_eq_zero hk0]
                rfl
              have HB : Hid (bq = true) := Lib.hid (by rw [← hbq]; simp [hk0])
              clear hbq hk0
              go_wp2
              go_meet
              exact ⟨by rw [HB.out], rfl⟩
            · have hbk : key.toList.isEmpty = false := by
                rw [ByteArray.toList_eq]
                have hs : key.size = key.data.toList.length := by rw [Array.length_toList]; rfl
                rw [hs] at hk0
                cases hl : key.data.toList with
                | nil => rw [hl] at hk0; exact (hk0 rfl).elim
                | cons a l => rfl
              by_cases hx : x6 = 0
              · have HB : Hid (bq = false) := Lib.hid (by rw [← hbq]; simp [hk0, hx])
                clear hbq hk0
                subst hx
                go_wp2
                go_meet
                exact ⟨by rw [HB.out], rfl⟩
              · have HB : Hid (bq = true) := Lib.hid (by rw [← hbq]; simp [hx])
                clear hbq hk0
                have hxb : (x6 == 0) = false := by simp [hx]
                have hxc : (x6 != 0) = true := by simp [hx]
                go_wp2
                go_meet
                exact ⟨by rw [HB.out]; first | done | rfl | simp [hx], rfl⟩
          case rest =>
            obtain ⟨rfl, rfl⟩ := hcut
            have HBQ := Lib.hid hbq
            clear hbq ck
            go_upto_if 84 with fail
            go_cut [5] from 85 to 89 (fun s5 wx => ∃ xs0, Own8 wx N s5 xs0 ∧ In256 xs0 ∧ xs0.length ≤ 1500 ∧ (¬ key.size = 0 → CanSign ⟨cl, me, ids, L3⟩ → xs0 = signB ⟨cl, me, ids, L3⟩ (nums key)) ∧ Below N w wx ∧ Whole wx N 36 C)
            case first =>
              cases bq with
              | false =>
                have hq : ¬ key.size = 0 ∧ x6 = 0 := by
                  have := HBQ.out
                  rw [decide_eq_false_iff_not] at this
                  exact ⟨fun h => this (.inl h), Classical.byContradiction fun h => this (.inr h)⟩
                have HX := Lib.hid hq
                clear hq
                go_wp2
                go_meet
                obtain ⟨xs6, a1, a2, a3, a4, a5⟩ := H6.out
                exact ⟨xs6, a1, a2, a3, fun _ _ => a4 HX.out.2, HM6.out.below, HM6.out.chk⟩
              | true =>
                have hmg := HM6.out.msg
                have HRB := Lib.hid (rbuild_any _ _ _ _ wc hmg HFN.out)
                have HMS6 := Lib.hid hmg.size
                clear hmg
                go_wp2_with (first
                  | (refine wpList_load_all rfl 40 (.tmp 3) rfl HM6.out.box rfl Try.sizeRMsg HMS6.out Try.underlying40 rfl ?_)
                  | (go_at_call 18; (with_reducible refine HRB.out.mono ?_); rintro e w8 ⟨(⟨hva, v8, rfl, ho8⟩ | ⟨hva, rfl⟩), hb8⟩))
                all_goals go_meet
                all_goals
                  have hM8 := HM6.out.under hb8
                  have hno : ¬ key.size = 0 → CanSign ⟨cl, me, ids, L3⟩ → False := fun h1 h2 => by
                    obtain ⟨xs6, a1, a2, a3, a4, a5⟩ := H6.out
                    have := HBQ.out
                    rw [decide_eq_true_eq] at this
                    rcases this with h | h
                    · exact h1 h
                    · exact h (a5 h2)
                · refine ⟨_, ho8.low HM6.out.hN, in256_msg HFN.out, ?_, fun h1 h2 => (hno h1 h2).elim, hM8.below, hM8.chk⟩
                  rw [msgBytes_length _ HFN.out.id12]
                  exact hva.size
                · exact ⟨[], Own8.nil _ _, In256.nil, by simp, fun h1 h2 => (hno h1 h2).elim, hM8.below, hM8.chk⟩
            case rest =>
              obtain ⟨xs0, a1, a2, a3, a4, a5, a6⟩ := hcut
              have HZ0 := Lib.hid (And.intro a1 (And.intro a2 (And.intro a3 (And.intro a4 (And.intro a5 a6)))))
              have c10 := (HCK.out wc a6).2.2.2.2.2.1
              have c11 := (HCK.out wc a6).2.2.2.2.2.2
              obtain ⟨A5, c5, hv5, -⟩ := a1.form
              subst hv5
              obtain ⟨l5, hl5⟩ : ∃ l, xs0.length = l := ⟨_, rfl⟩
              have HL5 := Lib.hid hl5
              rw [hl5] at a3 HZ0 ⊢
              clear a1 a2 a4 a5 a6 hl5
              by_cases h5 : l5 = 0
              · subst h5
                go_wp2
                go_ret
                exact ⟨_, xs0, rfl, HZ0.out.1, HZ0.out.2.1, by rw [HL5.out]; omega, fun h1 h2 h3 => by rw [HRQ.out] at h3 ⊢; exact HZ0.out.2.2.2.1 h2 h3, HZ0.out.2.2.2.2.1⟩
              · have h50 : 0 < l5 := by omega
                have hat := HZ0.out.1
                rw [← HL5.out] at hat
                obtain ⟨g, cg, hv, -, -, -, -⟩ := hat.at_ (i := 0) (by rw [HL5.out]; exact h50)
                injection hv with e1 e2 e3
                subst e1
                subst e3
                clear e2 hat
                have hli : (0 : Int) < (l5 : Int) := by omega
                have hlj : (l5 : Int) ≤ 1500 := by omega
                have wl : IntKind.u64.wrap (l5 : Int) = (l5 : Int) := IntWalk.u64_in _ (by omega)
                have hw0 : 0 ≤ IntKind.u64.wrap at_ ∧ IntKind.u64.wrap at_ < 18446744073709551616 := by rw [IntKind.wrap_u64]; omega
                go_upto_region 20 with fail
                obtain ⟨ua, hua⟩ : ∃ u, IntKind.u64.wrap at_ = u := ⟨_, rfl⟩
                rw [hua] at hw0
                obtain ⟨hu0, hu1⟩ := hw0
                obtain ⟨q, hq⟩ : ∃ q : Nat, ua % (l5 : Int) = (q : Int) := ⟨(ua % (l5 : Int)).toNat, by have := Int.emod_nonneg ua (show (l5 : Int) ≠ 0 by omega); omega⟩
                have hq1 : (q : Int) < (l5 : Int) := by rw [← hq]; exact Int.emod_lt_of_pos _ hli
                have hql : q < xs0.length := by rw [HL5.out]; omega
                have hrem : Int.tmod ua (l5 : Int) = (q : Int) := by rw [Int.tmod_eq_emod_of_nonneg hu0]; exact hq
                have hat2 := HZ0.out.1
                rw [← HL5.out] at hat2
                obtain ⟨g2, cg2, hv2, -, -, y0, yf⟩ := hat2.at_ hql
                injection hv2 with e1 e2 e3
                injection e1 with e4
                injection e4 with e5
                subst e5
                have hq0 : (0 : Int) ≤ (q : Int) := by omega
                have wq : IntKind.i64.wrap (q : Int) = (q : Int) := IntWalk.i64_in _ (by omega)
                have HQL := Lib.hid hql
                clear hat2 e2 e3 hql
                go_region
                have HFO := Lib.hid (Own8.put HZ0.out.1 HL5.out q ((xs0[q]?.getD 0 + by_) % 256))
                have HFC := Lib.hid (Mk.frame HZ0.out.2.2.2.2.1 HZ0.out.1 HL5.out h50 q (.int .u8 ((xs0[q]?.getD 0 + by_) % 256)))
                go_wp2
                go_ret
                refine ⟨.slice (some ⟨g, 0, none⟩) l5 c5, _, rfl, HFO.out.drew, in256_put HZ0.out.2.1 q (by omega), by rw [List.length_set, HL5.out]; omega, fun h1 h2 h3 => ?_, HFC.out.drew⟩
                rw [HRQ.out] at h3 ⊢
                have h4 : by_ = 0 := h1
                rw [h4, put_same HZ0.out.2.1 HQL.out]
                exact HZ0.out.2.2.2.1 h2 h3
end Go.Proofs.Yteloaidnfcmadaa
