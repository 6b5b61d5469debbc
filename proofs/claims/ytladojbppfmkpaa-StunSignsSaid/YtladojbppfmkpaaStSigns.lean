/- The law StunSigns. -/
import Derived.Test.YtladojbppfmkpaaStCheck
import Derived.Test.YtladojbppfmkpaaStRSign
namespace Go.Proofs.Ytladojbppfmkpaa
open Go.RowKit
set_option linter.unusedVariables false
set_option linter.unusedSimpArgs false

theorem checked_signed {w' : World} {m : Msg} {ks : List Int} {M : Array Value} {x : Int} (hc : CanSign m) (hf : Fine m) (h : CheckV w' (signB m ks) ks M x) : x = 0 ∧ ∃ A c, MsgV w' w'.heap.size M (signed m ks) A c := by
  rcases h with ⟨m', A, c, hi, hs, rfl, hm⟩ | ⟨hn, _⟩ | ⟨⟨m', hi, hs⟩, _⟩
  · have e := Is.same (signed_is hc hf) hi
    subst e
    exact ⟨rfl, A, c, hm⟩
  · exact absurd (signed_is hc hf) (hn _)
  · have e := Is.same (signed_is hc hf) hi
    subst e
    exact absurd (signed_by hc) hs
theorem checkedV_size {w' : World} {xs ks : List Int} {M : Array Value} {x : Int} (h : CheckV w' xs ks M x) : M.size = 15 ∧ M.all (·.oneCell') = true := by
  rcases h with ⟨m, A, c, _, _, _, hm⟩ | ⟨_, _, rfl⟩ | ⟨_, _, rfl⟩
  · exact ⟨hm.size, hm.one⟩
  · exact ⟨rfl, mv_one rfl⟩
  · exact ⟨rfl, mv_one rfl⟩

set_option maxHeartbeats 3200000 in
set_option maxRecDepth 100000 in
theorem signs_walk (M : Array Value) (m : Msg) (A : Option Addr) (c : Nat) (vk : Value) (ks : List Int) (w : World) (h : InMsg w M m A c) (hk : V8 w w.heap.size vk ks) (hkx : In256 ks) (hkl : ks.length ≤ 140737488351232) :
    Calls Try.prog 5 #[.agg M, vk] w fun e w' => e = .returned (.bool true) ∧ Below w.heap.size w w' := by
  have HM := Lib.hid h
  have HSZ := Lib.hid (And.intro h.msg.size h.msg.one)
  have hk0 : Bk w w.heap.size M (w.alloc (.cells M 25)) := ⟨Whole.new w 25 M, (Below.refl _ w).alloc (Nat.le_refl _) _, rfl⟩
  have HK0 := Lib.hid hk0
  have HAW : Hid (∀ W, Calls Try.prog 9 #[] W fun e w' => e = .returned (.bool true) ∧ Below W.heap.size W w') := Lib.hid awake_yes
  have HTH : Hid (∀ W, Bk w w.heap.size M W → Calls Try.prog 12 #[.agg M] W fun e w' => ∃ M' A' c', e = .returned (.agg M') ∧ Copied W w' m M' A' c') := Lib.hid fun W hk => theirs_any M m A c W (hk.msg h) h.most h.lens
  have HRS : Hid (∀ W, Bk w w.heap.size M W → Calls Try.prog 17 #[.agg M, vk] W fun e w' => ∃ v x, e = .returned (.tuple #[v, .int .i64 x]) ∧ SignV W w' m ks v x ∧ Below W.heap.size W w') := Lib.hid fun W hb => rsign_any M m A c vk ks W (hb.msg h) h.fine h.most (hb.v8 hk) hkx hkl
  have HV := Lib.hid (And.intro hk (And.intro hkx hkl))
  obtain ⟨Ak, ck, rfl, k1, k2, hnk, k4⟩ := hk
  obtain ⟨nk, hnl⟩ : ∃ x, ks.length = x := ⟨_, rfl⟩
  rw [hnl] at HV HRS hkl ⊢
  have HKN := Lib.hid (And.intro hnk (And.intro hnl hkl))
  clear h hk0 hkx hkl k1 k2 k4 hnk hnl
  have hzm := Try.zeroMsg
  have HZS : Hid (zM.size = 15) := Lib.hid zM_size
  obtain ⟨Z, hZ⟩ : ∃ Z, zM = Z := ⟨_, rfl⟩
  rw [hZ] at HZS
  simp only [hZ] at hzm
  clear hZ
  obtain ⟨N, hN⟩ : ∃ N, w.heap.size = N := ⟨_, rfl⟩
  have HN := Lib.hid hN
  rw [hN] at HK0 HTH HRS
  have HBS : Hid (∀ W, Bk w N M W → Bs (W.alloc (.cells #[] 5)) W.heap.size Ak nk ks) := Lib.hid fun W hb => by
    obtain ⟨A', c', e, -, -, -, hbs⟩ := hb.v8 (by rw [hN]; rw [hN] at HV; exact HV.out.1) 
    cases e
    have := hbs.below ((Below.refl _ W).alloc (Nat.le_refl _) (.cells #[] 5))
    rwa [HKN.out.2.1] at this
  go_enter Try.func5, Try.ntmps5
  go_upto_region 1 with fail
  generalize w.alloc (.cells M 25) = W0 at *
  clear hN
  go_upto_region 3 with (go_at_call 9; (with_reducible refine (HAW.out _).mono ?_); rintro e w1 ⟨rfl, hb1⟩)
  have HK1 := Lib.hid (HK0.out.under hb1)
  clear hb1
  go_upto_region 4 with (first
    | (refine wpList_load_all rfl 25 (.tmp 2) rfl HK1.out.box rfl Try.sizeRMsg HSZ.out.1 Try.underlying25 rfl ?_)
    | (go_at_call 17; (with_reducible refine (HRS.out _ HK1.out).mono ?_); rintro e w3 ⟨v3, x3, rfl, hs3, hb3⟩))
  have HK3 := Lib.hid (HK1.out.under hb3)
  have HS3 := Lib.hid hs3
  clear hb3 hs3
  go_wp2_with (first
    | (refine wpList_load_all rfl 25 (.tmp 2) rfl HK3.out.box rfl Try.sizeRMsg HSZ.out.1 Try.underlying25 rfl ?_)
    | (go_at_call 12; (with_reducible refine (HTH.out _ HK3.out).mono ?_); rintro e w4 ⟨M4, A4, c4, rfl, hc4⟩; have hk4 := HK3.out.under hc4.below; have HK4 := Lib.hid hk4; have HC4 := Lib.hid hc4; have HOA := Lib.hid (Own8.made w4 (Nat.le_refl _)); clear hc4 hk4)
    | (at_builtin; go_must (refine wpList_append8 rfl (.tmp 22) (.tmp 23) rfl rfl HOA.out rfl (HBS.out _ HK4.out) HKN.out.1 (by have := HKN.out.2.2; simp; omega) (by simp) ?_)))
  intro v24 w24 h24 hg24 hh24
  have hb24 : Below w4.heap.size w4 w24 := ((Below.refl _ w4).alloc (Nat.le_refl _) (.cells #[] 5)).grown hg24 (by simp) (fun k hk => by cases hk; exact Nat.le_refl _)
  have HK24 := Lib.hid (HK4.out.under hb24)
  have HSG := Lib.hid (sign_any M4 m A4 c4 v24 ks w24 ((HC4.out.msg.below hb24).more hb24.size) HM.out.fine HM.out.most h24.v8 HV.out.2.1 (by have := HKN.out.2; omega))
  have HS24 := Lib.hid hb24
  clear h24 hg24 hh24 hb24 HOA
  go_upto_region 5 with (go_at_call 18; (with_reducible refine HSG.out.mono ?_); rintro e w7 ⟨v7, x7, rfl, hs7, hb7⟩)
  have HK7 := Lib.hid (HK24.out.under hb7)
  have hb37 := HC4.out.below.trans ((HS24.out.trans (hb7.mono HS24.out.size)).mono HC4.out.below.size)
  have HB37 := Lib.hid hb37
  clear hb37 hb7
  rcases HS3.out with ⟨hcs, rfl, ho3⟩ | ⟨hcs, rfl, rfl⟩
  · rcases hs7 with ⟨_, rfl, ho7⟩ | ⟨hn, _⟩
    · have hf := signed_fine (key := ks) HM.out.fine
      have hxx := in256_msg hf
      have ho3' := ho3.under HB37.out
      obtain ⟨B3, d3, rfl, -, -, n3, bs3⟩ := ho3'.v8
      obtain ⟨B7, d7, e7, -, -, n7, bs7⟩ := ho7.v8
      have cv3 := conv_text bs3 n3
      have cv7 := conv_text bs7 n7
      subst e7
      obtain ⟨s, hs⟩ : ∃ s, strOfNums (signB m ks) = s := ⟨_, rfl⟩
      rw [hs] at cv3 cv7
      have hsl : (signB m ks).length ≤ 140737488351232 := by
        have h1 := msgBytes_length (signed m ks) HM.out.fine.id12
        have h2 := (hcs.ok (key := ks)).size
        unfold signB
        omega
      obtain ⟨l, hl⟩ : ∃ l, (signB m ks).length = l := ⟨_, rfl⟩
      have HLL := Lib.hid hl
      have H7 := Lib.hid (And.intro hcs (And.intro ho7 (And.intro hxx (And.intro hsl hl))))
      rw [hl] at cv3 cv7 ⊢
      rw [hl] at H7
      have hse : (s.toList != s.toList) = false := by simp
      have HOB := Lib.hid (Own8.made w7 (Nat.le_refl _))
      clear hf hxx ho3 ho3' ho7 bs3 bs7 n3 n7 hs hsl hl hcs
      go_wp2_with (at_builtin; go_must (refine wpList_append8 rfl (.tmp 42) (.tmp 43) rfl rfl HOB.out rfl (HBS.out _ HK7.out) HKN.out.1 (by have := HKN.out.2.2; simp; omega) (by simp) ?_))
      intro v44 w44 h44 hg44 hh44
      have hb44 : Below w7.heap.size w7 w44 := ((Below.refl _ w7).alloc (Nat.le_refl _) (.cells #[] 5)).grown hg44 (by simp) (fun k hk => by cases hk; exact Nat.le_refl _)
      have HK44 := Lib.hid (HK7.out.under hb44)
      have h7b := (H7.out.2.1.under hb44).v8
      have HCK := Lib.hid (check_any (.slice B7 l d7) v44 (signB m ks) ks w44 h7b H7.out.2.2.1 (by rw [HLL.out]; have := H7.out.2.2.2.1; omega) h44.v8 HV.out.2.1 (by have := HKN.out.2; omega))
      clear h44 hg44 hh44 hb44 h7b cv3 cv7 hse HOB
      go_upto_region 10 with (first
        | (go_at_call 19; (with_reducible refine HCK.out.mono ?_); rintro e w9 ⟨M9, x9, rfl, hp9, hb9⟩; have hs9 := checkedV_size hp9)
        | (refine wpList_store_whole rfl 34 (.tmp 9) (.tmp 46) rfl rfl rfl (Whole.new w9 34 Z) Try.sizeMsg hs9.1 HZS.out hs9.2 ?_))
      obtain ⟨rfl, A9, c9, hm9⟩ := checked_signed H7.out.1 HM.out.fine hp9
      have hbw : Below w9.heap.size w9 ((w9.alloc (.cells Z 34)).setRow w9.heap.size M9) := below_row ((Below.refl _ w9).alloc (Nat.le_refl _) _) (Nat.le_refl _) _
      have hg9 : Whole ((w9.alloc (.cells Z 34)).setRow w9.heap.size M9) w9.heap.size 34 M9 := (Whole.new w9 34 Z).row _
      have hkA := (HK44.out.under hb9).under hbw
      generalize (w9.alloc (.cells Z 34)).setRow w9.heap.size M9 = WA at *
      generalize w9.heap.size = g9 at *
      have HKA := Lib.hid hkA
      have hmA := HM.out.msg
      have x0 := hm9.cl hg9
      have x1 := hm9.me hg9
      have x14 := hm9.sl hg9
      have y0 := hmA.cl hkA.box
      have y1 := hmA.me hkA.box
      have y14 := hmA.sl hkA.box
      have xid := hm9.id hg9
      have yid := hmA.id hkA.box
      have hl2 : (signed m ks).at_.length = m.at_.length + 2 := by simp [signed, with2]
      have heq := same12 m.id HM.out.fine.id12
      have hgd := Try.guard22
      have hidl : (m.id.map (Value.int .u8)).length = 12 := by rw [List.length_map]; exact HM.out.fine.id12
      have harr : arr .u8 m.id = (m.id.map (Value.int .u8)).toArray := rfl
      rw [harr] at heq
      rw [hl2] at x14
      have xid' : WA.rangeAt g9 2 (m.id.map (Value.int .u8)) := xid
      have x0' : WA.cell? ⟨g9, 0, none⟩ = some (.int .i64 m.cl) := x0
      have x1' : WA.cell? ⟨g9, 1, none⟩ = some (.int .i64 m.me) := x1
      have hnl : m.at_.length ≤ 16 := by have := H7.out.1.valid.most; simp [with2] at this; omega
      clear x0 x1 xid hl2 harr hmA hm9 hp9 hb9 hbw hkA hg9 hs9
      obtain ⟨n, hn⟩ : ∃ n, m.at_.length = n := ⟨_, rfl⟩
      obtain ⟨cl, hcl⟩ : ∃ x, m.cl = x := ⟨_, rfl⟩
      obtain ⟨me, hme⟩ : ∃ x, m.me = x := ⟨_, rfl⟩
      obtain ⟨ids, hids⟩ : ∃ x, (m.id.map (Value.int .u8)) = x := ⟨_, rfl⟩
      rw [hn] at x14 y14 hnl
      rw [hcl] at x0' y0
      rw [hme] at x1' y1
      rw [hids] at heq hidl xid' yid
      have HID := Lib.hid (And.intro xid' (And.intro yid hidl))
      clear hn hcl hme hids xid' yid hidl
      have hc2 : ((n + 2 : Nat) : Int) = (n : Int) + 2 := by omega
      have hq : (((n + 2 : Nat) : Int) == (n : Int) + 2) = true := by rw [beq_iff_eq]; exact hc2
      clear hc2
      go_wp2_with (first
        | (refine wpList_load_midG (by rfl) 22 (.tmp 61) rfl g9 2 rfl ids _ HID.out.1 Try.underlying22 rfl (by rw [HID.out.2.2]; exact Try.sizeA12) ?_)
        | (refine wpList_load_midG (by rfl) 22 (.tmp 63) rfl N 2 rfl ids _ HID.out.2.1 Try.underlying22 rfl (by rw [HID.out.2.2]; exact Try.sizeA12) ?_))
      go_ret
      exact ⟨rfl, by rw [HN.out]; exact HKA.out.below⟩
    · exact absurd hcs hn
  · rcases hs7 with ⟨hc, _⟩ | ⟨_, rfl, rfl⟩
    · exact absurd hc hcs
    · have cvn : ∀ W, (convert 27 9 (.slice none 0 0)).run Try.prog W = .ok (.string (strOfNums [])) W := fun W => conv_text (w := W) (B := 0) (A := none) (n := 0) (c := 0) (xs := []) ⟨rfl, fun hn => by omega⟩ (fun _ => rfl)
      obtain ⟨s, hs⟩ : ∃ s, strOfNums [] = s := ⟨_, rfl⟩
      simp only [hs] at cvn
      have hse : (s.toList != s.toList) = false := by simp
      clear hs
      clear hcs
      go_wp2
      go_ret
      exact ⟨rfl, by rw [HN.out]; exact HK7.out.below⟩
end Go.Proofs.Ytladojbppfmkpaa
