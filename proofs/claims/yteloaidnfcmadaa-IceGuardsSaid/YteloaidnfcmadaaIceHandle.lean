/- What Handle comes to, and what is known while it runs. -/
import Derived.Test.YteloaidnfcmadaaIceNom
import Derived.Test.YteloaidnfcmadaaIceDoubt
import Derived.Test.YteloaidnfcmadaaIceSigned
namespace Go.Proofs.Yteloaidnfcmadaa
open Go.RowKit
set_option linter.unusedVariables false

/-- A request that is fine in all. -/
def Good (s : Ag) (m : Msg) : Prop := m.cl = 0 ∧ m.me = 1 ∧ NoDoubt s m ∧ NoFault m.at_
def Ag.tick (s : Ag) (now : Int) : Ag := { s with clk := max s.clk now }
/-- What a call of Handle comes to. -/
def HandleV (base ga : Nat) (v : Value) (s : Ag) (xs : List Int) (ip port now : Int) (w : World) (e : Ending) (w' : World) : Prop :=
  ∃ vr x s' v', e = .returned (.tuple #[vr, .int .i64 x]) ∧ AgV w' base ga v' s' ∧ Stepped ga v v' w w' ∧
    ((x = 0 ∧ ∃ m ps, Is xs m ∧ Good s m ∧ CkV (s.tick now) ip port true ps ∧ s' = (s.tick now).put (if (findP m.at_ 37).isSome = true then ps.map (nomBy ip port) else ps) ∧ V8 w' w'.heap.size vr (signB (succP m ip port) (nums s.pw))) ∨
     (x ≠ 0 ∧ s' = s.tick now ∧ ((∀ m, Is xs m → ¬ Good s m) ∨ CkV (s.tick now) ip port false (s.tick now).ps)))

/-- A message whose attributes are rows of their own. -/
def FirmV (w : World) (fb : Nat) (M : Array Value) (m : Msg) (A : Option Addr) (c : Nat) : Prop := ∃ ps, MsgV w w.heap.size M m A c ∧ Row2 92 w fb (.slice A m.at_.length c) ps ∧ ElsO w fb ps m.at_ ∧ fb ≤ w.heap.size
theorem FirmV.on {w w' : World} {fb : Nat} {M : Array Value} {m : Msg} {A : Option Addr} {c : Nat} (h : FirmV w fb M m A c) (hk : ∀ g cs, Whole w g 92 cs → Whole w' g 92 cs) (hk8 : Kept8 w w') (hs : w.heap.size ≤ w'.heap.size) : FirmV w' fb M m A c := by
  obtain ⟨ps, h1, h2, h3, h4⟩ := h
  obtain ⟨k1, k2, k3⟩ := firm_keep h1 h2 h3 hk hk8 hs h4
  exact ⟨ps, k1, k2, k3, Nat.le_trans h4 hs⟩
theorem FirmV.under {w w' : World} {fb : Nat} {M : Array Value} {m : Msg} {A : Option Addr} {c : Nat} (h : FirmV w fb M m A c) (hb : Below w.heap.size w w') : FirmV w' fb M m A c := h.on (fun g cs hg => hg.under hb) (Kept8.under hb) hb.size

/-- What is known behind Parse. -/
structure Kn (base ga N gm fb : Nat) (v0 : Value) (ip port : Int) (M : Array Value) (m : Msg) (A : Option Addr) (c : Nat) (w W : World) (v : Value) (s : Ag) : Prop where
  ag : AgV W base ga v s
  step : Stepped ga v0 v w W
  adr : Whole W N 33 #[.int .u32 ip, .int .u16 port]
  box : Whole W gm 69 M
  firm : FirmV W fb M m A c
section
variable {base ga N gm fb : Nat} {v0 v v' : Value} {ip port : Int} {M : Array Value} {m : Msg} {A : Option Addr} {c : Nat} {w W W' : World} {s s' : Ag}
theorem Kn.under (h : Kn base ga N gm fb v0 ip port M m A c w W v s) (hb : Below W.heap.size W W') : Kn base ga N gm fb v0 ip port M m A c w W' v s :=
  ⟨h.ag.under hb, h.step.under hb, h.adr.under hb, h.box.under hb, h.firm.under hb⟩
theorem Kn.move (h : Kn base ga N gm fb v0 ip port M m A c w W v s) (hA : AgV W' base ga v' s') (hs : Stepped ga v v' W W') : Kn base ga N gm fb v0 ip port M m A c w W' v' s' :=
  ⟨hA, h.step.trans hs, h.adr.only hs.only (h.ag.not_mine h.adr (by decide) (by decide)), h.box.only hs.only (h.ag.not_mine h.box (by decide) (by decide)),
    h.firm.on (fun g cs hg => hg.only hs.only (h.ag.not_mine hg (by decide) (by decide))) (fun g cs hg => hg.only hs.only (h.ag.not_mine hg (by decide) (by decide))) hs.only.size⟩
theorem Kn.msg (h : Kn base ga N gm fb v0 ip port M m A c w W v s) : MsgV W W.heap.size M m A c := by
  obtain ⟨ps, h1, _⟩ := h.firm
  exact h1
theorem Kn.size (h : Kn base ga N gm fb v0 ip port M m A c w W v s) : M.size = 15 := h.msg.size
end
/-- The clock is set. -/
theorem AgV.tick {w : World} {base ga : Nat} {v : Value} {s : Ag} {now : Int} (h : AgV w base ga v s) (hn : now < 9223372036854775808) :
    AgV (w.setCell ⟨ga, 3, none⟩ (.int .i64 (max s.clk now))) base ga v (s.tick now) ∧ Stepped ga v v w (w.setCell ⟨ga, 3, none⟩ (.int .i64 (max s.clk now))) := by
  have h0 := h.c0
  have h1 := h.c1
  refine ⟨⟨h.box.set 3 _, h.row.keep fun g cs _ hw => hw.far (p := ⟨ga, 3, none⟩) (hw.ne h.box (by decide)) _, h.low, h.few, ?_, ?_, fun p hp => ?_, h.ns, h.ws⟩, ⟨(Only.refl _ w).setCell (p := ⟨ga, 3, none⟩) (.inl (.inl rfl)) _, .inl rfl⟩⟩
  · show 0 ≤ max s.clk now
    omega
  · show max s.clk now < 9223372036854775808
    omega
  · have := h.last p hp
    refine ⟨this.1, ?_⟩
    show p.last ≤ max s.clk now
    omega
theorem mapB_len (ip port : Int) : (mapB ip port).length = 8 := rfl
theorem succ_can {m : Msg} {ip port : Int} (hf : Fine m) (hm : m.me = 1) : CanSign (succP m ip port) ∧ Fine (succP m ip port) := by
  refine ⟨⟨?_, ?_⟩, ⟨hf.id12, hf.idb, ?_, ?_⟩⟩
  · intro a ha
    simp only [succP, List.mem_singleton] at ha
    subst ha
    simp
  · refine ⟨by simp [with2, succP], by simp [with2, succP], ?_, ?_, by simp [with2, succP], ?_, ?_⟩
    · show 0 ≤ m.me
      omega
    · show m.me ≤ 4095
      omega
    · intro a ha
      simp only [with2, succP, List.cons_append, List.nil_append, List.mem_cons, List.not_mem_nil, or_false] at ha
      rcases ha with rfl | rfl | rfl
      · show (mapB ip port).length ≤ 512
        rw [mapB_len]
        omega
      · show z20.length ≤ 512
        rw [z20_len]
        omega
      · show z4.length ≤ 512
        rw [z4_len]
        omega
    · rw [with2_size z20_len z4_len]
      simp only [szN, succP, bodySize, atSize, mapB_len, padN]
      omega
  · intro a ha
    simp only [succP, List.mem_singleton] at ha
    subst ha
    exact ⟨by simp, by simp⟩
  · intro a ha
    simp only [succP, List.mem_singleton] at ha
    subst ha
    exact In256.append (a := [0, 1]) (In256.of_all (by simp)) (In256.append (in256_be2 _) (in256_be4 _))
end Go.Proofs.Yteloaidnfcmadaa

namespace Go.Proofs.Yteloaidnfcmadaa
open Go.RowKit
set_option linter.unusedVariables false
set_option linter.unusedSimpArgs false

theorem fail_fine {m : Msg} (hf : Fine m) (y : Int) : Fine (failP m y) := by
  refine ⟨hf.id12, hf.idb, ?_, ?_⟩
  · intro a ha
    simp only [failP, List.mem_singleton] at ha
    subst ha
    exact ⟨by simp, by simp⟩
  · intro a ha
    simp only [failP, List.mem_singleton] at ha
    subst ha
    refine In256.of_all fun x hx => ?_
    simp only [failV, List.mem_cons, List.not_mem_nil, or_false] at hx
    rcases hx with rfl | rfl | rfl | rfl <;> omega
theorem ck_false {s : Ag} {ip port : Int} {ps : List Pr} (h : CkV s ip port false ps) : ps = s.ps := by
  rcases h with ⟨k, _, _, h1, _⟩ | ⟨_, ⟨_, _, h1⟩ | ⟨_, h1, _⟩⟩
  · cases h1
  · exact h1
  · cases h1
theorem build_two (M : Array Value) (m : Msg) (A : Option Addr) (c : Nat) (w : World) (h : MsgV w w.heap.size M m A c) :
    Calls Try.prog 24 #[.agg M] w fun e w' => ∃ v x, e = .returned (.tuple #[v, .int .i64 x]) ∧ Below w.heap.size w w' :=
  (build_any M m A c w h).mono fun e w' ⟨hr, hb⟩ => by
    rcases hr with ⟨-, v, h1, -⟩ | ⟨-, h1⟩
    · exact ⟨v, 0, h1, hb⟩
    · exact ⟨_, 1, h1, hb⟩

set_option maxHeartbeats 6400000 in
set_option maxRecDepth 100000 in
theorem handle_any (base ga : Nat) (v : Value) (s : Ag) (bb : Nat) (vb : Value) (xs : List Int) (ip port now : Int) (w : World) (h : AgV w base ga v s) (hb : Own8 w bb vb xs) (hx : In256 xs) (hl : xs.length ≤ 140737488355328) (hn : now < 9223372036854775808) :
    Calls Try.prog 15 #[.pointer (some ⟨ga, 0, none⟩), vb, .agg #[.int .u32 ip, .int .u16 port], .int .i64 now] w fun e w' => HandleV base ga v s xs ip port now w e w' := by
  have hb0 : Below w.heap.size w (w.alloc (.cells #[.int .u32 ip, .int .u16 port] 33)) := (Below.refl _ w).alloc (Nat.le_refl _) _
  have g0 := Whole.new w 33 #[.int .u32 ip, .int .u16 port]
  have hA0 := h.under hb0
  have hO0 := hb.under hb0
  have x3 : (w.alloc (.cells #[.int .u32 ip, .int .u16 port] 33)).cell? ⟨ga, 3, none⟩ = some (.int .i64 s.clk) := hA0.box.cell 3
  have xf := hA0.box.frz 3
  have hT := hA0.tick hn
  have H1 := Lib.hid (show AgV ((w.alloc (.cells #[.int .u32 ip, .int .u16 port] 33)).setCell ⟨ga, 3, none⟩ (.int .i64 (max s.clk now))) base ga v (s.tick now) ∧
      Stepped ga v v w ((w.alloc (.cells #[.int .u32 ip, .int .u16 port] 33)).setCell ⟨ga, 3, none⟩ (.int .i64 (max s.clk now))) ∧
      Whole ((w.alloc (.cells #[.int .u32 ip, .int .u16 port] 33)).setCell ⟨ga, 3, none⟩ (.int .i64 (max s.clk now))) w.heap.size 33 #[.int .u32 ip, .int .u16 port] ∧
      Own8 ((w.alloc (.cells #[.int .u32 ip, .int .u16 port] 33)).setCell ⟨ga, 3, none⟩ (.int .i64 (max s.clk now))) bb vb xs from
    ⟨hT.1, (Stepped.quiet hb0 ga v).trans hT.2, g0.far (p := ⟨ga, 3, none⟩) (g0.ne hA0.box (by decide)) _, hO0.keep8 (Kept8.put hA0.box (by decide) 3 _)⟩)
  have HXL := Lib.hid (And.intro hx hl)
  clear hb0 g0 hA0 hO0 hT h hb hx hl hn
  obtain ⟨clk, hclk⟩ : ∃ x, s.clk = x := ⟨_, rfl⟩
  have HCK := Lib.hid hclk
  rw [hclk] at x3 H1
  obtain ⟨N, hN⟩ : ∃ N, w.heap.size = N := ⟨_, rfl⟩
  rw [hN] at H1
  clear hclk
  go_enter Try.func15, Try.ntmps15
  go_upto_region 3 with fail
  generalize w.alloc (.cells #[.int .u32 ip, .int .u16 port] 33) = W0 at *
  clear hN
  go_upto_region 4 with fail
  have hmx : max clk now = if clk < now then now else clk := by rw [Int.max_def]; split <;> split <;> omega
  rw [hmx] at H1
  generalize W0.setCell ⟨ga, 3, none⟩ (.int .i64 (if clk < now then now else clk)) = W1 at *
  generalize (if clk < now then now else clk) = mx at *
  clear x3 xf hmx
  have hz := Try.zeroMsg
  obtain ⟨Z, hZ⟩ : ∃ Z, zM = Z := ⟨_, rfl⟩
  have HZ : Hid (Z.size = 15) := Lib.hid (by rw [← hZ]; rfl)
  simp only [hZ] at hz
  clear hZ
  have HPF := Lib.hid (parse_firm vb xs W1 H1.out.2.2.2.v8 HXL.out.1 HXL.out.2)
  go_upto_region 5 with (first
    | (go_at_call 22; (with_reducible refine HPF.out.mono ?_); rintro e w2 ⟨M, x, rfl, hp, hb2⟩; have hS := Lib.hid (parsed_size hp.v))
    | (refine wpList_store_whole rfl 69 (.tmp 10) (.tmp 30) rfl rfl rfl (Whole.new _ _ _) Try.sizeMsg hS.out.1 HZ.out hS.out.2 ?_))
  have hb3 : Below w2.heap.size w2 ((w2.alloc (.cells Z 69)).setRow w2.heap.size M) := below_row ((Below.refl _ _).alloc (Nat.le_refl _) _) (Nat.le_refl _) _
  have hb3' : Below W1.heap.size W1 ((w2.alloc (.cells Z 69)).setRow w2.heap.size M) := hb2.trans (hb3.mono hb2.size)
  have hbx : Whole ((w2.alloc (.cells Z 69)).setRow w2.heap.size M) w2.heap.size 69 M := (Whole.new w2 69 Z).row M
  have H3 : Hid (AgV ((w2.alloc (.cells Z 69)).setRow w2.heap.size M) base ga v (s.tick now) ∧ Stepped ga v v w ((w2.alloc (.cells Z 69)).setRow w2.heap.size M) ∧ Whole ((w2.alloc (.cells Z 69)).setRow w2.heap.size M) N 33 #[.int .u32 ip, .int .u16 port] ∧ Own8 ((w2.alloc (.cells Z 69)).setRow w2.heap.size M) bb vb xs) := Lib.hid ⟨H1.out.1.under hb3', H1.out.2.1.under hb3', H1.out.2.2.1.under hb3', H1.out.2.2.2.under hb3'⟩
  rcases hp with ⟨m, A, c, ps, hi, rfl, hm, hr, he⟩ | ⟨hno, rfl, rfl⟩
  · have hfm : FirmV ((w2.alloc (.cells Z 69)).setRow w2.heap.size M) W1.heap.size M m A c := FirmV.under ⟨ps, hm, hr, he, hb2.size⟩ hb3
    have HK3 : Hid (Kn base ga N w2.heap.size W1.heap.size v ip port M m A c w ((w2.alloc (.cells Z 69)).setRow w2.heap.size M) v (s.tick now)) := Lib.hid ⟨H3.out.1, H3.out.2.1, H3.out.2.2.1, hbx, hfm⟩
    have HO3 := Lib.hid H3.out.2.2.2
    have HI := Lib.hid hi
    clear hb2 hb3 hb3' hbx hfm hm hr he hi H3 HPF H1
    generalize (w2.alloc (.cells Z 69)).setRow w2.heap.size M = W3 at *
    generalize w2.heap.size = gm at *
    generalize W1.heap.size = fb at *
    have HMS := Lib.hid (HK3.out.size)
    have k0 := HK3.out.msg.cl HK3.out.box
    have k1 := HK3.out.msg.me HK3.out.box
    obtain ⟨cl, hcl⟩ : ∃ x, m.cl = x := ⟨_, rfl⟩
    obtain ⟨me, hme⟩ : ∃ x, m.me = x := ⟨_, rfl⟩
    have HCM := Lib.hid (And.intro hcl hme)
    rw [hcl] at k0
    rw [hme] at k1
    clear hcl hme
    by_cases h0 : cl = 0
    · by_cases h1 : me = 1
      · subst h0
        subst h1
        have HDB := Lib.hid (doubt_any base ga v (s.tick now) M m A c vb xs W3 HK3.out.ag HK3.out.msg HI.out HO3.out.v8 HXL.out.1 HXL.out.2)
        go_upto_region 9 with fail
        clear k0 k1
        go_upto_region 10 with (first
          | (refine wpList_load_all rfl 69 (.tmp 10) rfl HK3.out.box rfl Try.sizeMsg HMS.out Try.underlying69 rfl ?_)
          | (go_at_call 23; (with_reducible refine HDB.out.mono ?_); rintro e w4 ⟨x, rfl, hx0, hx1, hxd, hb4⟩))
        have HK4 := Lib.hid (HK3.out.under hb4)
        have HXD := Lib.hid hxd
        clear hb4 hxd
        by_cases hx : x = 0
        · subst hx
          have HND : Hid (NoDoubt s m) := Lib.hid (HXD.out.1 rfl)
          have hv2 : ∀ a ∈ m.at_, a.val.length ≤ 140737488351232 := fun a ha => by have := HI.out.1.vals a ha; omega
          have HFT := Lib.hid (fault_any M m A c w4 HK4.out.msg hv2 (by have := HI.out.1.most; omega))
          go_upto_region 14 with (first
            | (refine wpList_load_all rfl 69 (.tmp 10) rfl HK4.out.box rfl Try.sizeMsg HMS.out Try.underlying69 rfl ?_)
            | (go_at_call 26; (with_reducible refine HFT.out.mono ?_); rintro e w5 ⟨y, rfl, hy0, hy1, hyd, hb5⟩))
          have HK5 := Lib.hid (HK4.out.under hb5)
          have HYD := Lib.hid hyd
          have HV2 := Lib.hid hv2
          clear hb5 hyd hv2
          by_cases hy : y = 0
          · subst hy
            have HNF : Hid (NoFault m.at_) := Lib.hid (HYD.out.1 rfl)
            have HGD : Hid (Good s m) := Lib.hid ⟨HCM.out.1, HCM.out.2, HND.out, HNF.out⟩
            have d0 : w5.cell? ⟨N, 0, none⟩ = some (.int .u32 ip) := HK5.out.adr.cell 0
            have d1 : w5.cell? ⟨N, 1, none⟩ = some (.int .u16 port) := HK5.out.adr.cell 1
            have HCH := Lib.hid (checked_any base ga v (s.tick now) ip port w5 HK5.out.ag)
            have HSU := Lib.hid (succ_can (ip := ip) (port := port) HI.out.2.1 HCM.out.2)
            go_upto_region 18 with (go_at_call 28; (with_reducible refine HCH.out.mono ?_); rintro e w6 ⟨(_ | _), ps, v', rfl, hc, hA, hs⟩)
            · have HCV := Lib.hid hc
              have HK6 := Lib.hid (HK5.out.move hA hs)
              clear hc hA hs d0 d1
              go_ret2
              refine ⟨_, 6, (s.tick now).put ps, v', rfl, HK6.out.ag, HK6.out.step, .inr ⟨by decide, ?_, .inr ?_⟩⟩
              · rw [ck_false HCV.out]
                rfl
              · have h9 := HCV.out
                rw [ck_false h9] at h9
                exact h9
            · have HCV := Lib.hid hc
              have HK6 := Lib.hid (HK5.out.move hA hs)
              clear hc hA hs d0 d1
              have HHA := Lib.hid (has_any M m A c 37 w6 HK6.out.msg HV2.out)
              obtain ⟨f, hf⟩ : ∃ x, (findP m.at_ 37).isSome = x := ⟨_, rfl⟩
              have HFF := Lib.hid hf
              rw [hf] at HHA
              clear hf
              cases f with
              | true =>
                go_upto_region 19 with (first
                  | (refine wpList_load_all rfl 69 (.tmp 10) rfl HK6.out.box rfl Try.sizeMsg HMS.out Try.underlying69 rfl ?_)
                  | (go_at_call 29; (with_reducible refine HHA.out.mono ?_); rintro e w7 ⟨rfl, hb7⟩))
                have HK7 := Lib.hid (HK6.out.under hb7)
                clear hb7
                have d0 : w7.cell? ⟨N, 0, none⟩ = some (.int .u32 ip) := HK7.out.adr.cell 0
                have d1 : w7.cell? ⟨N, 1, none⟩ = some (.int .u16 port) := HK7.out.adr.cell 1
                have HNM := Lib.hid (nominate_any base ga v' ((s.tick now).put ps) ip port w7 HK7.out.ag)
                go_upto_region 20 with (go_at_call 30; (with_reducible refine HNM.out.mono ?_); rintro e w8 ⟨rfl, hA, hs⟩)
                have HK8 := Lib.hid (HK7.out.move hA hs)
                have HUS : Hid ((s.tick now).put (ps.map (nomBy ip port)) = (s.tick now).put (if (findP m.at_ 37).isSome = true then ps.map (nomBy ip port) else ps)) := Lib.hid (by rw [HFF.out]; rfl)
                clear hA hs d0 d1
                have HSC9 := Lib.hid (success_any M m A c ip port w8 HK8.out.msg)
                have HSG9 : Hid (∀ F A' c' W, Below w8.heap.size w8 W → MsgV W W.heap.size F (succP m ip port) A' c' → Calls Try.prog 27 #[.pointer (some ⟨ga, 0, none⟩), .agg F] W fun e w' => ∃ v, e = .returned v ∧ SgV w' (succP m ip port) (nums s.pw) v ∧ Below W.heap.size W w') := Lib.hid fun F A' c' W hW hF => signedI_any base ga v' ((s.tick now).put (ps.map (nomBy ip port))) F (succP m ip port) A' c' W (HK8.out.ag.under hW) hF HSU.out.2 (by simp [succP])
                have e0 : w8.cell? ⟨N, 0, none⟩ = some (.int .u32 ip) := HK8.out.adr.cell 0
                have e1 : w8.cell? ⟨N, 1, none⟩ = some (.int .u16 port) := HK8.out.adr.cell 1
                go_wp2_with (first
                  | (refine wpList_load_all rfl 69 (.tmp 10) rfl HK8.out.box rfl Try.sizeMsg HMS.out Try.underlying69 rfl ?_)
                  | (go_at_call 31; (with_reducible refine HSC9.out.mono ?_); rintro e w9 ⟨F, A', c', rfl, hF, hb9⟩)
                  | (go_at_call 27; (with_reducible refine (HSG9.out _ _ _ _ hb9 hF).mono ?_); rintro e w10 ⟨v10, rfl, hsg, hb10⟩))
                have HKZ := Lib.hid (HK8.out.under (hb9.trans (hb10.mono hb9.size)))
                have HVV : Hid (V8 w10 w10.heap.size v10 (signB (succP m ip port) (nums s.pw))) := Lib.hid (by
                  rcases hsg with ⟨-, h2⟩ | ⟨h1, -⟩
                  · exact h2
                  · exact (h1 HSU.out.1).elim)
                clear hF hb9 hsg hb10 e0 e1
                go_ret2
                exact ⟨v10, 0, ((s.tick now).put (ps.map (nomBy ip port))), v', rfl, HKZ.out.ag, HKZ.out.step, .inl ⟨rfl, m, ps, HI.out, HGD.out, HCV.out, HUS.out, HVV.out⟩⟩
              | false =>
                go_upto_region 20 with (first
                  | (refine wpList_load_all rfl 69 (.tmp 10) rfl HK6.out.box rfl Try.sizeMsg HMS.out Try.underlying69 rfl ?_)
                  | (go_at_call 29; (with_reducible refine HHA.out.mono ?_); rintro e w7 ⟨rfl, hb7⟩))
                have HK7 := Lib.hid (HK6.out.under hb7)
                clear hb7
                have HUS : Hid ((s.tick now).put ps = (s.tick now).put (if (findP m.at_ 37).isSome = true then ps.map (nomBy ip port) else ps)) := Lib.hid (by rw [HFF.out]; rfl)
                have HSC9 := Lib.hid (success_any M m A c ip port w7 HK7.out.msg)
                have HSG9 : Hid (∀ F A' c' W, Below w7.heap.size w7 W → MsgV W W.heap.size F (succP m ip port) A' c' → Calls Try.prog 27 #[.pointer (some ⟨ga, 0, none⟩), .agg F] W fun e w' => ∃ v, e = .returned v ∧ SgV w' (succP m ip port) (nums s.pw) v ∧ Below W.heap.size W w') := Lib.hid fun F A' c' W hW hF => signedI_any base ga v' ((s.tick now).put ps) F (succP m ip port) A' c' W (HK7.out.ag.under hW) hF HSU.out.2 (by simp [succP])
                have e0 : w7.cell? ⟨N, 0, none⟩ = some (.int .u32 ip) := HK7.out.adr.cell 0
                have e1 : w7.cell? ⟨N, 1, none⟩ = some (.int .u16 port) := HK7.out.adr.cell 1
                go_wp2_with (first
                  | (refine wpList_load_all rfl 69 (.tmp 10) rfl HK7.out.box rfl Try.sizeMsg HMS.out Try.underlying69 rfl ?_)
                  | (go_at_call 31; (with_reducible refine HSC9.out.mono ?_); rintro e w9 ⟨F, A', c', rfl, hF, hb9⟩)
                  | (go_at_call 27; (with_reducible refine (HSG9.out _ _ _ _ hb9 hF).mono ?_); rintro e w10 ⟨v10, rfl, hsg, hb10⟩))
                have HKZ := Lib.hid (HK7.out.under (hb9.trans (hb10.mono hb9.size)))
                have HVV : Hid (V8 w10 w10.heap.size v10 (signB (succP m ip port) (nums s.pw))) := Lib.hid (by
                  rcases hsg with ⟨-, h2⟩ | ⟨h1, -⟩
                  · exact h2
                  · exact (h1 HSU.out.1).elim)
                clear hF hb9 hsg hb10 e0 e1
                go_ret2
                exact ⟨v10, 0, ((s.tick now).put ps), v', rfl, HKZ.out.ag, HKZ.out.step, .inl ⟨rfl, m, ps, HI.out, HGD.out, HCV.out, HUS.out, HVV.out⟩⟩
          · have HNG : Hid (∀ m, Is xs m → ¬ Good s m) := Lib.hid (fun m' h' hg => hy (HYD.out.2 (by rw [HI.out.same h']; exact hg.2.2.2)))
            have HFL := Lib.hid (failure_any M m A c y (by omega) w5 HK5.out.msg)
            have HSG : Hid (∀ F A' c' W, Below w5.heap.size w5 W → MsgV W W.heap.size F (failP m y) A' c' → Calls Try.prog 27 #[.pointer (some ⟨ga, 0, none⟩), .agg F] W fun e w' => ∃ v, e = .returned v ∧ SgV w' (failP m y) (nums s.pw) v ∧ Below W.heap.size W w') := Lib.hid fun F A' c' W hW hF => signedI_any base ga v (s.tick now) F (failP m y) A' c' W (HK5.out.ag.under hW) hF (fail_fine HI.out.2.1 y) (by simp [failP])
            go_wp2_with (first
              | (refine wpList_load_all rfl 69 (.tmp 10) rfl HK5.out.box rfl Try.sizeMsg HMS.out Try.underlying69 rfl ?_)
              | (go_at_call 25; (with_reducible refine HFL.out.mono ?_); rintro e w6 ⟨F, A', c', rfl, hF, hb6⟩)
              | (go_at_call 27; (with_reducible refine (HSG.out _ _ _ _ hb6 hF).mono ?_); rintro e w7 ⟨v7, rfl, -, hb7⟩))
            have HK7 := HK5.out.under (hb6.trans (hb7.mono hb6.size))
            go_ret2
            exact ⟨_, 1, s.tick now, v, rfl, HK7.ag, HK7.step, .inr ⟨by decide, rfl, .inl HNG.out⟩⟩
        · have HNG : Hid (∀ m, Is xs m → ¬ Good s m) := Lib.hid (fun m' h' hg => hx (HXD.out.2 (by rw [HI.out.same h']; exact hg.2.2.1)))
          have HFL := Lib.hid (failure_any M m A c x (by omega) w4 HK4.out.msg)
          go_upto_region 12 with (first
            | (refine wpList_load_all rfl 69 (.tmp 10) rfl HK4.out.box rfl Try.sizeMsg HMS.out Try.underlying69 rfl ?_)
            | (go_at_call 25; (with_reducible refine HFL.out.mono ?_); rintro e w6 ⟨F, A', c', rfl, hF, hb6⟩)
            | (go_at_call 24; (with_reducible refine (build_two F _ A' c' w6 hF).mono ?_); rintro e w7 ⟨v7, x7, rfl, hb7⟩))
          have HK7 := HK4.out.under (hb6.trans (hb7.mono hb6.size))
          go_wp2
          go_ret2
          exact ⟨_, 4, s.tick now, v, rfl, HK7.ag, HK7.step, .inr ⟨by decide, rfl, .inl HNG.out⟩⟩
      · have HNG : Hid (∀ m, Is xs m → ¬ Good s m) := Lib.hid (fun m' h' hg => h1 (by rw [← HCM.out.2, HI.out.same h']; exact hg.2.1))
        go_wp2
        go_ret2
        exact ⟨_, 1, s.tick now, v, rfl, HK3.out.ag, HK3.out.step, .inr ⟨by decide, rfl, .inl HNG.out⟩⟩
    · have HNG : Hid (∀ m, Is xs m → ¬ Good s m) := Lib.hid (fun m' h' hg => h0 (by rw [← HCM.out.1, HI.out.same h']; exact hg.1))
      go_wp2
      go_ret2
      exact ⟨_, 1, s.tick now, v, rfl, HK3.out.ag, HK3.out.step, .inr ⟨by decide, rfl, .inl HNG.out⟩⟩
  · have HN := Lib.hid hno
    clear hno hb2 hb3 hb3' hbx
    go_wp2
    go_ret2
    exact ⟨_, 2, s.tick now, v, rfl, H3.out.1, H3.out.2.1, .inr ⟨by decide, rfl, .inl fun m hm => (HN.out m hm).elim⟩⟩
end Go.Proofs.Yteloaidnfcmadaa
