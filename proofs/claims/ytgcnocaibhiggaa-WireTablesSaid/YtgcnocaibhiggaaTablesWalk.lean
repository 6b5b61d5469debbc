/- The law WireTables, walked. -/
import Derived.Test.YtgcnocaibhiggaaTablesApp
import Derived.Deep.CutBlock
import Derived.Deep.LoopGhost
import Derived.Deep.RegionHeld3
namespace Go.Proofs.Ytgcnocaibhiggaa
open Go.RowKit Go.Shelf Go.Maps
set_option linter.unusedVariables false
attribute [local go_sem] Oper.semAt_some

/-- A row of calls that came in: their kinds, keys, numbers. -/
def IsCalls (w : World) (a : Option Addr) (len : Nat) (cs : Nat → Int × ByteArray × Int) : Prop := ∀ i, i < len → (cs i).2.1.size ≤ maxLen ∧ ∃ x, a = some x ∧ w.cell? (x.add (i * 3)) = some (.int .i64 (cs i).1) ∧
  w.cell? ⟨(x.add (i * 3)).block, (x.add (i * 3)).off + 1, none⟩ = some (.string (cs i).2.1) ∧ w.cell? ⟨(x.add (i * 3)).block, (x.add (i * 3)).off + 2, none⟩ = some (.int .i32 (cs i).2.2)

theorem winv_start {w w1 w2 : World} {m stop : Int} (hB1 : Below ((w.alloc (.cells #[.int .i64 stop] 3)).alloc (.cells #[.bool false] 4)).heap.size ((w.alloc (.cells #[.int .i64 stop] 3)).alloc (.cells #[.bool false] 4)) w1)
    (hT : TabSX w2 w1.heap.size m none []) (hB2 : Below w1.heap.size w1 w2) :
    WInv w ((w2.alloc (.cells #[.slice none 0 0] 42)).alloc (.cells #[.slice none 0 0] 29)) w1.heap.size w2.heap.size (w2.heap.size + 1) m stop (.slice none 0 0) none [] (.slice none 0 0) none [] none [] := by
  have s0 := (((Whole.new w 3 #[.int .i64 stop]).alloc (.cells #[.bool false] 4)).under hB1).under hB2
  have s1 := ((Whole.new (w.alloc (.cells #[.int .i64 stop] 3)) 4 #[.bool false]).under hB1).under hB2
  rw [World.size_alloc] at s1
  have z1 := hB1.size
  have z2 := hB2.size
  simp at z1
  have bel : Below w.heap.size w w2 := (((Below.refl _ w).alloc (Nat.le_refl _) _).alloc (by simp) _).trans ((hB1.mono (by simp; omega)).trans (hB2.mono (by omega)))
  have k1 := Whole.new w2 42 #[.slice none 0 0]
  have k2 := Whole.new (w2.alloc (.cells #[.slice none 0 0] 42)) 29 #[.slice none 0 0]
  rw [World.size_alloc] at k2
  have hT2 := hT.below ((((Below.refl _ w2).alloc (Nat.le_refl _) (.cells #[.slice none 0 0] 42)).alloc (by simp) (.cells #[.slice none 0 0] 29)))
  refine ⟨(s0.alloc _).alloc _, (s1.alloc _).alloc _, k1.alloc _, k2, Sl.nil _ _, Sl.nil _ _, hT2, (bel.alloc (by omega) _).alloc (by simp; omega) _, fun g e => (by cases e), fun g e => (by cases e), ?_, by omega, by omega⟩
  rintro j (rfl | e | ⟨x, hx, _⟩)
  · omega
  · cases e
  · simp at hx

set_option maxHeartbeats 6400000 in
set_option maxRecDepth 100000 in
theorem tables_walk (most : Int) (a : Option Addr) (len cap : Nat) (cs : Nat → Int × ByteArray × Int) (stop : Int) (w : World) (hz : IsCalls w a len cs) (hl63 : len ≤ 9223372036854775807) :
    Calls Try.prog 5 #[.int .i64 most, .slice a len cap, .int .i64 stop] w fun e w' => e = .returned (.bool true) ∧ Below w.heap.size w w' := by
  obtain ⟨m, hm, hm1⟩ : ∃ m : Int, m = (if 1000 < most then most % 1000 else most) ∧ m ≤ 1000 := ⟨_, rfl, by split <;> omega⟩
  obtain ⟨M, hM, hM1⟩ : ∃ M : Int, M = max m 1 ∧ M ≤ 1000 := ⟨_, rfl, by omega⟩
  obtain ⟨i0, hi, hz0, hz1, hz2⟩ := info_parts Try.infoInt32
  obtain ⟨i1, hi1, hy0, hy1, hy2⟩ := info_parts Try.infoString
  have Hm := Lib.hid hm
  have HM := Lib.hid hM
  have HZ := Lib.hid hz
  clear hm hM hz
  refine calls_marks 5 Try.func5 rfl ?_
  simp only [Try.ntmps5, List.size_toArray, List.length_cons, List.length_nil, Nat.reduceAdd, Nat.reduceSub, Array.replicate_succ, Array.replicate_zero, List.push_toArray, List.append_toArray, List.nil_append, List.cons_append]
  go_upto_if 23 with (go_at_call 8; refine (awake_yes _).mono ?_; rintro e w1 ⟨rfl, hB1⟩)
  go_cut [0] from 22 (fun s0 wc => s0 = .int .i64 m ∧ w1 = wc)
  case first =>
    go_wp2
    all_goals go_meet
    all_goals
      have hq := Hm.out
      refine ⟨?_, rfl⟩
      rw [hq]
      first
        | rw [if_pos (by assumption)]
        | rw [if_neg (by omega)]
  case rest =>
    obtain ⟨rfl, rfl⟩ := hcut
    go_upto_region 6 with (go_at_call 19; refine (newTable_anySX _ _).mono ?_; rintro e w2 ⟨rfl, hT0, hB2, hz2'⟩; clear hz2')
    go_cut [0] from 22 (fun s0 wc => s0 = .int .i64 M ∧ w2 = wc)
    case first =>
      go_wp2
      all_goals go_meet
      all_goals
        have hq := HM.out
        refine ⟨?_, rfl⟩
        rw [hq]
        congr 1
        omega
    case rest =>
      obtain ⟨rfl, rfl⟩ := hcut
      go_wp2_with fail
      have hI0 := winv_start hB1 hT0 hB2
      have HI := Lib.hid hI0
      obtain ⟨tb, htb⟩ : ∃ tb, w1.heap.size = tb := ⟨_, rfl⟩
      obtain ⟨kB, hkB⟩ : ∃ kB, w2.heap.size = kB := ⟨_, rfl⟩
      rw [htb, hkB] at HI
      rw [htb, hkB]
      clear hI0 hB1 hT0 hB2 htb hkB
      go_loopg [32] len (fun gk s32 wr => ∃ j : Nat, j ≤ len ∧ gk = len - j ∧ s32 = .int .i64 j ∧ ∃ kv kob vv vob mv L, WInv w wr tb kB (kB + 1) m stop kv kob (kS L) vv vob (vS L) mv L ∧ (L.length : Int) ≤ M)
      case atStart => exact ⟨0, Nat.zero_le _, rfl, rfl, _, _, _, _, _, [], HI.out, by have := HM.out; simp; omega⟩
      case round =>
        obtain ⟨j, hj, rfl, rfl, kv, kob, vv, vob, mv, L, hI, hLM⟩ := hrel
        by_cases hlt : j < len
        ·
          obtain ⟨hks, ad, rfl, hx0, hx1, hx2⟩ := HZ.out j hlt
          obtain ⟨⟨kd, key, nm⟩, hcs⟩ : ∃ q, cs j = q := ⟨_, rfl⟩
          rw [hcs] at hks hx0 hx1 hx2
          simp only at hks hx0 hx1 hx2
          have hadl : ad.block < w.heap.size := by have := cell_lt hx0; rwa [block_add] at this
          have y0 := (hI.below.cell (p := ad.add (j * 3)) (by rw [block_add]; exact hadl)).trans hx0
          have y1 := (hI.below.cell (p := ⟨(ad.add (j * 3)).block, (ad.add (j * 3)).off + 1, none⟩) (by show (ad.add (j * 3)).block < _; rw [block_add]; exact hadl)).trans hx1
          have y2 := (hI.below.cell (p := ⟨(ad.add (j * 3)).block, (ad.add (j * 3)).off + 2, none⟩) (by show (ad.add (j * 3)).block < _; rw [block_add]; exact hadl)).trans hx2
          have hjl : (j : Int) < (len : Int) := by omega
          have hj0 : (0 : Int) ≤ (j : Int) := by omega
          obtain ⟨Ak, capk, rfl, hkc1, hkc2⟩ := hI.keys.form
          rw [strs_length, kS_length] at hkc1 hI
          have HI1 := Lib.hid hI
          clear hI hx0 hx1 hx2 hadl
          go_upto_region 13 with fail
          have hI2 := HI1.out.under ((Below.refl _ wr).alloc (Nat.le_refl _) (.cells #[.int .i64 kd, .string key, .int .i32 nm] 44))
          have hC := Whole.new wr 44 #[.int .i64 kd, .string key, .int .i32 nm]
          have hcB := HI1.out.below.size
          have hcB1 := HI1.out.res.lt
          obtain ⟨Wc, hWc⟩ : ∃ Wc, wr.alloc (.cells #[.int .i64 kd, .string key, .int .i32 nm] 44) = Wc := ⟨_, rfl⟩
          obtain ⟨cB, hcBe⟩ : ∃ cB, wr.heap.size = cB := ⟨_, rfl⟩
          rw [hWc] at hI2 hC ⊢
          rw [hcBe] at hC hcB hcB1 ⊢
          have g1 := hI2.kbox.cell 0
          simp at g1
          have HI2 := Lib.hid (And.intro hI2 hC)
          clear hI2 hC hWc hcBe HI1 y0 y1 y2
          go_wp2_with fail
          go_loopg [12, 41] L.length (fun gk s12 s41 wx => ∃ i : Nat, i ≤ L.length ∧ gk = L.length - i ∧ s41 = .int .i64 i ∧ s12 = .int .i64 (lastAt (kS L) key i) ∧ WInv w wx tb kB (kB + 1) m stop (.slice Ak L.length capk) kob (kS L) vv vob (vS L) mv L ∧ Whole wx cB 44 #[.int .i64 kd, .string key, .int .i32 nm])
          case atStart => exact ⟨0, Nat.zero_le _, rfl, rfl, rfl, HI2.out.1, HI2.out.2⟩
          case round =>
            obtain ⟨i, hil, rfl, rfl, rfl, hI, hC⟩ := hrel
            by_cases hlt2 : i < L.length
            · obtain ⟨gk, offk, capk2, hkv, hko, hgkl, hkc, hkf⟩ := hI.keys.at_ (i := i) (by simpa using hlt2)
              have hx := List.getElem?_eq_getElem (show i < (kS L).length by simpa using hlt2)
              obtain ⟨x, hxe⟩ : ∃ x, (kS L)[i]'(by simpa using hlt2) = x := ⟨_, rfl⟩
              rw [hxe] at hx
              have hkc2 : wr.cell? ⟨gk, offk + i, none⟩ = some (.string x) := by rw [hkc]; simp [strs, hx]
              rw [strs_length, kS_length] at hkv
              have q1 := hI.kbox.cell 0
              rw [hkv] at q1
              simp at q1
              have q2 := hC.cell 1
              simp at q2
              have hii : (i : Int) < (L.length : Int) := by omega
              have hi0' : (0 : Int) ≤ (i : Int) := by omega
              have hgd : (kS L).getD i .empty = x := by simp [List.getD, hx]
              have HX := Lib.hid (And.intro hI (And.intro hC hgd))
              clear hI hC hgd hx hxe hkc hkf hkv hko hgkl
              by_cases hxk : x = key
              · have hb := str_eq hxk
                have HK := Lib.hid hxk
                clear hxk
                go_wp2_with fail
                go_quiet (fail)
                go_wp2_with fail
                go_roundg (L.length - (i + 1))
                case measure => omega
                case rel => exact ⟨i + 1, by omega, rfl, by simp, by rw [lastAt_succ, HX.out.2.2, if_pos HK.out], HX.out.1.drewN _, HX.out.2.1⟩
              · have hb := str_ne hxk
                have HK := Lib.hid hxk
                clear hxk
                go_wp2_with fail
                go_quiet (fail)
                go_wp2_with fail
                go_roundg (L.length - (i + 1))
                case measure => omega
                case rel => exact ⟨i + 1, by omega, rfl, by simp, by rw [lastAt_succ, HX.out.2.2, if_neg HK.out], HX.out.1.drewN _, HX.out.2.1⟩
            · obtain rfl : i = L.length := by omega
              have hla := lastAt_cases hI.tab key
              have q0 := hC.cell 0
              have q1 := hC.cell 1
              have q2 := hC.cell 2
              have q3 := hI.kbox.cell 0
              simp at q0 q1 q2 q3
              have HX := Lib.hid (And.intro hI hC)
              clear hI hC
              go_upto_block 4 with fail
              go_cut [12, 32] from 32 to 157 (fun s12 s32 wd => s32 = .int .i64 j ∧ ∃ kv' kob' vv' vob' mv' L', WInv w wd tb kB (kB + 1) m stop kv' kob' (kS L') vv' vob' (vS L') mv' L' ∧ (L'.length : Int) ≤ M)
              case rest =>
                as_aux_lemma =>
                  obtain ⟨rfl, kv2, kob2, vv2, vob2, mv2, L2, hI2, hL2⟩ := hcut
                  have HT := Lib.hid (And.intro hI2 hL2)
                  have r1 := hI2.kbox.cell 0
                  obtain ⟨Ak2, capk9, hkv9, _, _⟩ := hI2.keys.form
                  rw [hkv9] at r1
                  simp at r1
                  clear hI2 hkv9
                  go_wp2_with fail
                  go_quiet ((go_at_call 23; exact Calls.quiet_of_same (tlen_q (HT.out.1.tab.drewN _) L2.length rfl)))
                  go_wp2_with fail
                  go_roundg (len - (j + 1))
                  case measure => omega
                  case rel => exact ⟨j + 1, by omega, rfl, by simp, _, _, _, _, _, _, HT.out.1.drewN _, HT.out.2⟩
              case first =>
                by_cases hk1 : kd = 1
                · subst hk1
                  rcases hla with ⟨hbn, hat⟩ | ⟨p, u, g, hpl, hLp, hat⟩
                  · rw [hat]
                    by_cases hroom : (L.length : Int) < M
                    · have HP := Lib.hid (put_newSX HX.out.1.tab hks hbn nm (by have := HM.out; omega) (by omega))
                      go_wp2_with (go_at_call 20; go_must (refine HP.out.mono ?_))
                      rintro e w9 ⟨rfl, mb, gn, hT9, hO9, hmb, hgn⟩
                      have hI9 := winv_tab HX.out.1 hT9 hO9 (put_tabS hmb hgn)
                      have hC9 := HX.out.2.only hO9 (HX.out.1.tab.offT HX.out.2 (by decide) (by decide))
                      have hM9 := mid_start hI9 hC9
                      obtain ⟨s1, s2, s3, s4, s5, s6⟩ := hM9.seen
                      have HM9 := Lib.hid hM9
                      have HI9 := Lib.hid hI9
                      have hl1 : (strs (kS L)).length = L.length := by simp
                      have hl2 : (i32s (vS L)).length = L.length := by simp
                      have hl3 : L.length ≤ 1000000 := by omega
                      have HL := Lib.hid (And.intro hl1 hl2)
                      clear hT9 hO9 hmb hgn hI9 hC9 hM9 hl1 hl2
                      go_upto_region 31 with fail
                      refine wp_region_late (Till kB (kB + 1) cB (.slice Ak L.length capk) vv key nm) (by as_aux_lemma => kernel_rfl) ?_
                      refine wpLate.take (i := 0) (q := 10) (oi := _) (v := ?_) rfl (by as_aux_lemma => kernel_rfl) (by as_aux_lemma => kernel_rfl) (by as_aux_lemma => kernel_rfl) (by as_aux_lemma => kernel_rfl) (by rfl) (fun _ _ _ h => h) (TillTwo.set (by decide) (by decide)) (HM9.out.drew.till _) (Or.inl ⟨by rfl, ?_⟩) ?_
                      case refine_2 => intro w hw; obtain ⟨⟨c1, c2⟩, c3⟩ := TillTwo.one hw; go_simp; (try with_reducible rfl)
                      simp only [Act.put]
                      refine wpLate.take (i := 1) (q := 10) (oi := _) (v := ?_) rfl (by as_aux_lemma => kernel_rfl) (by as_aux_lemma => kernel_rfl) (by as_aux_lemma => kernel_rfl) (by as_aux_lemma => kernel_rfl) (by rfl) (fun _ _ _ h => h) (TillTwo.set (by decide) (by decide)) (HM9.out.drew.till _) (Or.inl ⟨by rfl, ?_⟩) ?_
                      case refine_2 => intro w hw; obtain ⟨⟨c1, c2⟩, c3⟩ := TillTwo.one hw; go_simp; (try with_reducible rfl)
                      simp only [Act.put]
                      refine wpLate.take (i := 2) (q := 10) (oi := _) (v := ?_) rfl (by as_aux_lemma => kernel_rfl) (by as_aux_lemma => kernel_rfl) (by as_aux_lemma => kernel_rfl) (by as_aux_lemma => kernel_rfl) (by rfl) (fun _ _ _ h => h) (TillTwo.set (by decide) (by decide)) (HM9.out.drew.till _) (Or.inl ⟨by rfl, ?_⟩) ?_
                      case refine_2 => intro w hw; obtain ⟨⟨c1, c2⟩, c3⟩ := TillTwo.one hw; go_simp; (try with_reducible rfl)
                      simp only [Act.put]
                      refine wpLate.take (i := 5) (q := 11) (oi := _) (v := ?_) rfl (by as_aux_lemma => kernel_rfl) (by as_aux_lemma => kernel_rfl) (by as_aux_lemma => kernel_rfl) (by as_aux_lemma => kernel_rfl) (by rfl) (fun _ _ _ h => h) (TillTwo.set (by decide) (by decide)) (HM9.out.drew.till _) (Or.inl ⟨by rfl, ?_⟩) ?_
                      case refine_2 => intro w hw; obtain ⟨⟨c1, c2⟩, c3⟩ := TillTwo.two hw; go_simp; (try with_reducible rfl)
                      simp only [Act.put]
                      refine wpLate.take (i := 6) (q := 11) (oi := _) (v := ?_) rfl (by as_aux_lemma => kernel_rfl) (by as_aux_lemma => kernel_rfl) (by as_aux_lemma => kernel_rfl) (by as_aux_lemma => kernel_rfl) (by rfl) (fun _ _ _ h => h) (TillTwo.set (by decide) (by decide)) (HM9.out.drew.till _) (Or.inl ⟨by rfl, ?_⟩) ?_
                      case refine_2 => intro w hw; obtain ⟨⟨c1, c2⟩, c3⟩ := TillTwo.two hw; go_simp; (try with_reducible rfl)
                      simp only [Act.put]
                      refine wpLate.take (i := 7) (q := 11) (oi := _) (v := ?_) rfl (by as_aux_lemma => kernel_rfl) (by as_aux_lemma => kernel_rfl) (by as_aux_lemma => kernel_rfl) (by as_aux_lemma => kernel_rfl) (by rfl) (fun _ _ _ h => h) (TillTwo.set (by decide) (by decide)) (HM9.out.drew.till _) (Or.inl ⟨by rfl, ?_⟩) ?_
                      case refine_2 => intro w hw; obtain ⟨⟨c1, c2⟩, c3⟩ := TillTwo.two hw; go_simp; (try with_reducible rfl)
                      simp only [Act.put]
                      refine wpLate.ready (rs := [3, 8]) (by as_aux_lemma => kernel_rfl) (by simp) (eachLate.cons rfl (fun K hK => ?_) (eachLate.cons rfl (fun K hK => ?_) eachLate.nil))
                      · go_simp
                        refine hK.out _ _ ((HM9.out.alloc _).drew.till _) ?_
                        clear hK K
                        try simp only [Act.put]
                        refine wpLate.ready (rs := [4, 8]) (by as_aux_lemma => kernel_rfl) (by simp) (eachLate.cons rfl (fun K hK => ?_) (eachLate.cons rfl (fun K hK => ?_) eachLate.nil))
                        · refine step_app_k (kv := .slice Ak L.length capk) (kxs := strs (kS L)) ((HM9.out.alloc _).drew) rfl _ _ _ rfl i1 (.string .empty) 16 Try.underlying42 hi1 hy0 hy1 hy2 rfl rfl L.length HL.out.1 _ _ rfl key (by first | exact Whole.cell (Whole.new _ _ _) 0 | exact Whole.cell ((Whole.new _ _ _).alloc _) 0 | exact Whole.cell (Whole.new1 _ _ _ _) 0) hl3 (by decide) ?_
                          intro gK oK cK wK hAK hTK hzK
                          obtain ⟨ek1, ek2, ek3, ek4, _, _⟩ := hAK.seen
                          have HMK := Lib.hid hAK
                          have HTK := Lib.hid hTK
                          clear hAK hTK
                          refine hK.out _ _ (HMK.out.till _) ?_
                          clear hK K
                          try simp only [Act.put]
                          refine wpLate.ready (rs := [8]) (by as_aux_lemma => kernel_rfl) (by simp) (eachLate.cons rfl (fun K hK => ?_) eachLate.nil)
                          go_simp
                          refine hK.out _ _ ((HMK.out.alloc _).till _) ?_
                          clear hK K
                          try simp only [Act.put]
                          refine wpLate.ready (rs := [9]) (by as_aux_lemma => kernel_rfl) (by simp) (eachLate.cons rfl (fun K hK => ?_) eachLate.nil)
                          refine step_app_v (vv := vv) (vxs := i32s (vS L)) (HMK.out.alloc _) rfl _ _ _ rfl i0 (.int .i32 0) 4 Try.underlying29 hi hz0 hz1 hz2 rfl rfl L.length HL.out.2 _ _ rfl nm (Whole.cell (Whole.new _ _ _) 0) hl3 (by decide) ?_
                          intro gV oV cV wV hAV hTV hzV
                          obtain ⟨ev1, ev2, ev3, ev4, _, _⟩ := hAV.seen
                          have HMV := Lib.hid hAV
                          have HTV := Lib.hid hTV
                          clear hAV hTV
                          refine hK.out _ _ (HMV.out.till _) ?_
                          clear hK K
                          try simp only [Act.put]
                          refine wpLate.ready (rs := [10]) (by as_aux_lemma => kernel_rfl) (by simp) (eachLate.cons rfl (fun K hK => ?_) eachLate.nil)
                          go_simp
                          refine hK.out _ _ (HMV.out.till1 _ rfl _) ?_
                          clear hK K
                          try simp only [Act.put]
                          refine wpLate.ready (rs := [11]) (by as_aux_lemma => kernel_rfl) (by simp) (eachLate.cons rfl (fun K hK => ?_) eachLate.nil)
                          go_simp
                          refine hK.out _ _ (HMV.out.till2 _ rfl rfl _ _) ?_
                          clear hK K
                          try simp only [Act.put]
                          refine wpLate.done (by as_aux_lemma => kernel_rfl) ?_ _
                          go_wp2_with fail
                          go_meet
                          exact ⟨rfl, _, _, _, _, _, _, by rw [kS_snoc, vS_snoc]; exact mid_end HI9.out HMV.out, by simp; omega⟩
                        · go_simp
                          refine hK.out _ _ (((HM9.out.alloc _).alloc _).drew.till _) ?_
                          clear hK K
                          try simp only [Act.put]
                          refine wpLate.ready (rs := [4]) (by as_aux_lemma => kernel_rfl) (by simp) (eachLate.cons rfl (fun K hK => ?_) eachLate.nil)
                          refine step_app_k (kv := .slice Ak L.length capk) (kxs := strs (kS L)) (((HM9.out.alloc _).alloc _).drew) rfl _ _ _ rfl i1 (.string .empty) 16 Try.underlying42 hi1 hy0 hy1 hy2 rfl rfl L.length HL.out.1 _ _ rfl key (by first | exact Whole.cell (Whole.new _ _ _) 0 | exact Whole.cell ((Whole.new _ _ _).alloc _) 0 | exact Whole.cell (Whole.new1 _ _ _ _) 0) hl3 (by decide) ?_
                          intro gK oK cK wK hAK hTK hzK
                          obtain ⟨ek1, ek2, ek3, ek4, _, _⟩ := hAK.seen
                          have HMK := Lib.hid hAK
                          have HTK := Lib.hid hTK
                          clear hAK hTK
                          refine hK.out _ _ (HMK.out.till _) ?_
                          clear hK K
                          try simp only [Act.put]
                          refine wpLate.ready (rs := [9]) (by as_aux_lemma => kernel_rfl) (by simp) (eachLate.cons rfl (fun K hK => ?_) eachLate.nil)
                          refine step_app_v (vv := vv) (vxs := i32s (vS L)) (HMK.out) rfl _ _ _ rfl i0 (.int .i32 0) 4 Try.underlying29 hi hz0 hz1 hz2 rfl rfl L.length HL.out.2 _ _ rfl nm (Whole.cell (HTK.out _ _ (Whole.new1 _ _ _ _)) 0) hl3 (by decide) ?_
                          intro gV oV cV wV hAV hTV hzV
                          obtain ⟨ev1, ev2, ev3, ev4, _, _⟩ := hAV.seen
                          have HMV := Lib.hid hAV
                          have HTV := Lib.hid hTV
                          clear hAV hTV
                          refine hK.out _ _ (HMV.out.till _) ?_
                          clear hK K
                          try simp only [Act.put]
                          refine wpLate.ready (rs := [10]) (by as_aux_lemma => kernel_rfl) (by simp) (eachLate.cons rfl (fun K hK => ?_) eachLate.nil)
                          go_simp
                          refine hK.out _ _ (HMV.out.till1 _ rfl _) ?_
                          clear hK K
                          try simp only [Act.put]
                          refine wpLate.ready (rs := [11]) (by as_aux_lemma => kernel_rfl) (by simp) (eachLate.cons rfl (fun K hK => ?_) eachLate.nil)
                          go_simp
                          refine hK.out _ _ (HMV.out.till2 _ rfl rfl _ _) ?_
                          clear hK K
                          try simp only [Act.put]
                          refine wpLate.done (by as_aux_lemma => kernel_rfl) ?_ _
                          go_wp2_with fail
                          go_meet
                          exact ⟨rfl, _, _, _, _, _, _, by rw [kS_snoc, vS_snoc]; exact mid_end HI9.out HMV.out, by simp; omega⟩
                      · go_simp
                        refine hK.out _ _ ((HM9.out.alloc _).drew.till _) ?_
                        clear hK K
                        try simp only [Act.put]
                        refine wpLate.ready (rs := [3]) (by as_aux_lemma => kernel_rfl) (by simp) (eachLate.cons rfl (fun K hK => ?_) eachLate.nil)
                        go_simp
                        refine hK.out _ _ (((HM9.out.alloc _).alloc _).drew.till _) ?_
                        clear hK K
                        try simp only [Act.put]
                        refine wpLate.ready (rs := [4]) (by as_aux_lemma => kernel_rfl) (by simp) (eachLate.cons rfl (fun K hK => ?_) eachLate.nil)
                        refine step_app_k (kv := .slice Ak L.length capk) (kxs := strs (kS L)) (((HM9.out.alloc _).alloc _).drew) rfl _ _ _ rfl i1 (.string .empty) 16 Try.underlying42 hi1 hy0 hy1 hy2 rfl rfl L.length HL.out.1 _ _ rfl key (by first | exact Whole.cell (Whole.new _ _ _) 0 | exact Whole.cell ((Whole.new _ _ _).alloc _) 0 | exact Whole.cell (Whole.new1 _ _ _ _) 0) hl3 (by decide) ?_
                        intro gK oK cK wK hAK hTK hzK
                        obtain ⟨ek1, ek2, ek3, ek4, _, _⟩ := hAK.seen
                        have HMK := Lib.hid hAK
                        have HTK := Lib.hid hTK
                        clear hAK hTK
                        refine hK.out _ _ (HMK.out.till _) ?_
                        clear hK K
                        try simp only [Act.put]
                        refine wpLate.ready (rs := [9]) (by as_aux_lemma => kernel_rfl) (by simp) (eachLate.cons rfl (fun K hK => ?_) eachLate.nil)
                        refine step_app_v (vv := vv) (vxs := i32s (vS L)) (HMK.out) rfl _ _ _ rfl i0 (.int .i32 0) 4 Try.underlying29 hi hz0 hz1 hz2 rfl rfl L.length HL.out.2 _ _ rfl nm (Whole.cell (HTK.out _ _ ((Whole.new _ _ _).alloc _)) 0) hl3 (by decide) ?_
                        intro gV oV cV wV hAV hTV hzV
                        obtain ⟨ev1, ev2, ev3, ev4, _, _⟩ := hAV.seen
                        have HMV := Lib.hid hAV
                        have HTV := Lib.hid hTV
                        clear hAV hTV
                        refine hK.out _ _ (HMV.out.till _) ?_
                        clear hK K
                        try simp only [Act.put]
                        refine wpLate.ready (rs := [10]) (by as_aux_lemma => kernel_rfl) (by simp) (eachLate.cons rfl (fun K hK => ?_) eachLate.nil)
                        go_simp
                        refine hK.out _ _ (HMV.out.till1 _ rfl _) ?_
                        clear hK K
                        try simp only [Act.put]
                        refine wpLate.ready (rs := [11]) (by as_aux_lemma => kernel_rfl) (by simp) (eachLate.cons rfl (fun K hK => ?_) eachLate.nil)
                        go_simp
                        refine hK.out _ _ (HMV.out.till2 _ rfl rfl _ _) ?_
                        clear hK K
                        try simp only [Act.put]
                        refine wpLate.done (by as_aux_lemma => kernel_rfl) ?_ _
                        go_wp2_with fail
                        go_meet
                        exact ⟨rfl, _, _, _, _, _, _, by rw [kS_snoc, vS_snoc]; exact mid_end HI9.out HMV.out, by simp; omega⟩
                    ·
                      as_aux_lemma =>
                        have HP := Lib.hid (put_overSX HX.out.1.tab hks hbn nm (by have := HM.out; omega))
                        go_wp2_with (go_at_call 20; go_must (refine HP.out.mono ?_); rintro e w9 ⟨rfl, hb9⟩)
                        have HT := Lib.hid (And.intro (HX.out.1.under hb9) hLM)
                        go_wp2_with fail
                        go_meet
                        first | exact ⟨rfl, _, _, _, _, _, _, HT.out⟩ | exact ⟨rfl, _, _, _, _, _, _, HT.out.1.drewN _, HT.out.2⟩
                  · rw [hat]
                    have hp0 : (0 : Int) ≤ (p : Int) := by omega
                    have HP := Lib.hid (put_updSX HX.out.1.tab hLp nm)
                    go_wp2_with (go_at_call 20; go_must (refine HP.out.mono ?_))
                    rintro e w9 ⟨rfl, hT9, hO9⟩
                    have hI9 := winv_tab HX.out.1 hT9 hO9 (fun q hq => .inl (setVal_tabSSX _ _ _ _ _ _ hq))
                    have hC9 := HX.out.2.only hO9 (HX.out.1.tab.offT HX.out.2 (by decide) (by decide))
                    obtain ⟨gv, offv, capv, hvv, hvo, hvl, hvc, hvf⟩ := hI9.vals.at_ (i := p) (by simpa using hpl)
                    rw [i32s_length, vS_length] at hvv
                    have hvx := List.getElem?_eq_getElem (show p < (vS L).length by simpa using hpl)
                    have z0 := hC9.cell 2
                    have z1 := hI9.vbox.cell 0
                    rw [hvv] at z1
                    have z2 : w9.cell? ⟨gv, offv + p, none⟩ = some (.int .i32 ((vS L)[p]'(by simpa using hpl))) := by rw [hvc]; simp [i32s, hvx]
                    simp at z0 z1
                    have hpi : (p : Int) < (L.length : Int) := by omega
                    have hlast := winv_set hI9 (g := gv) (off := offv) (cap := capv) (p := p) (by rw [vS_length]; exact hvv) (by simpa using hpl) nm
                    rw [← vS_set, ← kS_set L p nm] at hlast
                    have HT := Lib.hid (And.intro hlast (show ((setVal L p nm).length : Int) ≤ M by rw [setVal_length]; exact hLM))
                    clear hT9 hO9 hI9 hC9 hvv hvo hvl hvc hvx hlast
                    go_wp2_with fail
                    go_wp2_with fail
                    go_meet
                    first | exact ⟨rfl, _, _, _, _, _, _, HT.out⟩ | exact ⟨rfl, _, _, _, _, _, _, HT.out.1.drewN _, HT.out.2⟩
                · by_cases hk2 : kd = 2
                  · subst hk2
                    rcases hla with ⟨hbn, hat⟩ | ⟨p, u, g, hpl, hLp, hat⟩
                    · rw [hat]
                      as_aux_lemma =>
                        have HP := Lib.hid (drop_noneSX HX.out.1.tab hks hbn)
                        go_wp2_with (go_at_call 21; go_must (refine HP.out.mono ?_); rintro e w9 ⟨rfl, hb9⟩)
                        have HT := Lib.hid (And.intro (HX.out.1.under hb9) hLM)
                        go_wp2_with fail
                        go_meet
                        first | exact ⟨rfl, _, _, _, _, _, _, HT.out⟩ | exact ⟨rfl, _, _, _, _, _, _, HT.out.1.drewN _, HT.out.2⟩
                    · rw [hat]
                      have hp0 : (0 : Int) ≤ (p : Int) := by omega
                      have HP := Lib.hid (drop_someSX HX.out.1.tab hLp)
                      go_wp2_with (go_at_call 21; go_must (refine HP.out.mono ?_))
                      rintro e w9 ⟨rfl, hT9, hO9⟩
                      have hI9 := winv_tab HX.out.1 hT9 hO9 (fun q hq => .inl (erase_tabS _ _ _ _ _ hq))
                      obtain ⟨gk, offk, capk2, hkv, hko, hkl, hkc, hkf⟩ := hI9.keys.at_ (i := p) (by simpa using hpl)
                      rw [strs_length, kS_length] at hkv
                      injection hkv with eA _ eC
                      subst eA
                      subst eC
                      have z1k := hI9.kbox.cell 0
                      have z2k := hI9.kbox.frz 0
                      simp at z1k
                      have hpi : (p : Int) < (L.length : Int) := by omega
                      have hpc : (p : Int) ≤ (capk : Int) := by omega
                      have hpp : (p : Int) + 1 ≤ (L.length : Int) := by omega
                      have hpc2 : (p : Int) + 1 ≤ (capk : Int) := by omega
                      have hLc : (L.length : Int) ≤ (capk : Int) := by omega
                      have hwrp : IntKind.i64.wrap ((p : Int) + 1) = (p : Int) + 1 := by rw [IntKind.wrap_i64]; omega
                      have hp1 : (0 : Int) ≤ (p : Int) + 1 := by omega
                      have hblk : kB < w9.heap.size := hI9.kbox.lt
                      have hkcs := hI9.keys.cells rfl
                      have HCk := Lib.hid hkcs
                      have hplxk : p ≤ (strs (kS L)).length := by simp; omega
                      have hlxk : (strs (kS L)).length = L.length := by simp
                      have hbbk : p ≤ 1000 ∧ 16 ≤ 100 := by omega
                      have hbck : L.length ≤ 1000 ∧ 16 ≤ 100 := by omega
                      obtain ⟨adk, hA2k, hdk⟩ := cut_at (cap := capk) (p := p) hlxk hpl (by omega) hkcs
                      have HDk := Lib.hid hdk
                      have HI9 := Lib.hid hI9
                      clear hT9 hO9 hI9 hkc hkf hkcs hdk
                      go_upto_region 36 with fail
                      go_cut [32] from 32 to 157 (fun s32 wd => s32 = .int .i64 j ∧ ∃ kv' kob', WInv w wd tb kB (kB + 1) m stop kv' kob' ((kS L).take p ++ (kS L).drop (p + 1)) vv vob (vS L) mv (L.eraseIdx p))
                      case first =>
                        refine wp_region_late (TillTwo (fun _ => True) (fun W => W.cell? ⟨kB, 0, none⟩ = some (.slice (some ⟨gk, offk, none⟩) L.length capk)) (fun _ => True) 10 10) (by as_aux_lemma => kernel_rfl) ?_
                        refine wpLate.take (i := 1) (q := 10) (oi := _) (v := ?_) rfl (by as_aux_lemma => kernel_rfl) (by as_aux_lemma => kernel_rfl) (by as_aux_lemma => kernel_rfl) (by as_aux_lemma => kernel_rfl) (by rfl) (fun _ _ _ h => h) (TillTwo.set (by decide) (by decide)) (TillTwo.mk trivial (.inr z1k) (.inr trivial)) (Or.inl ⟨by rfl, ?_⟩) ?_
                        case refine_2 => intro w hw; obtain ⟨_, c3⟩ := TillTwo.one hw; clear hw; go_simp; (try with_reducible rfl)
                        simp only [Act.put]
                        refine wpLate.take (i := 2) (q := 10) (oi := _) (v := ?_) rfl (by as_aux_lemma => kernel_rfl) (by as_aux_lemma => kernel_rfl) (by as_aux_lemma => kernel_rfl) (by as_aux_lemma => kernel_rfl) (by rfl) (fun _ _ _ h => h) (TillTwo.set (by decide) (by decide)) (TillTwo.mk trivial (.inr z1k) (.inr trivial)) (Or.inl ⟨by rfl, ?_⟩) ?_
                        case refine_2 => intro w hw; obtain ⟨_, c3⟩ := TillTwo.one hw; clear hw; go_simp; (try with_reducible rfl)
                        simp only [Act.put]
                        refine wpLate.take (i := 3) (q := 10) (oi := _) (v := ?_) rfl (by as_aux_lemma => kernel_rfl) (by as_aux_lemma => kernel_rfl) (by as_aux_lemma => kernel_rfl) (by as_aux_lemma => kernel_rfl) (by rfl) (fun _ _ _ h => h) (TillTwo.set (by decide) (by decide)) (TillTwo.mk trivial (.inr z1k) (.inr trivial)) (Or.inl ⟨by rfl, ?_⟩) ?_
                        case refine_2 => intro w hw; obtain ⟨_, c3⟩ := TillTwo.one hw; clear hw; go_simp; (try with_reducible rfl)
                        simp only [Act.put]
                        refine wpLate.take (i := 5) (q := 10) (oi := _) (v := ?_) rfl (by as_aux_lemma => kernel_rfl) (by as_aux_lemma => kernel_rfl) (by as_aux_lemma => kernel_rfl) (by as_aux_lemma => kernel_rfl) (by rfl) (fun _ _ _ h => h) (TillTwo.set (by decide) (by decide)) (TillTwo.mk trivial (.inr z1k) (.inr trivial)) (Or.inl ⟨by rfl, ?_⟩) ?_
                        case refine_2 => intro w hw; obtain ⟨_, c3⟩ := TillTwo.one hw; clear hw; go_simp; (try with_reducible rfl)
                        simp only [Act.put]
                        refine wpLate.take (i := 6) (q := 10) (oi := _) (v := ?_) rfl (by as_aux_lemma => kernel_rfl) (by as_aux_lemma => kernel_rfl) (by as_aux_lemma => kernel_rfl) (by as_aux_lemma => kernel_rfl) (by rfl) (fun _ _ _ h => h) (TillTwo.set (by decide) (by decide)) (TillTwo.mk trivial (.inr z1k) (.inr trivial)) (Or.inl ⟨by rfl, ?_⟩) ?_
                        case refine_2 => intro w hw; obtain ⟨_, c3⟩ := TillTwo.one hw; clear hw; go_simp; (try with_reducible rfl)
                        simp only [Act.put]
                        refine wpLate.take (i := 7) (q := 10) (oi := _) (v := ?_) rfl (by as_aux_lemma => kernel_rfl) (by as_aux_lemma => kernel_rfl) (by as_aux_lemma => kernel_rfl) (by as_aux_lemma => kernel_rfl) (by rfl) (fun _ _ _ h => h) (TillTwo.set (by decide) (by decide)) (TillTwo.mk trivial (.inr z1k) (.inr trivial)) (Or.inl ⟨by rfl, ?_⟩) ?_
                        case refine_2 => intro w hw; obtain ⟨_, c3⟩ := TillTwo.one hw; clear hw; go_simp; (try with_reducible rfl)
                        simp only [Act.put]
                        refine wpLate.take (i := 8) (q := 10) (oi := _) (v := ?_) rfl (by as_aux_lemma => kernel_rfl) (by as_aux_lemma => kernel_rfl) (by as_aux_lemma => kernel_rfl) (by as_aux_lemma => kernel_rfl) (by rfl) (fun _ _ _ h => h) (TillTwo.set (by decide) (by decide)) (TillTwo.mk trivial (.inr z1k) (.inr trivial)) (Or.inl ⟨by rfl, ?_⟩) ?_
                        case refine_2 => intro w hw; obtain ⟨_, c3⟩ := TillTwo.one hw; clear hw; go_simp; (try with_reducible rfl)
                        simp only [Act.put]
                        refine wpLate.ready (rs := [0]) (by as_aux_lemma => kernel_rfl) (by simp) (eachLate.cons rfl (fun K hK => ?_) eachLate.nil)
                        go_simp
                        refine hK.out _ _ (TillTwo.mk trivial (.inr (Go.Lib.cell?_alloc_some (W := w9) _ z1k)) (.inr trivial)) ?_
                        clear hK K
                        try simp only [Act.put]
                        refine wpLate.ready (rs := [4]) (by as_aux_lemma => kernel_rfl) (by simp) (eachLate.cons rfl (fun K hK => ?_) eachLate.nil)
                        refine step_first w9 rfl _ _ 42 rfl 9 i1 (.string .empty) 16 Try.underlying42 hi1 hy0 hy1 hy2 rfl _ _ _ p (strs (kS L)) rfl rfl HCk.out (one_strs _) hplxk hbbk ⟨kB, 0, none⟩ _ z1k z2k ?_
                        intro v1k W2k hown1k hgr1k s1k f1k
                        refine hK.out _ _ (TillTwo.mk trivial (.inr s1k) (.inr trivial)) ?_
                        clear hK K
                        try simp only [Act.put]
                        refine wpLate.ready (rs := [9]) (by as_aux_lemma => kernel_rfl) (by simp) (eachLate.cons rfl (fun K hK => ?_) eachLate.nil)
                        refine step_second w9 W2k rfl _ _ 42 rfl 9 i1 (.string .empty) 16 Try.underlying42 hi1 hy0 hy1 hy2 rfl _ _ L.length p (strs (kS L)) v1k rfl hown1k hgr1k rfl adk rfl HDk.out (one_strs _) hlxk hpl hbck ⟨kB, 0, none⟩ _ hblk s1k f1k ?_
                        intro A2k c2k W3k hown2k hbelk s2k f2k
                        refine hK.out _ _ (TillTwo.mk trivial (.inr s2k) (.inr trivial)) ?_
                        clear hK K
                        try simp only [Act.put]
                        refine wpLate.ready (rs := [10]) (by as_aux_lemma => kernel_rfl) (by simp) (eachLate.cons rfl (fun K hK => ?_) eachLate.nil)
                        go_simp
                        refine hK.out _ _ (TillTwo.mk trivial (.inl rfl) (.inl rfl)) ?_
                        clear hK K
                        try simp only [Act.put]
                        refine wpLate.done (by as_aux_lemma => kernel_rfl) ?_ _
                        all_goals (go_wp2_with fail; go_meet)
                        all_goals
                          exact ⟨rfl, _, _, keys_drop HI9.out hown2k hbelk⟩
                      case rest =>
                        obtain ⟨rfl, kv2, kob2, hI10⟩ := hcut
                        obtain ⟨gv, offv, capv, hvv, hvo, hvl, hvc, hvf⟩ := hI10.vals.at_ (i := p) (by simpa using hpl)
                        rw [i32s_length, vS_length] at hvv
                        subst hvv
                        have z1v := hI10.vbox.cell 0
                        have z2v := hI10.vbox.frz 0
                        simp at z1v
                        obtain ⟨_, capv2, hvv2, hv1, hv2⟩ := hI10.vals.form
                        have hcv : capv = capv2 := by injection hvv2
                        subst hcv
                        rw [i32s_length, vS_length] at hv1
                        have hvcs := hI10.vals.cells rfl
                        have hpcv : (p : Int) ≤ (capv : Int) := by omega
                        have hpcv2 : (p : Int) + 1 ≤ (capv : Int) := by omega
                        have hLcv : (L.length : Int) ≤ (capv : Int) := by omega
                        have hblv : kB + 1 < wc.heap.size := hI10.vbox.lt
                        have HCv := Lib.hid hvcs
                        have hplxv : p ≤ (i32s (vS L)).length := by simp; omega
                        have hlxv : (i32s (vS L)).length = L.length := by simp
                        have hbbv : p ≤ 1000 ∧ 4 ≤ 100 := by omega
                        have hbcv : L.length ≤ 1000 ∧ 4 ≤ 100 := by omega
                        obtain ⟨adv, hA2v, hdv⟩ := cut_at (cap := capv) (p := p) hlxv hpl hv1 hvcs
                        have HDv := Lib.hid hdv
                        have HI10 := Lib.hid hI10
                        clear hI10 hvcs hdv hvc hvf hvv2 HI9 HCk HDk z1k z2k hA2k
                        go_upto_region 37 with fail
                        refine wp_region_late (TillTwo (fun _ => True) (fun W => W.cell? ⟨kB + 1, 0, none⟩ = some (.slice (some ⟨gv, offv, none⟩) L.length capv)) (fun _ => True) 10 10) (by as_aux_lemma => kernel_rfl) ?_
                        refine wpLate.take (i := 1) (q := 10) (oi := _) (v := ?_) rfl (by as_aux_lemma => kernel_rfl) (by as_aux_lemma => kernel_rfl) (by as_aux_lemma => kernel_rfl) (by as_aux_lemma => kernel_rfl) (by rfl) (fun _ _ _ h => h) (TillTwo.set (by decide) (by decide)) (TillTwo.mk trivial (.inr z1v) (.inr trivial)) (Or.inl ⟨by rfl, ?_⟩) ?_
                        case refine_2 => intro w hw; obtain ⟨_, c3⟩ := TillTwo.one hw; clear hw; go_simp; (try with_reducible rfl)
                        simp only [Act.put]
                        refine wpLate.take (i := 2) (q := 10) (oi := _) (v := ?_) rfl (by as_aux_lemma => kernel_rfl) (by as_aux_lemma => kernel_rfl) (by as_aux_lemma => kernel_rfl) (by as_aux_lemma => kernel_rfl) (by rfl) (fun _ _ _ h => h) (TillTwo.set (by decide) (by decide)) (TillTwo.mk trivial (.inr z1v) (.inr trivial)) (Or.inl ⟨by rfl, ?_⟩) ?_
                        case refine_2 => intro w hw; obtain ⟨_, c3⟩ := TillTwo.one hw; clear hw; go_simp; (try with_reducible rfl)
                        simp only [Act.put]
                        refine wpLate.take (i := 3) (q := 10) (oi := _) (v := ?_) rfl (by as_aux_lemma => kernel_rfl) (by as_aux_lemma => kernel_rfl) (by as_aux_lemma => kernel_rfl) (by as_aux_lemma => kernel_rfl) (by rfl) (fun _ _ _ h => h) (TillTwo.set (by decide) (by decide)) (TillTwo.mk trivial (.inr z1v) (.inr trivial)) (Or.inl ⟨by rfl, ?_⟩) ?_
                        case refine_2 => intro w hw; obtain ⟨_, c3⟩ := TillTwo.one hw; clear hw; go_simp; (try with_reducible rfl)
                        simp only [Act.put]
                        refine wpLate.take (i := 5) (q := 10) (oi := _) (v := ?_) rfl (by as_aux_lemma => kernel_rfl) (by as_aux_lemma => kernel_rfl) (by as_aux_lemma => kernel_rfl) (by as_aux_lemma => kernel_rfl) (by rfl) (fun _ _ _ h => h) (TillTwo.set (by decide) (by decide)) (TillTwo.mk trivial (.inr z1v) (.inr trivial)) (Or.inl ⟨by rfl, ?_⟩) ?_
                        case refine_2 => intro w hw; obtain ⟨_, c3⟩ := TillTwo.one hw; clear hw; go_simp; (try with_reducible rfl)
                        simp only [Act.put]
                        refine wpLate.take (i := 6) (q := 10) (oi := _) (v := ?_) rfl (by as_aux_lemma => kernel_rfl) (by as_aux_lemma => kernel_rfl) (by as_aux_lemma => kernel_rfl) (by as_aux_lemma => kernel_rfl) (by rfl) (fun _ _ _ h => h) (TillTwo.set (by decide) (by decide)) (TillTwo.mk trivial (.inr z1v) (.inr trivial)) (Or.inl ⟨by rfl, ?_⟩) ?_
                        case refine_2 => intro w hw; obtain ⟨_, c3⟩ := TillTwo.one hw; clear hw; go_simp; (try with_reducible rfl)
                        simp only [Act.put]
                        refine wpLate.take (i := 7) (q := 10) (oi := _) (v := ?_) rfl (by as_aux_lemma => kernel_rfl) (by as_aux_lemma => kernel_rfl) (by as_aux_lemma => kernel_rfl) (by as_aux_lemma => kernel_rfl) (by rfl) (fun _ _ _ h => h) (TillTwo.set (by decide) (by decide)) (TillTwo.mk trivial (.inr z1v) (.inr trivial)) (Or.inl ⟨by rfl, ?_⟩) ?_
                        case refine_2 => intro w hw; obtain ⟨_, c3⟩ := TillTwo.one hw; clear hw; go_simp; (try with_reducible rfl)
                        simp only [Act.put]
                        refine wpLate.take (i := 8) (q := 10) (oi := _) (v := ?_) rfl (by as_aux_lemma => kernel_rfl) (by as_aux_lemma => kernel_rfl) (by as_aux_lemma => kernel_rfl) (by as_aux_lemma => kernel_rfl) (by rfl) (fun _ _ _ h => h) (TillTwo.set (by decide) (by decide)) (TillTwo.mk trivial (.inr z1v) (.inr trivial)) (Or.inl ⟨by rfl, ?_⟩) ?_
                        case refine_2 => intro w hw; obtain ⟨_, c3⟩ := TillTwo.one hw; clear hw; go_simp; (try with_reducible rfl)
                        simp only [Act.put]
                        refine wpLate.ready (rs := [0]) (by as_aux_lemma => kernel_rfl) (by simp) (eachLate.cons rfl (fun K hK => ?_) eachLate.nil)
                        go_simp
                        refine hK.out _ _ (TillTwo.mk trivial (.inr (Go.Lib.cell?_alloc_some (W := wc) _ z1v)) (.inr trivial)) ?_
                        clear hK K
                        try simp only [Act.put]
                        refine wpLate.ready (rs := [4]) (by as_aux_lemma => kernel_rfl) (by simp) (eachLate.cons rfl (fun K hK => ?_) eachLate.nil)
                        refine step_first wc rfl _ _ 29 rfl 21 i0 (.int .i32 0) 4 Try.underlying29 hi hz0 hz1 hz2 rfl _ _ _ p (i32s (vS L)) rfl rfl HCv.out (one_i32s _) hplxv hbbv ⟨kB + 1, 0, none⟩ _ z1v z2v ?_
                        intro v1v W2v hown1v hgr1v s1v f1v
                        refine hK.out _ _ (TillTwo.mk trivial (.inr s1v) (.inr trivial)) ?_
                        clear hK K
                        try simp only [Act.put]
                        refine wpLate.ready (rs := [9]) (by as_aux_lemma => kernel_rfl) (by simp) (eachLate.cons rfl (fun K hK => ?_) eachLate.nil)
                        refine step_second wc W2v rfl _ _ 29 rfl 21 i0 (.int .i32 0) 4 Try.underlying29 hi hz0 hz1 hz2 rfl _ _ L.length p (i32s (vS L)) v1v rfl hown1v hgr1v rfl adv rfl HDv.out (one_i32s _) hlxv hpl hbcv ⟨kB + 1, 0, none⟩ _ hblv s1v f1v ?_
                        intro A2v c2v W3v hown2v hbelv s2v f2v
                        refine hK.out _ _ (TillTwo.mk trivial (.inr s2v) (.inr trivial)) ?_
                        clear hK K
                        try simp only [Act.put]
                        refine wpLate.ready (rs := [10]) (by as_aux_lemma => kernel_rfl) (by simp) (eachLate.cons rfl (fun K hK => ?_) eachLate.nil)
                        go_simp
                        refine hK.out _ _ (TillTwo.mk trivial (.inl rfl) (.inl rfl)) ?_
                        clear hK K
                        try simp only [Act.put]
                        refine wpLate.done (by as_aux_lemma => kernel_rfl) ?_ _
                        all_goals
                          have hlast := vals_drop HI10.out hown2v hbelv
                          rw [← vS_erase, ← kS_erase] at hlast
                          have hle : (L.eraseIdx p).length ≤ L.length := by rw [List.length_eraseIdx]; split <;> omega
                          have HT := Lib.hid (And.intro hlast (show ((L.eraseIdx p).length : Int) ≤ M by omega))
                          clear hlast HI10 HCv HDv hA2v hle hown1v hgr1v hown2v hbelv s1v f1v s2v f2v z1v z2v
                          go_wp2_with fail
                          go_meet
                          first | exact ⟨rfl, _, _, _, _, _, _, HT.out⟩ | exact ⟨rfl, _, _, _, _, _, _, HT.out.1.drewN _, HT.out.2⟩
                  · have hb1 : ((kd : Int) == 1) = false := by simpa using hk1
                    have hb2 : ((kd : Int) == 2) = false := by simpa using hk2
                    rcases hla with ⟨hbn, hat⟩ | ⟨p, u, g, hpl, hLp, hat⟩
                    · rw [hat]
                      as_aux_lemma =>
                        have HP := Lib.hid (get_noneSX HX.out.1.tab hks hbn)
                        clear hk1 hk2
                        go_wp2_with (go_at_call 22; go_must (refine HP.out.mono ?_); rintro e w9 ⟨rfl, hb9⟩)
                        have HT := Lib.hid (And.intro (HX.out.1.under hb9) hLM)
                        go_wp2_with fail
                        go_meet
                        first | exact ⟨rfl, _, _, _, _, _, _, HT.out⟩ | exact ⟨rfl, _, _, _, _, _, _, HT.out.1.drewN _, HT.out.2⟩
                    · rw [hat]
                      have hp0 : (0 : Int) ≤ (p : Int) := by omega
                      have HP := Lib.hid (get_someSX HX.out.1.tab hLp)
                      clear hk1 hk2
                      go_wp2_with (go_at_call 22; go_must (refine HP.out.mono ?_))
                      rintro e w9 ⟨rfl, hb9⟩
                      have hI9 := HX.out.1.under hb9
                      obtain ⟨gv, offv, capv, hvv, hvo, hvl, hvc, hvf⟩ := hI9.vals.at_ (i := p) (by simpa using hpl)
                      rw [i32s_length, vS_length] at hvv
                      have z1 := hI9.vbox.cell 0
                      rw [hvv] at z1
                      have z2 : w9.cell? ⟨gv, offv + p, none⟩ = some (.int .i32 u) := by rw [hvc]; simp [i32s, vS, hLp]
                      simp at z1
                      have hpi : (p : Int) < (L.length : Int) := by omega
                      have HT := Lib.hid (And.intro hI9 hLM)
                      clear hI9 hvv hvo hvl hvc
                      go_wp2_with fail
                      go_wp2_with fail
                      go_meet
                      first | exact ⟨rfl, _, _, _, _, _, _, HT.out⟩ | exact ⟨rfl, _, _, _, _, _, _, HT.out.1.drewN _, HT.out.2⟩
        ·
          as_aux_lemma =>
            obtain rfl : j = len := by omega
            have hLl : (L.length : Int) ≤ 1000 := by omega
            have HI1 := Lib.hid hI
            clear hI
            go_wp2_with (go_at_call 24; refine (tall_atSX _ _).mono ?_; rintro e w' ⟨rfl, rfl⟩)
            have hN0 := Whole.new wr 3 #[.int .i64 0]
            have hB0 := Whole.new (wr.alloc (.cells #[.int .i64 0] 3)) 40 #[.pointer (some ⟨tb, 0, none⟩)]
            rw [World.size_alloc] at hB0
            obtain ⟨Wf, hWf⟩ : ∃ Wf, (wr.alloc (.cells #[.int .i64 0] 3)).alloc (.cells #[.pointer (some ⟨tb, 0, none⟩)] 40) = Wf := ⟨_, rfl⟩
            have hzf : Wf.heap.size = wr.heap.size + 2 := by rw [← hWf]; simp
            have hIf := HI1.out.under (w1 := Wf) (by rw [← hWf]; exact ((Below.refl _ wr).alloc (Nat.le_refl _) _).alloc (by simp) _)
            have hNf := hN0.alloc (.cells #[.pointer (some ⟨tb, 0, none⟩)] 40)
            rw [hWf] at hNf hB0 ⊢
            have hmvf : ∀ mb, mv = some mb → mb < Wf.heap.size := by
              intro mb e
              rcases hIf.tab.map with ⟨e2, _⟩ | ⟨mb2, D, e2, hm, _⟩
              · rw [e2] at e; cases e
              · rw [e2] at e; cases e; exact hm.lt
            obtain ⟨nb, hnb⟩ : ∃ nb, wr.heap.size = nb := ⟨_, rfl⟩
            have hwz := HI1.out.below.size
            have hrl := HI1.out.res.lt
            rw [hnb] at hNf hB0 hzf hwz hrl ⊢
            have HS := Lib.hid (And.intro hIf (And.intro hNf (And.intro hB0 hmvf)))
            clear hN0 hB0 hIf hNf hWf hnb hmvf
            refine (wpIn_wide (n := 5)).1 ?_
            apply wpIn_rangeFunc_ownG (α := KeySX × Int) (encs := encTSX) (Kp := KpS (SafeFrom Wf.heap.size)) rfl (by decide) (gf := 48) (lb := #[.pointer (some ⟨nb + 1, 0, none⟩)]) rfl trivial (enters_of Try.func48 (by as_aux_lemma => kernel_rfl) rfl)
              (tstopsSX encTSX (tplaceSX (pairsSX L)) 4 (by decide) (nb + 1) tb m mv L (fun _ _ => rfl) (SafeFrom Wf.heap.size) Wf (by omega) (HS.out.2.2.1.cell 0) HS.out.1.tab (by omega) (fun _ _ _ h _ => h) (fun _ _ _ h _ => h))
              (fun h k => h.trans k) (fun W l o o' _ hl hc _ => kpS_put (fun _ _ _ _ h => h) W l o o' hl hc) (Below.refl _ _) (fun _ => rfl)
              (fun pre W => WInv w W tb kB (kB + 1) m stop kv kob (kS L) vv vob (vS L) mv L ∧ Whole W nb 3 #[.int .i64 pre.length])
              (fun c pre W => (c = .ret ∧ ¬ IsFirsts (tplaceSX (pairsSX L)) pre) ∨ (c = .exit 5 ∧ WInv w W tb kB (kB + 1) m stop kv kob (kS L) vv vob (vS L) mv L ∧ Whole W nb 3 #[.int .i64 pre.length] ∧ stop = pre.length))
              (fun s A B row hs hg hr => ⟨hs.1.grown hg (fun r e => ⟨by have := (hr r e).1; omega, (hr r e).2, fun e2 => by have := HS.out.2.2.2 r e2; have := (hr r e).1; omega⟩), hs.2.grownOther hg (fun r e => (hr r e).2)⟩)
              (fun c s A B row hs hg hr => hs.imp id fun hs => ⟨hs.1, hs.2.1.grown hg (fun r e => ⟨by have := (hr r e).1; omega, (hr r e).2, fun e2 => by have := HS.out.2.2.2 r e2; have := (hr r e).1; omega⟩), hs.2.2.1.grownOther hg (fun r e => (hr r e).2), hs.2.2.2⟩)
              ⟨HS.out.1, HS.out.2.1⟩
            case hassign =>
              intro l x W K hK
              simp only [encTSX]
              gi_wp2
              exact hK
            case hbody =>
              rintro l pre ⟨xk, xv⟩ W ⟨hI, hN⟩ hlen
              obtain ⟨n, hn⟩ : ∃ n, pre.length = n := ⟨_, rfl⟩
              rw [hn] at hlen hN
              obtain ⟨kn, hkn⟩ : ∃ kn, (kS L)[n]? = some kn := ⟨_, List.getElem?_eq_getElem (by simpa using hlen)⟩
              obtain ⟨vn, hvn⟩ : ∃ vn, (vS L)[n]? = some vn := ⟨_, List.getElem?_eq_getElem (by simpa using hlen)⟩
              have htp : tplaceSX (pairsSX L) n = (kn, vn) := by
                simp only [kS, vS, List.getElem?_map] at hkn hvn
                cases hx : L[n]? with
                | none => rw [hx] at hkn; cases hkn
                | some x =>
                  rw [hx] at hkn hvn
                  simp at hkn hvn
                  simp [tplaceSX, pairsSX, List.getD, hx, hkn, hvn]
              obtain ⟨gk, offk, capk, hkv, _, _, hkc, _⟩ := hI.keys.at_ (i := n) (by simpa using hlen)
              obtain ⟨gv, offv, capv, hvv, _, _, hvc, _⟩ := hI.vals.at_ (i := n) (by simpa using hlen)
              have d0 : W.cell? ⟨gk, offk + n, none⟩ = some (.string kn) := by rw [hkc]; simp [strs, hkn]
              have d1 : W.cell? ⟨gv, offv + n, none⟩ = some (.int .i32 vn) := by rw [hvc]; simp [i32s, hvn]
              have d2 := hI.kbox.cell 0
              have d3 := hI.vbox.cell 0
              have d4 := hN.cell 0
              have d5 := hN.frz 0
              have d6 := hI.res.cell 0
              have d7 := hI.res.frz 0
              have d8 := hI.stop.cell 0
              rw [hkv] at d2
              rw [hvv] at d3
              simp at d2 d3 d4 d6 d8
              have hni : (n : Int) < (L.length : Int) := by omega
              have hn0 : (0 : Int) ≤ (n : Int) := by omega
              have hn1 : (n : Int) ≤ 1000 := by omega
              have hN2 := hN.set 0 (.int .i64 ((n : Int) + 1))
              have hI2 := winv_far hI (p := ⟨nb, 0, none⟩) hN hwz (by show nb ≠ w.heap.size; omega) (by show nb ≠ w.heap.size + 1; omega) (by decide) (by decide) (by decide) (by decide) (by decide) (by decide) (.int .i64 ((n : Int) + 1))
              have hpl2 : (pre ++ [(xk, xv)]).length = n + 1 := by rw [List.length_append, List.length_singleton, hn]
              have HB := Lib.hid (And.intro hI2 (And.intro hN2 (And.intro htp hpl2)))
              clear hI hN hI2 hN2 htp hpl2 hkc hvc hkv hvv hkn hvn
              have hbadk : xk ≠ kn → ¬ IsFirsts (tplaceSX (pairsSX L)) (pre ++ [(xk, xv)]) := fun h => not_firsts (by rw [hn, HB.out.2.2.1]; intro e; cases e; exact h rfl)
              have hbadv : xv ≠ vn → ¬ IsFirsts (tplaceSX (pairsSX L)) (pre ++ [(xk, xv)]) := fun h => not_firsts (by rw [hn, HB.out.2.2.1]; intro e; cases e; exact h rfl)
              have HBad := Lib.hid (And.intro hbadk hbadv)
              clear hbadk hbadv
              by_cases hxk : xk = kn
              · by_cases hxv : xv = vn
                · subst hxk
                  subst hxv
                  by_cases hst : ((n : Int) + 1 == stop) = true
                  · have hst2 : stop = (n : Int) + 1 := by simpa using (beq_iff_eq.1 hst).symm
                    have HT := Lib.hid hst2
                    clear hst2
                    gi_wp2
                    refine ⟨(KeepsOthers.setCell _ _ _).from _, .inr ⟨rfl, HB.out.1, ?_, ?_⟩⟩
                    · rw [HB.out.2.2.2]; simpa using HB.out.2.1
                    · rw [HT.out, HB.out.2.2.2]; simp
                  · have hst' : ((n : Int) + 1 == stop) = false := by simpa using hst
                    clear hst
                    gi_wp2
                    refine ⟨(KeepsOthers.setCell _ _ _).from _, kpFrom_set _ W (p := ⟨nb, 0, none⟩) (by show nb < Wf.heap.size; omega) _, HB.out.1, ?_⟩
                    rw [HB.out.2.2.2]; simpa using HB.out.2.1
                · subst hxk
                  have hvb : (xv != vn) = true := by simpa using hxv
                  have HV := Lib.hid hxv
                  clear hxv
                  gi_wp2
                  exact ⟨(KeepsOthers.setCell _ _ _).from _, .inl ⟨rfl, HBad.out.2 HV.out⟩⟩
              · have hkb := str_ne hxk
                have HV := Lib.hid hxk
                clear hxk
                gi_wp2
                exact ⟨(KeepsOthers.setCell _ _ _).from _, .inl ⟨rfl, HBad.out.1 HV.out⟩⟩
            case hdone =>
              rintro D ys W hD hys ⟨hI, hN⟩ hK
              have hyl : ys.length = L.length := by rw [hys, firsts_length]
              rw [hyl] at hN
              obtain ⟨Ak, capk, hkv, _, _⟩ := hI.keys.form
              have d2 := hI.kbox.cell 0
              have d4 := hN.cell 0
              have d6 := hI.res.cell 0
              have d7 := hI.res.frz 0
              have d8 := hI.stop.cell 0
              rw [hkv] at d2
              simp at d2 d4 d6 d8
              have HB := Lib.hid (And.intro hI (And.intro hD hK))
              clear hI hN hD hK hyl hkv hys
              go_wp2
              exact marks_end 5 Try.f5 6 rfl HB.out.1.below d6 HB.out.2.2 (Nat.le_trans (by omega) HB.out.2.1) (by omega) _ rfl
            case hstop =>
              rintro D c pre W hD ⟨j', hj', hpre⟩ hIx hK
              rcases hIx with ⟨rfl, hbad⟩ | ⟨rfl, hI, hN, hst⟩
              · exact absurd (isFirsts_of hpre) hbad
              obtain ⟨Ak, capk, hkv, _, _⟩ := hI.keys.form
              have d2 := hI.kbox.cell 0
              have d4 := hN.cell 0
              rw [← hst] at d4
              have d6 := hI.res.cell 0
              have d7 := hI.res.frz 0
              have d8 := hI.stop.cell 0
              rw [hkv] at d2
              simp at d2 d4 d6 d8
              have HB := Lib.hid (And.intro hI (And.intro hD hK))
              clear hI hN hD hK hkv hst hpre
              by_cases hq : (stop == (L.length : Int)) = true
              · gi_wp2
                go_wp2
                exact marks_end 5 Try.f5 6 rfl HB.out.1.below d6 HB.out.2.2 (Nat.le_trans (by omega) HB.out.2.1) (by omega) _ rfl
              · have hq' : (stop == (L.length : Int)) = false := by simpa using hq
                clear hq
                gi_wp2
                go_wp2
                exact marks_end 5 Try.f5 6 rfl HB.out.1.below d6 HB.out.2.2 (Nat.le_trans (by omega) HB.out.2.1) (by omega) _ rfl

end Go.Proofs.Ytgcnocaibhiggaa
