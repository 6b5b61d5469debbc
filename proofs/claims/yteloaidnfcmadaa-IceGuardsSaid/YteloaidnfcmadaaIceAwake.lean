/- The statements' first question (awake) is answered with yes. -/
import Derived.Test.YteloaidnfcmadaaIceBytes
import Derived.Test.YteloaidnfcmadaaIceHandle
namespace Go.Proofs.Yteloaidnfcmadaa
open Go.RowKit
set_option linter.unusedVariables false
set_option linter.unusedSimpArgs false

def kOne : Chk := ⟨0, 0, 0, { data := #[97, 98, 58, 120] }, { data := #[112, 119] }, 0, 1, true, true, 0, 0, false⟩
def bAb : ByteArray := { data := #[97, 98] }
def bPw : ByteArray := { data := #[112, 119] }
theorem req_one : reqOf kOne = ⟨0, 1, [0, 0, 0, 0, 0, 0, 0, 0, 0, 0, 0, 0], [⟨6, [97, 98, 58, 120]⟩, ⟨36, [1, 2, 3, 4]⟩, ⟨37, []⟩]⟩ := by rfl
theorem req_can : CanSign (reqOf kOne) := by
  rw [req_one]
  refine ⟨?_, ⟨by simp [with2], by simp [with2], by simp [with2], by simp [with2], by simp [with2], ?_, ?_⟩⟩
  · intro a ha
    simp only [List.mem_cons, List.not_mem_nil, or_false] at ha
    rcases ha with rfl | rfl | rfl <;> simp
  · intro a ha
    simp only [with2, List.cons_append, List.nil_append, List.mem_cons, List.not_mem_nil, or_false] at ha
    rcases ha with rfl | rfl | rfl | rfl | rfl
    · simp
    · simp
    · simp
    · show z20.length ≤ 512
      rw [z20_len]
      omega
    · show z4.length ≤ 512
      rw [z4_len]
      omega
  · rw [with2_size z20_len z4_len]
    decide
theorem req_fine : Fine (reqOf kOne) := fine_of 0 1 0 _ (parts_fine _ _ _)
/-- The request that is sent, and that it is fine to an agent of its name and password. -/
def sent : Msg := signed (reqOf kOne) (nums bPw)
theorem sent_ats : sent.at_ = [⟨6, [97, 98, 58, 120]⟩, ⟨36, [1, 2, 3, 4]⟩, ⟨37, []⟩, ⟨8, tagOf (reqOf kOne) (nums bPw)⟩, ⟨32808, sumOf (reqOf kOne) (tagOf (reqOf kOne) (nums bPw))⟩] := by
  unfold sent signed with2
  rw [req_one]
  rfl
theorem sent_is : Is (signB (reqOf kOne) (nums bPw)) sent := signed_is req_can req_fine
theorem sent_find6 : findP sent.at_ 6 = some [97, 98, 58, 120] := by rw [sent_ats]; rfl
theorem sent_find8 : (findP sent.at_ 8).isSome = true := by rw [sent_ats]; rfl
theorem sent_find36 : findP sent.at_ 36 = some [1, 2, 3, 4] := by rw [sent_ats]; rfl
theorem sent_find37 : (findP sent.at_ 37).isSome = true := by rw [sent_ats]; rfl
theorem sent_find9 : findP sent.at_ 32809 = none := by rw [sent_ats]; rfl
theorem sent_plain : PlainA sent.at_ := by
  intro a ha
  rw [sent_ats] at ha
  simp only [List.mem_cons, List.not_mem_nil, or_false] at ha
  rcases ha with rfl | rfl | rfl | rfl | rfl <;> rfl
theorem ab_prefix : hasP (strOfNums [97, 98, 58, 120]) (bAb ++ colon) = true := by decide +kernel
theorem sent_good (ps : List Pr) (clk : Int) : Good ⟨bAb, bPw, ps, clk⟩ sent :=
  ⟨rfl, rfl, ⟨⟨_, sent_find6, ab_prefix⟩, sent_find8, signed_by req_can⟩, sent_plain, sent_find9, _, sent_find36, rfl⟩

theorem AgV.lowsz {w : World} {base ga : Nat} {v : Value} {s : Ag} (h : AgV w base ga v s) : base ≤ w.heap.size := by have := h.low; have := h.box.lt; omega
/-- What the agent's pairs are behind such a request from the one address that it knows, if any. -/
theorem sent_step {base ga : Nat} {v : Value} {s : Ag} {ip port now c' : Int} {w w' : World} {e : Ending} (hcc : max s.clk now = c') (hn : s.nm = bAb) (hp : s.pw = bPw) (hps : s.ps = [] ∨ ∃ l b, s.ps = [⟨ip, port, l, b⟩]) (h : HandleV base ga v s (signB (reqOf kOne) (nums bPw)) ip port now w e w') :
    ∃ vr v', e = .returned (.tuple #[vr, .int .i64 0]) ∧ AgV w' base ga v' ⟨bAb, bPw, [⟨ip, port, c', true⟩], c'⟩ ∧ Stepped ga v v' w w' ∧ V8 w' w'.heap.size vr (signB (succP sent ip port) (nums bPw)) := by
  obtain ⟨nm, pw, ps, clk⟩ := s
  simp only at hn hp hps hcc
  subst hcc
  subst hn
  subst hp
  obtain ⟨vr, x, s', v', he, hA, hs, h⟩ := h
  have hit : hits ⟨ip, port, (0 : Int), false⟩ ip port = true := by simp [hits]
  rcases h with ⟨rfl, m, qs, hi, hg, hc, rfl, hv⟩ | ⟨-, -, h⟩
  · obtain rfl := sent_is.same hi
    refine ⟨vr, v', he, ?_, hs, hv⟩
    have hq : ∃ b, qs = [⟨ip, port, max clk now, b⟩] := by
      rcases hps with rfl | ⟨l, b, rfl⟩
      · rcases hc with ⟨k, hk, _⟩ | ⟨_, ⟨h4, _⟩ | ⟨_, _, rfl⟩⟩
        · simp [Ag.tick] at hk
        · simp [Ag.tick] at h4
        · exact ⟨false, rfl⟩
      · rcases hc with ⟨k, hk, _, _, rfl⟩ | ⟨h4, _⟩
        · have hk0 : k = 0 := by simpa [Ag.tick] using hk
          subst hk0
          exact ⟨b, rfl⟩
        · have := h4 0 (by simp [Ag.tick])
          simp [Ag.tick, hits] at this
    obtain ⟨b, rfl⟩ := hq
    rw [if_pos sent_find37] at hA
    have e1 : ((Ag.tick ⟨bAb, bPw, ps, clk⟩ now).put (([⟨ip, port, max clk now, b⟩] : List Pr).map (nomBy ip port))) = ⟨bAb, bPw, [⟨ip, port, max clk now, true⟩], max clk now⟩ := by
      simp [Ag.tick, Ag.put, nomBy, hits]
    rw [e1] at hA
    exact hA
  · exfalso
    rcases h with h | h
    · exact h sent sent_is (sent_good ps clk)
    · rcases hps with rfl | ⟨l, b, rfl⟩
      · rcases h with ⟨k, hk, _⟩ | ⟨_, ⟨h4, _⟩ | ⟨_, h4, _⟩⟩
        · simp [Ag.tick] at hk
        · simp [Ag.tick] at h4
        · cases h4
      · rcases h with ⟨k, _, _, h4, _⟩ | ⟨h4, _⟩
        · cases h4
        · have := h4 0 (by simp [Ag.tick])
          simp [Ag.tick, hits] at this
theorem reply_len (ip port : Int) : 20 < (signB (succP sent ip port) (nums bPw)).length := by
  have hc := succ_can (ip := ip) (port := port) sent_is.2.1 rfl
  rw [signB, msgBytes_length _ (signed_fine hc.2).id12, signed, with2_size (tag_len _ _) (sum_len _ _)]
  unfold szN
  omega
/-- The bytes of the request that is sent. -/
theorem sent_bytes (w : World) : Calls Try.prog 11 #[.agg #[.int .u32 0, .int .u16 0, .int .i64 0, .string { data := #[97, 98, 58, 120] }, .string { data := #[112, 119] }, .int .i64 0, .int .i64 1, .bool true, .bool true, .slice none 0 0, .int .i64 0, .int .u8 0, .bool false, .slice none 0 0]] w fun e w' => ∃ v, e = .returned v ∧ Own8 w' w.heap.size v (signB (reqOf kOne) (nums bPw)) ∧ In256 (signB (reqOf kOne) (nums bPw)) ∧ (signB (reqOf kOne) (nums bPw)).length ≤ 1500 ∧ Below w.heap.size w w' :=
  (bytesOf_none kOne none 0 (.slice none 0 0) rfl (by decide) (by decide) w).mono fun e w' ⟨v, xs, h1, h2, h3, h4, h5, h6⟩ => by
    obtain rfl := h5 rfl (by decide) req_can
    exact ⟨v, h1, h2, h3, h4, h6⟩

set_option maxHeartbeats 3200000 in
set_option maxRecDepth 100000 in
theorem awake5_yes (w : World) : Calls Try.prog 7 #[] w fun e w' => e = .returned (.bool true) ∧ Below w.heap.size w w' := by
  have HSB := Lib.hid sent_bytes
  have HNW : Hid (∀ W, Calls Try.prog 10 #[.string { data := #[97, 98] }, .string { data := #[112, 119] }] W fun e w' => e = .returned (.pointer (some ⟨W.heap.size, 0, none⟩)) ∧ w' = W.alloc (.cells #[.string bAb, .string bPw, .slice none 0 0, .int .i64 0] 55)) := Lib.hid fun W => new_any bAb bPw W
  have hA0 := new_agv bAb bPw w (by decide) (by decide) w.heap.size (Nat.le_refl _)
  have hB0 := (Below.refl w.heap.size w).alloc (Nat.le_refl _) (.cells #[.string bAb, .string bPw, .slice none 0 0, .int .i64 0] 55)
  have H0 := Lib.hid (And.intro hA0 hB0)
  clear hA0 hB0
  obtain ⟨N, hN⟩ : ∃ N, w.heap.size = N := ⟨_, rfl⟩
  rw [hN] at H0 ⊢
  go_enter Try.func7, Try.ntmps7
  go_upto_region 2 with (go_at_call 10; (with_reducible refine (HNW.out _).mono ?_); rintro e w1 ⟨rfl, rfl⟩)
  generalize w.alloc (.cells #[.string bAb, .string bPw, .slice none 0 0, .int .i64 0] 55) = W1 at *
  go_upto_region 3 with (first
    | (go_at_call 11; (with_reducible refine (HSB.out _).mono ?_); rintro e w2 ⟨v2, rfl, ho2, hi2, hl2, hb2⟩)
    | (go_at_call 15; (with_reducible refine (handle_any N N (.slice none 0 0) ⟨bAb, bPw, [], 0⟩ _ _ _ 7 0 5 _ (H0.out.1.under hb2) ho2 hi2 (by omega) (by omega)).mono ?_); intro e w3 hh; obtain ⟨vr, v3, he3, hA3, hs3, hv3⟩ := sent_step (c' := 5) rfl rfl rfl (.inl rfl) hh; subst he3))
  have hA2 := H0.out.1.under hb2
  have hB3 : Below N w w3 := (H0.out.2.trans (hb2.mono H0.out.1.lowsz)).trans (hs3.only.below (fun k hk => hA2.mine_low hk) hA2.lowsz)
  have hlen := reply_len 7 0
  obtain ⟨Ar, cr, hvr, -⟩ := hv3
  subst hvr
  obtain ⟨lr, hlr⟩ : ∃ l, (signB (succP sent 7 0) (nums bPw)).length = l := ⟨_, rfl⟩
  rw [hlr] at hlen ⊢
  have H3 := Lib.hid (And.intro hA3 hB3)
  have HSL : Hid (Calls Try.prog 13 #[.pointer (some ⟨N, 0, none⟩)] w3 fun e w' => e = .returned (.tuple #[.agg #[.int .u32 7, .int .u16 0], .bool true]) ∧ Below w3.heap.size w3 w') := Lib.hid (selected_any N N v3 _ w3 hA3)
  have HFR : Hid (∀ W, Below w3.heap.size w3 W → (Calls Try.prog 16 #[.pointer (some ⟨N, 0, none⟩), .int .i64 35] W fun e w' => e = .returned (.bool true) ∧ Below W.heap.size W w') ∧ (Calls Try.prog 16 #[.pointer (some ⟨N, 0, none⟩), .int .i64 36] W fun e w' => e = .returned (.bool false) ∧ Below W.heap.size W w')) := Lib.hid fun W hW => ⟨fresh_any N N v3 _ 35 (by omega) W (hA3.under hW), fresh_any N N v3 _ 36 (by omega) W (hA3.under hW)⟩
  clear hA2 hB3 hlr hA3 hs3 hh hb2 ho2 hi2 hl2
  have hl20 : (20 : Int) < (lr : Int) := by omega
  go_upto_region 4 with (go_at_call 13; (with_reducible refine HSL.out.mono ?_); rintro e w4 ⟨rfl, hb4⟩)
  have hW := Whole.new w4 33 #[.int .u32 7, .int .u16 0]
  have hb5 := hb4.alloc (Nat.le_trans (Nat.le_refl _) hb4.size) (.cells #[.int .u32 7, .int .u16 0] 33)
  have d0 : (w4.alloc (.cells #[.int .u32 7, .int .u16 0] 33)).cell? ⟨w4.heap.size, 0, none⟩ = some (.int .u32 7) := hW.cell 0
  have d1 : (w4.alloc (.cells #[.int .u32 7, .int .u16 0] 33)).cell? ⟨w4.heap.size, 1, none⟩ = some (.int .u16 0) := hW.cell 1
  have HB5 := Lib.hid hb5
  clear hW hb4 hb5
  generalize w4.alloc (.cells #[.int .u32 7, .int .u16 0] 33) = W5 at *
  go_wp2_with (first
    | (go_at_call 16; (with_reducible refine (HFR.out _ HB5.out).1.mono ?_); rintro e w6 ⟨rfl, hb6⟩)
    | (go_at_call 16; (with_reducible refine (HFR.out _ (HB5.out.trans (hb6.mono HB5.out.size))).2.mono ?_); rintro e w7 ⟨rfl, hb7⟩))
  go_ret
  have hb8 := (HB5.out.trans (hb6.mono HB5.out.size)).trans (hb7.mono (Nat.le_trans HB5.out.size hb6.size))
  exact ⟨rfl, H3.out.2.trans (hb8.mono H3.out.1.lowsz)⟩
end Go.Proofs.Yteloaidnfcmadaa
