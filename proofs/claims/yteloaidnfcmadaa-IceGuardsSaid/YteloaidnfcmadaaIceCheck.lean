/- checked: a pair has its check, or a new one is made. -/
import Derived.Test.YteloaidnfcmadaaIceIdx
import Derived.Test.YteloaidnfcmadaaStRow
namespace Go.Proofs.Yteloaidnfcmadaa
open Go.RowKit
set_option linter.unusedVariables false
set_option linter.unusedSimpArgs false

/-- What checked makes of the pairs. -/
def CkV (s : Ag) (ip port : Int) (b : Bool) (ps : List Pr) : Prop :=
  (∃ k, k < s.ps.length ∧ hits (s.ps.getD k default) ip port = true ∧ b = true ∧ ps = s.ps.set k { s.ps.getD k default with last := s.clk }) ∨
  ((∀ j, j < s.ps.length → hits (s.ps.getD j default) ip port = false) ∧ ((4 ≤ s.ps.length ∧ b = false ∧ ps = s.ps) ∨ (s.ps.length < 4 ∧ b = true ∧ ps = s.ps ++ [⟨ip, port, s.clk, false⟩])))
def Ag.put (s : Ag) (ps : List Pr) : Ag := { s with ps := ps }

/-- One pair is appended. -/
theorem run_append4 (ty : TypeId) {w : World} {base : Nat} {v : Value} {ps : List Pr} (hown : Row4 w base v ps) {g c : Nat} {p : Pr} (hg : Whole w g 63 (prc p)) (h63 : ps.length ≤ 4) (hbase : base ≤ w.heap.size) :
    ∃ v' w', (Builtin.append_ #[46, 46] ty #[v, .slice (some ⟨g, 0, none⟩) 1 c]).run Try.prog w = .ok v' w' ∧ Row4 w' base v' (ps ++ [p]) ∧ w.grownBy w' v.ownBlock ∧ (v'.ownBlock = v.ownBlock ∨ v'.ownBlock = some w.heap.size) := by
  obtain ⟨i0, hi0, hz0, hz1, hz2⟩ := info_parts Try.infoPair
  obtain ⟨v', w', hrun, h2, h3, _, h5⟩ := run_append_own_at (P := Try.prog) w base 46 ty 63 i0 (.agg #[.int .u32 0, .int .u16 0, .int .i64 0, .bool false]) 4 24 Try.underlying46 hi0 hz0 hz1 hz2 rfl (by decide) v ps.length (pcells ps) hown ⟨g, 0, none⟩ 1 c [.int .u32 p.ip, .int .u16 p.port, .int .i64 p.last, .bool p.nom] (by simp)
    (fun j y hj => by
      rw [Addr.add_lit, Nat.zero_add, hg.cell]
      simpa [prc] using hj)
    (fun y hy => by
      simp only [List.mem_cons, List.not_mem_nil, or_false] at hy
      rcases hy with rfl | rfl | rfl | rfl <;> rfl) (by unfold maxLen; omega) (by omega) hbase
  refine ⟨v', w', hrun, ?_, h3, h5⟩
  unfold Row4
  rw [pcells_append, List.length_append]
  exact h2
theorem wp_append4 {o : Oper} {a : Act} {K : Act → World → Prop} {Q : Exit → Act → World → Prop} (s y : Operand) (ho : o.op = .call { callee := .builtin .append, args := #[s, y], argTypes := #[46, 46] })
    {w : World} {base : Nat} {v : Value} {ps : List Pr} (hs : a.eval s = v) (hown : Row4 w base v ps) {g c : Nat} {p : Pr} (hy : a.eval y = .slice (some ⟨g, 0, none⟩) 1 c) (hg : Whole w g 63 (prc p)) (h63 : ps.length ≤ 4) (hbase : base ≤ w.heap.size)
    (h : ∀ v' w', Row4 w' base v' (ps ++ [p]) → w.grownBy w' v.ownBlock → (v'.ownBlock = v.ownBlock ∨ v'.ownBlock = some w.heap.size) → K (a.put o.dst v') w') : o.wp Try.prog a w K Q := by
  obtain ⟨v', w', hrun, h2, h3, h4⟩ := run_append4 o.type hown (c := c) hg h63 hbase
  unfold Oper.wp execOp
  simp only [ho, resolve, invoke, builtin, Sem.run_bind, Sem.run_pure, Result.andThen_ok, List.map_toArray, List.map_cons, List.map_nil, hs, hy, hrun]
  exact h v' w' h2 h3 h4
theorem getD_memP {ps : List Pr} {k : Nat} (h : k < ps.length) : ps.getD k default ∈ ps := by simp [List.getD, h]
theorem list_set_mem {ps : List Pr} {k : Nat} {q p : Pr} (h : p ∈ ps.set k q) : p = q ∨ p ∈ ps := by
  rcases List.mem_or_eq_of_mem_set h with h | h
  · exact .inr h
  · exact .inl h
section
variable {w : World} {base ga g c k : Nat} {s : Ag}
theorem AgV.put2 (h : AgV w base ga (.slice (some ⟨g, 0, none⟩) s.ps.length c) s) (hk : k < s.ps.length) :
    AgV (w.setCell ⟨g, k * 4 + 2, none⟩ (.int .i64 s.clk)) base ga (.slice (some ⟨g, 0, none⟩) s.ps.length c) (s.put (s.ps.set k { s.ps.getD k default with last := s.clk })) ∧
    Stepped ga (.slice (some ⟨g, 0, none⟩) s.ps.length c) (.slice (some ⟨g, 0, none⟩) s.ps.length c) w (w.setCell ⟨g, k * 4 + 2, none⟩ (.int .i64 s.clk)) := by
  obtain ⟨cs, hw⟩ := h.row.whole (g := g) rfl
  have hne : ga ≠ g := h.box.ne hw (by decide)
  refine ⟨⟨h.box.far (p := ⟨g, k * 4 + 2, none⟩) hne _, h.row.put2 hk s.clk, h.low, by show (s.ps.set k _).length ≤ 4; rw [List.length_set]; exact h.few, h.c0, h.c1, fun p hp => ?_, h.ns, h.ws⟩, ⟨(Only.refl _ w).setCell (p := ⟨g, k * 4 + 2, none⟩) (.inl (.inr rfl)) _, .inl rfl⟩⟩
  rcases list_set_mem hp with rfl | hp
  · exact ⟨h.c0, Int.le_refl _⟩
  · exact h.last p hp
theorem AgV.put3 {x : Bool} (h : AgV w base ga (.slice (some ⟨g, 0, none⟩) s.ps.length c) s) (hk : k < s.ps.length) :
    AgV (w.setCell ⟨g, k * 4 + 3, none⟩ (.bool x)) base ga (.slice (some ⟨g, 0, none⟩) s.ps.length c) (s.put (s.ps.set k { s.ps.getD k default with nom := x })) ∧
    Stepped ga (.slice (some ⟨g, 0, none⟩) s.ps.length c) (.slice (some ⟨g, 0, none⟩) s.ps.length c) w (w.setCell ⟨g, k * 4 + 3, none⟩ (.bool x)) := by
  obtain ⟨cs, hw⟩ := h.row.whole (g := g) rfl
  have hne : ga ≠ g := h.box.ne hw (by decide)
  refine ⟨⟨h.box.far (p := ⟨g, k * 4 + 3, none⟩) hne _, h.row.put3 hk x, h.low, by show (s.ps.set k _).length ≤ 4; rw [List.length_set]; exact h.few, h.c0, h.c1, fun p hp => ?_, h.ns, h.ws⟩, ⟨(Only.refl _ w).setCell (p := ⟨g, k * 4 + 3, none⟩) (.inl (.inr rfl)) _, .inl rfl⟩⟩
  rcases list_set_mem hp with rfl | hp
  · have := h.last (s.ps.getD k default) (getD_memP hk)
    exact this
  · exact h.last p hp
/-- A pair was appended; the agent's slice is turned. -/
theorem AgV.grow {w2 w3 : World} {v v3 : Value} {ip port : Int} (h : AgV w base ga v s) (hb : Below w.heap.size w w2) (hr : Row4 w3 base v3 (s.ps ++ [⟨ip, port, s.clk, false⟩])) (hg : w2.grownBy w3 v.ownBlock) (hv : v3.ownBlock = v.ownBlock ∨ v3.ownBlock = some w2.heap.size) (hf : s.ps.length < 4) :
    AgV (w3.setCell ⟨ga, 2, none⟩ v3) base ga v3 (s.put (s.ps ++ [⟨ip, port, s.clk, false⟩])) ∧ Stepped ga v v3 w (w3.setCell ⟨ga, 2, none⟩ v3) := by
  have h2 := h.under hb
  have hbx := h2.box.grown hg (fun e => h2.row.far h2.box (by decide) e.symm)
  have h3 := hbx.set 2 v3
  refine ⟨⟨h3, hr.keep fun g cs _ hw => hw.far (p := ⟨ga, 2, none⟩) (hw.ne hbx (by decide)) _, h.low, by show (s.ps ++ [_]).length ≤ 4; simp; omega, h.c0, h.c1, fun p hp => ?_, h.ns, h.ws⟩, ⟨?_, ?_⟩⟩
  · rcases List.mem_append.1 hp with hp | hp
    · exact h.last p hp
    · rw [List.mem_singleton] at hp
      subst hp
      exact ⟨h.c0, Int.le_refl _⟩
  · exact (((Only.refl (Mine ga v) w).under hb).grown hg (fun k hk => .inl (.inr hk))).setCell (p := ⟨ga, 2, none⟩) (.inl (.inl rfl)) _
  · rcases hv with hv | hv
    · exact .inl hv
    · exact .inr ⟨_, hv, hb.size⟩
end

/-- What a call of checked comes to. -/
def CkPost (base ga : Nat) (v : Value) (s : Ag) (ip port : Int) (w : World) (e : Ending) (w' : World) : Prop := ∃ b ps v', e = .returned (.bool b) ∧ CkV s ip port b ps ∧ AgV w' base ga v' (s.put ps) ∧ Stepped ga v v' w w'
set_option maxHeartbeats 3200000 in
set_option maxRecDepth 100000 in
theorem checked_any (base ga : Nat) (v : Value) (s : Ag) (ip port : Int) (w : World) (h : AgV w base ga v s) :
    Calls Try.prog 28 #[.pointer (some ⟨ga, 0, none⟩), .agg #[.int .u32 ip, .int .u16 port]] w fun e w' => CkPost base ga v s ip port w e w' := by
  have hmf : ∀ (fn : Fn) (first cap : Array Value) (w : World), (Instr.makeFunc fn first cap).run Try.prog w = .ok (.func fn first cap) w := fun _ _ _ _ => rfl
  have hb0 : Below w.heap.size w (w.alloc (.cells #[.int .u32 ip, .int .u16 port] 33)) := (Below.refl _ w).alloc (Nat.le_refl _) _
  have g0 := Whole.new w 33 #[.int .u32 ip, .int .u16 port]
  have hA0 := h.under hb0
  have c2 : (w.alloc (.cells #[.int .u32 ip, .int .u16 port] 33)).cell? ⟨ga, 2, none⟩ = some v := hA0.box.cell 2
  have HIX := Lib.hid (indexP_any base v s.ps _ ip port _ hA0.row h.few g0)
  have HA := Lib.hid (And.intro hA0 (And.intro g0 hb0))
  have HLW := Lib.hid (show base ≤ w.heap.size from by have := h.low; have := h.box.lt; omega)
  clear hb0 g0 hA0 h
  obtain ⟨N, hN⟩ : ∃ N, w.heap.size = N := ⟨_, rfl⟩
  have HN := Lib.hid hN
  rw [hN] at HIX HA
  go_enter Try.func28, Try.ntmps28
  go_upto_region 1 with fail
  generalize w.alloc (.cells #[.int .u32 ip, .int .u16 port] 33) = W0 at *
  clear hN
  go_upto_region 2 with (go_at_call 49; (with_reducible refine HIX.out.mono ?_); rintro e w1 ⟨r, rfl, hix, hb1⟩)
  have hA1 := HA.out.1.under hb1
  have hg1 := HA.out.2.1.under hb1
  have hS1 : Below N w w1 := HA.out.2.2.trans (hb1.mono (Nat.le_of_lt HA.out.2.1.lt))
  have HA1 := Lib.hid (And.intro hA1 (And.intro hg1 hS1))
  clear hb1 c2
  obtain ⟨clk, hclk⟩ : ∃ x, s.clk = x := ⟨_, rfl⟩
  have HCK := Lib.hid hclk
  have x2 : w1.cell? ⟨ga, 2, none⟩ = some v := hA1.box.cell 2
  have x3 : w1.cell? ⟨ga, 3, none⟩ = some (.int .i64 clk) := by rw [← hclk]; exact hA1.box.cell 3
  have xf := hA1.box.frz 2
  obtain ⟨A, c, hv, -⟩ := hA1.row.form
  have hfew := hA1.few
  clear hclk hg1 hS1
  rcases hix with ⟨k, hk, rfl, hh⟩ | ⟨rfl, hno⟩
  · obtain ⟨g, c', hv', -, -, -, -, y2, -, yf, -⟩ := hA1.row.at_ hk
    have HK := Lib.hid (And.intro hk hh)
    rw [hv'] at x2 HA1 ⊢
    have HV := Lib.hid hv'
    obtain ⟨n, hn⟩ : ∃ x, s.ps.length = x := ⟨_, rfl⟩
    have HE := Lib.hid hn
    rw [hn] at hk x2 HA1 ⊢
    clear hn hv hv' hA1 hh
    have hk0 : (0 : Int) ≤ (k : Int) := by omega
    have hk1 : (k : Int) < (n : Int) := by omega
    go_upto_region 3 with fail
    go_region
    have hfin : AgV (w1.setCell ⟨g, k * 4 + 2, none⟩ (.int .i64 clk)) base ga (.slice (some ⟨g, 0, none⟩) n c') (s.put (s.ps.set k { s.ps.getD k default with last := s.clk })) ∧
        Stepped ga (.slice (some ⟨g, 0, none⟩) n c') (.slice (some ⟨g, 0, none⟩) n c') w1 (w1.setCell ⟨g, k * 4 + 2, none⟩ (.int .i64 clk)) := by
      have h1 := HA1.out.1
      rw [← HE.out] at h1
      have h2 := h1.put2 HK.out.1
      rw [HE.out] at h2
      rw [← HCK.out]
      exact h2
    have HF := Lib.hid hfin
    clear hfin yf y2 x2 x3 xf
    go_wp2
    go_ret
    refine ⟨true, _, .slice (some ⟨g, 0, none⟩) n c', rfl, .inl ⟨k, HK.out.1, HK.out.2, rfl, rfl⟩, HF.out.1.under (Below.refl _ _).drew, ?_⟩
    rw [HV.out, HE.out]
    exact ((Stepped.quiet (by rw [HN.out]; exact HA1.out.2.2) ga _).trans HF.out.2).under (Below.refl _ _).drew
  · obtain ⟨n, hn⟩ : ∃ x, s.ps.length = x := ⟨_, rfl⟩
    have HE := Lib.hid hn
    have HNO := Lib.hid hno
    rw [hn] at hv hfew
    have HV := Lib.hid hv
    rw [hv] at x2
    clear hn hno
    by_cases hfull : 4 ≤ n
    · have HFU := Lib.hid hfull
      go_wp2
      go_ret
      exact ⟨false, s.ps, v, rfl, .inr ⟨HNO.out, .inl ⟨by rw [HE.out]; exact HFU.out, rfl, rfl⟩⟩, HA1.out.1, Stepped.quiet (by rw [HN.out]; exact HA1.out.2.2) ga v⟩
    · have y0 : w1.cell? ⟨N, 0, none⟩ = some (.int .u32 ip) := HA1.out.2.1.cell 0
      have y1 : w1.cell? ⟨N, 1, none⟩ = some (.int .u16 port) := HA1.out.2.1.cell 1
      have HFU : Hid (n < 4) := Lib.hid (by omega)
      go_upto_region 7 with fail
      clear hA1
      have HTM : Hid (∀ W L, W.cell? ⟨ga, 2, none⟩ = some (.slice A n c) ∧ W.cell? ⟨ga, 3, none⟩ = some (.int .i64 clk) ∧ W.cell? ⟨N, 0, none⟩ = some (.int .u32 ip) ∧ W.cell? ⟨N, 1, none⟩ = some (.int .u16 port) → TillOne (fun _ => True) (fun W => W.cell? ⟨ga, 2, none⟩ = some (.slice A n c) ∧ W.cell? ⟨ga, 3, none⟩ = some (.int .i64 clk) ∧ W.cell? ⟨N, 0, none⟩ = some (.int .u32 ip) ∧ W.cell? ⟨N, 1, none⟩ = some (.int .u16 port)) 15 L W) := Lib.hid fun W L h => TillOne.mk trivial h
      have HT0 : Hid (∀ L, TillOne (fun _ => True) (fun W => W.cell? ⟨ga, 2, none⟩ = some (.slice A n c) ∧ W.cell? ⟨ga, 3, none⟩ = some (.int .i64 clk) ∧ W.cell? ⟨N, 0, none⟩ = some (.int .u32 ip) ∧ W.cell? ⟨N, 1, none⟩ = some (.int .u16 port)) 15 L w1.drew) := Lib.hid fun L => HTM.out _ _ ⟨x2, x3, y0, y1⟩
      have HG : Hid (∀ W, Ahead (TillOne (fun _ => True) (fun W => W.cell? ⟨ga, 2, none⟩ = some (.slice A n c) ∧ W.cell? ⟨ga, 3, none⟩ = some (.int .i64 clk) ∧ W.cell? ⟨N, 0, none⟩ = some (.int .u32 ip) ∧ W.cell? ⟨N, 1, none⟩ = some (.int .u16 port)) 15) 15 W → W.cell? ⟨ga, 2, none⟩ = some (.slice A n c) ∧ W.cell? ⟨ga, 3, none⟩ = some (.int .i64 clk) ∧ W.cell? ⟨N, 0, none⟩ = some (.int .u32 ip) ∧ W.cell? ⟨N, 1, none⟩ = some (.int .u16 port)) := Lib.hid fun W h => (TillOne.get h).2
      refine wp_region_late (TillOne (fun _ => True) (fun W => W.cell? ⟨ga, 2, none⟩ = some (.slice A n c) ∧ W.cell? ⟨ga, 3, none⟩ = some (.int .i64 clk) ∧ W.cell? ⟨N, 0, none⟩ = some (.int .u32 ip) ∧ W.cell? ⟨N, 1, none⟩ = some (.int .u16 port)) 15) (by as_aux_lemma => kernel_rfl) ?_
      change wpLate Try.prog .any _ _ _ 16 #[false, false, false, false, false, false, false, false, false, false, false, false, false, false, false, false] _ _
      refine wpLate.take (i := 0) (q := 15) (oi := _) (v := ?_) rfl (by as_aux_lemma => kernel_rfl) (by as_aux_lemma => kernel_rfl) (by as_aux_lemma => kernel_rfl) (by as_aux_lemma => kernel_rfl) (by rfl) (fun _ _ _ h => h) (TillOne.set (by decide)) (HT0.out _) (Or.inl ⟨by rfl, ?_⟩) ?_
      case refine_2 => intro W hw; obtain ⟨e1, e2, e3, e4⟩ := HG.out W hw; clear hw; go_simp; (try with_reducible rfl)
      simp only [Act.put, List.setIfInBounds_toArray, List.set_cons_succ, List.set_cons_zero]
      refine wpLate.take (i := 1) (q := 15) (oi := _) (v := ?_) rfl (by as_aux_lemma => kernel_rfl) (by as_aux_lemma => kernel_rfl) (by as_aux_lemma => kernel_rfl) (by as_aux_lemma => kernel_rfl) (by rfl) (fun _ _ _ h => h) (TillOne.set (by decide)) (HT0.out _) (Or.inl ⟨by rfl, ?_⟩) ?_
      case refine_2 => intro W hw; obtain ⟨e1, e2, e3, e4⟩ := HG.out W hw; clear hw; go_simp; (try with_reducible rfl)
      simp only [Act.put, List.setIfInBounds_toArray, List.set_cons_succ, List.set_cons_zero]
      refine wpLate.take (i := 2) (q := 15) (oi := _) (v := ?_) rfl (by as_aux_lemma => kernel_rfl) (by as_aux_lemma => kernel_rfl) (by as_aux_lemma => kernel_rfl) (by as_aux_lemma => kernel_rfl) (by rfl) (fun _ _ _ h => h) (TillOne.set (by decide)) (HT0.out _) (Or.inl ⟨by rfl, ?_⟩) ?_
      case refine_2 => intro W hw; obtain ⟨e1, e2, e3, e4⟩ := HG.out W hw; clear hw; go_simp; (try with_reducible rfl)
      simp only [Act.put, List.setIfInBounds_toArray, List.set_cons_succ, List.set_cons_zero]
      refine wpLate.take (i := 3) (q := 15) (oi := _) (v := ?_) rfl (by as_aux_lemma => kernel_rfl) (by as_aux_lemma => kernel_rfl) (by as_aux_lemma => kernel_rfl) (by as_aux_lemma => kernel_rfl) (by rfl) (fun _ _ _ h => h) (TillOne.set (by decide)) (HT0.out _) (Or.inl ⟨by rfl, ?_⟩) ?_
      case refine_2 => intro W hw; obtain ⟨e1, e2, e3, e4⟩ := HG.out W hw; clear hw; go_simp; (try with_reducible rfl)
      simp only [Act.put, List.setIfInBounds_toArray, List.set_cons_succ, List.set_cons_zero]
      refine wpLate.take (i := 4) (q := 15) (oi := _) (v := ?_) rfl (by as_aux_lemma => kernel_rfl) (by as_aux_lemma => kernel_rfl) (by as_aux_lemma => kernel_rfl) (by as_aux_lemma => kernel_rfl) (by rfl) (fun _ _ _ h => h) (TillOne.set (by decide)) (HT0.out _) (Or.inl ⟨by rfl, ?_⟩) ?_
      case refine_2 => intro W hw; obtain ⟨e1, e2, e3, e4⟩ := HG.out W hw; clear hw; go_simp; (try with_reducible rfl)
      simp only [Act.put, List.setIfInBounds_toArray, List.set_cons_succ, List.set_cons_zero]
      refine wpLate.take (i := 5) (q := 15) (oi := _) (v := ?_) rfl (by as_aux_lemma => kernel_rfl) (by as_aux_lemma => kernel_rfl) (by as_aux_lemma => kernel_rfl) (by as_aux_lemma => kernel_rfl) (by rfl) (fun _ _ _ h => h) (TillOne.set (by decide)) (HT0.out _) (Or.inl ⟨by rfl, ?_⟩) ?_
      case refine_2 => intro W hw; obtain ⟨e1, e2, e3, e4⟩ := HG.out W hw; clear hw; go_simp; (try with_reducible rfl)
      simp only [Act.put, List.setIfInBounds_toArray, List.set_cons_succ, List.set_cons_zero]
      refine wpLate.take (i := 6) (q := 15) (oi := _) (v := ?_) rfl (by as_aux_lemma => kernel_rfl) (by as_aux_lemma => kernel_rfl) (by as_aux_lemma => kernel_rfl) (by as_aux_lemma => kernel_rfl) (by rfl) (fun _ _ _ h => h) (TillOne.set (by decide)) (HT0.out _) (Or.inl ⟨by rfl, ?_⟩) ?_
      case refine_2 => intro W hw; obtain ⟨e1, e2, e3, e4⟩ := HG.out W hw; clear hw; go_simp; (try with_reducible rfl)
      simp only [Act.put, List.setIfInBounds_toArray, List.set_cons_succ, List.set_cons_zero]
      refine wpLate.take (i := 7) (q := 15) (oi := _) (v := ?_) rfl (by as_aux_lemma => kernel_rfl) (by as_aux_lemma => kernel_rfl) (by as_aux_lemma => kernel_rfl) (by as_aux_lemma => kernel_rfl) (by rfl) (fun _ _ _ h => h) (TillOne.set (by decide)) (HT0.out _) (Or.inl ⟨by rfl, ?_⟩) ?_
      case refine_2 => intro W hw; obtain ⟨e1, e2, e3, e4⟩ := HG.out W hw; clear hw; go_simp; (try with_reducible rfl)
      simp only [Act.put, List.setIfInBounds_toArray, List.set_cons_succ, List.set_cons_zero]
      refine wpLate.take (i := 8) (q := 15) (oi := _) (v := ?_) rfl (by as_aux_lemma => kernel_rfl) (by as_aux_lemma => kernel_rfl) (by as_aux_lemma => kernel_rfl) (by as_aux_lemma => kernel_rfl) (by rfl) (fun _ _ _ h => h) (TillOne.set (by decide)) (HT0.out _) (Or.inl ⟨by rfl, ?_⟩) ?_
      case refine_2 => intro W hw; obtain ⟨e1, e2, e3, e4⟩ := HG.out W hw; clear hw; go_simp; (try with_reducible rfl)
      simp only [Act.put, List.setIfInBounds_toArray, List.set_cons_succ, List.set_cons_zero]
      refine wpLate.take (i := 9) (q := 15) (oi := _) (v := ?_) rfl (by as_aux_lemma => kernel_rfl) (by as_aux_lemma => kernel_rfl) (by as_aux_lemma => kernel_rfl) (by as_aux_lemma => kernel_rfl) (by rfl) (fun _ _ _ h => h) (TillOne.set (by decide)) (HT0.out _) (Or.inl ⟨by rfl, ?_⟩) ?_
      case refine_2 => intro W hw; obtain ⟨e1, e2, e3, e4⟩ := HG.out W hw; clear hw; go_simp; (try with_reducible rfl)
      simp only [Act.put, List.setIfInBounds_toArray, List.set_cons_succ, List.set_cons_zero]
      refine wpLate.take (i := 10) (q := 15) (oi := _) (v := ?_) rfl (by as_aux_lemma => kernel_rfl) (by as_aux_lemma => kernel_rfl) (by as_aux_lemma => kernel_rfl) (by as_aux_lemma => kernel_rfl) (by rfl) (fun _ _ _ h => h) (TillOne.set (by decide)) (HT0.out _) (Or.inl ⟨by rfl, ?_⟩) ?_
      case refine_2 => intro W hw; obtain ⟨e1, e2, e3, e4⟩ := HG.out W hw; clear hw; go_simp; (try with_reducible rfl)
      simp only [Act.put, List.setIfInBounds_toArray, List.set_cons_succ, List.set_cons_zero]

      have hal := (Below.refl w1.drew.heap.size w1.drew).alloc (Nat.le_refl _) (.cells #[.int .u32 ip, .int .u16 port, .int .i64 clk, .bool false] 63)
      have hwp := Whole.new w1.drew 63 #[.int .u32 ip, .int .u16 port, .int .i64 clk, .bool false]
      have hB2 : Below w1.heap.size w1 (w1.drew.alloc (.cells #[.int .u32 ip, .int .u16 port, .int .i64 clk, .bool false] 63)) := (Below.refl w1.heap.size w1).drew.trans hal
      have H2 := Lib.hid (And.intro hB2 hwp)
      have HX2 := Lib.hid (And.intro (hB2.cell (p := ⟨ga, 2, none⟩) HA1.out.1.box.lt) (And.intro (hB2.cell (p := ⟨ga, 3, none⟩) HA1.out.1.box.lt) (And.intro (hB2.cell (p := ⟨N, 0, none⟩) HA1.out.2.1.lt) (hB2.cell (p := ⟨N, 1, none⟩) HA1.out.2.1.lt))))
      clear hal hwp hB2
      refine wpLate.ready (rs := [11]) (by as_aux_lemma => kernel_rfl) (by simp) (eachLate.cons rfl (fun K hK => ?_) eachLate.nil)
      go_simp
      refine hK.out _ _ (HTM.out _ _ ⟨HX2.out.1.trans x2, HX2.out.2.1.trans x3, HX2.out.2.2.1.trans y0, HX2.out.2.2.2.trans y1⟩) ?_
      clear hK K
      try simp only [Act.put]
      have hA2 := HA1.out.1.under H2.out.1
      have hrow := hA2.row
      rw [HV.out] at hrow
      have hfw := hA2.few
      have hlw : base ≤ (w1.drew.alloc (.cells #[.int .u32 ip, .int .u16 port, .int .i64 clk, .bool false] 63)).heap.size := by have := hA2.low; have := hA2.box.lt; omega
      have hN2 := HA1.out.2.1.under H2.out.1
      refine wpLate.ready (rs := [12]) (by as_aux_lemma => kernel_rfl) (by simp) (eachLate.cons rfl (fun K hK => ?_) eachLate.nil)
      refine step_of rfl (wp_append4 (.tmp 35) (.tmp 42) rfl rfl hrow (p := ⟨ip, port, clk, false⟩) rfl H2.out.2 hfw hlw ?_)
      intro v3 w3 h3 hg3 hh3
      have hbox := hA2.box.grown hg3 (fun e => hrow.far hA2.box (by decide) e.symm)
      have hN3 := hN2.grown hg3 (fun e => hrow.far hN2 (by decide) e.symm)
      have HGR := Lib.hid (show AgV (w3.setCell ⟨ga, 2, none⟩ v3) base ga v3 (s.put (s.ps ++ [⟨ip, port, s.clk, false⟩])) ∧ Stepped ga v v3 w1 (w3.setCell ⟨ga, 2, none⟩ v3) from HA1.out.1.grow H2.out.1 (by rw [HCK.out]; exact h3) (by rw [HV.out]; exact hg3) (by rw [HV.out]; exact hh3) (by rw [HE.out]; exact HFU.out))
      obtain ⟨A3, c3, hv3, -⟩ := h3.form
      subst hv3
      obtain ⟨n3, hn3⟩ : ∃ x, (s.ps ++ [(⟨ip, port, clk, false⟩ : Pr)]).length = x := ⟨_, rfl⟩
      rw [hn3] at HGR ⊢
      have z2 : w3.cell? ⟨ga, 2, none⟩ = some (.slice A n c) := by rw [← HV.out]; exact hbox.cell 2
      have z3 : w3.cell? ⟨ga, 3, none⟩ = some (.int .i64 clk) := by rw [← HCK.out]; exact hbox.cell 3
      have z0 : w3.cell? ⟨N, 0, none⟩ = some (.int .u32 ip) := hN3.cell 0
      have z1 : w3.cell? ⟨N, 1, none⟩ = some (.int .u16 port) := hN3.cell 1
      have zf := hbox.frz 2
      clear hA2 hrow hfw hlw hN2 hbox hN3 h3 hg3 hh3 hn3
      refine hK.out _ _ (HTM.out _ _ ⟨z2, z3, z0, z1⟩) ?_
      clear hK K
      try simp only [Act.put]
      refine wpLate.ready (rs := [13]) (by as_aux_lemma => kernel_rfl) (by simp) (eachLate.cons rfl (fun K hK => ?_) eachLate.nil)
      go_simp
      refine hK.out _ _ (HTM.out _ _ ⟨z2, z3, z0, z1⟩) ?_
      clear hK K
      try simp only [Act.put]
      refine wpLate.ready (rs := [14]) (by as_aux_lemma => kernel_rfl) (by simp) (eachLate.cons rfl (fun K hK => ?_) eachLate.nil)
      go_simp
      refine hK.out _ _ (HTM.out _ _ ⟨z2, z3, z0, z1⟩) ?_
      clear hK K
      try simp only [Act.put]
      refine wpLate.ready (rs := [15]) (by as_aux_lemma => kernel_rfl) (by simp) (eachLate.cons rfl (fun K hK => ?_) eachLate.nil)
      go_simp
      refine hK.out _ _ (TillOne.past trivial (by as_aux_lemma => kernel_rfl)) ?_
      clear hK K
      try simp only [Act.put]
      refine wpLate.done (by as_aux_lemma => kernel_rfl) ?_ _
      clear x2 x3 xf y0 y1 z0 z1 z2 z3 zf HTM HT0 HG
      go_wp2
      go_ret
      exact ⟨true, _, _, rfl, .inr ⟨HNO.out, .inr ⟨by rw [HE.out]; exact HFU.out, rfl, rfl⟩⟩, HGR.out.1, (Stepped.quiet (by rw [HN.out]; exact HA1.out.2.2) ga v).trans HGR.out.2⟩
end Go.Proofs.Yteloaidnfcmadaa
