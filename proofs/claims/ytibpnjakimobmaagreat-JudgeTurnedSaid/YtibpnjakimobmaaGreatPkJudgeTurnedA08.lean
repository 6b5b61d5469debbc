import Derived.Test.YtibpnjakimobmaaGreatPkJudgeTurnedA07
namespace Go.Proofs.YtibpnjakimobmaaGreat
open Go.RowKit
set_option linter.unusedVariables false
set_option linter.unusedSimpArgs false
theorem boxes5 (w : World) (D M K Y Z : Array Value) : Fix w (((((w.alloc (.cells D 26)).alloc (.cells M 44)).alloc (.cells K 29)).alloc (.cells Y 30)).alloc (.cells Z 44)) w.heap.size D M K Y Z := by
 obtain ⟨h1, h2, h3, h4⟩ := boxesDMK w D M K
 have h5 := Whole.new2 (((w.alloc (.cells D 26)).alloc (.cells M 44)).alloc (.cells K 29)) (.cells Y 30) 44 Z
 have h6 := (Whole.new (((w.alloc (.cells D 26)).alloc (.cells M 44)).alloc (.cells K 29)) 30 Y).alloc (.cells Z 44)
 rw [World.size_alloc, World.size_alloc, World.size_alloc] at h5 h6
 exact ⟨(h1.alloc h1.size _).alloc (h1.alloc h1.size _).size _, (h2.alloc _).alloc _, (h3.alloc _).alloc _, (h4.alloc _).alloc _, h6, h5⟩
def MadeO (N : Nat) (w : World) (m : MediaS) (e : Ending) (w' : World) : Prop :=
 ∃ M vC vE vR vY, e = .returned (.agg M) ∧ Below w.heap.size w w' ∧ Held w' (fun k => N ≤ k ∧ k < w.heap.size) (fun W => MediaV W W.heap.size M m vC vE vR (.slice none 0 0) vY)
theorem held_low {N : Nat} {w w' W : World} {T : Nat → Prop} (hN : N ≤ w.heap.size) (hb : Below w.heap.size w w') (hT : ∀ k, T k → N ≤ k) (hW : Only T w' W) : Below N w W ∧ N ≤ W.heap.size :=
 ⟨(hb.mono hN).trans (hW.below (fun k hk => hT k hk) (Nat.le_trans hN hb.size)), Nat.le_trans hN (Nat.le_trans hb.size hW.size)⟩
structure Cod (w wr : World) (N b gO : Nat) (c : ConfigS) (L : List CodecS) (i : Nat) (vC : Value) (cs : List (CodecS × Value)) : Prop where
 own : Own wr (b + 5) 47 6 vC (cs.map fun p => ccell p.1 p.2)
 eq : cs.map (·.1) = commonC c (L.take i)
 held : ∀ p ∈ cs, Held wr (fun k => (N ≤ k ∧ k < b + 5) ∨ k = gO ∨ vC.ownBlock = some k) (fun W => TextsV W W.heap.size p.2 p.1.feedback)
theorem ccell_read {W : World} {x : CodecS} {v : Value} {f : Nat → Option Value} (hf : ∀ j, j < 6 → f j = (ccell x v)[j]?) (ht : TextsV W W.heap.size v x.feedback) : RC W W.heap.size f x :=
 ⟨hf 0 (by decide), hf 1 (by decide), hf 2 (by decide), hf 3 (by decide), hf 4 (by decide), v, hf 5 (by decide), ht⟩
theorem Cod.all {w wr : World} {N b gO : Nat} {c : ConfigS} {L : List CodecS} {i : Nat} {vC : Value} {cs : List (CodecS × Value)} (h : Cod w wr N b gO c L i vC cs) (hO : vC.ownBlock ≠ some gO) : Held wr (fun k => (N ≤ k ∧ k < b + 5) ∨ k = gO) (fun W => CodecsV W W.heap.size vC (commonC c (L.take i))) := fun W hW => by
 have ho := h.own.keep (w' := W) fun g cs' hg hw => hw.only hW (fun e => by
  rcases e with e | e
  · have := (h.own.lt hg).1; omega
  · exact hO (by rw [hg, e]))
 rw [← h.eq]
 exact Own.rows ho (Nat.le_refl _) (by simp) fun j r x f hr hx hf => by
  rw [List.getElem?_map] at hr hx
  obtain ⟨p, hp, rfl⟩ := Option.map_eq_some_iff.1 hr
  rw [hp] at hx
  obtain rfl := Option.some.inj hx
  exact ccell_read hf (h.held p (List.mem_of_getElem? hp) W (hW.mono fun k hk => hk.elim .inl fun e => .inr (.inl e)))
theorem exec_load9 {o : Oper} {a : Act} {W : World} {ty : TypeId} {x : Operand} {g : Nat} {t : TypeId} {Y : Array Value} {d : TypeDesc} (ho : o.op = .load ty x) (hx : a.eval x = .pointer (some ⟨g, 0, none⟩)) (hw : Whole W g t Y) (hu : Tryz.prog.underlying ty = some d) (hd : d.isRow = true) (hi : (Tryz.prog.info? ty).map (·.size) = some Y.size) : (execOp a.eval o).run Tryz.prog W = .ok (.value (.agg Y)) W := by
 have e : Y.toList.toArray = Y := by simp
 have h := run_loadVar_at W ⟨g, 0, none⟩ ty Y.toList d (fun j v hv => by rw [Addr.add_lit, Nat.zero_add, hw.cell j, ← Array.getElem?_toList]; exact hv) hu hd (by rw [hi]; simp)
 rw [e] at h
 unfold execOp
 simp only [ho, hx, Instr.loadAt, Instr.sureAddr, Sem.run_bind, Sem.run_pure, Result.andThen_ok, h]
theorem only_row (w : World) (g : Nat) (cs : Array Value) : Only (fun k => k = g) w (w.setRow g cs) := by
 have hb := below_row (Below.refl 0 w) (g := g) (Nat.zero_le _) cs
 exact ⟨hb.os, hb.tape, hb.output, hb.size, fun k hk hn => setRow_other w g k cs hn⟩
theorem infoCodec9 : (Tryz.prog.info? 47).map (fun i => (i.zero, i.size, i.bytes)) = some (some (.agg #[.int .i64 0, .string ⟨#[]⟩, .int .i64 0, .int .i64 0, .string ⟨#[]⟩, .slice none 0 0]), 6, 80) := by kernel_rfl
theorem infoExt9 : (Tryz.prog.info? 49).map (fun i => (i.zero, i.size, i.bytes)) = some (some (.agg #[.int .i64 0, .string ⟨#[]⟩]), 2, 24) := by kernel_rfl
theorem goodM_feeds {m : MediaS} (h : goodM m = true) {x : CodecS} (hx : x ∈ m.codecs) : x.feedback.length ≤ 8 := by
 unfold goodM goodStreams goodChannel at h
 simp only [Bool.and_eq_true, Bool.or_eq_true, decide_eq_true_eq] at h
 rcases h.2 with h2 | h2
 · have h3 := List.all_eq_true.1 h2.2.1.1.1.1.1.1.2.1.2 x hx
   unfold goodC at h3
   simp only [Bool.and_eq_true, decide_eq_true_eq] at h3
   exact h3.2.1
 · have : m.codecs = [] := List.eq_nil_of_length_eq_zero (by have := h2.2.1.1.1; omega)
   rw [this] at hx
   cases hx
set_option maxHeartbeats 12800000 in
set_option maxRecDepth 100000 in
theorem r9media_any (D M K : Array Value) (key : Tx) (d : DescS) (m : MediaS) (c : ConfigS) (vB vM vC vE vR vS vY kC kE : Value) (N : Nat) (w : World) (hN0 : N ≤ w.heap.size) (hD : DescV w N D d vB vM) (hM : MediaV w N M m vC vE vR vS vY) (hK : ConfV w N K c kC kE) (hs : SizC c) (hlb : d.bundle.length ≤ 8796093021952) (hz : SizM m) (hkey : key.length = 30) (hg : goodM m = true) :
 Calls Tryz.prog 10 #[.agg D, .agg M, .agg K, .agg (keyC key).toArray] w (MadeO N w (mediaA d.bundle c key m)) := by
 obtain ⟨AC, cC, rfl, hcC, hmC, -⟩ := Rows.form hM.codecs
 obtain ⟨AE, cE, rfl, hcE, hmE, -⟩ := Rows.form hM.exts
 obtain ⟨AR, cR, rfl, hcR, hmR, -⟩ := Rows.form hM.rids
 obtain ⟨AY, cY, rfl, hcY, hmY, -⟩ := Rows.form hM.crypto
 obtain ⟨BC, eC, rfl, heC, hmBC, -⟩ := Rows.form hK.codecs
 obtain ⟨BE, eE, rfl, heE, hmBE, -⟩ := Rows.form hK.exts
 obtain ⟨nC, hnC⟩ : ∃ n, m.codecs.length = n := ⟨_, rfl⟩
 obtain ⟨nE, hnE⟩ : ∃ n, m.exts.length = n := ⟨_, rfl⟩
 obtain ⟨nR, hnR⟩ : ∃ n, m.rids.length = n := ⟨_, rfl⟩
 obtain ⟨nY, hnY⟩ : ∃ n, m.crypto.length = n := ⟨_, rfl⟩
 obtain ⟨lC, hlC⟩ : ∃ n, c.codecs.length = n := ⟨_, rfl⟩
 obtain ⟨lE, hlE⟩ : ∃ n, c.exts.length = n := ⟨_, rfl⟩
 rw [hnC, hnE, hnR, hnY] at hM
 rw [hlC, hlE] at hK
 have hcn : nC ≤ 1759218604390 ∧ nE ≤ 5864062014634 ∧ nY ≤ 3518437208780 := by rw [← hnC, ← hnE, ← hnY]; exact ⟨hz.counts.1, hz.counts.2.1, hz.counts.2.2.2.2⟩
 have HMC : Hid (M[0]? = some (.int .i64 m.kind) ∧ M[2]? = some (.string m.mid) ∧ M[3]? = some (.int .i64 m.dir) ∧ M[4]? = some (.slice AC nC cC) ∧ M[5]? = some (.slice AE nE cE) ∧ M[6]? = some (.slice AR nR cR) ∧ M[7]? = some (.bool m.sending) ∧ M[9]? = some (.slice AY nY cY) ∧ M[10]? = some (.int .i64 m.sctp)) := Lib.hid (by rw [hM.form]; exact ⟨rfl, rfl, rfl, rfl, rfl, rfl, rfl, rfl, rfl⟩)
 have HKC : Hid (K[0]? = some (.slice BC lC eC) ∧ K[1]? = some (.slice BE lE eE)) := Lib.hid (by rw [hK.form]; exact ⟨rfl, rfl⟩)
 have HSZ : Hid (D.size = 6 ∧ M.size = 11 ∧ K.size = 3 ∧ M.toList.all (·.oneCell') = true) := Lib.hid ⟨by rw [hD.form]; rfl, hM.size, hK.size, hM.one⟩
 have HV := Lib.hid (And.intro hD (And.intro hM hK))
 have HL := Lib.hid (And.intro hnC (And.intro hnE (And.intro hnR (And.intro hnY (And.intro hlC hlE)))))
 have HZ := Lib.hid (And.intro hs hz)
 have HKL := Lib.hid hkey
 have HG := Lib.hid hg
 have hdir := goodM_dir hg
 have HN0 := Lib.hid hN0
 have HRF : Hid (∀ W, Below w.heap.size w W → Calls Tryz.prog 17 #[.agg D, .agg M, .agg K] W fun e w' => e = .returned (.bool (!takenA d.bundle c m)) ∧ Below W.heap.size W w') := Lib.hid fun W hW => r9refused_any D M K d m c _ _ _ _ _ _ _ _ _ W ((hD.below (hW.mono hN0)).more (Nat.le_trans hN0 hW.size)) ((hM.below (hW.mono hN0)).more (Nat.le_trans hN0 hW.size)) ((hK.below (hW.mono hN0)).more (Nat.le_trans hN0 hW.size)) hs hlb hz
 obtain ⟨Y, hY⟩ : ∃ Y, (keyC key).toArray = Y := ⟨_, rfl⟩
 rw [hY]
 have HYE := Lib.hid hY
 have hb5 := boxes5 w D M K Y #[.int .i64 0, .int .i64 0, .string ⟨#[]⟩, .int .i64 0, .slice none 0 0, .slice none 0 0, .slice none 0 0, .bool false, .slice none 0 0, .slice none 0 0, .int .i64 0]
 have H0 := Lib.hid hb5
 obtain ⟨b, hb⟩ : ∃ b, w.heap.size = b := ⟨_, rfl⟩
 rw [hb] at H0 HRF HN0
 have HB := Lib.hid hb
 obtain ⟨mk, hmk⟩ : ∃ x, m.kind = x := ⟨_, rfl⟩
 obtain ⟨mi, hmi⟩ : ∃ x, m.mid = x := ⟨_, rfl⟩
 obtain ⟨ms, hms⟩ : ∃ x, m.sctp = x := ⟨_, rfl⟩
 obtain ⟨md, hmd⟩ : ∃ x, m.dir = x := ⟨_, rfl⟩
 obtain ⟨tk, htk⟩ : ∃ x, takenA d.bundle c m = x := ⟨_, rfl⟩
 rw [hmk, hmi, hms, hmd] at HMC
 rw [htk] at HRF
 rw [hmd] at hdir
 have HE := Lib.hid (And.intro hmk (And.intro hmi (And.intro hms (And.intro hmd htk))))
 clear hD hM hK hs hlb hz hkey hg hN0 hnC hnE hnR hnY hlC hlE hY hb5 hb hmk hmi hms hmd htk
 unfold maxLen at *
 go_enter Tryz.func10, Tryz.ntmps10
 go_upto_region 1 with fail
 simp only [HB.out, Nat.add_assoc, Nat.reduceAdd]
 generalize (((((w.alloc (.cells D 26)).alloc (.cells M 44)).alloc (.cells K 29)).alloc (.cells Y 30)).alloc (.cells #[.int .i64 0, .int .i64 0, .string ⟨#[]⟩, .int .i64 0, .slice none 0 0, .slice none 0 0, .slice none 0 0, .bool false, .slice none 0 0, .slice none 0 0, .int .i64 0] 44)) = W0 at *
 have x0 : W0.cell? ⟨b + 1, 0, none⟩ = some (.int .i64 mk) := (H0.out.m.cell 0).trans HMC.out.1
 have x2 : W0.cell? ⟨b + 1, 2, none⟩ = some (.string mi) := (H0.out.m.cell 2).trans HMC.out.2.1
 have x10 : W0.cell? ⟨b + 1, 10, none⟩ = some (.int .i64 ms) := (H0.out.m.cell 10).trans HMC.out.2.2.2.2.2.2.2.2
 have HW1 : Hid (Fix w ((W0.alloc (.cells #[.int .i64 0, .int .i64 0, .string ⟨#[]⟩, .int .i64 0, .slice none 0 0, .slice none 0 0, .slice none 0 0, .bool false, .slice none 0 0, .slice none 0 0, .int .i64 0] 44)).setRow W0.heap.size #[.int .i64 mk, .int .i64 0, .string mi, .int .i64 0, .slice none 0 0, .slice none 0 0, .slice none 0 0, .bool false, .slice none 0 0, .slice none 0 0, .int .i64 ms]) b D M K Y #[.int .i64 0, .int .i64 0, .string ⟨#[]⟩, .int .i64 0, .slice none 0 0, .slice none 0 0, .slice none 0 0, .bool false, .slice none 0 0, .slice none 0 0, .int .i64 0] ∧ Whole ((W0.alloc (.cells #[.int .i64 0, .int .i64 0, .string ⟨#[]⟩, .int .i64 0, .slice none 0 0, .slice none 0 0, .slice none 0 0, .bool false, .slice none 0 0, .slice none 0 0, .int .i64 0] 44)).setRow W0.heap.size #[.int .i64 mk, .int .i64 0, .string mi, .int .i64 0, .slice none 0 0, .slice none 0 0, .slice none 0 0, .bool false, .slice none 0 0, .slice none 0 0, .int .i64 ms]) W0.heap.size 44 #[.int .i64 mk, .int .i64 0, .string mi, .int .i64 0, .slice none 0 0, .slice none 0 0, .slice none 0 0, .bool false, .slice none 0 0, .slice none 0 0, .int .i64 ms] ∧ b + 5 ≤ W0.heap.size) := Lib.hid
  ⟨H0.out.under (below_row ((Below.refl _ W0).alloc (Nat.le_refl _) _) (Nat.le_refl _) _), (Whole.new _ _ _).row _, H0.out.le⟩
 go_upto_region 2 with ((with_reducible refine wpList_storeS #[.int .i64 mk, .int .i64 0, .string mi, .int .i64 0, .slice none 0 0, .slice none 0 0, .slice none 0 0, .bool false, .slice none 0 0, .slice none 0 0, .int .i64 ms] ?_ 44 (.tmp 9) (.tmp 23) ?_ ?_ ?_ (Whole.new _ _ _) Tryz.sizeMedia ?_ ?_ ?_ ?_); (with_reducible rfl); (with_reducible rfl); rfl; rfl; rfl; rfl; rfl)
 clear x0 x2 x10 H0
 generalize ((W0.alloc (.cells #[.int .i64 0, .int .i64 0, .string ⟨#[]⟩, .int .i64 0, .slice none 0 0, .slice none 0 0, .slice none 0 0, .bool false, .slice none 0 0, .slice none 0 0, .int .i64 0] 44)).setRow W0.heap.size #[.int .i64 mk, .int .i64 0, .string mi, .int .i64 0, .slice none 0 0, .slice none 0 0, .slice none 0 0, .bool false, .slice none 0 0, .slice none 0 0, .int .i64 ms]) = w1 at *
 generalize W0.heap.size = gO at *
 have ARMREF := True.intro
 cases tk with
 | false =>
   go_upto_region 3 with (first | ((with_reducible refine wpList_load_all ?_ 26 (.tmp 4) ?_ HW1.out.1.d ?_ Tryz.sizeDesc HSZ.out.1 Tryz.underlying26 rfl ?_); (with_reducible rfl); (with_reducible rfl); rfl) | ((with_reducible refine wpList_load_all ?_ 44 (.tmp 5) ?_ HW1.out.1.m ?_ Tryz.sizeMedia HSZ.out.2.1 Tryz.underlying44 rfl ?_); (with_reducible rfl); (with_reducible rfl); rfl) | ((with_reducible refine wpList_load_all ?_ 29 (.tmp 6) ?_ HW1.out.1.k ?_ Tryz.sizeConfig HSZ.out.2.2.1 Tryz.underlying29 rfl ?_); (with_reducible rfl); (with_reducible rfl); rfl) | (go_at_call 17; (with_reducible refine (HRF.out _ HW1.out.1.low).mono ?_); rintro e w2 ⟨rfl, hb2⟩; have H2 : Hid (Fix w w2 b D M K Y #[.int .i64 0, .int .i64 0, .string ⟨#[]⟩, .int .i64 0, .slice none 0 0, .slice none 0 0, .slice none 0 0, .bool false, .slice none 0 0, .slice none 0 0, .int .i64 0] ∧ Whole w2 gO 44 #[.int .i64 mk, .int .i64 0, .string mi, .int .i64 0, .slice none 0 0, .slice none 0 0, .slice none 0 0, .bool false, .slice none 0 0, .slice none 0 0, .int .i64 ms] ∧ b + 5 ≤ gO) := Lib.hid ⟨HW1.out.1.under hb2, HW1.out.2.1.under hb2, HW1.out.2.2⟩; clear hb2))
   have p4 : w2.cell? ⟨b + 1, 4, none⟩ = some (.slice AC nC cC) := (H2.out.1.m.cell 4).trans HMC.out.2.2.2.1
   have p9 : w2.cell? ⟨gO, 4, none⟩ = some (.slice none 0 0) := H2.out.2.1.cell 4
   have f9 := H2.out.2.1.frz 4
   go_upto_region 4 with fail
   have H3 : Hid (Fix w (w2.setCell ⟨gO, 4, none⟩ (.slice AC nC cC)) b D M K Y #[.int .i64 0, .int .i64 0, .string ⟨#[]⟩, .int .i64 0, .slice none 0 0, .slice none 0 0, .slice none 0 0, .bool false, .slice none 0 0, .slice none 0 0, .int .i64 0] ∧ Whole (w2.setCell ⟨gO, 4, none⟩ (.slice AC nC cC)) gO 44 #[.int .i64 mk, .int .i64 0, .string mi, .int .i64 0, .slice AC nC cC, .slice none 0 0, .slice none 0 0, .bool false, .slice none 0 0, .slice none 0 0, .int .i64 ms]) := Lib.hid
    ⟨H2.out.1.only ((Only.refl (fun k => k = gO) w2).setCell (p := ⟨gO, 4, none⟩) (.inl rfl) _) (fun j hj => by have h1 : j = gO := hj; have := H2.out.2.2; omega), H2.out.2.1.set 4 _⟩
   clear p4 p9 f9
   generalize w2.setCell ⟨gO, 4, none⟩ (.slice AC nC cC) = w3 at *
   have HFIN : Hid (MadeO N w (mediaA d.bundle c key m) (.returned (.agg #[.int .i64 mk, .int .i64 0, .string mi, .int .i64 0, .slice AC nC cC, .slice none 0 0, .slice none 0 0, .bool false, .slice none 0 0, .slice none 0 0, .int .i64 ms])) (w3.setRow (b + 4) #[.int .i64 mk, .int .i64 0, .string mi, .int .i64 0, .slice AC nC cC, .slice none 0 0, .slice none 0 0, .bool false, .slice none 0 0, .slice none 0 0, .int .i64 ms])) := Lib.hid (by
    have e : mediaA d.bundle c key m = dropA m := by unfold mediaA; rw [HE.out.2.2.2.2]; rfl
    rw [e]
    have hbl : Below w.heap.size w (w3.setRow (b + 4) #[.int .i64 mk, .int .i64 0, .string mi, .int .i64 0, .slice AC nC cC, .slice none 0 0, .slice none 0 0, .bool false, .slice none 0 0, .slice none 0 0, .int .i64 ms]) := by rw [HB.out]; exact below_row H3.out.1.low (by omega) _
    have hN : N ≤ w.heap.size := by rw [HB.out]; exact HN0.out
    refine ⟨_, .slice AC nC cC, .slice none 0 0, .slice none 0 0, .slice none 0 0, rfl, hbl, fun W hW => ?_⟩
    obtain ⟨h1, h2⟩ := held_low hN hbl (fun k hk => hk.1) hW
    refine ⟨by rw [← HE.out.1, ← HE.out.2.1, ← HE.out.2.2.1]; rfl, (HV.out.2.1.codecs.below h1).more h2, Rows.nil _ _ _ _, Rows.nil _ _ _ _, Rows.nil _ _ _ _, Rows.nil _ _ _ _⟩)
   have HRES : Hid (Whole (w3.setRow (b + 4) #[.int .i64 mk, .int .i64 0, .string mi, .int .i64 0, .slice AC nC cC, .slice none 0 0, .slice none 0 0, .bool false, .slice none 0 0, .slice none 0 0, .int .i64 ms]) (b + 4) 44 #[.int .i64 mk, .int .i64 0, .string mi, .int .i64 0, .slice AC nC cC, .slice none 0 0, .slice none 0 0, .bool false, .slice none 0 0, .slice none 0 0, .int .i64 ms]) := Lib.hid (H3.out.1.z.row _)
   go_wp2_with (first | ((with_reducible refine wpList_load_all ?_ 44 (.tmp 9) ?_ H3.out.2 ?_ Tryz.sizeMedia ?_ Tryz.underlying44 rfl ?_); (with_reducible rfl); (with_reducible rfl); rfl; rfl) | ((with_reducible refine wpList_storeS #[.int .i64 mk, .int .i64 0, .string mi, .int .i64 0, .slice AC nC cC, .slice none 0 0, .slice none 0 0, .bool false, .slice none 0 0, .slice none 0 0, .int .i64 ms] ?_ 44 (.tmp 8) (.tmp 31) ?_ ?_ ?_ H3.out.1.z Tryz.sizeMedia ?_ ?_ ?_ ?_); (with_reducible rfl); (with_reducible rfl); rfl; rfl; rfl; rfl; rfl) | ((with_reducible show bodyPost _ _ _ _ _ _); exact bodyPost_ret (ret_struct rfl rfl HRES.out Tryz.underlying44 rfl Tryz.sizeMedia rfl) rfl HFIN.out))
 | true =>
   go_upto_region 5 with (first | ((with_reducible refine wpList_load_all ?_ 26 (.tmp 4) ?_ HW1.out.1.d ?_ Tryz.sizeDesc HSZ.out.1 Tryz.underlying26 rfl ?_); (with_reducible rfl); (with_reducible rfl); rfl) | ((with_reducible refine wpList_load_all ?_ 44 (.tmp 5) ?_ HW1.out.1.m ?_ Tryz.sizeMedia HSZ.out.2.1 Tryz.underlying44 rfl ?_); (with_reducible rfl); (with_reducible rfl); rfl) | ((with_reducible refine wpList_load_all ?_ 29 (.tmp 6) ?_ HW1.out.1.k ?_ Tryz.sizeConfig HSZ.out.2.2.1 Tryz.underlying29 rfl ?_); (with_reducible rfl); (with_reducible rfl); rfl) | (go_at_call 17; (with_reducible refine (HRF.out _ HW1.out.1.low).mono ?_); rintro e w2 ⟨rfl, hb2⟩; have H2 : Hid (Fix w w2 b D M K Y #[.int .i64 0, .int .i64 0, .string ⟨#[]⟩, .int .i64 0, .slice none 0 0, .slice none 0 0, .slice none 0 0, .bool false, .slice none 0 0, .slice none 0 0, .int .i64 0] ∧ Whole w2 gO 44 #[.int .i64 mk, .int .i64 0, .string mi, .int .i64 0, .slice none 0 0, .slice none 0 0, .slice none 0 0, .bool false, .slice none 0 0, .slice none 0 0, .int .i64 ms] ∧ b + 5 ≤ gO) := Lib.hid ⟨HW1.out.1.under hb2, HW1.out.2.1.under hb2, HW1.out.2.2⟩; clear hb2))
   have p1 : w2.cell? ⟨gO, 1, none⟩ = some (.int .i64 0) := H2.out.2.1.cell 1
   have f1 := H2.out.2.1.frz 1
   go_upto_region 6 with fail
   have H3 : Hid (Fix w (w2.setCell ⟨gO, 1, none⟩ (.int .i64 9)) b D M K Y #[.int .i64 0, .int .i64 0, .string ⟨#[]⟩, .int .i64 0, .slice none 0 0, .slice none 0 0, .slice none 0 0, .bool false, .slice none 0 0, .slice none 0 0, .int .i64 0] ∧ Whole (w2.setCell ⟨gO, 1, none⟩ (.int .i64 9)) gO 44 #[.int .i64 mk, .int .i64 9, .string mi, .int .i64 0, .slice none 0 0, .slice none 0 0, .slice none 0 0, .bool false, .slice none 0 0, .slice none 0 0, .int .i64 ms] ∧ b + 5 ≤ gO) := Lib.hid
    ⟨H2.out.1.only ((Only.refl (fun k => k = gO) w2).setCell (p := ⟨gO, 1, none⟩) (.inl rfl) _) (fun j hj => by have h1 : j = gO := hj; have := H2.out.2.2; omega), H2.out.2.1.set 1 _, H2.out.2.2⟩
   clear p1 f1 H2 HW1
   generalize w2.setCell ⟨gO, 1, none⟩ (.int .i64 9) = w3 at *
   have p3 : w3.cell? ⟨b + 1, 3, none⟩ = some (.int .i64 md) := (H3.out.1.m.cell 3).trans HMC.out.2.2.1
   have q3 : w3.cell? ⟨gO, 3, none⟩ = some (.int .i64 0) := H3.out.2.1.cell 3
   have f3 := H3.out.2.1.frz 3
   obtain ⟨dd, hdd⟩ : ∃ x, swapD md = x := ⟨_, rfl⟩
   have HDD := Lib.hid hdd
   go_cut [] (fun wc => wc = w3.setCell ⟨gO, 3, none⟩ (.int .i64 dd))
   case first =>
    have hmd : md = 0 ∨ md = 1 ∨ md = 2 ∨ md = 3 := by omega
    rcases hmd with rfl | rfl | rfl | rfl
    all_goals
     obtain rfl := hdd
     go_wp2
     go_meet
     exact congrArg (fun z => w3.setCell ⟨gO, 3, none⟩ (.int .i64 z)) (by decide +kernel)
   case rest =>
   subst hcut
   have H4 : Hid (Fix w (w3.setCell ⟨gO, 3, none⟩ (.int .i64 dd)) b D M K Y #[.int .i64 0, .int .i64 0, .string ⟨#[]⟩, .int .i64 0, .slice none 0 0, .slice none 0 0, .slice none 0 0, .bool false, .slice none 0 0, .slice none 0 0, .int .i64 0] ∧ Whole (w3.setCell ⟨gO, 3, none⟩ (.int .i64 dd)) gO 44 #[.int .i64 mk, .int .i64 9, .string mi, .int .i64 dd, .slice none 0 0, .slice none 0 0, .slice none 0 0, .bool false, .slice none 0 0, .slice none 0 0, .int .i64 ms] ∧ b + 5 ≤ gO) := Lib.hid
    ⟨H3.out.1.only ((Only.refl (fun k => k = gO) w3).setCell (p := ⟨gO, 3, none⟩) (.inl rfl) _) (fun j hj => by have h1 : j = gO := hj; have := H3.out.2.2; omega), H3.out.2.1.set 3 _, H3.out.2.2⟩
   clear p3 q3 f3 H3 hdd hdir
   generalize w3.setCell ⟨gO, 3, none⟩ (.int .i64 dd) = w4 at *
   have p4 : w4.cell? ⟨b + 1, 4, none⟩ = some (.slice AC nC cC) := (H4.out.1.m.cell 4).trans HMC.out.2.2.2.1
   go_wp2
   clear p4
   go_loopw [45] (fun s45 wr => ∃ (i : Nat) (vC : Value) (cs : List (CodecS × Value)), i ≤ nC ∧ s45 = .int .i64 (i : Int) ∧ (Fix w wr b D M K Y #[.int .i64 0, .int .i64 0, .string ⟨#[]⟩, .int .i64 0, .slice none 0 0, .slice none 0 0, .slice none 0 0, .bool false, .slice none 0 0, .slice none 0 0, .int .i64 0] ∧ Whole wr gO 44 #[.int .i64 mk, .int .i64 9, .string mi, .int .i64 dd, vC, .slice none 0 0, .slice none 0 0, .bool false, .slice none 0 0, .slice none 0 0, .int .i64 ms] ∧ Cod w wr N b gO c m.codecs i vC cs)) (fun s45 _ => nC - (intOf s45).toNat)
   case atStart => exact ⟨0, _, [], Nat.zero_le _, rfl, H4.out.1, H4.out.2.1, ⟨Own.nil _ _ _ _, rfl, fun p hp => by cases hp⟩⟩
   case round =>
    obtain ⟨i, vC, cs, hi, rfl, hst⟩ := hrel
    have HT := Lib.hid hst
    clear hst
    have HLW : Hid (Below N w wr ∧ N ≤ wr.heap.size) := Lib.hid ⟨HT.out.1.low.mono HN0.out, by have := HT.out.1.le; have := HN0.out; omega⟩
    obtain ⟨Av, kv, hvv, -⟩ := Own.form HT.out.2.2.own
    obtain ⟨lv, hlv⟩ : ∃ l, (cs.map fun p => ccell p.1 p.2).length = l := ⟨_, rfl⟩
    rw [hlv] at hvv
    subst hvv
    have HLV : Hid ((cs.map fun p => ccell p.1 p.2).length = lv ∧ lv ≤ i) := Lib.hid ⟨hlv, by
     have := congrArg List.length HT.out.2.2.eq
     rw [List.length_map] at this
     rw [← hlv, List.length_map, this]
     refine Nat.le_trans (List.length_filterMap_le _ _) ?_
     rw [List.length_take]
     omega⟩
    clear hlv
    by_cases hlt : i < nC
    · obtain ⟨ad, c', C, vf, e1, had, hC, hcs⟩ := (HV.out.2.1.codecs.below HLW.out.1).cells (i := i) (by rw [HL.out.1]; exact hlt)
      injection e1 with e1 e1n e1c
      clear e1n e1c
      subst e1
      obtain ⟨x, hx⟩ : ∃ s, m.codecs.getD i default = s := ⟨_, rfl⟩
      have hxi : m.codecs[i]? = some x := by rw [← hx]; exact getD_of (by rw [HL.out.1]; exact hlt)
      rw [hx] at hC
      have HNX := Lib.hid (common_next (c := c) hxi)
      have HXI := Lib.hid hxi
      have hi0 : (0 : Int) ≤ (i : Int) := by omega
      have hi1 : (i : Int) < (nC : Int) := by omega
      have HA4 : Hid (∀ W, Below wr.heap.size wr W → W.cell? ⟨b + 1, 4, none⟩ = some (.slice (some ad) nC cC)) := Lib.hid fun W hW => ((HT.out.1.under hW).m.cell 4).trans HMC.out.2.2.2.1
      have HKL2 : Hid (∀ W, Below wr.heap.size wr W → ∀ j u, K.toList[j]? = some u → W.cell? ((⟨b + 2, 0, none⟩ : Addr).add j) = some u) := Lib.hid fun W hW j u hu => by
       rw [Addr.add_lit, Nat.zero_add, (HT.out.1.under hW).k.cell j, ← Array.getElem?_toList]
       exact hu
      have HKS : Hid ((Tryz.prog.info? 29).map (·.size) = some K.toList.length) := Lib.hid (by rw [Tryz.sizeConfig, Array.length_toList, HSZ.out.2.2.1])
      have HCL : Hid (∀ W, Below wr.heap.size wr W → ∀ j u, C.toList[j]? = some u → W.cell? ((ad.add (i * 6)).add j) = some u) := Lib.hid fun W hW j u hu => (hW.cell (p := (ad.add (i * 6)).add j) (by rw [add_block, add_block]; exact Nat.lt_of_lt_of_le had HLW.out.2)).trans (hcs j u hu)
      have HCS : Hid ((Tryz.prog.info? 47).map (·.size) = some C.toList.length) := Lib.hid (by rw [Array.length_toList, hC.size]; exact Tryz.sizeCodec)
      have HCV := Lib.hid hC
      have HCO : Hid (∀ W, Below wr.heap.size wr W → Calls Tryz.prog 18 #[.agg K, .agg C] W fun e w' => ∃ r : Int, e = .returned (.int .i64 r) ∧ ComF c x r ∧ Below W.heap.size W w') := Lib.hid fun W hW => r9common_any K C c x _ _ W ((HV.out.2.2.below (HLW.out.1.trans (hW.mono HLW.out.2))).more (Nat.le_trans HLW.out.2 hW.size)) HZ.out.1 (by rw [HCV.out.form]; rfl) (by rw [HCV.out.form]; rfl) (by rw [HCV.out.form]; rfl)
      have HKB : Hid (∀ W W', Below wr.heap.size wr W → Below W.heap.size W W' → Below wr.heap.size wr W') := Lib.hid fun W W' h1 h2 => h1.trans (h2.mono h1.size)
      have HDR : Hid (Below wr.heap.size wr wr.drew) := Lib.hid (Below.refl _ _).drew
      clear hx hxi hC hcs had
      go_upto_region 10 with fail
      refine wp_region_held_drew (S := fun W => Below wr.heap.size wr W) (by kernel_rfl) HDR.out (fun hHeld => ?_)
      refine wpAnyH_take (i := 0) (v := _) rfl (by as_aux_lemma => kernel_rfl) (by as_aux_lemma => kernel_rfl) (by as_aux_lemma => kernel_rfl) (fun _ _ _ h => h) (yieldsIf_load_at (by rfl) 29 (.tmp 6) rfl ⟨b + 2, 0, none⟩ rfl K.toList _ (fun w h => HKL2.out w h) Tryz.underlying29 rfl HKS.out) (by assumption) ?_
      simp only [Act.put, List.getElem_toArray, List.getElem_cons_succ, List.getElem_cons_zero, List.setIfInBounds_toArray, List.set_cons_succ, List.set_cons_zero]
      refine wpAnyH_take (i := 1) (v := _) rfl (by as_aux_lemma => kernel_rfl) (by as_aux_lemma => kernel_rfl) (by as_aux_lemma => kernel_rfl) (fun _ _ _ h => h) (Or.inl ⟨by rfl, fun w h => by have e0 := HA4.out w h; clear h; go_simp; (try with_reducible rfl)⟩) (by assumption) ?_
      simp only [Act.put, List.getElem_toArray, List.getElem_cons_succ, List.getElem_cons_zero, List.setIfInBounds_toArray, List.set_cons_succ, List.set_cons_zero]
      refine wpAnyH_take (i := 2) (v := _) rfl (by as_aux_lemma => kernel_rfl) (by as_aux_lemma => kernel_rfl) (by as_aux_lemma => kernel_rfl) (fun _ _ _ h => h) (Or.inl ⟨by rfl, fun w h => by have e0 := HA4.out w h; clear h; go_simp; (try with_reducible rfl)⟩) (by assumption) ?_
      simp only [Act.put, List.getElem_toArray, List.getElem_cons_succ, List.getElem_cons_zero, List.setIfInBounds_toArray, List.set_cons_succ, List.set_cons_zero]
      refine wpAnyH_take (i := 3) (v := _) rfl (by as_aux_lemma => kernel_rfl) (by as_aux_lemma => kernel_rfl) (by as_aux_lemma => kernel_rfl) (fun _ _ _ h => h) (Or.inl ⟨by rfl, fun w h => by have e0 := HA4.out w h; clear h; go_simp; (try with_reducible rfl)⟩) (by assumption) ?_
      simp only [Act.put, List.getElem_toArray, List.getElem_cons_succ, List.getElem_cons_zero, List.setIfInBounds_toArray, List.set_cons_succ, List.set_cons_zero]
      refine wpAnyH_take (i := 4) (v := _) rfl (by as_aux_lemma => kernel_rfl) (by as_aux_lemma => kernel_rfl) (by as_aux_lemma => kernel_rfl) (fun _ _ _ h => h) (Or.inl ⟨by rfl, fun w h => by have e0 := HA4.out w h; clear h; go_simp; (try with_reducible rfl)⟩) (by assumption) ?_
      simp only [Act.put, List.getElem_toArray, List.getElem_cons_succ, List.getElem_cons_zero, List.setIfInBounds_toArray, List.set_cons_succ, List.set_cons_zero]
      refine wpAnyH_take (i := 5) (v := _) rfl (by as_aux_lemma => kernel_rfl) (by as_aux_lemma => kernel_rfl) (by as_aux_lemma => kernel_rfl) (fun _ _ _ h => h) (yieldsIf_load_at (by rfl) 47 (.tmp 52) rfl (ad.add (i * 6)) rfl C.toList _ (fun w h => HCL.out w h) Tryz.underlying47 rfl HCS.out) (by assumption) ?_
      simp only [Act.put, List.getElem_toArray, List.getElem_cons_succ, List.getElem_cons_zero, List.setIfInBounds_toArray, List.set_cons_succ, List.set_cons_zero]
      refine wpAnyH_ready (rs := [6]) (by as_aux_lemma => kernel_rfl) (by simp) ?_
      refine AllReadyH.cons (i := 6) rfl (fun K' hK => ?_) AllReadyH.nil
      go_simp
      refine (HCO.out _ hHeld).mono ?_
      rintro e w5 ⟨ri, rfl, hri, hb3⟩
      have HRI := Lib.hid hri
      refine hK.out _ _ (HKB.out _ _ hHeld hb3) (fun hHeld4 => ?_)
      clear hK K' hHeld hb3 hri
      have hHeld := hHeld4
      clear hHeld4
      try simp only [Act.put]
      refine wpAnyH_take (i := 7) (v := _) rfl (by as_aux_lemma => kernel_rfl) (by as_aux_lemma => kernel_rfl) (by as_aux_lemma => kernel_rfl) (fun _ _ _ h => h) (Or.inl ⟨by rfl, fun w h => by have e0 := HA4.out w h; clear h; go_simp; (try with_reducible rfl)⟩) (by assumption) ?_
      simp only [Act.put, List.getElem_toArray, List.getElem_cons_succ, List.getElem_cons_zero, List.setIfInBounds_toArray, List.set_cons_succ, List.set_cons_zero]
      refine wpAnyH_done (by as_aux_lemma => kernel_rfl) ?_ _
      have H5 : Hid (Below wr.heap.size wr w5) := Lib.hid hHeld
      clear hHeld
      rcases HRI.out with ⟨k, y, rfl, hky, hoy⟩ | ⟨rfl, hoy⟩
      · rw [hoy] at HNX
        have hk0 : ¬ (k : Int) < 0 := by omega
        have HKY := Lib.hid hky
        clear hky hoy
        have e4 : w5.cell? ⟨b + 1, 4, none⟩ = some (.slice (some ad) nC cC) := HA4.out w5 H5.out
        have HLD : Hid (∀ (ops : Array Oper) (rest : List Oper) (op : Oper) (act : Act) (Q : Exit → Act → World → Prop), op.guard = none → op.op = .load 47 (.tmp 60) → act.eval (.tmp 60) = .pointer (some (ad.add (i * 6))) → wpList Tryz.prog ops Q rest (act.put op.dst (.agg C)) w5 → wpList Tryz.prog ops Q (op :: rest) act w5) :=
         Lib.hid fun ops rest op act Q h1 h2 h3 h4 => wpList_load_at h1 47 (.tmp 60) h2 _ h3 C.toList _ (HCL.out w5 H5.out) Tryz.underlying47 rfl HCS.out (by rw [Array.toArray_toList]; exact h4)
        have HSV : Hid (C.size = 6 ∧ C.toList.all (·.oneCell') = true) := Lib.hid ⟨HCV.out.size, HCV.out.one⟩
        have HW6 : Hid (Below wr.heap.size wr ((w5.alloc (.cells #[.int .i64 0, .string ⟨#[]⟩, .int .i64 0, .int .i64 0, .string ⟨#[]⟩, .slice none 0 0] 47)).setRow w5.heap.size C) ∧ Whole ((w5.alloc (.cells #[.int .i64 0, .string ⟨#[]⟩, .int .i64 0, .int .i64 0, .string ⟨#[]⟩, .slice none 0 0] 47)).setRow w5.heap.size C) w5.heap.size 47 C ∧ wr.heap.size ≤ w5.heap.size) := Lib.hid
         ⟨below_row (H5.out.alloc H5.out.size _) H5.out.size _, (Whole.new _ _ _).row _, H5.out.size⟩
        go_upto_region 12 with fail
        go_cut [12] (fun s12 wc => ∃ g, s12 = .pointer (some ⟨g, 0, none⟩) ∧ Below wr.heap.size wr wc ∧ Whole wc g 47 C ∧ wr.heap.size ≤ g)
        case first =>
         go_wp2_with (first | ((with_reducible refine HLD.out _ _ _ _ _ ?_ ?_ ?_ ?_); (with_reducible rfl); (with_reducible rfl); rfl) | ((with_reducible refine wpList_storeS C ?_ 47 (.tmp 12) (.tmp 61) ?_ ?_ ?_ (Whole.new _ _ _) Tryz.sizeCodec HSV.out.1 ?_ HSV.out.2 ?_); (with_reducible rfl); (with_reducible rfl); rfl; rfl; rfl))
         go_meet
         exact ⟨_, rfl, HW6.out.1, HW6.out.2.1, HW6.out.2.2⟩
        case rest =>
        obtain ⟨gX, rfl, hbc, hwx, hgx⟩ := hcut
        generalize wc = w6 at *
        have H6 := Lib.hid (And.intro hbc (And.intro hwx hgx))
        clear e4 HLD HSV HW6 H5 hbc hwx hgx HCO HKB HDR HA4 HKL2 HKS HRI
        obtain ⟨Af, kf, hvf, hkf, hmf, -⟩ := Rows.form HCV.out.feeds
        obtain ⟨mf, hmfl⟩ : ∃ n, x.feedback.length = n := ⟨_, rfl⟩
        rw [hmfl] at hvf hkf
        subst hvf
        have hmf47 : mf ≤ 8 := by rw [← hmfl]; exact goodM_feeds HG.out (List.mem_of_getElem? HXI.out)
        have HMF := Lib.hid hmfl
        have HXF := Lib.hid HCV.out.feeds
        have hkl : k < c.codecs.length := (List.getElem?_eq_some_iff.1 HKY.out).1
        obtain ⟨ad2, k2, Cy, vg, e2, had2, hCy, hcy⟩ := HV.out.2.2.codecs.cells hkl
        injection e2 with e2 e2n e2c
        clear e2n e2c
        subst e2
        have hgk : c.codecs.getD k default = y := by rw [List.getD_eq_getElem?_getD, HKY.out]; rfl
        rw [hgk] at hCy
        obtain ⟨Ag, kg, hvg, hkg, hmg, -⟩ := Rows.form hCy.feeds
        obtain ⟨mg, hmgl⟩ : ∃ n, y.feedback.length = n := ⟨_, rfl⟩
        rw [hmgl] at hvg hkg
        subst hvg
        have hmg47 : mg ≤ 140737488355328 := by rw [← hmgl]; exact HZ.out.1.feeds y (List.mem_of_getElem? HKY.out)
        have HY5 : Hid (∀ W, Below N w W → W.cell? ⟨(ad2.add (k * 6)).block, (ad2.add (k * 6)).off + 5, none⟩ = some (.slice Ag mg kg)) := Lib.hid fun W hW => by
         have q1 := hcy 5 (.slice Ag mg kg) (by rw [hCy.form]; rfl)
         rw [← add_next _ _ 5 (by decide), ← Go.Deep.add_add]
         exact (hW.cell (p := (ad2.add (k * 6)).add 5) (by rw [add_block, add_block]; exact had2)).trans q1
        have HYF := Lib.hid (And.intro hCy.feeds hmgl)
        have hk1 : (k : Int) < (lC : Int) := by rw [HL.out.2.2.2.2.1] at hkl; omega
        have hk2 : (0 : Int) ≤ (k : Int) := by omega
        clear hmfl hkl had2 hCy hcy hgk hmgl hk0
        have x5 : w6.cell? ⟨gX, 5, none⟩ = some (.slice Af mf kf) := (H6.out.2.1.cell 5).trans (by rw [HCV.out.form]; rfl)
        go_wp2
        clear x5
        generalize wr = wa at *
        go_loopw [65, 13] (fun s65 s13 wq => ∃ (t : Nat) (vF : Value), t ≤ mf ∧ s65 = .int .i64 (t : Int) ∧ s13 = vF ∧ (Own wq w6.heap.size 9 1 vF (((x.feedback.take t).filter (inT y.feedback)).map tcell) ∧ Below w6.heap.size w6 wq)) (fun s65 _ _ => mf - (intOf s65).toNat)
        case atStart => exact ⟨0, _, Nat.zero_le _, rfl, rfl, Own.nil _ _ _ _, Below.refl _ _⟩
        case round =>
         obtain ⟨t, vF, ht, rfl, rfl, hst2⟩ := hrel
         have HQ := Lib.hid hst2
         clear hst2
         have HQB : Hid (Below wa.heap.size wa wr ∧ Below N w wr ∧ N ≤ wr.heap.size) := Lib.hid (by
          have h1 := H6.out.1.trans (HQ.out.2.mono H6.out.1.size)
          exact ⟨h1, HLW.out.1.trans (h1.mono HLW.out.2), Nat.le_trans HLW.out.2 h1.size⟩)
         obtain ⟨At, kt, hvt, -⟩ := Own.form HQ.out.1
         obtain ⟨lt, hlt2⟩ : ∃ l, (((x.feedback.take t).filter (inT y.feedback)).map tcell).length = l := ⟨_, rfl⟩
         rw [hlt2] at hvt
         subst hvt
         have HLT : Hid ((((x.feedback.take t).filter (inT y.feedback)).map tcell).length = lt ∧ lt ≤ t) := Lib.hid ⟨hlt2, by
          rw [← hlt2, List.length_map]
          refine Nat.le_trans (List.length_filter_le _ _) ?_
          rw [List.length_take]
          omega⟩
         clear hlt2
         have q3 : wr.cell? ⟨gX, 5, none⟩ = some (.slice Af mf kf) := ((H6.out.2.1.under HQ.out.2).cell 5).trans (by rw [HCV.out.form]; rfl)
         by_cases htl : t < mf
         · have htl' : t < x.feedback.length := by rw [HMF.out]; exact htl
           obtain ⟨ad3, k3, e3, had3, f0⟩ := (HXF.out.below (HQB.out.1.mono HLW.out.2)).at_ htl'
           injection e3 with e3 e3n e3c
           clear e3n e3c
           subst e3
           obtain ⟨s, hs⟩ : ∃ s, x.feedback.getD t default = s := ⟨_, rfl⟩
           rw [hs] at f0
           have hsi : x.feedback[t]? = some s := by rw [← hs]; exact getD_of htl'
           have HNS : Hid ((x.feedback.take (t + 1)).filter (inT y.feedback) = (x.feedback.take t).filter (inT y.feedback) ++ (if inT y.feedback s = true then [s] else [])) := Lib.hid (by
            rw [List.take_add_one, hsi, List.filter_append]
            congr 1
            by_cases hq : inT y.feedback s = true
            · simp [hq]
            · simp [hq])
           have q1 : wr.cell? ⟨b + 2, 0, none⟩ = some (.slice (some ad2) lC eC) := ((HT.out.1.under HQB.out.1).k.cell 0).trans HKC.out.1
           have q2 := HY5.out wr HQB.out.2.1
           have HIN : Hid (∀ m, Calls Tryz.prog 13 #[.slice Ag mg kg, .string s] (wr.drewN m) fun e w' => e = .returned (.int .i64 (placeT y.feedback s)) ∧ w' = wr.drewN m) := Lib.hid fun m => rIn_q Ag mg kg s y.feedback (wr.drewN m) ((HYF.out.1.below (below_drewN' HQB.out.2.1 m)).more HQB.out.2.2) HYF.out.2 (by omega)
           have ht0 : (0 : Int) ≤ (t : Int) := by omega
           have ht1 : (t : Int) < (mf : Int) := by omega
           have HF0 : Hid (wr.cell? (ad3.add t) = some (.string s)) := Lib.hid f0
           have HQ3 := Lib.hid q3
           clear hs htl' had3 hsi
           cases hin : inT y.feedback s with
           | true =>
             have hp : (0 : Int) ≤ placeT y.feedback s := by have := place_in hin; omega
             rw [hin, if_pos rfl] at HNS
             clear hin
             generalize placeT y.feedback s = pl at *
             go_upto_region 17 with fail
             go_quiet ((go_at_call 13; exact Calls.quiet_of_same (HIN.out _)))
             have H7 : Hid (Own (wr.drewN nq) w6.heap.size 9 1 (.slice At lt kt) (((x.feedback.take t).filter (inT y.feedback)).map tcell) ∧ Below w6.heap.size w6 (wr.drewN nq) ∧ (wr.drewN nq).cell? ⟨gX, 5, none⟩ = some (.slice (some ad3) mf kf) ∧ (wr.drewN nq).cell? (ad3.add t) = some (.string s)) := Lib.hid ⟨HQ.out.1.drewN nq, below_drewN' HQ.out.2 nq, HQ3.out, HF0.out⟩
             clear q1 q2 q3 f0 HQ3 HF0 HIN
             generalize wr.drewN nq = w7 at *
             have q3 := H7.out.2.2.1
             have f0 := H7.out.2.2.2
             have HNA : Hid (Own (w7.alloc (.cells #[.string s] 9)) w6.heap.size 9 1 (.slice At lt kt) (((x.feedback.take t).filter (inT y.feedback)).map tcell) ∧ Whole (w7.alloc (.cells #[.string s] 9)) w7.heap.size 9 #[.string s] ∧ w6.heap.size ≤ (w7.alloc (.cells #[.string s] 9)).heap.size ∧ Below w6.heap.size w6 (w7.alloc (.cells #[.string s] 9))) := Lib.hid
              ⟨H7.out.1.alloc _, Whole.new _ _ _, Nat.le_trans H7.out.2.1.size (by rw [World.size_alloc]; omega), H7.out.2.1.alloc H7.out.2.1.size _⟩
             have hlt47 : lt + 1 ≤ 8796093022208 := by have := HLT.out.2; omega
             go_wp2_with (at_builtin; refine wpList_appendE (r := [.string s]) rfl (.tmp 81) (.tmp 87) rfl Tryz.underlying23 Tryz.infoStr rfl (Nat.zero_lt_succ _) rfl HNA.out.1 rfl HNA.out.2.1 rfl (fun u hu => by simp at hu; subst hu; rfl) (by rw [HLT.out.1]; omega) (by rw [HLT.out.1]; omega) HNA.out.2.2.1 ?_; intro v8 w8 ho8 hg8 hn8; have H8 : Hid (Own w8 w6.heap.size 9 1 v8 (((x.feedback.take t).filter (inT y.feedback)).map tcell ++ [tcell s]) ∧ Below w6.heap.size w6 w8) := Lib.hid ⟨ho8, HNA.out.2.2.2.grown hg8 HNA.out.2.2.1 (fun j hj => (HNA.out.1.lt hj).1)⟩; clear ho8 hg8 hn8)
             go_roundw
             case rel => exact ⟨t + 1, _, by omega, by go_num, rfl, by rw [HNS.out, List.map_append]; exact H8.out.1, H8.out.2⟩
             case measure => simp [intOf]; omega
           | false =>
             have hp : ¬ (0 : Int) ≤ placeT y.feedback s := by have := place_out hin; omega
             rw [hin, if_neg (by decide), List.append_nil] at HNS
             clear hin
             generalize placeT y.feedback s = pl at *
             go_upto_region 17 with fail
             go_quiet ((go_at_call 13; exact Calls.quiet_of_same (HIN.out _)))
             go_wp2
             go_roundw
             case rel => exact ⟨t + 1, _, by omega, by go_num, rfl, by rw [HNS.out]; exact HQ.out.1.drewN _, below_drewN' HQ.out.2 _⟩
             case measure => simp [intOf]; omega
         · obtain rfl : t = mf := by omega
           have HOF : Hid (Own wr w6.heap.size 9 1 (.slice At lt kt) ((withF x y).feedback.map tcell)) := Lib.hid (by
            have := HQ.out.1
            rw [List.take_of_length_le (by rw [HMF.out]; exact Nat.le_refl _)] at this
            exact this)
           have g5 := (H6.out.2.1.under HQ.out.2).frz 5
           go_upto_region 21 with fail
           have H7 : Hid (Below wa.heap.size wa (wr.setCell ⟨gX, 5, none⟩ (.slice At lt kt)) ∧ Whole (wr.setCell ⟨gX, 5, none⟩ (.slice At lt kt)) gX 47 #[.int .i64 x.type, .string x.name, .int .i64 x.clock, .int .i64 x.chans, .string x.format, .slice At lt kt] ∧ Own (wr.setCell ⟨gX, 5, none⟩ (.slice At lt kt)) w6.heap.size 9 1 (.slice At lt kt) ((withF x y).feedback.map tcell) ∧ wa.heap.size ≤ w6.heap.size) := Lib.hid (by
            refine ⟨HQB.out.1.setCell (p := ⟨gX, 5, none⟩) H6.out.2.2 _, ?_, HOF.out.far (p := ⟨gX, 5, none⟩) (HOF.out.apart (H6.out.2.1.under HQ.out.2) (by decide)) _, H6.out.1.size⟩
            have := (H6.out.2.1.under HQ.out.2).set 5 (.slice At lt kt)
            rw [HCV.out.form] at this
            exact this)
           clear q3 g5 HOF HQB HQ
           generalize wr.setCell ⟨gX, 5, none⟩ (.slice At lt kt) = w7 at *
           have p4 : w7.cell? ⟨gO, 4, none⟩ = some (.slice Av lv kv) := (HT.out.2.1.under H7.out.1).cell 4
           have HNA : Hid (Own (w7.alloc (.cells #[.int .i64 x.type, .string x.name, .int .i64 x.clock, .int .i64 x.chans, .string x.format, .slice At lt kt] 47)) (b + 5) 47 6 (.slice Av lv kv) (cs.map fun p => ccell p.1 p.2) ∧ Whole (w7.alloc (.cells #[.int .i64 x.type, .string x.name, .int .i64 x.clock, .int .i64 x.chans, .string x.format, .slice At lt kt] 47)) w7.heap.size 47 #[.int .i64 x.type, .string x.name, .int .i64 x.clock, .int .i64 x.chans, .string x.format, .slice At lt kt] ∧ b + 5 ≤ (w7.alloc (.cells #[.int .i64 x.type, .string x.name, .int .i64 x.clock, .int .i64 x.chans, .string x.format, .slice At lt kt] 47)).heap.size ∧ Whole (w7.alloc (.cells #[.int .i64 x.type, .string x.name, .int .i64 x.clock, .int .i64 x.chans, .string x.format, .slice At lt kt] 47)) gO 44 #[.int .i64 mk, .int .i64 9, .string mi, .int .i64 dd, .slice Av lv kv, .slice none 0 0, .slice none 0 0, .bool false, .slice none 0 0, .slice none 0 0, .int .i64 ms]) := Lib.hid
            ⟨(HT.out.2.2.own.under H7.out.1).alloc _, Whole.new _ _ _, by rw [World.size_alloc]; have := HT.out.1.le; have := H7.out.1.size; omega, (HT.out.2.1.under H7.out.1).alloc _⟩
           have hlv : lv + 1 ≤ 1759218604391 := by have := HLV.out.2; omega
           go_wp2_with (first | ((with_reducible refine wpList_load_all ?_ 47 (.tmp 12) ?_ H7.out.2.1 ?_ Tryz.sizeCodec ?_ Tryz.underlying47 rfl ?_); (with_reducible rfl); (with_reducible rfl); rfl; rfl) | (at_builtin; go_loud (refine wpList_appendE (r := [.int .i64 x.type, .string x.name, .int .i64 x.clock, .int .i64 x.chans, .string x.format, .slice At lt kt]) rfl (.tmp 93) (.tmp 95) rfl Tryz.underlying27 infoCodec9 rfl (Nat.zero_lt_succ _) rfl HNA.out.1 rfl HNA.out.2.1 rfl (fun u hu => by simp at hu; rcases hu with rfl | rfl | rfl | rfl | rfl | rfl <;> rfl) (by rw [HLV.out.1]; omega) (by rw [HLV.out.1]; omega) HNA.out.2.2.1 ?_; intro v8 w8 ho8 hg8 hn8; obtain ⟨A8, k8, hv8, -⟩ := Own.form ho8; generalize List.length _ = l8 at hv8; subst hv8; have H8 : Hid (Own w8 (b + 5) 47 6 (.slice A8 l8 k8) ((cs.map fun p => ccell p.1 p.2) ++ [[.int .i64 x.type, .string x.name, .int .i64 x.clock, .int .i64 x.chans, .string x.format, .slice At lt kt]]) ∧ (w7.alloc (.cells #[.int .i64 x.type, .string x.name, .int .i64 x.clock, .int .i64 x.chans, .string x.format, .slice At lt kt] 47)).grownBy w8 (Value.slice Av lv kv).ownBlock ∧ ((Value.slice A8 l8 k8).ownBlock = (Value.slice Av lv kv).ownBlock ∨ (Value.slice A8 l8 k8).ownBlock = some (w7.alloc (.cells #[.int .i64 x.type, .string x.name, .int .i64 x.clock, .int .i64 x.chans, .string x.format, .slice At lt kt] 47)).heap.size) ∧ Whole w8 gO 44 #[.int .i64 mk, .int .i64 9, .string mi, .int .i64 dd, .slice Av lv kv, .slice none 0 0, .slice none 0 0, .bool false, .slice none 0 0, .slice none 0 0, .int .i64 ms]) := Lib.hid ⟨ho8, hg8, hn8, HNA.out.2.2.2.grown hg8 (fun e => (HNA.out.1.apart HNA.out.2.2.2 (by decide)) e.symm)⟩; have c8 : w8.cell? ⟨gO, 4, none⟩ = some (.slice Av lv kv) := H8.out.2.2.2.cell 4; have f8 := H8.out.2.2.2.frz 4; clear ho8 hg8 hn8)))
           have HU : Hid (Only (fun k => k = gO ∨ (Value.slice Av lv kv).ownBlock = some k) w7 (w8.setCell ⟨gO, 4, none⟩ (.slice A8 l8 k8))) := Lib.hid ((((Only.refl _ w7).alloc (.cells #[.int .i64 x.type, .string x.name, .int .i64 x.clock, .int .i64 x.chans, .string x.format, .slice At lt kt] 47)).grown H8.out.2.1 (fun k hk => .inl (.inr hk))).setCell (p := ⟨gO, 4, none⟩) (.inl (.inl rfl)) (.slice A8 l8 k8))
           have HN8 : Hid ((Value.slice A8 l8 k8).ownBlock = (Value.slice Av lv kv).ownBlock ∨ ∃ g, (Value.slice A8 l8 k8).ownBlock = some g ∧ w7.heap.size ≤ g) := Lib.hid (H8.out.2.2.1.imp id fun e => ⟨_, e, by rw [World.size_alloc]; omega⟩)
           have HVB : Hid (∀ g, (Value.slice Av lv kv).ownBlock = some g → b + 5 ≤ g ∧ g < wa.heap.size) := Lib.hid fun g hg => HT.out.2.2.own.lt hg
           have HGO : Hid (b + 5 ≤ gO ∧ gO < wa.heap.size) := Lib.hid ⟨H4.out.2.2, HT.out.2.1.lt⟩
           go_roundw
           case rel =>
            refine ⟨i + 1, .slice A8 l8 k8, cs ++ [(withF x y, .slice At lt kt)], by omega, by go_num, (HT.out.1.under H7.out.1).only HU.out (fun j hj => ?_), H8.out.2.2.2.set 4 _, ⟨?_, ?_, fun p hp => ?_⟩⟩
            · rcases hj with rfl | hj
              · exact HGO.out.1
              · exact (HVB.out j hj).1
            · rw [List.map_append]
              exact Own.far (p := ⟨gO, 4, none⟩) H8.out.1 (H8.out.1.apart H8.out.2.2.2 (by decide)) _
            · rw [List.map_append, HT.out.2.2.eq, HNX.out]
              rfl
            · have hs' : ∀ j, ((N ≤ j ∧ j < b + 5) ∨ j = gO ∨ (Value.slice A8 l8 k8).ownBlock = some j) → ((N ≤ j ∧ j < b + 5) ∨ j = gO ∨ (Value.slice Av lv kv).ownBlock = some j) ∨ w7.heap.size ≤ j := fun j hj => by
               rcases hj with hj | hj | hj
               · exact .inl (.inl hj)
               · exact .inl (.inr (.inl hj))
               · rcases HN8.out with e | ⟨g, e, hg⟩
                 · exact .inl (.inr (.inr (by rw [← e]; exact hj)))
                 · rw [e] at hj
                   obtain rfl := Option.some.inj hj
                   exact .inr hg
              have hu' : ∀ j, (j = gO ∨ (Value.slice Av lv kv).ownBlock = some j) → ((N ≤ j ∧ j < b + 5) ∨ j = gO ∨ (Value.slice Av lv kv).ownBlock = some j) ∨ w7.heap.size ≤ j := fun j hj => .inl (.inr hj)
              rcases List.mem_append.1 hp with hp | hp
              · exact ((HT.out.2.2.held p hp).under H7.out.1).step HU.out hu' hs'
              · obtain rfl := List.mem_singleton.1 hp
                refine Held.step (Held.texts H7.out.2.2.1 (fun k hk => ?_)) HU.out hu' hs'
                have h1 := (H7.out.2.2.1.lt hk).1
                have h2 := H7.out.2.2.2
                have h3 := HGO.out
                rintro (h | h | h)
                · omega
                · omega
                · have := (HVB.out k h).2
                  omega
           case measure => simp [intOf]; omega
      · have hm1 : (-1 : Int) < 0 := by omega
        rw [hoy] at HNX
        clear hoy
        go_wp2
        go_roundw
        case rel => exact ⟨i + 1, _, cs, by omega, by go_num, HT.out.1.under H5.out, HT.out.2.1.under H5.out, ⟨HT.out.2.2.own.under H5.out, by rw [HNX.out, List.append_nil]; exact HT.out.2.2.eq, fun p hp => (HT.out.2.2.held p hp).under H5.out⟩⟩
        case measure => simp [intOf]; omega
    · obtain rfl : i = nC := by omega
      have HCH : Hid (Held wr (fun k => (N ≤ k ∧ k < b + 5) ∨ k = gO ∨ (Value.slice none 0 0).ownBlock = some k) (fun W => CodecsV W W.heap.size (.slice Av lv kv) (commonC c m.codecs))) := Lib.hid (by
       have h1 := HT.out.2.2.all (HT.out.2.2.own.apart HT.out.2.1 (by decide))
       rw [List.take_of_length_le (by rw [HL.out.1]; exact Nat.le_refl _)] at h1
       exact h1.step (U := fun _ => False) (Only.refl _ _) (fun j e => e.elim) (fun j hj => .inl (hj.imp id fun e => e.elim id fun e => by cases e)))
      have p5 : wr.cell? ⟨b + 1, 5, none⟩ = some (.slice AE nE cE) := (HT.out.1.m.cell 5).trans HMC.out.2.2.2.2.1
      have HT1 : Hid (Fix w wr b D M K Y #[.int .i64 0, .int .i64 0, .string ⟨#[]⟩, .int .i64 0, .slice none 0 0, .slice none 0 0, .slice none 0 0, .bool false, .slice none 0 0, .slice none 0 0, .int .i64 0] ∧ Whole wr gO 44 #[.int .i64 mk, .int .i64 9, .string mi, .int .i64 dd, .slice Av lv kv, .slice none 0 0, .slice none 0 0, .bool false, .slice none 0 0, .slice none 0 0, .int .i64 ms]) := Lib.hid ⟨HT.out.1, HT.out.2.1⟩
      clear HT HLW HLV
      go_wp2
      clear p5
      generalize wr = wa at *
      go_loopw [102] (fun s102 wr => ∃ (i : Nat) (vE : Value), i ≤ nE ∧ s102 = .int .i64 (i : Int) ∧ (Fix w wr b D M K Y #[.int .i64 0, .int .i64 0, .string ⟨#[]⟩, .int .i64 0, .slice none 0 0, .slice none 0 0, .slice none 0 0, .bool false, .slice none 0 0, .slice none 0 0, .int .i64 0] ∧ Whole wr gO 44 #[.int .i64 mk, .int .i64 9, .string mi, .int .i64 dd, .slice Av lv kv, vE, .slice none 0 0, .bool false, .slice none 0 0, .slice none 0 0, .int .i64 ms] ∧ Own wr (b + 5) 49 2 vE (((m.exts.take i).filter (fun x => inT c.exts x.uri)).map ecell) ∧ Held wr (fun k => (N ≤ k ∧ k < b + 5) ∨ k = gO ∨ vE.ownBlock = some k) (fun W => CodecsV W W.heap.size (.slice Av lv kv) (commonC c m.codecs)))) (fun s102 _ => nE - (intOf s102).toNat)
      case atStart => exact ⟨0, _, Nat.zero_le _, rfl, HT1.out.1, HT1.out.2, Own.nil _ _ _ _, HCH.out⟩
      case round =>
       obtain ⟨i, vE, hi, rfl, hst⟩ := hrel
       have HT := Lib.hid hst
       clear hst
       have HLW : Hid (Below N w wr ∧ N ≤ wr.heap.size) := Lib.hid ⟨HT.out.1.low.mono HN0.out, by have := HT.out.1.le; have := HN0.out; omega⟩
       obtain ⟨Ae, ke, hve, -⟩ := Own.form HT.out.2.2.1
       obtain ⟨le, hle⟩ : ∃ l, (((m.exts.take i).filter (fun x => inT c.exts x.uri)).map ecell).length = l := ⟨_, rfl⟩
       rw [hle] at hve
       subst hve
       have HLE : Hid ((((m.exts.take i).filter (fun x => inT c.exts x.uri)).map ecell).length = le ∧ le ≤ i) := Lib.hid ⟨hle, by
        rw [← hle, List.length_map]
        refine Nat.le_trans (List.length_filter_le _ _) ?_
        rw [List.length_take]
        omega⟩
       clear hle
       by_cases hlt : i < nE
       · obtain ⟨ad, c', e1, had, f0, f1⟩ := (HV.out.2.1.exts.below HLW.out.1).at_ (i := i) (by rw [HL.out.2.1]; exact hlt)
         injection e1 with e1 e1n e1c
         clear e1n e1c
         subst e1
         obtain ⟨x, hx⟩ : ∃ s, m.exts.getD i default = s := ⟨_, rfl⟩
         have hxi : m.exts[i]? = some x := by rw [← hx]; exact getD_of (by rw [HL.out.2.1]; exact hlt)
         rw [hx] at f0 f1
         have HNS : Hid (((m.exts.take (i + 1)).filter (fun x => inT c.exts x.uri)) = ((m.exts.take i).filter (fun x => inT c.exts x.uri)) ++ (if inT c.exts x.uri = true then [x] else [])) := Lib.hid (by
          rw [List.take_add_one, hxi, List.filter_append]
          congr 1
          by_cases hq : inT c.exts x.uri = true
          · simp [hq]
          · simp [hq])
         have hi0 : (0 : Int) ≤ (i : Int) := by omega
         have hi1 : (i : Int) < (nE : Int) := by omega
         have q1 : wr.cell? ⟨b + 2, 1, none⟩ = some (.slice BE lE eE) := (HT.out.1.k.cell 1).trans HKC.out.2
         have q5 : wr.cell? ⟨b + 1, 5, none⟩ = some (.slice (some ad) nE cE) := (HT.out.1.m.cell 5).trans HMC.out.2.2.2.2.1
         have hle47 : lE ≤ 8796093021952 := by rw [← HL.out.2.2.2.2.2]; exact HZ.out.1.exts
         have HIN : Hid (∀ m, Calls Tryz.prog 13 #[.slice BE lE eE, .string x.uri] (wr.drewN m) fun e w' => e = .returned (.int .i64 (placeT c.exts x.uri)) ∧ w' = wr.drewN m) := Lib.hid fun m => rIn_q BE lE eE x.uri c.exts (wr.drewN m) ((HV.out.2.2.exts.below (below_drewN' HLW.out.1 m)).more HLW.out.2) HL.out.2.2.2.2.2 (by omega)
         have HF0 : Hid (∀ W, Below N w W → W.cell? (ad.add (i * 2)) = some (.int .i64 x.id) ∧ W.cell? ⟨(ad.add (i * 2)).block, (ad.add (i * 2)).off + 1, none⟩ = some (.string x.uri)) := Lib.hid fun W hW => by
          obtain ⟨ad', c2, e2, -, g0, g1⟩ := (HV.out.2.1.exts.below hW).at_ (i := i) (by rw [HL.out.2.1]; exact hlt)
          injection e2 with e2 _ _
          obtain rfl := Option.some.inj e2
          rw [hx] at g0 g1
          exact ⟨g0, g1⟩
         clear had hxi
         cases hin : inT c.exts x.uri with
         | true =>
           have hp : (0 : Int) ≤ placeT c.exts x.uri := by have := place_in hin; omega
           rw [hin, if_pos rfl] at HNS
           clear hin hx
           generalize placeT c.exts x.uri = pl at *
           go_upto_region 26 with fail
           go_quiet ((go_at_call 13; exact Calls.quiet_of_same (HIN.out _)))
           have HB27 : Hid (Fix w (wr.drewN nq) b D M K Y #[.int .i64 0, .int .i64 0, .string ⟨#[]⟩, .int .i64 0, .slice none 0 0, .slice none 0 0, .slice none 0 0, .bool false, .slice none 0 0, .slice none 0 0, .int .i64 0] ∧ Whole (wr.drewN nq) gO 44 #[.int .i64 mk, .int .i64 9, .string mi, .int .i64 dd, .slice Av lv kv, .slice Ae le ke, .slice none 0 0, .bool false, .slice none 0 0, .slice none 0 0, .int .i64 ms] ∧ Own (wr.drewN nq) (b + 5) 49 2 (.slice Ae le ke) (((m.exts.take i).filter (fun x => inT c.exts x.uri)).map ecell) ∧ Held (wr.drewN nq) (fun k => (N ≤ k ∧ k < b + 5) ∨ k = gO ∨ (Value.slice Ae le ke).ownBlock = some k) (fun W => CodecsV W W.heap.size (.slice Av lv kv) (commonC c m.codecs))) := Lib.hid
            ⟨HT.out.1.under (below_drewN' (Below.refl _ _) nq), HT.out.2.1.drewN nq, HT.out.2.2.1.drewN nq, HT.out.2.2.2.under (below_drewN' (Below.refl _ _) nq)⟩
           clear q1 q5 f0 f1 HIN HT HLW
           generalize wr.drewN nq = wb at *
           have HGV : Hid (b + 5 ≤ gO ∧ ∀ g, (Value.slice Ae le ke).ownBlock = some g → b + 5 ≤ g) := Lib.hid ⟨H4.out.2.2, fun g hg => (HB27.out.2.2.1.lt hg).1⟩
           have HON : Hid (∀ W, Only (fun k => k = gO ∨ (Value.slice Ae le ke).ownBlock = some k) wb W → Fix w W b D M K Y #[.int .i64 0, .int .i64 0, .string ⟨#[]⟩, .int .i64 0, .slice none 0 0, .slice none 0 0, .slice none 0 0, .bool false, .slice none 0 0, .slice none 0 0, .int .i64 0]) := Lib.hid fun W hW => HB27.out.1.only hW (fun j hj => hj.elim (fun e => by rw [e]; exact HGV.out.1) (fun e => HGV.out.2 j e))
           have HS0 : Hid (∀ L, (TillOne (fun W => Only (fun k => k = gO ∨ (Value.slice Ae le ke).ownBlock = some k) wb W) (fun W => W.cell? ⟨gO, 5, none⟩ = some (.slice Ae le ke)) 10) L wb.drew) := Lib.hid fun L => TillOne.mk (Only.refl _ wb).drew (HB27.out.2.1.drew.cell 5)
           have HQ0 : Hid (∀ W, Ahead (TillOne (fun W => Only (fun k => k = gO ∨ (Value.slice Ae le ke).ownBlock = some k) wb W) (fun W => W.cell? ⟨gO, 5, none⟩ = some (.slice Ae le ke)) 10) 10 W → W.cell? ⟨gO, 5, none⟩ = some (.slice Ae le ke)) := Lib.hid fun W hW => (TillOne.get hW).2
           have HQ1 : Hid (∀ W, Ahead (TillOne (fun W => Only (fun k => k = gO ∨ (Value.slice Ae le ke).ownBlock = some k) wb W) (fun W => W.cell? ⟨gO, 5, none⟩ = some (.slice Ae le ke)) 10) 10 W → W.cell? ⟨b + 1, 5, none⟩ = some (.slice (some ad) nE cE)) := Lib.hid fun W hW => ((HON.out W (TillOne.get hW).1).m.cell 5).trans HMC.out.2.2.2.2.1
           have HQ2 : Hid (∀ W, Ahead (TillOne (fun W => Only (fun k => k = gO ∨ (Value.slice Ae le ke).ownBlock = some k) wb W) (fun W => W.cell? ⟨gO, 5, none⟩ = some (.slice Ae le ke)) 10) 10 W → W.cell? (ad.add (i * 2)) = some (.int .i64 x.id)) := Lib.hid fun W hW => (HF0.out W ((HON.out W (TillOne.get hW).1).low.mono HN0.out)).1
           have HQ3 : Hid (∀ W, Ahead (TillOne (fun W => Only (fun k => k = gO ∨ (Value.slice Ae le ke).ownBlock = some k) wb W) (fun W => W.cell? ⟨gO, 5, none⟩ = some (.slice Ae le ke)) 10) 10 W → W.cell? ⟨(ad.add (i * 2)).block, (ad.add (i * 2)).off + 1, none⟩ = some (.string x.uri)) := Lib.hid fun W hW => (HF0.out W ((HON.out W (TillOne.get hW).1).low.mono HN0.out)).2
           have HNA : Hid (Own (wb.drew.alloc (.cells #[.int .i64 x.id, .string x.uri] 49)) (b + 5) 49 2 (.slice Ae le ke) (((m.exts.take i).filter (fun x => inT c.exts x.uri)).map ecell) ∧ Whole (wb.drew.alloc (.cells #[.int .i64 x.id, .string x.uri] 49)) wb.drew.heap.size 49 #[.int .i64 x.id, .string x.uri] ∧ b + 5 ≤ (wb.drew.alloc (.cells #[.int .i64 x.id, .string x.uri] 49)).heap.size ∧ Whole (wb.drew.alloc (.cells #[.int .i64 x.id, .string x.uri] 49)) gO 44 #[.int .i64 mk, .int .i64 9, .string mi, .int .i64 dd, .slice Av lv kv, .slice Ae le ke, .slice none 0 0, .bool false, .slice none 0 0, .slice none 0 0, .int .i64 ms]) := Lib.hid
            ⟨HB27.out.2.2.1.drew.alloc _, Whole.new _ _ _, by rw [World.size_alloc]; have := HB27.out.1.le; show b + 5 ≤ wb.heap.size + 1; omega, HB27.out.2.1.drew.alloc _⟩
           have hle1 : le + 1 ≤ 5864062014634 := by have := HLE.out.2; omega
           go_upto_region 27 with fail
           refine wp_region_late (TillOne (fun W => Only (fun k => k = gO ∨ (Value.slice Ae le ke).ownBlock = some k) wb W) (fun W => W.cell? ⟨gO, 5, none⟩ = some (.slice Ae le ke)) 10) (by as_aux_lemma => kernel_rfl) ?_
           change wpLate Tryz.prog .any _ _ _ 11 #[false, false, false, false, false, false, false, false, false, false, false] _ _
           refine wpLate.take (i := 0) (q := 10) (oi := _) (v := ?_) rfl (by as_aux_lemma => kernel_rfl) (by as_aux_lemma => kernel_rfl) (by as_aux_lemma => kernel_rfl) (by as_aux_lemma => kernel_rfl) (by rfl) (fun _ _ _ h => h) (TillOne.set (by decide)) (HS0.out _) (Or.inl ⟨by rfl, ?_⟩) ?_
           case refine_2 => intro W hw; have e0 := HQ0.out W hw; have e1 := HQ1.out W hw; have e2 := HQ2.out W hw; have e3 := HQ3.out W hw; clear hw; go_simp; (try with_reducible rfl)
           simp only [Act.put, List.setIfInBounds_toArray, List.set_cons_succ, List.set_cons_zero]
           refine wpLate.take (i := 1) (q := 10) (oi := _) (v := ?_) rfl (by as_aux_lemma => kernel_rfl) (by as_aux_lemma => kernel_rfl) (by as_aux_lemma => kernel_rfl) (by as_aux_lemma => kernel_rfl) (by rfl) (fun _ _ _ h => h) (TillOne.set (by decide)) (HS0.out _) (Or.inl ⟨by rfl, ?_⟩) ?_
           case refine_2 => intro W hw; have e0 := HQ0.out W hw; have e1 := HQ1.out W hw; have e2 := HQ2.out W hw; have e3 := HQ3.out W hw; clear hw; go_simp; (try with_reducible rfl)
           simp only [Act.put, List.setIfInBounds_toArray, List.set_cons_succ, List.set_cons_zero]
           refine wpLate.take (i := 2) (q := 10) (oi := _) (v := ?_) rfl (by as_aux_lemma => kernel_rfl) (by as_aux_lemma => kernel_rfl) (by as_aux_lemma => kernel_rfl) (by as_aux_lemma => kernel_rfl) (by rfl) (fun _ _ _ h => h) (TillOne.set (by decide)) (HS0.out _) (Or.inl ⟨by rfl, ?_⟩) ?_
           case refine_2 => intro W hw; have e0 := HQ0.out W hw; have e1 := HQ1.out W hw; have e2 := HQ2.out W hw; have e3 := HQ3.out W hw; clear hw; go_simp; (try with_reducible rfl)
           simp only [Act.put, List.setIfInBounds_toArray, List.set_cons_succ, List.set_cons_zero]
           refine wpLate.take (i := 3) (q := 10) (oi := _) (v := ?_) rfl (by as_aux_lemma => kernel_rfl) (by as_aux_lemma => kernel_rfl) (by as_aux_lemma => kernel_rfl) (by as_aux_lemma => kernel_rfl) (by rfl) (fun _ _ _ h => h) (TillOne.set (by decide)) (HS0.out _) (Or.inl ⟨by rfl, ?_⟩) ?_
           case refine_2 => intro W hw; have e0 := HQ0.out W hw; have e1 := HQ1.out W hw; have e2 := HQ2.out W hw; have e3 := HQ3.out W hw; clear hw; go_simp; (try with_reducible rfl)
           simp only [Act.put, List.setIfInBounds_toArray, List.set_cons_succ, List.set_cons_zero]
           refine wpLate.take (i := 4) (q := 10) (oi := _) (v := ?_) rfl (by as_aux_lemma => kernel_rfl) (by as_aux_lemma => kernel_rfl) (by as_aux_lemma => kernel_rfl) (by as_aux_lemma => kernel_rfl) (by rfl) (fun _ _ _ h => h) (TillOne.set (by decide)) (HS0.out _) (Or.inl ⟨by rfl, ?_⟩) ?_
           case refine_2 => intro W hw; have e0 := HQ0.out W hw; have e1 := HQ1.out W hw; have e2 := HQ2.out W hw; have e3 := HQ3.out W hw; clear hw; go_simp; (try with_reducible rfl)
           simp only [Act.put, List.setIfInBounds_toArray, List.set_cons_succ, List.set_cons_zero]
           refine wpLate.take (i := 5) (q := 10) (oi := _) (v := ?_) rfl (by as_aux_lemma => kernel_rfl) (by as_aux_lemma => kernel_rfl) (by as_aux_lemma => kernel_rfl) (by as_aux_lemma => kernel_rfl) (by rfl) (fun _ _ _ h => h) (TillOne.set (by decide)) (HS0.out _) (Or.inl ⟨by rfl, ?_⟩) ?_
           case refine_2 => intro W hw; have e0 := HQ0.out W hw; have e1 := HQ1.out W hw; have e2 := HQ2.out W hw; have e3 := HQ3.out W hw; clear hw; go_simp; (try with_reducible rfl)
           simp only [Act.put, List.setIfInBounds_toArray, List.set_cons_succ, List.set_cons_zero]
           refine wpLate.take (i := 6) (q := 10) (oi := _) (v := ?_) rfl (by as_aux_lemma => kernel_rfl) (by as_aux_lemma => kernel_rfl) (by as_aux_lemma => kernel_rfl) (by as_aux_lemma => kernel_rfl) (by rfl) (fun _ _ _ h => h) (TillOne.set (by decide)) (HS0.out _) (Or.inl ⟨by rfl, ?_⟩) ?_
           case refine_2 => intro W hw; have e0 := HQ0.out W hw; have e1 := HQ1.out W hw; have e2 := HQ2.out W hw; have e3 := HQ3.out W hw; clear hw; go_simp; (try with_reducible rfl)
           simp only [Act.put, List.setIfInBounds_toArray, List.set_cons_succ, List.set_cons_zero]
           refine wpLate.ready (rs := [7]) (by as_aux_lemma => kernel_rfl) (by simp) (eachLate.cons rfl (fun K hK => ?_) eachLate.nil)
           have HT5 : Hid (∀ L, (TillOne (fun W => Only (fun k => k = gO ∨ (Value.slice Ae le ke).ownBlock = some k) wb W) (fun W => W.cell? ⟨gO, 5, none⟩ = some (.slice Ae le ke)) 10) L (wb.drew.alloc (.cells #[.int .i64 x.id, .string x.uri] 49))) := Lib.hid fun L => TillOne.mk ((Only.refl _ wb).drew.alloc _) ((HB27.out.2.1.drew.alloc _).cell 5)
           go_simp
           refine hK.out _ _ (HT5.out _) ?_
           clear hK K
           try simp only [Act.put]
           refine wpLate.ready (rs := [8]) (by as_aux_lemma => kernel_rfl) (by simp) (eachLate.cons rfl (fun K hK => ?_) eachLate.nil)
           refine step_of rfl (wp_appendE (base := b + 5) (r := [.int .i64 x.id, .string x.uri]) (.tmp 116) (.tmp 122) rfl Tryz.underlying40 infoExt9 rfl (Nat.zero_lt_succ _) rfl HNA.out.1 rfl HNA.out.2.1 rfl (fun u hu => by simp at hu; rcases hu with rfl | rfl <;> rfl) (by rw [HLE.out.1]; omega) (by rw [HLE.out.1]; omega) HNA.out.2.2.1 ?_)
           intro v8 w8 ho8 hg8 hn8
           obtain ⟨A8, k8, hv8, -⟩ := Own.form ho8
           generalize List.length _ = l8 at hv8
           subst hv8
           have H8 : Hid (Own w8 (b + 5) 49 2 (.slice A8 l8 k8) ((((m.exts.take i).filter (fun x => inT c.exts x.uri)).map ecell) ++ [[.int .i64 x.id, .string x.uri]]) ∧ ((Value.slice A8 l8 k8).ownBlock = (Value.slice Ae le ke).ownBlock ∨ (Value.slice A8 l8 k8).ownBlock = some (wb.drew.alloc (.cells #[.int .i64 x.id, .string x.uri] 49)).heap.size) ∧ Whole w8 gO 44 #[.int .i64 mk, .int .i64 9, .string mi, .int .i64 dd, .slice Av lv kv, .slice Ae le ke, .slice none 0 0, .bool false, .slice none 0 0, .slice none 0 0, .int .i64 ms] ∧ Only (fun k => k = gO ∨ (Value.slice Ae le ke).ownBlock = some k) wb w8) := Lib.hid ⟨ho8, hn8, HNA.out.2.2.2.grown hg8 (fun e => (HNA.out.1.apart HNA.out.2.2.2 (by decide)) e.symm), ((Only.refl _ wb).drew.alloc (.cells #[.int .i64 x.id, .string x.uri] 49)).grown hg8 (fun k hk => .inl (.inr hk))⟩
           have c8 : w8.cell? ⟨gO, 5, none⟩ = some (.slice Ae le ke) := H8.out.2.2.1.cell 5
           have f8 := H8.out.2.2.1.frz 5
           have HT8 : Hid (∀ L, (TillOne (fun W => Only (fun k => k = gO ∨ (Value.slice Ae le ke).ownBlock = some k) wb W) (fun W => W.cell? ⟨gO, 5, none⟩ = some (.slice Ae le ke)) 10) L w8) := Lib.hid fun L => TillOne.mk H8.out.2.2.2 c8
           have HS9 : Hid (∀ L, L.getD 10 true = true → (TillOne (fun W => Only (fun k => k = gO ∨ (Value.slice Ae le ke).ownBlock = some k) wb W) (fun W => W.cell? ⟨gO, 5, none⟩ = some (.slice Ae le ke)) 10) L (w8.setCell ⟨gO, 5, none⟩ (.slice A8 l8 k8))) := Lib.hid fun L hL => TillOne.past (H8.out.2.2.2.setCell (p := ⟨gO, 5, none⟩) (.inl (.inl rfl)) _) hL
           clear ho8 hg8 hn8
           refine hK.out _ _ (HT8.out _) ?_
           clear hK K
           try simp only [Act.put]
           refine wpLate.take (i := 9) (q := 10) (oi := _) (v := ?_) rfl (by as_aux_lemma => kernel_rfl) (by as_aux_lemma => kernel_rfl) (by as_aux_lemma => kernel_rfl) (by as_aux_lemma => kernel_rfl) (by rfl) (fun _ _ _ h => h) (TillOne.set (by decide)) (HT8.out _) (Or.inl ⟨by rfl, ?_⟩) ?_
           case refine_2 => intro W hw; have e0 := HQ0.out W hw; have e1 := HQ1.out W hw; have e2 := HQ2.out W hw; have e3 := HQ3.out W hw; clear hw; go_simp; (try with_reducible rfl)
           simp only [Act.put, List.setIfInBounds_toArray, List.set_cons_succ, List.set_cons_zero]
           refine wpLate.ready (rs := [10]) (by as_aux_lemma => kernel_rfl) (by simp) (eachLate.cons rfl (fun K hK => ?_) eachLate.nil)
           go_simp
           refine hK.out _ _ (HS9.out _ rfl) ?_
           clear hK K
           try simp only [Act.put]
           refine wpLate.done (by as_aux_lemma => kernel_rfl) ?_ _
           have HU : Hid (Only (fun k => k = gO ∨ (Value.slice Ae le ke).ownBlock = some k) wb (w8.setCell ⟨gO, 5, none⟩ (.slice A8 l8 k8))) := Lib.hid (H8.out.2.2.2.setCell (p := ⟨gO, 5, none⟩) (.inl (.inl rfl)) _)
           have HN8 : Hid ((Value.slice A8 l8 k8).ownBlock = (Value.slice Ae le ke).ownBlock ∨ ∃ g, (Value.slice A8 l8 k8).ownBlock = some g ∧ wb.heap.size ≤ g) := Lib.hid (H8.out.2.1.imp id fun e => ⟨_, e, by rw [World.size_alloc]; show wb.heap.size ≤ wb.heap.size + 1; omega⟩)
           go_wp2
           go_roundw
           case rel =>
            refine ⟨i + 1, .slice A8 l8 k8, by omega, by go_num, HON.out _ HU.out, H8.out.2.2.1.set 5 _, ?_, HB27.out.2.2.2.step HU.out (fun j hj => .inl (.inr hj)) (fun j hj => ?_)⟩
            · rw [HNS.out, List.map_append]
              exact Own.far (p := ⟨gO, 5, none⟩) H8.out.1 (H8.out.1.apart H8.out.2.2.1 (by decide)) _
            · rcases hj with hj | hj | hj
              · exact .inl (.inl hj)
              · exact .inl (.inr (.inl hj))
              · rcases HN8.out with e | ⟨g, e, hg⟩
                · exact .inl (.inr (.inr (by rw [← e]; exact hj)))
                · rw [e] at hj
                  obtain rfl := Option.some.inj hj
                  exact .inr hg
           case measure => simp [intOf]; omega
         | false =>
           have hp : ¬ (0 : Int) ≤ placeT c.exts x.uri := by have := place_out hin; omega
           rw [hin, if_neg (by decide), List.append_nil] at HNS
           clear hin hx
           generalize placeT c.exts x.uri = pl at *
           go_upto_region 26 with fail
           go_quiet ((go_at_call 13; exact Calls.quiet_of_same (HIN.out _)))
           go_wp2
           go_roundw
           case rel => exact ⟨i + 1, .slice Ae le ke, by omega, by go_num, HT.out.1.under (below_drewN' (Below.refl _ _) _), HT.out.2.1.drewN _, by rw [HNS.out]; exact HT.out.2.2.1.drewN _, HT.out.2.2.2.under (below_drewN' (Below.refl _ _) _)⟩
           case measure => simp [intOf]; omega
       · obtain rfl : i = nE := by omega
         have HEH : Hid (Held wr (fun k => (N ≤ k ∧ k < b + 5) ∨ k = gO ∨ (Value.slice none 0 0).ownBlock = some k) (fun W => CodecsV W W.heap.size (.slice Av lv kv) (commonC c m.codecs) ∧ ExtsV W W.heap.size (.slice Ae le ke) (m.exts.filter (fun x => inT c.exts x.uri)))) := Lib.hid fun W hW => by
          have hT : ∀ k, ((N ≤ k ∧ k < b + 5) ∨ k = gO ∨ (Value.slice none 0 0).ownBlock = some k) → ((N ≤ k ∧ k < b + 5) ∨ k = gO ∨ (Value.slice Ae le ke).ownBlock = some k) := fun k hk => hk.imp id fun e => e.elim .inl fun e => by cases e
          refine ⟨HT.out.2.2.2 W (hW.mono hT), ?_⟩
          have ho := HT.out.2.2.1.keep (w' := W) fun g cs' hg hw => hw.only hW (fun e => by
           rcases e with e | e | e
           · have := (HT.out.2.2.1.lt hg).1; omega
           · exact HT.out.2.2.1.apart HT.out.2.1 (by decide) (by rw [hg, e])
           · cases e)
          have htk : m.exts.take i = m.exts := List.take_of_length_le (by rw [HL.out.2.1]; exact Nat.le_refl _)
          rw [htk] at ho
          exact Own.rows ho (Nat.le_refl _) (by simp) fun j r x f hr hx hf => by
           rw [List.getElem?_map, hx] at hr
           obtain rfl := Option.some.inj hr
           exact ⟨hf 0 (by decide), hf 1 (by decide)⟩
         have HT1 : Hid (Fix w wr b D M K Y #[.int .i64 0, .int .i64 0, .string ⟨#[]⟩, .int .i64 0, .slice none 0 0, .slice none 0 0, .slice none 0 0, .bool false, .slice none 0 0, .slice none 0 0, .int .i64 0] ∧ Whole wr gO 44 #[.int .i64 mk, .int .i64 9, .string mi, .int .i64 dd, .slice Av lv kv, .slice Ae le ke, .slice none 0 0, .bool false, .slice none 0 0, .slice none 0 0, .int .i64 ms]) := Lib.hid ⟨HT.out.1, HT.out.2.1⟩
         have p7 : wr.cell? ⟨b + 1, 7, none⟩ = some (.bool m.sending) := (HT.out.1.m.cell 7).trans HMC.out.2.2.2.2.2.2.1
         have p6 : wr.cell? ⟨b + 1, 6, none⟩ = some (.slice AR nR cR) := (HT.out.1.m.cell 6).trans HMC.out.2.2.2.2.2.1
         have o6 : wr.cell? ⟨gO, 6, none⟩ = some (.slice none 0 0) := HT.out.2.1.cell 6
         have g6 := HT.out.2.1.frz 6
         clear HT HLW HLE
         obtain ⟨sd, hsd⟩ : ∃ s, m.sending = s := ⟨_, rfl⟩
         rw [hsd] at p7
         have HSD := Lib.hid hsd
         clear hsd
         go_upto_if 127 with fail
         go_cut [] (fun wc => ∃ (Ar : Option Addr) (lr kr : Nat), Fix w wc b D M K Y #[.int .i64 0, .int .i64 0, .string ⟨#[]⟩, .int .i64 0, .slice none 0 0, .slice none 0 0, .slice none 0 0, .bool false, .slice none 0 0, .slice none 0 0, .int .i64 0] ∧ Whole wc gO 44 #[.int .i64 mk, .int .i64 9, .string mi, .int .i64 dd, .slice Av lv kv, .slice Ae le ke, .slice Ar lr kr, .bool false, .slice none 0 0, .slice none 0 0, .int .i64 ms] ∧ Held wc (fun k => (N ≤ k ∧ k < b + 5) ∨ k = gO ∨ (Value.slice none 0 0).ownBlock = some k) (fun W => CodecsV W W.heap.size (.slice Av lv kv) (commonC c m.codecs) ∧ ExtsV W W.heap.size (.slice Ae le ke) (m.exts.filter (fun x => inT c.exts x.uri))) ∧ TextsV w N (.slice Ar lr kr) (if sd = true then m.rids else []))
         case first =>
          cases sd with
          | true =>
            have HX : Hid (Fix w (wr.setCell ⟨gO, 6, none⟩ (.slice AR nR cR)) b D M K Y #[.int .i64 0, .int .i64 0, .string ⟨#[]⟩, .int .i64 0, .slice none 0 0, .slice none 0 0, .slice none 0 0, .bool false, .slice none 0 0, .slice none 0 0, .int .i64 0] ∧ Whole (wr.setCell ⟨gO, 6, none⟩ (.slice AR nR cR)) gO 44 #[.int .i64 mk, .int .i64 9, .string mi, .int .i64 dd, .slice Av lv kv, .slice Ae le ke, .slice AR nR cR, .bool false, .slice none 0 0, .slice none 0 0, .int .i64 ms] ∧ Held (wr.setCell ⟨gO, 6, none⟩ (.slice AR nR cR)) (fun k => (N ≤ k ∧ k < b + 5) ∨ k = gO ∨ (Value.slice none 0 0).ownBlock = some k) (fun W => CodecsV W W.heap.size (.slice Av lv kv) (commonC c m.codecs) ∧ ExtsV W W.heap.size (.slice Ae le ke) (m.exts.filter (fun x => inT c.exts x.uri)))) := Lib.hid (by
             have hu := (Only.refl (fun k => k = gO) wr).setCell (p := ⟨gO, 6, none⟩) (.inl rfl) (.slice AR nR cR)
             exact ⟨HT1.out.1.only hu (fun j hj => by have h1 : j = gO := hj; have := H4.out.2.2; omega), HT1.out.2.set 6 _, HEH.out.step hu (fun j hj => .inl (.inr (.inl hj))) (fun j hj => .inl hj)⟩)
            go_wp2
            go_meet
            exact ⟨AR, nR, cR, HX.out.1, HX.out.2.1, HX.out.2.2, HV.out.2.1.rids⟩
          | false =>
            go_wp2
            go_meet
            exact ⟨none, 0, 0, HT1.out.1, HT1.out.2, HEH.out, Rows.nil _ _ _ _⟩
         case rest =>
         obtain ⟨Ar, lr, kr, hc1, hc2, hc3, hc4⟩ := hcut
         generalize wc = wd at *
         have HD1 := Lib.hid (And.intro hc1 (And.intro hc2 hc3))
         have HRD := Lib.hid hc4
         clear hc1 hc2 hc3 hc4 p6 p7 o6 g6 HEH HT1
         have p9 : wd.cell? ⟨b + 1, 9, none⟩ = some (.slice AY nY cY) := (HD1.out.1.m.cell 9).trans HMC.out.2.2.2.2.2.2.2.1
         go_wp2
         clear p9
         go_loopw [134] (fun s134 wr => ∃ (i : Nat) (vY : Value), i ≤ nY ∧ s134 = .int .i64 (i : Int) ∧ (Fix w wr b D M K Y #[.int .i64 0, .int .i64 0, .string ⟨#[]⟩, .int .i64 0, .slice none 0 0, .slice none 0 0, .slice none 0 0, .bool false, .slice none 0 0, .slice none 0 0, .int .i64 0] ∧ Whole wr gO 44 #[.int .i64 mk, .int .i64 9, .string mi, .int .i64 dd, .slice Av lv kv, .slice Ae le ke, .slice Ar lr kr, .bool false, .slice none 0 0, vY, .int .i64 ms] ∧ Own wr (b + 5) 51 31 vY (((m.crypto.take i).map (fun y => (⟨y.tag, key⟩ : CryptoS))).map cryC) ∧ Held wr (fun k => (N ≤ k ∧ k < b + 5) ∨ k = gO ∨ vY.ownBlock = some k) (fun W => CodecsV W W.heap.size (.slice Av lv kv) (commonC c m.codecs) ∧ ExtsV W W.heap.size (.slice Ae le ke) (m.exts.filter (fun x => inT c.exts x.uri))))) (fun s134 _ => nY - (intOf s134).toNat)
         case atStart => exact ⟨0, _, Nat.zero_le _, rfl, HD1.out.1, HD1.out.2.1, Own.nil _ _ _ _, HD1.out.2.2⟩
         case round =>
          obtain ⟨i, vY, hi, rfl, hst⟩ := hrel
          have HT := Lib.hid hst
          clear hst
          obtain ⟨Ak, kk, hve, -⟩ := Own.form HT.out.2.2.1
          obtain ⟨lk, hle⟩ : ∃ l, (((m.crypto.take i).map (fun y => (⟨y.tag, key⟩ : CryptoS))).map cryC).length = l := ⟨_, rfl⟩
          rw [hle] at hve
          subst hve
          have HLE : Hid ((((m.crypto.take i).map (fun y => (⟨y.tag, key⟩ : CryptoS))).map cryC).length = lk ∧ lk ≤ i) := Lib.hid ⟨hle, by
           rw [← hle, List.length_map, List.length_map, List.length_take]
           omega⟩
          clear hle
          by_cases hlt : i < nY
          · obtain ⟨ad, c', e1, had, -, -⟩ := (HV.out.2.1.crypto.below (HT.out.1.low.mono HN0.out)).at_ (i := i) (by rw [HL.out.2.2.2.1]; exact hlt)
            injection e1 with e1 e1n e1c
            clear e1n e1c
            subst e1
            obtain ⟨x, hx⟩ : ∃ s, m.crypto.getD i default = s := ⟨_, rfl⟩
            have hxi : m.crypto[i]? = some x := by rw [← hx]; exact getD_of (by rw [HL.out.2.2.2.1]; exact hlt)
            have HNS : Hid (((m.crypto.take (i + 1)).map (fun y => (⟨y.tag, key⟩ : CryptoS))) = ((m.crypto.take i).map (fun y => (⟨y.tag, key⟩ : CryptoS))) ++ [⟨x.tag, key⟩]) := Lib.hid (by
             rw [List.take_add_one, hxi, List.map_append]
             rfl)
            have HF0 : Hid (∀ W, Below N w W → W.cell? (ad.add (i * 31)) = some (.int .i64 x.tag)) := Lib.hid fun W hW => by
             obtain ⟨ad', c2, e2, -, -, g0⟩ := (HV.out.2.1.crypto.below hW).at_ (i := i) (by rw [HL.out.2.2.2.1]; exact hlt)
             injection e2 with e2 _ _
             obtain rfl := Option.some.inj e2
             rw [hx] at g0
             exact g0 0 (.int .i64 x.tag) rfl
            have hbd : ∀ W, (Instr.build 51 #[(0, .int .i64 x.tag), (1, .agg (keyC key).toArray)]).run Tryz.prog W = .ok (.agg (cryC ⟨x.tag, key⟩).toArray) W := build_cry9 x.tag key HKL.out
            have hsl : ∀ W : World, (Instr.buildSlice 42 1 #[(0, .agg (cryC ⟨x.tag, key⟩).toArray)]).run Tryz.prog W = .ok (.slice (some ⟨W.heap.size, 0, none⟩) 1 1) (W.alloc (.cells (cryC ⟨x.tag, key⟩).toArray 51)) := slice_cry9 x.tag key HKL.out
            have HCL := Lib.hid (cryC_len (c := ⟨x.tag, key⟩) HKL.out)
            have HCO : Hid (∀ u ∈ cryC (⟨x.tag, key⟩ : CryptoS), u.oneCell' = true) := Lib.hid fun u hu => List.all_eq_true.1 (cryC_one _) u hu
            obtain ⟨CX, hCX⟩ : ∃ C, (cryC (⟨x.tag, key⟩ : CryptoS)).toArray = C := ⟨_, rfl⟩
            have HCX := Lib.hid hCX
            simp only [hCX, HYE.out] at hbd hsl
            have hi0 : (0 : Int) ≤ (i : Int) := by omega
            have hi1 : (i : Int) < (nY : Int) := by omega
            clear had hxi hx hCX
            go_upto_region 34 with fail
            generalize wr = wb at *
            have HB34 := HT
            have HGV : Hid (b + 5 ≤ gO ∧ ∀ g, (Value.slice Ak lk kk).ownBlock = some g → b + 5 ≤ g) := Lib.hid ⟨H4.out.2.2, fun g hg => (HB34.out.2.2.1.lt hg).1⟩
            have HON : Hid (∀ W, Only (fun k => k = gO ∨ (Value.slice Ak lk kk).ownBlock = some k) wb W → Fix w W b D M K Y #[.int .i64 0, .int .i64 0, .string ⟨#[]⟩, .int .i64 0, .slice none 0 0, .slice none 0 0, .slice none 0 0, .bool false, .slice none 0 0, .slice none 0 0, .int .i64 0]) := Lib.hid fun W hW => HB34.out.1.only hW (fun j hj => hj.elim (fun e => by rw [e]; exact HGV.out.1) (fun e => HGV.out.2 j e))
            have HS0 : Hid (∀ L, (TillOne (fun W => Only (fun k => k = gO ∨ (Value.slice Ak lk kk).ownBlock = some k) wb W) (fun W => W.cell? ⟨gO, 9, none⟩ = some (.slice Ak lk kk)) 13) L wb.drew) := Lib.hid fun L => TillOne.mk (Only.refl _ wb).drew (HB34.out.2.1.drew.cell 9)
            have HQ0 : Hid (∀ W, Ahead (TillOne (fun W => Only (fun k => k = gO ∨ (Value.slice Ak lk kk).ownBlock = some k) wb W) (fun W => W.cell? ⟨gO, 9, none⟩ = some (.slice Ak lk kk)) 13) 13 W → W.cell? ⟨gO, 9, none⟩ = some (.slice Ak lk kk)) := Lib.hid fun W hW => (TillOne.get hW).2
            have HQ1 : Hid (∀ W, Ahead (TillOne (fun W => Only (fun k => k = gO ∨ (Value.slice Ak lk kk).ownBlock = some k) wb W) (fun W => W.cell? ⟨gO, 9, none⟩ = some (.slice Ak lk kk)) 13) 13 W → W.cell? ⟨b + 1, 9, none⟩ = some (.slice (some ad) nY cY)) := Lib.hid fun W hW => ((HON.out W (TillOne.get hW).1).m.cell 9).trans HMC.out.2.2.2.2.2.2.2.1
            have HQ2 : Hid (∀ W, Ahead (TillOne (fun W => Only (fun k => k = gO ∨ (Value.slice Ak lk kk).ownBlock = some k) wb W) (fun W => W.cell? ⟨gO, 9, none⟩ = some (.slice Ak lk kk)) 13) 13 W → W.cell? (ad.add (i * 31)) = some (.int .i64 x.tag)) := Lib.hid fun W hW => HF0.out W ((HON.out W (TillOne.get hW).1).low.mono HN0.out)
            have HKY : Hid (∀ W, Ahead (TillOne (fun W => Only (fun k => k = gO ∨ (Value.slice Ak lk kk).ownBlock = some k) wb W) (fun W => W.cell? ⟨gO, 9, none⟩ = some (.slice Ak lk kk)) 13) 13 W → Whole W (b + 3) 30 Y) := Lib.hid fun W hW => (HON.out W (TillOne.get hW).1).y
            have HKYS : Hid ((Tryz.prog.info? 30).map (·.size) = some Y.size) := Lib.hid (by rw [Tryz.sizeKey, ← HYE.out]; simp [keyC, HKL.out])
            have HNA : Hid (Own (wb.drew.alloc (.cells CX 51)) (b + 5) 51 31 (.slice Ak lk kk) (((m.crypto.take i).map (fun y => (⟨y.tag, key⟩ : CryptoS))).map cryC) ∧ Whole (wb.drew.alloc (.cells CX 51)) wb.drew.heap.size 51 (cryC ⟨x.tag, key⟩).toArray ∧ b + 5 ≤ (wb.drew.alloc (.cells CX 51)).heap.size ∧ Whole (wb.drew.alloc (.cells CX 51)) gO 44 #[.int .i64 mk, .int .i64 9, .string mi, .int .i64 dd, .slice Av lv kv, .slice Ae le ke, .slice Ar lr kr, .bool false, .slice none 0 0, .slice Ak lk kk, .int .i64 ms]) := Lib.hid
             ⟨HB34.out.2.2.1.drew.alloc _, by rw [HCX.out]; exact Whole.new _ _ _, by rw [World.size_alloc]; have := HB34.out.1.le; show b + 5 ≤ wb.heap.size + 1; omega, HB34.out.2.1.drew.alloc _⟩
            have hle1 : lk + 1 ≤ 3518437208780 := by have := HLE.out.2; omega
            refine wp_region_late (TillOne (fun W => Only (fun k => k = gO ∨ (Value.slice Ak lk kk).ownBlock = some k) wb W) (fun W => W.cell? ⟨gO, 9, none⟩ = some (.slice Ak lk kk)) 13) (by as_aux_lemma => kernel_rfl) ?_
            change wpLate Tryz.prog .any _ _ _ 14 #[false, false, false, false, false, false, false, false, false, false, false, false, false, false] _ _
            refine wpLate.take (i := 0) (q := 13) (oi := _) (v := ?_) rfl (by as_aux_lemma => kernel_rfl) (by as_aux_lemma => kernel_rfl) (by as_aux_lemma => kernel_rfl) (by as_aux_lemma => kernel_rfl) (by rfl) (fun _ _ _ h => h) (TillOne.set (by decide)) (HS0.out _) (Or.inl ⟨by rfl, ?_⟩) ?_
            case refine_2 => intro W hw; have e0 := HQ0.out W hw; have e1 := HQ1.out W hw; have e2 := HQ2.out W hw; clear hw; go_simp; (try with_reducible rfl)
            simp only [Act.put, List.setIfInBounds_toArray, List.set_cons_succ, List.set_cons_zero]
            refine wpLate.take (i := 1) (q := 13) (oi := _) (v := ?_) rfl (by as_aux_lemma => kernel_rfl) (by as_aux_lemma => kernel_rfl) (by as_aux_lemma => kernel_rfl) (by as_aux_lemma => kernel_rfl) (by rfl) (fun _ _ _ h => h) (TillOne.set (by decide)) (HS0.out _) (Or.inl ⟨by rfl, ?_⟩) ?_
            case refine_2 => intro W hw; have e0 := HQ0.out W hw; have e1 := HQ1.out W hw; have e2 := HQ2.out W hw; clear hw; go_simp; (try with_reducible rfl)
            simp only [Act.put, List.setIfInBounds_toArray, List.set_cons_succ, List.set_cons_zero]
            refine wpLate.take (i := 2) (q := 13) (oi := _) (v := ?_) rfl (by as_aux_lemma => kernel_rfl) (by as_aux_lemma => kernel_rfl) (by as_aux_lemma => kernel_rfl) (by as_aux_lemma => kernel_rfl) (by rfl) (fun _ _ _ h => h) (TillOne.set (by decide)) (HS0.out _) (Or.inl ⟨by rfl, ?_⟩) ?_
            case refine_2 => intro W hw; have e0 := HQ0.out W hw; have e1 := HQ1.out W hw; have e2 := HQ2.out W hw; clear hw; go_simp; (try with_reducible rfl)
            simp only [Act.put, List.setIfInBounds_toArray, List.set_cons_succ, List.set_cons_zero]
            refine wpLate.take (i := 3) (q := 13) (oi := _) (v := ?_) rfl (by as_aux_lemma => kernel_rfl) (by as_aux_lemma => kernel_rfl) (by as_aux_lemma => kernel_rfl) (by as_aux_lemma => kernel_rfl) (by rfl) (fun _ _ _ h => h) (TillOne.set (by decide)) (HS0.out _) (Or.inl ⟨by rfl, ?_⟩) ?_
            case refine_2 => intro W hw; have e0 := HQ0.out W hw; have e1 := HQ1.out W hw; have e2 := HQ2.out W hw; clear hw; go_simp; (try with_reducible rfl)
            simp only [Act.put, List.setIfInBounds_toArray, List.set_cons_succ, List.set_cons_zero]
            refine wpLate.take (i := 4) (q := 13) (oi := _) (v := ?_) rfl (by as_aux_lemma => kernel_rfl) (by as_aux_lemma => kernel_rfl) (by as_aux_lemma => kernel_rfl) (by as_aux_lemma => kernel_rfl) (by rfl) (fun _ _ _ h => h) (TillOne.set (by decide)) (HS0.out _) (Or.inl ⟨by rfl, ?_⟩) ?_
            case refine_2 => intro W hw; have e0 := HQ0.out W hw; have e1 := HQ1.out W hw; have e2 := HQ2.out W hw; clear hw; go_simp; (try with_reducible rfl)
            simp only [Act.put, List.setIfInBounds_toArray, List.set_cons_succ, List.set_cons_zero]
            refine wpLate.take (i := 5) (q := 13) (oi := _) (v := ?_) rfl (by as_aux_lemma => kernel_rfl) (by as_aux_lemma => kernel_rfl) (by as_aux_lemma => kernel_rfl) (by as_aux_lemma => kernel_rfl) (by rfl) (fun _ _ _ h => h) (TillOne.set (by decide)) (HS0.out _) (Or.inl ⟨by rfl, ?_⟩) ?_
            case refine_2 => intro W hw; have e0 := HQ0.out W hw; have e1 := HQ1.out W hw; have e2 := HQ2.out W hw; clear hw; go_simp; (try with_reducible rfl)
            simp only [Act.put, List.setIfInBounds_toArray, List.set_cons_succ, List.set_cons_zero]
            refine wpLate.take (i := 6) (q := 13) (oi := _) (v := ?_) rfl (by as_aux_lemma => kernel_rfl) (by as_aux_lemma => kernel_rfl) (by as_aux_lemma => kernel_rfl) (by as_aux_lemma => kernel_rfl) (by rfl) (fun _ _ _ h => h) (TillOne.set (by decide)) (HS0.out _) (Or.inl ⟨by rfl, ?_⟩) ?_
            case refine_2 => intro W hw; have e0 := HQ0.out W hw; have e1 := HQ1.out W hw; have e2 := HQ2.out W hw; clear hw; go_simp; (try with_reducible rfl)
            simp only [Act.put, List.setIfInBounds_toArray, List.set_cons_succ, List.set_cons_zero]
            refine wpLate.take (i := 7) (q := 13) (oi := _) (v := ?_) rfl (by as_aux_lemma => kernel_rfl) (by as_aux_lemma => kernel_rfl) (by as_aux_lemma => kernel_rfl) (by as_aux_lemma => kernel_rfl) (by rfl) (fun _ _ _ h => h) (TillOne.set (by decide)) (HS0.out _) (Or.inl ⟨by rfl, ?_⟩) ?_
            case refine_2 => intro W hw; have e0 := HQ0.out W hw; have e1 := HQ1.out W hw; have e2 := HQ2.out W hw; clear hw; go_simp; (try with_reducible rfl)
            simp only [Act.put, List.setIfInBounds_toArray, List.set_cons_succ, List.set_cons_zero]
            refine wpLate.take (i := 8) (q := 13) (oi := _) (v := .agg Y) rfl (by as_aux_lemma => kernel_rfl) (by as_aux_lemma => kernel_rfl) (by as_aux_lemma => kernel_rfl) (by as_aux_lemma => kernel_rfl) (by rfl) (fun _ _ _ h => h) (TillOne.set (by decide)) (HS0.out _) (Or.inl ⟨by rfl, ?hload8⟩) ?_
            case hload8 => intro W hW; exact exec_load9 (ty := 30) (x := .tmp 7) (g := b + 3) (by rfl) (by clear hW; go_simp; (try with_reducible rfl)) (HKY.out W hW) Tryz.underlying30 rfl HKYS.out
            simp only [Act.put, List.setIfInBounds_toArray, List.set_cons_succ, List.set_cons_zero]
            refine wpLate.take (i := 9) (q := 13) (oi := _) (v := ?_) rfl (by as_aux_lemma => kernel_rfl) (by as_aux_lemma => kernel_rfl) (by as_aux_lemma => kernel_rfl) (by as_aux_lemma => kernel_rfl) (by rfl) (fun _ _ _ h => h) (TillOne.set (by decide)) (HS0.out _) (Or.inl ⟨by rfl, ?_⟩) ?_
            case refine_2 => intro W hw; refine Eq.trans (exec_buildTwo9 (u1 := .int .i64 x.tag) (u2 := .agg Y) (v := .agg CX) (by rfl) (by clear hw; go_simp; (try with_reducible rfl)) (by clear hw; go_simp; (try with_reducible rfl)) (hbd W)) ?_; with_reducible rfl
            simp only [Act.put, List.setIfInBounds_toArray, List.set_cons_succ, List.set_cons_zero]
            refine wpLate.ready (rs := [10]) (by as_aux_lemma => kernel_rfl) (by simp) (eachLate.cons rfl (fun K hK => ?_) eachLate.nil)
            have HT6 : Hid (∀ L, (TillOne (fun W => Only (fun k => k = gO ∨ (Value.slice Ak lk kk).ownBlock = some k) wb W) (fun W => W.cell? ⟨gO, 9, none⟩ = some (.slice Ak lk kk)) 13) L (wb.drew.alloc (.cells CX 51))) := Lib.hid fun L => TillOne.mk ((Only.refl _ wb).drew.alloc _) ((HB34.out.2.1.drew.alloc _).cell 9)
            refine step_of rfl (wp_sliceOne9 (u := .agg CX) (by rfl) (by go_simp; (try with_reducible rfl)) (hsl wb.drew) ?_)
            refine hK.out _ _ (HT6.out _) ?_
            clear hK K
            try simp only [Act.put]
            refine wpLate.ready (rs := [11]) (by as_aux_lemma => kernel_rfl) (by simp) (eachLate.cons rfl (fun K hK => ?_) eachLate.nil)
            refine step_of rfl (wp_appendE (base := b + 5) (r := cryC ⟨x.tag, key⟩) (v := .slice Ak lk kk) (g := wb.drew.heap.size) (c := 1) (.tmp 138) (.tmp 147) rfl Tryz.underlying42 Tryz.infoCrypto9 rfl (Nat.zero_lt_succ _) (by go_simp; (try with_reducible rfl)) HNA.out.1 (by go_simp; (try with_reducible rfl)) HNA.out.2.1 HCL.out HCO.out (by rw [HLE.out.1]; omega) (by rw [HLE.out.1]; omega) HNA.out.2.2.1 ?_)
            intro v8 w8 ho8 hg8 hn8
            obtain ⟨A8, k8, hv8, -⟩ := Own.form ho8
            generalize List.length _ = l8 at hv8
            subst hv8
            have H8 : Hid (Own w8 (b + 5) 51 31 (.slice A8 l8 k8) ((((m.crypto.take i).map (fun y => (⟨y.tag, key⟩ : CryptoS))).map cryC) ++ [cryC ⟨x.tag, key⟩]) ∧ ((Value.slice A8 l8 k8).ownBlock = (Value.slice Ak lk kk).ownBlock ∨ (Value.slice A8 l8 k8).ownBlock = some (wb.drew.alloc (.cells CX 51)).heap.size) ∧ Whole w8 gO 44 #[.int .i64 mk, .int .i64 9, .string mi, .int .i64 dd, .slice Av lv kv, .slice Ae le ke, .slice Ar lr kr, .bool false, .slice none 0 0, .slice Ak lk kk, .int .i64 ms] ∧ Only (fun k => k = gO ∨ (Value.slice Ak lk kk).ownBlock = some k) wb w8) := Lib.hid ⟨ho8, hn8, HNA.out.2.2.2.grown hg8 (fun e => (HNA.out.1.apart HNA.out.2.2.2 (by decide)) e.symm), ((Only.refl _ wb).drew.alloc (.cells CX 51)).grown hg8 (fun k hk => .inl (.inr hk))⟩
            have c8 : w8.cell? ⟨gO, 9, none⟩ = some (.slice Ak lk kk) := H8.out.2.2.1.cell 9
            have f8 := H8.out.2.2.1.frz 9
            have HT8 : Hid (∀ L, (TillOne (fun W => Only (fun k => k = gO ∨ (Value.slice Ak lk kk).ownBlock = some k) wb W) (fun W => W.cell? ⟨gO, 9, none⟩ = some (.slice Ak lk kk)) 13) L w8) := Lib.hid fun L => TillOne.mk H8.out.2.2.2 c8
            have HS9 : Hid (∀ L, L.getD 13 true = true → (TillOne (fun W => Only (fun k => k = gO ∨ (Value.slice Ak lk kk).ownBlock = some k) wb W) (fun W => W.cell? ⟨gO, 9, none⟩ = some (.slice Ak lk kk)) 13) L (w8.setCell ⟨gO, 9, none⟩ (.slice A8 l8 k8))) := Lib.hid fun L hL => TillOne.past (H8.out.2.2.2.setCell (p := ⟨gO, 9, none⟩) (.inl (.inl rfl)) _) hL
            clear ho8 hg8 hn8
            refine hK.out _ _ (HT8.out _) ?_
            clear hK K
            try simp only [Act.put]
            refine wpLate.take (i := 12) (q := 13) (oi := _) (v := ?_) rfl (by as_aux_lemma => kernel_rfl) (by as_aux_lemma => kernel_rfl) (by as_aux_lemma => kernel_rfl) (by as_aux_lemma => kernel_rfl) (by rfl) (fun _ _ _ h => h) (TillOne.set (by decide)) (HT8.out _) (Or.inl ⟨by rfl, ?_⟩) ?_
            case refine_2 => intro W hw; have e0 := HQ0.out W hw; have e1 := HQ1.out W hw; have e2 := HQ2.out W hw; clear hw; go_simp; (try with_reducible rfl)
            simp only [Act.put, List.setIfInBounds_toArray, List.set_cons_succ, List.set_cons_zero]
            refine wpLate.ready (rs := [13]) (by as_aux_lemma => kernel_rfl) (by simp) (eachLate.cons rfl (fun K hK => ?_) eachLate.nil)
            go_simp
            refine hK.out _ _ (HS9.out _ rfl) ?_
            clear hK K
            try simp only [Act.put]
            refine wpLate.done (by as_aux_lemma => kernel_rfl) ?_ _
            have HU : Hid (Only (fun k => k = gO ∨ (Value.slice Ak lk kk).ownBlock = some k) wb (w8.setCell ⟨gO, 9, none⟩ (.slice A8 l8 k8))) := Lib.hid (H8.out.2.2.2.setCell (p := ⟨gO, 9, none⟩) (.inl (.inl rfl)) _)
            have HN8 : Hid ((Value.slice A8 l8 k8).ownBlock = (Value.slice Ak lk kk).ownBlock ∨ ∃ g, (Value.slice A8 l8 k8).ownBlock = some g ∧ wb.heap.size ≤ g) := Lib.hid (H8.out.2.1.imp id fun e => ⟨_, e, by rw [World.size_alloc]; show wb.heap.size ≤ wb.heap.size + 1; omega⟩)
            go_wp2
            go_roundw
            case rel =>
             refine ⟨i + 1, .slice A8 l8 k8, by omega, by go_num, HON.out _ HU.out, H8.out.2.2.1.set 9 _, ?_, HB34.out.2.2.2.step HU.out (fun j hj => .inl (.inr hj)) (fun j hj => ?_)⟩
             · rw [HNS.out, List.map_append]
               exact Own.far (p := ⟨gO, 9, none⟩) H8.out.1 (H8.out.1.apart H8.out.2.2.1 (by decide)) _
             · rcases hj with hj | hj | hj
               · exact .inl (.inl hj)
               · exact .inl (.inr (.inl hj))
               · rcases HN8.out with e | ⟨g, e, hg⟩
                 · exact .inl (.inr (.inr (by rw [← e]; exact hj)))
                 · rw [e] at hj
                   obtain rfl := Option.some.inj hj
                   exact .inr hg
            case measure => simp [intOf]; omega
          · obtain rfl : i = nY := by omega
            have HFIN : Hid (MadeO N w (mediaA d.bundle c key m) (.returned (.agg #[.int .i64 mk, .int .i64 9, .string mi, .int .i64 dd, .slice Av lv kv, .slice Ae le ke, .slice Ar lr kr, .bool false, .slice none 0 0, .slice Ak lk kk, .int .i64 ms])) (wr.setRow (b + 4) #[.int .i64 mk, .int .i64 9, .string mi, .int .i64 dd, .slice Av lv kv, .slice Ae le ke, .slice Ar lr kr, .bool false, .slice none 0 0, .slice Ak lk kk, .int .i64 ms])) := Lib.hid (by
             have e : mediaA d.bundle c key m = takeA c key m := by unfold mediaA; rw [HE.out.2.2.2.2]; rfl
             rw [e]
             have hbl : Below w.heap.size w (wr.setRow (b + 4) #[.int .i64 mk, .int .i64 9, .string mi, .int .i64 dd, .slice Av lv kv, .slice Ae le ke, .slice Ar lr kr, .bool false, .slice none 0 0, .slice Ak lk kk, .int .i64 ms]) := by rw [HB.out]; exact below_row HT.out.1.low (by omega) _
             have hN : N ≤ w.heap.size := by rw [HB.out]; exact HN0.out
             refine ⟨_, .slice Av lv kv, .slice Ae le ke, .slice Ar lr kr, .slice Ak lk kk, rfl, hbl, fun W hW => ?_⟩
             obtain ⟨h1, h2⟩ := held_low hN hbl (fun k hk => hk.1) hW
             have hrow : Only (fun k => N ≤ k ∧ k < b + 5) wr W := ((only_row wr (b + 4) #[.int .i64 mk, .int .i64 9, .string mi, .int .i64 dd, .slice Av lv kv, .slice Ae le ke, .slice Ar lr kr, .bool false, .slice none 0 0, .slice Ak lk kk, .int .i64 ms]).mono (fun k hk => by have h3 : k = b + 4 := hk; have := HN0.out; omega)).next hW (fun j hj => .inl (by rw [HB.out] at hj; omega))
             obtain ⟨hcc, hee⟩ := HT.out.2.2.2 W (hrow.mono fun k hk => .inl hk)
             have ho := HT.out.2.2.1.keep (w' := W) fun g cs' hg hw => hw.only hrow (fun e => by have := (HT.out.2.2.1.lt hg).1; omega)
             have htk : m.crypto.take i = m.crypto := List.take_of_length_le (by rw [HL.out.2.2.2.1]; exact Nat.le_refl _)
             rw [htk] at ho
             refine ⟨?_, hcc, hee, ?_, Rows.nil _ _ _ _, ?_⟩
             · rw [← HE.out.1, ← HE.out.2.1, ← HE.out.2.2.1, ← HDD.out, ← HE.out.2.2.2.1]; rfl
             · have h3 := (HRD.out.below h1).more h2
               rw [← HSD.out] at h3
               exact h3
             · show CrysV W W.heap.size (.slice Ak lk kk) (m.crypto.map fun y => (⟨y.tag, key⟩ : CryptoS))
               exact Own.rows ho (Nat.le_refl _) (by simp) fun j r y f hr hy hf => by
                rw [List.getElem?_map] at hr
                rw [hy] at hr
                obtain rfl := Option.some.inj hr
                refine ⟨?_, hf⟩
                rw [List.getElem?_map] at hy
                obtain ⟨y0, -, rfl⟩ := Option.map_eq_some_iff.1 hy
                exact HKL.out)
            have HRES : Hid (Whole (wr.setRow (b + 4) #[.int .i64 mk, .int .i64 9, .string mi, .int .i64 dd, .slice Av lv kv, .slice Ae le ke, .slice Ar lr kr, .bool false, .slice none 0 0, .slice Ak lk kk, .int .i64 ms]) (b + 4) 44 #[.int .i64 mk, .int .i64 9, .string mi, .int .i64 dd, .slice Av lv kv, .slice Ae le ke, .slice Ar lr kr, .bool false, .slice none 0 0, .slice Ak lk kk, .int .i64 ms]) := Lib.hid (HT.out.1.z.row _)
            have HO9 : Hid (Whole wr gO 44 #[.int .i64 mk, .int .i64 9, .string mi, .int .i64 dd, .slice Av lv kv, .slice Ae le ke, .slice Ar lr kr, .bool false, .slice none 0 0, .slice Ak lk kk, .int .i64 ms] ∧ Whole wr (b + 4) 44 #[.int .i64 0, .int .i64 0, .string ⟨#[]⟩, .int .i64 0, .slice none 0 0, .slice none 0 0, .slice none 0 0, .bool false, .slice none 0 0, .slice none 0 0, .int .i64 0]) := Lib.hid ⟨HT.out.2.1, HT.out.1.z⟩
            go_wp2_with (first | ((with_reducible refine wpList_load_all ?_ 44 (.tmp 9) ?_ HO9.out.1 ?_ Tryz.sizeMedia ?_ Tryz.underlying44 rfl ?_); (with_reducible rfl); (with_reducible rfl); rfl; rfl) | ((with_reducible refine wpList_storeS #[.int .i64 mk, .int .i64 9, .string mi, .int .i64 dd, .slice Av lv kv, .slice Ae le ke, .slice Ar lr kr, .bool false, .slice none 0 0, .slice Ak lk kk, .int .i64 ms] ?_ 44 (.tmp 8) (.tmp 151) ?_ ?_ ?_ HO9.out.2 Tryz.sizeMedia ?_ ?_ ?_ ?_); (with_reducible rfl); (with_reducible rfl); rfl; rfl; rfl; rfl; rfl) | ((with_reducible show bodyPost _ _ _ _ _ _); exact bodyPost_ret (ret_struct rfl rfl HRES.out Tryz.underlying44 rfl Tryz.sizeMedia rfl) rfl HFIN.out))
end Go.Proofs.YtibpnjakimobmaaGreat
