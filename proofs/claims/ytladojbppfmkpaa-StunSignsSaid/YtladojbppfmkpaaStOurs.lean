/- A message is copied into one of the other package's (theirs, ours). -/
import Derived.Test.YtladojbppfmkpaaStRow
namespace Go.Proofs.Ytladojbppfmkpaa
open Go.RowKit
set_option linter.unusedVariables false
set_option linter.unusedSimpArgs false

def zM : Array Value := mv 0 0 [0, 0, 0, 0, 0, 0, 0, 0, 0, 0, 0, 0] (.slice none 0 0)
theorem Try.zeroMsg (w : World) : (zeroValue 34).run Try.prog w = .ok (.agg zM) w := by kernel_rfl
theorem Try.zeroRMsg (w : World) : (zeroValue 25).run Try.prog w = .ok (.agg zM) w := by kernel_rfl
theorem zM_size : zM.size = 15 := rfl
theorem build_msg {T : TypeId} (hb : ∀ a0 a1 a2 a3 a4 a5 a6 a7 a8 a9 a10 a11 cl me : Int, Try.prog.built T [(0, .int .i64 cl), (1, .int .i64 me), (2, .agg (arr .u8 [a0, a1, a2, a3, a4, a5, a6, a7, a8, a9, a10, a11]))] = some (mv cl me [a0, a1, a2, a3, a4, a5, a6, a7, a8, a9, a10, a11] (.slice none 0 0))) (cl me : Int) (id : List Int) (h : id.length = 12) (w : World) :
    (Instr.build T #[(0, .int .i64 cl), (1, .int .i64 me), (2, .agg (id.map (Value.int .u8)).toArray)]).run Try.prog w = .ok (.agg (mv cl me id (.slice none 0 0))) w := by
  match id, h with
  | [a0, a1, a2, a3, a4, a5, a6, a7, a8, a9, a10, a11], _ => exact run_build w T _ _ (hb _ _ _ _ _ _ _ _ _ _ _ _ _ _)
theorem built_msg : ∀ a0 a1 a2 a3 a4 a5 a6 a7 a8 a9 a10 a11 cl me : Int, Try.prog.built 34 [(0, .int .i64 cl), (1, .int .i64 me), (2, .agg (arr .u8 [a0, a1, a2, a3, a4, a5, a6, a7, a8, a9, a10, a11]))] = some (mv cl me [a0, a1, a2, a3, a4, a5, a6, a7, a8, a9, a10, a11] (.slice none 0 0)) := by intros; kernel_rfl
theorem built_rmsg : ∀ a0 a1 a2 a3 a4 a5 a6 a7 a8 a9 a10 a11 cl me : Int, Try.prog.built 25 [(0, .int .i64 cl), (1, .int .i64 me), (2, .agg (arr .u8 [a0, a1, a2, a3, a4, a5, a6, a7, a8, a9, a10, a11]))] = some (mv cl me [a0, a1, a2, a3, a4, a5, a6, a7, a8, a9, a10, a11] (.slice none 0 0)) := by intros; kernel_rfl

theorem wpList_build3 {ops : Array Oper} {rest : List Oper} {o : Oper} {a : Act} {w : World} {Q : Exit → Act → World → Prop} (hgd : o.guard = none) (t : TypeId) (x y z : Operand) (ho : o.op = .build t #[(0, x), (1, y), (2, z)]) {u1 u2 u3 v : Value} (hx : a.eval x = u1) (hy : a.eval y = u2) (hz : a.eval z = u3)
    (hr : (Instr.build t #[(0, u1), (1, u2), (2, u3)]).run Try.prog w = .ok v w) (h : wpList Try.prog ops Q rest (a.put o.dst v) w) : wpList Try.prog ops Q (o :: rest) a w := by
  refine wpList_plain hgd fun K hK => ?_
  unfold Oper.wp execOp
  simp only [ho, Sem.run_bind, List.map_toArray, List.map_cons, List.map_nil, hx, hy, hz, hr, Result.andThen_ok, Sem.run_pure]
  exact hK _ _ h

/-- A struct's variable is handed back. -/
theorem ret_struct {fn : Func} {p : Tmp} {ty t : TypeId} {cs : Array Value} {n g : Nat} {tmps : Array Value} {w : World} (h : fn.results = #[.cell p ty]) (hp : tmps.getD p undef = .pointer (some ⟨g, 0, none⟩)) (hg : Whole w g t cs)
    {d : TypeDesc} (hu : Try.prog.underlying ty = some d) (hd : d.isRow = true) (hi : (Try.prog.info? ty).map (·.size) = some n) (hn : cs.size = n) : (results fn tmps).run Try.prog w = .ok (.agg cs) w :=
  results_cell_row h tmps w g t cs (0, 0) d hp hg hu (by cases d <;> simp_all [TypeDesc.isRow]) (by rw [hi, hn])
/-- .. and a value with it. -/
theorem ret_struct2 {fn : Func} {p s : Tmp} {ty t : TypeId} {cs : Array Value} {n g : Nat} {tmps : Array Value} {w : World} (h : fn.results = #[.cell p ty, .tmp s]) (hp : tmps.getD p undef = .pointer (some ⟨g, 0, none⟩)) (hg : Whole w g t cs)
    {d : TypeDesc} (hu : Try.prog.underlying ty = some d) (hd : d.isRow = true) (hi : (Try.prog.info? ty).map (·.size) = some n) (hn : cs.size = n) : (results fn tmps).run Try.prog w = .ok (.tuple #[.agg cs, tmps.getD s undef]) w := by
  have hp' : tmps[p]?.getD undef = .pointer (some ⟨g, 0, none⟩) := by simpa using hp
  have hl : (loadVar ty ⟨g, 0, none⟩).run Try.prog w = .ok (.agg cs) w := run_loadVar_row (P := Try.prog) w g t ty cs (0, 0) d hg hu (by cases d <;> simp_all [TypeDesc.isRow]) (by rw [hi, hn])
  simp [results, h, hp', asAddr, hl]

/-- What is known while a message is copied: its box in block N, the result's variable, the copy, the row of what is copied. -/
structure Cp (te tm t0 : TypeId) (N : Nat) (M : Array Value) (m : Msg) (w wr : World) (v : Value) (ps : List (Int × Value)) (L : List At) : Prop where
  box : Whole wr N t0 M
  res : Whole wr (N + 1) tm zM
  out : Whole wr (N + 2) tm (mv m.cl m.me m.id v)
  row : Row2 te wr (N + 3) v ps
  els : Els wr N ps L
  below : Below N w wr
section
variable {te tm t0 : TypeId} {N : Nat} {M : Array Value} {m : Msg} {w wr w' : World} {v v' : Value} {ps ps' : List (Int × Value)} {L : List At} {A : Option Addr} {c : Nat}
theorem Cp.size (h : Cp te tm t0 N M m w wr v ps L) : N + 3 ≤ wr.heap.size := h.out.lt
theorem Cp.drew (h : Cp te tm t0 N M m w wr v ps L) : Cp te tm t0 N M m w wr.drew v ps L := ⟨h.box, h.res, h.out, h.row, h.els.on (Below.refl _ _).drew (Kept8.refl _).drew, h.below.drew⟩
theorem Cp.under (h : Cp te tm t0 N M m w wr v ps L) (hb : Below wr.heap.size wr w') : Cp te tm t0 N M m w w' v ps L :=
  ⟨h.box.under hb, h.res.under hb, h.out.under hb, h.row.under hb, h.els.on (hb.mono (by have := h.size; omega)) (Kept8.under hb), h.below.trans (hb.mono (by have := h.size; omega))⟩
theorem Cp.alloc (h : Cp te tm t0 N M m w wr v ps L) (o : Obj) : Cp te tm t0 N M m w (wr.alloc o) v ps L := h.under ((Below.refl _ wr).alloc (Nat.le_refl _) o)
/-- The facts that the copying reads. -/
def Seen (N : Nat) (A : Addr) (n c k : Nat) (a : At) (A' : Option Addr) (c' : Nat) (W : World) : Prop :=
  W.cell? ⟨N, 14, none⟩ = some (.slice (some A) n c) ∧ W.cell? (A.add (k * 2)) = some (.int .u16 a.ty) ∧ W.cell? ⟨(A.add (k * 2)).block, (A.add (k * 2)).off + 1, none⟩ = some (.slice A' a.val.length c')
theorem seen_of {t : TypeId} {wr : World} {ad : Addr} {n : Nat} (hm : MsgV w N M m (some ad) c) (hg : Whole wr N t M) (hb : Below N w wr) (hn : m.at_.length = n) {k : Nat} {a : At} {A' : Option Addr} {c' : Nat} (had : ad.block < N) (x0 : w.cell? (ad.add (k * 2)) = some (.int .u16 a.ty)) (x1 : w.cell? ⟨(ad.add (k * 2)).block, (ad.add (k * 2)).off + 1, none⟩ = some (.slice A' a.val.length c')) : Seen N ad n c k a A' c' wr :=
  ⟨by rw [hm.sl hg, hn], (hb.cell (p := ad.add (k * 2)) (by rw [add_block]; exact had)).trans x0, (hb.cell (p := ⟨(ad.add (k * 2)).block, (ad.add (k * 2)).off + 1, none⟩) (by show (ad.add (k * 2)).block < N; rw [add_block]; exact had)).trans x1⟩
theorem Cp.outc (h : Cp te tm t0 N M m w wr v ps L) (h12 : m.id.length = 12) : wr.cell? ⟨N + 2, 14, none⟩ = some v := by rw [h.out.cell]; exact mv_14 _ _ _ _ h12
/-- The row has grown, and is stored. -/
theorem Cp.grow (h : Cp te tm t0 N M m w wr v ps L) (h12 : m.id.length = 12) (d1 : te ≠ t0) (d2 : te ≠ tm) (d3 : te ≠ 5) (d4 : tm ≠ 5) {a : At} {u : Value} (hr : Row2 te w' (N + 3) v' (ps ++ [(a.ty, u)])) (hg : wr.grownBy w' v.ownBlock) (hu : EV wr N u a.val) :
    Cp te tm t0 N M m w (w'.setCell ⟨N + 2, 14, none⟩ v') v' (ps ++ [(a.ty, u)]) (L ++ [a]) := by
  have hb : Below N wr w' := (Below.refl _ wr).grown hg (by have := h.size; omega) (fun k hk => by have := (h.row.lt hk).1; omega)
  have hk : Kept8 wr w' := h.row.kept d3 hg
  have b := h.box.grown hg (fun e => h.row.far h.box d1 e.symm)
  have r := h.res.grown hg (fun e => h.row.far h.res d2 e.symm)
  have o := h.out.grown hg (fun e => h.row.far h.out d2 e.symm)
  have hk2 : Kept8 w' (w'.setCell ⟨N + 2, 14, none⟩ v') := Kept8.put o d4 14 v'
  have hb2 : Below N w' (w'.setCell ⟨N + 2, 14, none⟩ v') := (Below.refl _ w').setCell (p := ⟨N + 2, 14, none⟩) (by show N ≤ N + 2; omega) _
  refine ⟨b.far (p := ⟨N + 2, 14, none⟩) (by show N ≠ N + 2; omega) _, r.far (p := ⟨N + 2, 14, none⟩) (by show N + 1 ≠ N + 2; omega) _, ?_, ?_, ?_, (h.below.trans hb).trans hb2⟩
  · have := o.set 14 v'
    rwa [mv_set _ _ _ _ _ h12] at this
  · exact hr.keep fun g cs hw => hw.far (p := ⟨N + 2, 14, none⟩) (fun e => (hw.ne o d2) e) _
  · exact ((h.els.on hb hk).on hb2 hk2).snoc ((hu.on hb hk).on hb2 hk2)
/-- What a copy is. -/
structure Copied (w w' : World) (m : Msg) (M' : Array Value) (A' : Option Addr) (c' : Nat) : Prop where
  msg : MsgV w' w'.heap.size M' m A' c'
  below : Below w.heap.size w w'
theorem Cp.copied (h : Cp te tm t0 N M m w wr (.slice A ps.length c) ps m.at_) (h12 : m.id.length = 12) (hN : w.heap.size = N) :
    Whole (wr.setRow (N + 1) (mv m.cl m.me m.id (.slice A ps.length c))) (N + 1) tm (mv m.cl m.me m.id (.slice A ps.length c)) ∧ (tm ≠ 5 → te ≠ tm → Copied w (wr.setRow (N + 1) (mv m.cl m.me m.id (.slice A ps.length c))) m (mv m.cl m.me m.id (.slice A ps.length c)) A c) := by
  refine ⟨h.res.row _, fun d1 d2 => ?_⟩
  have hs := h.size
  obtain ⟨A2, c2, e, f1, f2, f3⟩ := h.row.form
  cases e
  have hl := h.els.1
  have hb : Below N wr (wr.setRow (N + 1) (mv m.cl m.me m.id (.slice A ps.length c))) := below_row (Below.refl _ wr) (by omega) _
  have hk : Kept8 wr (wr.setRow (N + 1) (mv m.cl m.me m.id (.slice A ps.length c))) := Kept8.row h.res d1 _
  have hr : Row2 te (wr.setRow (N + 1) (mv m.cl m.me m.id (.slice A ps.length c))) (N + 3) (.slice A ps.length c) ps := h.row.keep fun g cs hw => hw.farRow (fun e => hw.ne h.res d2 e) _
  refine ⟨⟨by rw [hl], h12, by omega, f2, f3, hr.ats (h.els.on hb hk) (Nat.le_trans (by omega) hb.size)⟩, by rw [hN]; exact h.below.trans hb⟩
end

set_option maxHeartbeats 3200000 in
set_option maxRecDepth 100000 in
theorem theirs_any (M : Array Value) (m : Msg) (A : Option Addr) (c : Nat) (w : World) (h : MsgV w w.heap.size M m A c) (hs : m.at_.length ≤ 4398046511102) (hv : ∀ a ∈ m.at_, a.val.length ≤ 140737488351232) :
    Calls Try.prog 12 #[.agg M] w fun e w' => ∃ M' A' c', e = .returned (.agg M') ∧ Copied w w' m M' A' c' := by
  have hz := Try.zeroMsg
  have hbm := fun W => build_msg (T := 34) built_msg m.cl m.me m.id h.id12 W
  have HZ : Hid (zM.size = 15 ∧ zM.all (·.oneCell') = true) := Lib.hid ⟨zM_size, mv_one rfl⟩
  obtain ⟨Z, hZ⟩ : ∃ Z, zM = Z := ⟨_, rfl⟩
  have HZE := Lib.hid hZ
  simp only [hZ] at hz HZ
  clear hZ
  have hg := Whole.new w 25 M
  have h0 := h.cl hg
  have h1 := h.me hg
  have h14 := h.sl hg
  have hrg := h.id hg
  have hb0 : Below w.heap.size w (w.alloc (.cells M 25)) := (Below.refl _ w).alloc (Nat.le_refl _) _
  have HM := Lib.hid (And.intro h (And.intro hg hb0))
  have HV := Lib.hid hv
  have H12 := Lib.hid h.id12
  have hidl : (m.id.map (Value.int .u8)).length = 12 := by rw [List.length_map]; exact h.id12
  clear h hg hb0 hrg hv
  obtain ⟨cl, hcl⟩ : ∃ x, m.cl = x := ⟨_, rfl⟩
  obtain ⟨me, hme⟩ : ∃ x, m.me = x := ⟨_, rfl⟩
  obtain ⟨n, hn⟩ : ∃ x, m.at_.length = x := ⟨_, rfl⟩
  obtain ⟨ids, hids⟩ : ∃ x, (m.id.map (Value.int .u8)) = x := ⟨_, rfl⟩
  obtain ⟨M0, hM0⟩ : ∃ x, mv m.cl m.me m.id (.slice none 0 0) = x := ⟨_, rfl⟩
  have HM0 := Lib.hid (And.intro hM0 (show M0.size = 15 ∧ M0.all (·.oneCell') = true by rw [← hM0]; exact ⟨mv_size H12.out, mv_one rfl⟩))
  simp only [hM0] at hbm
  simp only [hcl, hme, hids] at hbm
  rw [hcl] at h0
  rw [hme] at h1
  rw [hn] at h14 hs
  rw [hids] at hidl
  have HID := Lib.hid (And.intro hids hidl)
  have HE := Lib.hid (And.intro hcl (And.intro hme hn))
  have HBM := Lib.hid hbm
  clear hcl hme hn hids hM0 hidl hbm
  obtain ⟨N, hN⟩ : ∃ N, w.heap.size = N := ⟨_, rfl⟩
  have HN := Lib.hid hN
  rw [hN] at h0 h1 h14 HM
  go_enter Try.func12, Try.ntmps12
  go_upto_region 1 with fail
  have a0 : Whole ((w.alloc (.cells M 25)).alloc (.cells Z 34)) N 25 M := HM.out.2.1.alloc _
  have a1 : Whole ((w.alloc (.cells M 25)).alloc (.cells Z 34)) (N + 1) 34 Z := by rw [← HN.out]; exact Whole.new2 w _ _ _
  have a2 : Below N w ((w.alloc (.cells M 25)).alloc (.cells Z 34)) := HM.out.2.2.alloc (by simp [HN.out]) _
  have a3 : ((w.alloc (.cells M 25)).alloc (.cells Z 34)).heap.size = N + 2 := by simp [HN.out]
  generalize (w.alloc (.cells M 25)).alloc (.cells Z 34) = W1 at *
  clear h0 h1 h14 hN
  have h0 := HM.out.1.cl a0
  have h1 := HM.out.1.me a0
  have h14 := HM.out.1.sl a0
  rw [HE.out.1] at h0
  rw [HE.out.2.1] at h1
  rw [HE.out.2.2] at h14
  have hrg := HM.out.1.id a0
  rw [HID.out.1] at hrg
  have HR1 := Lib.hid (And.intro hrg (And.intro a0 (And.intro a1 a2)))
  have HZ3 := Lib.hid a3
  clear hrg a0 a1 a2
  go_upto_region 2 with (first
    | (refine wpList_load_mid rfl 22 (.tmp 9) rfl N 2 rfl ids _ HR1.out.1 Try.underlying22 rfl (by rw [HID.out.2]; exact Try.sizeA12) ?_)
    | (refine wpList_build3 rfl 34 (.tmp 6) (.tmp 8) (.tmp 10) rfl (u1 := .int .i64 cl) (u2 := .int .i64 me) (u3 := .agg ids.toArray) (v := .agg M0) rfl rfl rfl (HBM.out _) ?_)
    | (refine wpList_store_whole rfl 34 (.tmp 3) (.tmp 11) rfl rfl rfl (by have := Whole.new W1 34 Z; rw [HZ3.out] at this; exact this) Try.sizeMsg HM0.out.2.1 HZ.out.1 HM0.out.2.2 ?_))
  have hst : Cp 71 34 25 N M m w ((W1.alloc (.cells Z 34)).setRow (N + 2) M0) (.slice none 0 0) [] [] := by
    have hn2 : Whole (W1.alloc (.cells Z 34)) (N + 2) 34 Z := by have := Whole.new W1 34 Z; rw [HZ3.out] at this; exact this
    refine ⟨(HR1.out.2.1.alloc _).farRow (by omega) _, ?_, ?_, Row2.nil _ _ _, Els.nil _ _, below_row (HR1.out.2.2.2.alloc (by rw [HZ3.out]; omega) _) (by omega) _⟩
    · rw [HZE.out]; exact (HR1.out.2.2.1.alloc _).farRow (by omega) _
    · rw [HM0.out.1]; exact hn2.row _
  have c14 : ((W1.alloc (.cells Z 34)).setRow (N + 2) M0).cell? ⟨N, 14, none⟩ = some (.slice A n c) := by have := HM.out.1.sl hst.box; rw [HE.out.2.2] at this; exact this
  generalize (W1.alloc (.cells Z 34)).setRow (N + 2) M0 = W2 at *
  have H2 := Lib.hid hst
  clear hst h0 h1 h14 a3
  simp only [Act.put]
  go_wp2
  go_loopw [15] (fun s15 wr => ∃ (k : Nat) (v : Value) (ps : List (Int × Value)), k ≤ n ∧ s15 = .int .i64 k ∧ Cp 71 34 25 N M m w wr v ps (m.at_.take k)) (fun s15 _ => n - (intOf s15).toNat)
  case atStart => exact ⟨0, _, _, by omega, rfl, H2.out⟩
  case round =>
    obtain ⟨k, v, ps, hk, rfl, hcp⟩ := hrel
    have hpl : ps.length = k := by rw [hcp.els.1, List.length_take, HE.out.2.2]; omega
    by_cases hlt : k < n
    · have hlt' : k < m.at_.length := by rw [HE.out.2.2]; exact hlt
      obtain ⟨ad, A', c', rfl, had, x0, x1, y0, y1, hnil, hbs⟩ := HM.out.1.ats.at_ hlt'
      have hsn := seen_of HM.out.1 hcp.box hcp.below HE.out.2.2 had x0 x1
      have hvl := HV.out _ (getD_mem hlt')
      have htk : m.at_.take (k + 1) = m.at_.take k ++ [m.at_.getD k default] := by
        rw [List.take_succ_eq_append_getElem hlt']
        simp [List.getD, hlt']
      obtain ⟨a, ha⟩ : ∃ a, m.at_.getD k default = a := ⟨_, rfl⟩
      rw [ha] at hsn hvl htk x0 x1 y0 hbs
      obtain ⟨Av, cv, rfl, -⟩ := hcp.row.form
      rw [hpl] at hcp
      have HC := Lib.hid (And.intro hcp (And.intro htk (And.intro hpl (And.intro had (And.intro x0 (And.intro x1 (And.intro y0 (And.intro y1 (And.intro hnil (And.intro hbs hvl))))))))))
      have HSN : Hid (∀ W v2 ps2 L2, Cp 71 34 25 N M m w W v2 ps2 L2 → Seen N ad n c k a A' c' W) := Lib.hid fun W v2 ps2 L2 h => seen_of HM.out.1 h.box h.below HE.out.2.2 had x0 x1
      clear hcp htk hpl x0 x1 y0 y1 hnil hbs hvl ha c14 hsn had
      go_upto_region 5 with fail
      have hb0 : (0 : Int) ≤ (k : Int) := by omega
      have hb1 : (k : Int) < (n : Int) := by omega
      have hsd := HSN.out _ _ _ _ HC.out.1.drew
      have hod := HC.out.1.drew.outc H12.out
      have HS0 : Hid (∀ L, TillOne (Seen N ad n c k a A' c') (fun W => W.cell? ⟨N + 2, 14, none⟩ = some (.slice Av k cv)) 20 L wr.drew) := Lib.hid fun L => TillOne.mk hsd hod
      have HTL : Hid (∀ W L ps2 L2, Cp 71 34 25 N M m w W (.slice Av k cv) ps2 L2 → TillOne (Seen N ad n c k a A' c') (fun W => W.cell? ⟨N + 2, 14, none⟩ = some (.slice Av k cv)) 20 L W) := Lib.hid fun W L ps2 L2 h => TillOne.mk (HSN.out _ _ _ _ h) (h.outc H12.out)
      have HG1 : Hid (∀ W, Ahead (TillOne (Seen N ad n c k a A' c') (fun W => W.cell? ⟨N + 2, 14, none⟩ = some (.slice Av k cv)) 20) 20 W → W.cell? ⟨N, 14, none⟩ = some (.slice (some ad) n c)) := Lib.hid fun W h => (TillOne.get h).1.1
      have HG2 : Hid (∀ W, Ahead (TillOne (Seen N ad n c k a A' c') (fun W => W.cell? ⟨N + 2, 14, none⟩ = some (.slice Av k cv)) 20) 20 W → W.cell? (ad.add (k * 2)) = some (.int .u16 a.ty)) := Lib.hid fun W h => (TillOne.get h).1.2.1
      have HG3 : Hid (∀ W, Ahead (TillOne (Seen N ad n c k a A' c') (fun W => W.cell? ⟨N + 2, 14, none⟩ = some (.slice Av k cv)) 20) 20 W → W.cell? ⟨(ad.add (k * 2)).block, (ad.add (k * 2)).off + 1, none⟩ = some (.slice A' a.val.length c')) := Lib.hid fun W h => (TillOne.get h).1.2.2
      have HG4 : Hid (∀ W, Ahead (TillOne (Seen N ad n c k a A' c') (fun W => W.cell? ⟨N + 2, 14, none⟩ = some (.slice Av k cv)) 20) 20 W → W.cell? ⟨N + 2, 14, none⟩ = some (.slice Av k cv)) := Lib.hid fun W h => (TillOne.get h).2
      have HTL2 : Hid (∀ W, Whole W N 25 M → Below N w W → W.cell? ⟨N + 2, 14, none⟩ = some (.slice Av k cv) → ∀ L, TillOne (Seen N ad n c k a A' c') (fun W => W.cell? ⟨N + 2, 14, none⟩ = some (.slice Av k cv)) 20 L W) := Lib.hid fun W h1 h2 h3 L => TillOne.mk (seen_of HM.out.1 h1 h2 HE.out.2.2 HC.out.2.2.2.1 HC.out.2.2.2.2.1 HC.out.2.2.2.2.2.1) h3
      refine wp_region_late (TillOne (Seen N ad n c k a A' c') (fun W => W.cell? ⟨N + 2, 14, none⟩ = some (.slice Av k cv)) 20) (by as_aux_lemma => kernel_rfl) ?_
      change wpLate Try.prog .any _ _ _ 21 #[false, false, false, false, false, false, false, false, false, false, false, false, false, false, false, false, false, false, false, false, false] _ _
      refine wpLate.take (i := 0) (q := 20) (oi := _) (v := ?_) rfl (by as_aux_lemma => kernel_rfl) (by as_aux_lemma => kernel_rfl) (by as_aux_lemma => kernel_rfl) (by as_aux_lemma => kernel_rfl) (by rfl) (fun _ _ _ h => h) (TillOne.set (by decide)) (HS0.out _) (Or.inl ⟨by rfl, ?_⟩) ?_
      case refine_2 => intro W hw; have e1 := HG1.out W hw; have e2 := HG2.out W hw; have e3 := HG3.out W hw; have e4 := HG4.out W hw; clear hw; go_simp; (try with_reducible rfl)
      simp only [Act.put, List.setIfInBounds_toArray, List.set_cons_succ, List.set_cons_zero]
      refine wpLate.take (i := 1) (q := 20) (oi := _) (v := ?_) rfl (by as_aux_lemma => kernel_rfl) (by as_aux_lemma => kernel_rfl) (by as_aux_lemma => kernel_rfl) (by as_aux_lemma => kernel_rfl) (by rfl) (fun _ _ _ h => h) (TillOne.set (by decide)) (HS0.out _) (Or.inl ⟨by rfl, ?_⟩) ?_
      case refine_2 => intro W hw; have e1 := HG1.out W hw; have e2 := HG2.out W hw; have e3 := HG3.out W hw; have e4 := HG4.out W hw; clear hw; go_simp; (try with_reducible rfl)
      simp only [Act.put, List.setIfInBounds_toArray, List.set_cons_succ, List.set_cons_zero]
      refine wpLate.take (i := 2) (q := 20) (oi := _) (v := ?_) rfl (by as_aux_lemma => kernel_rfl) (by as_aux_lemma => kernel_rfl) (by as_aux_lemma => kernel_rfl) (by as_aux_lemma => kernel_rfl) (by rfl) (fun _ _ _ h => h) (TillOne.set (by decide)) (HS0.out _) (Or.inl ⟨by rfl, ?_⟩) ?_
      case refine_2 => intro W hw; have e1 := HG1.out W hw; have e2 := HG2.out W hw; have e3 := HG3.out W hw; have e4 := HG4.out W hw; clear hw; go_simp; (try with_reducible rfl)
      simp only [Act.put, List.setIfInBounds_toArray, List.set_cons_succ, List.set_cons_zero]
      refine wpLate.take (i := 3) (q := 20) (oi := _) (v := ?_) rfl (by as_aux_lemma => kernel_rfl) (by as_aux_lemma => kernel_rfl) (by as_aux_lemma => kernel_rfl) (by as_aux_lemma => kernel_rfl) (by rfl) (fun _ _ _ h => h) (TillOne.set (by decide)) (HS0.out _) (Or.inl ⟨by rfl, ?_⟩) ?_
      case refine_2 => intro W hw; have e1 := HG1.out W hw; have e2 := HG2.out W hw; have e3 := HG3.out W hw; have e4 := HG4.out W hw; clear hw; go_simp; (try with_reducible rfl)
      simp only [Act.put, List.setIfInBounds_toArray, List.set_cons_succ, List.set_cons_zero]
      refine wpLate.take (i := 4) (q := 20) (oi := _) (v := ?_) rfl (by as_aux_lemma => kernel_rfl) (by as_aux_lemma => kernel_rfl) (by as_aux_lemma => kernel_rfl) (by as_aux_lemma => kernel_rfl) (by rfl) (fun _ _ _ h => h) (TillOne.set (by decide)) (HS0.out _) (Or.inl ⟨by rfl, ?_⟩) ?_
      case refine_2 => intro W hw; have e1 := HG1.out W hw; have e2 := HG2.out W hw; have e3 := HG3.out W hw; have e4 := HG4.out W hw; clear hw; go_simp; (try with_reducible rfl)
      simp only [Act.put, List.setIfInBounds_toArray, List.set_cons_succ, List.set_cons_zero]
      refine wpLate.take (i := 5) (q := 20) (oi := _) (v := ?_) rfl (by as_aux_lemma => kernel_rfl) (by as_aux_lemma => kernel_rfl) (by as_aux_lemma => kernel_rfl) (by as_aux_lemma => kernel_rfl) (by rfl) (fun _ _ _ h => h) (TillOne.set (by decide)) (HS0.out _) (Or.inl ⟨by rfl, ?_⟩) ?_
      case refine_2 => intro W hw; have e1 := HG1.out W hw; have e2 := HG2.out W hw; have e3 := HG3.out W hw; have e4 := HG4.out W hw; clear hw; go_simp; (try with_reducible rfl)
      simp only [Act.put, List.setIfInBounds_toArray, List.set_cons_succ, List.set_cons_zero]
      refine wpLate.take (i := 6) (q := 20) (oi := _) (v := ?_) rfl (by as_aux_lemma => kernel_rfl) (by as_aux_lemma => kernel_rfl) (by as_aux_lemma => kernel_rfl) (by as_aux_lemma => kernel_rfl) (by rfl) (fun _ _ _ h => h) (TillOne.set (by decide)) (HS0.out _) (Or.inl ⟨by rfl, ?_⟩) ?_
      case refine_2 => intro W hw; have e1 := HG1.out W hw; have e2 := HG2.out W hw; have e3 := HG3.out W hw; have e4 := HG4.out W hw; clear hw; go_simp; (try with_reducible rfl)
      simp only [Act.put, List.setIfInBounds_toArray, List.set_cons_succ, List.set_cons_zero]
      refine wpLate.take (i := 7) (q := 20) (oi := _) (v := ?_) rfl (by as_aux_lemma => kernel_rfl) (by as_aux_lemma => kernel_rfl) (by as_aux_lemma => kernel_rfl) (by as_aux_lemma => kernel_rfl) (by rfl) (fun _ _ _ h => h) (TillOne.set (by decide)) (HS0.out _) (Or.inl ⟨by rfl, ?_⟩) ?_
      case refine_2 => intro W hw; have e1 := HG1.out W hw; have e2 := HG2.out W hw; have e3 := HG3.out W hw; have e4 := HG4.out W hw; clear hw; go_simp; (try with_reducible rfl)
      simp only [Act.put, List.setIfInBounds_toArray, List.set_cons_succ, List.set_cons_zero]
      refine wpLate.take (i := 9) (q := 20) (oi := _) (v := ?_) rfl (by as_aux_lemma => kernel_rfl) (by as_aux_lemma => kernel_rfl) (by as_aux_lemma => kernel_rfl) (by as_aux_lemma => kernel_rfl) (by rfl) (fun _ _ _ h => h) (TillOne.set (by decide)) (HS0.out _) (Or.inl ⟨by rfl, ?_⟩) ?_
      case refine_2 => intro W hw; have e1 := HG1.out W hw; have e2 := HG2.out W hw; have e3 := HG3.out W hw; have e4 := HG4.out W hw; clear hw; go_simp; (try with_reducible rfl)
      simp only [Act.put, List.setIfInBounds_toArray, List.set_cons_succ, List.set_cons_zero]
      refine wpLate.take (i := 10) (q := 20) (oi := _) (v := ?_) rfl (by as_aux_lemma => kernel_rfl) (by as_aux_lemma => kernel_rfl) (by as_aux_lemma => kernel_rfl) (by as_aux_lemma => kernel_rfl) (by rfl) (fun _ _ _ h => h) (TillOne.set (by decide)) (HS0.out _) (Or.inl ⟨by rfl, ?_⟩) ?_
      case refine_2 => intro W hw; have e1 := HG1.out W hw; have e2 := HG2.out W hw; have e3 := HG3.out W hw; have e4 := HG4.out W hw; clear hw; go_simp; (try with_reducible rfl)
      simp only [Act.put, List.setIfInBounds_toArray, List.set_cons_succ, List.set_cons_zero]
      refine wpLate.take (i := 11) (q := 20) (oi := _) (v := ?_) rfl (by as_aux_lemma => kernel_rfl) (by as_aux_lemma => kernel_rfl) (by as_aux_lemma => kernel_rfl) (by as_aux_lemma => kernel_rfl) (by rfl) (fun _ _ _ h => h) (TillOne.set (by decide)) (HS0.out _) (Or.inl ⟨by rfl, ?_⟩) ?_
      case refine_2 => intro W hw; have e1 := HG1.out W hw; have e2 := HG2.out W hw; have e3 := HG3.out W hw; have e4 := HG4.out W hw; clear hw; go_simp; (try with_reducible rfl)
      simp only [Act.put, List.setIfInBounds_toArray, List.set_cons_succ, List.set_cons_zero]
      refine wpLate.take (i := 12) (q := 20) (oi := _) (v := ?_) rfl (by as_aux_lemma => kernel_rfl) (by as_aux_lemma => kernel_rfl) (by as_aux_lemma => kernel_rfl) (by as_aux_lemma => kernel_rfl) (by rfl) (fun _ _ _ h => h) (TillOne.set (by decide)) (HS0.out _) (Or.inl ⟨by rfl, ?_⟩) ?_
      case refine_2 => intro W hw; have e1 := HG1.out W hw; have e2 := HG2.out W hw; have e3 := HG3.out W hw; have e4 := HG4.out W hw; clear hw; go_simp; (try with_reducible rfl)
      simp only [Act.put, List.setIfInBounds_toArray, List.set_cons_succ, List.set_cons_zero]
      refine wpLate.take (i := 13) (q := 20) (oi := _) (v := ?_) rfl (by as_aux_lemma => kernel_rfl) (by as_aux_lemma => kernel_rfl) (by as_aux_lemma => kernel_rfl) (by as_aux_lemma => kernel_rfl) (by rfl) (fun _ _ _ h => h) (TillOne.set (by decide)) (HS0.out _) (Or.inl ⟨by rfl, ?_⟩) ?_
      case refine_2 => intro W hw; have e1 := HG1.out W hw; have e2 := HG2.out W hw; have e3 := HG3.out W hw; have e4 := HG4.out W hw; clear hw; go_simp; (try with_reducible rfl)
      simp only [Act.put, List.setIfInBounds_toArray, List.set_cons_succ, List.set_cons_zero]
      refine wpLate.take (i := 14) (q := 20) (oi := _) (v := ?_) rfl (by as_aux_lemma => kernel_rfl) (by as_aux_lemma => kernel_rfl) (by as_aux_lemma => kernel_rfl) (by as_aux_lemma => kernel_rfl) (by rfl) (fun _ _ _ h => h) (TillOne.set (by decide)) (HS0.out _) (Or.inl ⟨by rfl, ?_⟩) ?_
      case refine_2 => intro W hw; have e1 := HG1.out W hw; have e2 := HG2.out W hw; have e3 := HG3.out W hw; have e4 := HG4.out W hw; clear hw; go_simp; (try with_reducible rfl)
      simp only [Act.put, List.setIfInBounds_toArray, List.set_cons_succ, List.set_cons_zero]
      have hmade := Own8.made wr.drew (Nat.le_refl _)
      have hal : Below wr.drew.heap.size wr.drew (wr.drew.alloc (.cells #[] 5)) := (Below.refl _ _).alloc (Nat.le_refl _) _
      have hcA := HC.out.1.drew.under hal
      have hbsA := HC.out.2.2.2.2.2.2.2.2.2.1.below hcA.below
      have HA := Lib.hid (And.intro hmade (And.intro hal (And.intro hcA hbsA)))
      clear hmade hal hcA hbsA hsd hod
      refine wpLate.ready (rs := [8]) (by as_aux_lemma => kernel_rfl) (by simp) (eachLate.cons rfl (fun K hK => ?_) eachLate.nil)
      go_simp
      refine hK.out _ _ (HTL.out _ _ _ _ HA.out.2.2.1) ?_
      clear hK K
      try simp only [Act.put]
      refine wpLate.ready (rs := [15]) (by as_aux_lemma => kernel_rfl) (by simp) (eachLate.cons rfl (fun K hK => ?_) eachLate.nil)
      refine step_of rfl (wp_append8 (.tmp 26) (.tmp 32) rfl rfl HA.out.1 rfl HA.out.2.2.2 HC.out.2.2.2.2.2.2.2.2.1 (by have := HC.out.2.2.2.2.2.2.2.2.2.2; simp; omega) HA.out.2.1.size ?_)
      intro v33 w33 h33 hg33 hh33
      rw [List.nil_append] at h33
      have hb33 : Below wr.drew.heap.size wr.drew w33 := HA.out.2.1.grown hg33 HA.out.2.1.size (fun k hk => (HA.out.1.lt hk).1)
      have hc33 := HC.out.1.drew.under hb33
      have hev : EV w33 N v33 a.val := .inr (h33.low (by have := HC.out.1.drew.size; omega))
      obtain ⟨A8, c8, hv8, -⟩ := h33.form
      subst hv8
      obtain ⟨l, hl⟩ : ∃ x, a.val.length = x := ⟨_, rfl⟩
      rw [hl] at hev ⊢
      have H33 := Lib.hid (And.intro hc33 (And.intro hev hb33.size))
      clear h33 hg33 hh33 hb33 hc33 hev
      refine hK.out _ _ (HTL.out _ _ _ _ H33.out.1) ?_
      clear hK K
      try simp only [Act.put]
      refine wpLate.ready (rs := [16]) (by as_aux_lemma => kernel_rfl) (by simp) (eachLate.cons rfl (fun K hK => ?_) eachLate.nil)
      go_simp
      refine hK.out _ _ (HTL.out _ _ _ _ H33.out.1) ?_
      clear hK K
      try simp only [Act.put]
      refine wpLate.ready (rs := [17]) (by as_aux_lemma => kernel_rfl) (by simp) (eachLate.cons rfl (fun K hK => ?_) eachLate.nil)
      go_simp
      refine hK.out _ _ (HTL.out _ _ _ _ (H33.out.1.alloc _)) ?_
      clear hK K
      try simp only [Act.put]
      have hnw := Whole.new w33 71 #[.int .u16 a.ty, .slice A8 l c8]
      have hc35 := H33.out.1.alloc (.cells #[.int .u16 a.ty, .slice A8 l c8] 71)
      have hev35 := H33.out.2.1.on ((Below.refl N w33).alloc (by have := H33.out.1.size; omega) (.cells #[.int .u16 a.ty, .slice A8 l c8] 71)) ((Kept8.refl _).alloc _)
      generalize w33.alloc (.cells #[.int .u16 a.ty, .slice A8 l c8] 71) = w35 at *
      generalize w33.heap.size = g35 at *
      have H35 := Lib.hid (And.intro hc35 (And.intro hev35 hnw))
      clear hc35 hev35 hnw
      refine wpLate.ready (rs := [18]) (by as_aux_lemma => kernel_rfl) (by simp) (eachLate.cons rfl (fun K hK => ?_) eachLate.nil)
      refine step_of rfl (wp_append2 (e := 71) (.tmp 19) (.tmp 35) rfl Try.underlying32 Try.infoAttr rfl rfl H35.out.1.row rfl H35.out.2.2 rfl (by have := HC.out.2.2.1; omega) H35.out.1.size ?_)
      intro v36 w36 h36 hg36 hh36
      have hfin := H35.out.1.grow H12.out (by decide) (by decide) (by decide) (by decide) h36 hg36 H35.out.2.1
      have hr36 : Whole w36 (N + 2) 34 (mv m.cl m.me m.id (.slice Av k cv)) := H35.out.1.out.grown hg36 (fun e => H35.out.1.row.far H35.out.1.out (by decide) e.symm)
      have hb36 : Whole w36 N 25 M := H35.out.1.box.grown hg36 (fun e => H35.out.1.row.far H35.out.1.box (by decide) e.symm)
      have hbl36 : Below N w w36 := H35.out.1.below.grown hg36 (by have := H35.out.1.size; omega) (fun j hj => by have := (H35.out.1.row.lt hj).1; omega)
      obtain ⟨A9, c9, hv9, -⟩ := h36.form
      have hps : (ps ++ [(a.ty, Value.slice A8 l c8)]).length = k + 1 := by simp [HC.out.2.2.1]
      rw [hps] at hv9
      subst hv9
      have q1 : w36.cell? ⟨N + 2, 14, none⟩ = some (.slice Av k cv) := by rw [hr36.cell]; exact mv_14 _ _ _ _ H12.out
      have q2 := hr36.frz 14
      have HQ1 := Lib.hid (HTL2.out w36 hb36 hbl36 q1)
      have HFIN := Lib.hid hfin
      clear hfin hr36 hb36 hbl36 h36 hg36 hh36 hps
      refine hK.out _ _ (HQ1.out _) ?_
      clear hK K
      try simp only [Act.put]
      refine wpLate.ready (rs := [19]) (by as_aux_lemma => kernel_rfl) (by simp) (eachLate.cons rfl (fun K hK => ?_) eachLate.nil)
      go_simp
      refine hK.out _ _ (HQ1.out _) ?_
      clear hK K
      try simp only [Act.put]
      refine wpLate.ready (rs := [20]) (by as_aux_lemma => kernel_rfl) (by simp) (eachLate.cons rfl (fun K hK => ?_) eachLate.nil)
      go_simp
      refine hK.out _ _ (TillOne.past (HSN.out _ _ _ _ HFIN.out) rfl) ?_
      clear hK K
      try simp only [Act.put]
      refine wpLate.done (by as_aux_lemma => kernel_rfl) ?_ _
      go_wp2_with fail
      exact ⟨⟨k + 1, _, _, by omega, by go_num, by rw [HC.out.2.1]; exact HFIN.out⟩, by simp [intOf]; omega⟩
    · have htk : m.at_.take k = m.at_ := List.take_of_length_le (by rw [HE.out.2.2]; omega)
      rw [htk] at hcp
      obtain rfl : k = n := by omega
      obtain ⟨Av, cv, rfl, -⟩ := hcp.row.form
      have hcs : Whole wr (N + 2) 34 (mv m.cl m.me m.id (.slice Av ps.length cv)) := hcp.out
      have hfin := hcp.copied H12.out HN.out
      have hres := hcp.res
      have hone : (mv m.cl m.me m.id (.slice Av ps.length cv)).all (·.oneCell') = true := mv_one rfl
      have hsz : (mv m.cl m.me m.id (.slice Av ps.length cv)).size = 15 := mv_size H12.out
      rw [HZE.out] at hres
      obtain ⟨M2, hM2⟩ : ∃ x, mv m.cl m.me m.id (.slice Av ps.length cv) = x := ⟨_, rfl⟩
      rw [hM2] at hcs hone hsz hfin
      have HF := Lib.hid (And.intro hcs (And.intro hres (And.intro hone (And.intro hsz hfin))))
      clear hcp htk hcs hres hone hsz hfin hM2 c14
      go_wp2_with (first
        | (refine wpList_load_all rfl 34 (.tmp 3) rfl HF.out.1 rfl Try.sizeMsg HF.out.2.2.2.1 Try.underlying34 rfl ?_)
        | (refine wpList_store_whole rfl 34 (.tmp 2) (.tmp 39) rfl rfl rfl HF.out.2.1 Try.sizeMsg HF.out.2.2.2.1 HZ.out.1 HF.out.2.2.1 ?_))
      (try simp only [Exit.inBlock, Exit.then])
      refine bodyPost_ret (ret_struct rfl rfl HF.out.2.2.2.2.1 Try.underlying34 rfl Try.sizeMsg HF.out.2.2.2.1) rfl ?_
      exact ⟨M2, Av, cv, rfl, HF.out.2.2.2.2.2 (by decide) (by decide)⟩

set_option maxHeartbeats 3200000 in
set_option maxRecDepth 100000 in
theorem ours_any (M : Array Value) (m : Msg) (A : Option Addr) (c : Nat) (w : World) (h : MsgV w w.heap.size M m A c) (hs : m.at_.length ≤ 4398046511102):
    Calls Try.prog 16 #[.agg M] w fun e w' => ∃ M' A' c', e = .returned (.agg M') ∧ Copied w w' m M' A' c' := by
  have hz := Try.zeroRMsg
  have hbm := fun W => build_msg (T := 25) built_rmsg m.cl m.me m.id h.id12 W
  have HZ : Hid (zM.size = 15 ∧ zM.all (·.oneCell') = true) := Lib.hid ⟨zM_size, mv_one rfl⟩
  obtain ⟨Z, hZ⟩ : ∃ Z, zM = Z := ⟨_, rfl⟩
  have HZE := Lib.hid hZ
  simp only [hZ] at hz HZ
  clear hZ
  have hg := Whole.new w 34 M
  have h0 := h.cl hg
  have h1 := h.me hg
  have h14 := h.sl hg
  have hrg := h.id hg
  have hb0 : Below w.heap.size w (w.alloc (.cells M 34)) := (Below.refl _ w).alloc (Nat.le_refl _) _
  have HM := Lib.hid (And.intro h (And.intro hg hb0))
  have H12 := Lib.hid h.id12
  have hidl : (m.id.map (Value.int .u8)).length = 12 := by rw [List.length_map]; exact h.id12
  clear h hg hb0 hrg
  obtain ⟨cl, hcl⟩ : ∃ x, m.cl = x := ⟨_, rfl⟩
  obtain ⟨me, hme⟩ : ∃ x, m.me = x := ⟨_, rfl⟩
  obtain ⟨n, hn⟩ : ∃ x, m.at_.length = x := ⟨_, rfl⟩
  obtain ⟨ids, hids⟩ : ∃ x, (m.id.map (Value.int .u8)) = x := ⟨_, rfl⟩
  obtain ⟨M0, hM0⟩ : ∃ x, mv m.cl m.me m.id (.slice none 0 0) = x := ⟨_, rfl⟩
  have HM0 := Lib.hid (And.intro hM0 (show M0.size = 15 ∧ M0.all (·.oneCell') = true by rw [← hM0]; exact ⟨mv_size H12.out, mv_one rfl⟩))
  simp only [hM0] at hbm
  simp only [hcl, hme, hids] at hbm
  rw [hcl] at h0
  rw [hme] at h1
  rw [hn] at h14 hs
  rw [hids] at hidl
  have HID := Lib.hid (And.intro hids hidl)
  have HE := Lib.hid (And.intro hcl (And.intro hme hn))
  have HBM := Lib.hid hbm
  clear hcl hme hn hids hM0 hidl hbm
  obtain ⟨N, hN⟩ : ∃ N, w.heap.size = N := ⟨_, rfl⟩
  have HN := Lib.hid hN
  rw [hN] at h0 h1 h14 HM
  go_enter Try.func16, Try.ntmps16
  go_upto_region 1 with fail
  have a0 : Whole ((w.alloc (.cells M 34)).alloc (.cells Z 25)) N 34 M := HM.out.2.1.alloc _
  have a1 : Whole ((w.alloc (.cells M 34)).alloc (.cells Z 25)) (N + 1) 25 Z := by rw [← HN.out]; exact Whole.new2 w _ _ _
  have a2 : Below N w ((w.alloc (.cells M 34)).alloc (.cells Z 25)) := HM.out.2.2.alloc (by simp [HN.out]) _
  have a3 : ((w.alloc (.cells M 34)).alloc (.cells Z 25)).heap.size = N + 2 := by simp [HN.out]
  generalize (w.alloc (.cells M 34)).alloc (.cells Z 25) = W1 at *
  clear h0 h1 h14 hN
  have h0 := HM.out.1.cl a0
  have h1 := HM.out.1.me a0
  have h14 := HM.out.1.sl a0
  rw [HE.out.1] at h0
  rw [HE.out.2.1] at h1
  rw [HE.out.2.2] at h14
  have hrg := HM.out.1.id a0
  rw [HID.out.1] at hrg
  have HR1 := Lib.hid (And.intro hrg (And.intro a0 (And.intro a1 a2)))
  have HZ3 := Lib.hid a3
  clear hrg a0 a1 a2
  go_upto_region 2 with (first
    | (refine wpList_load_mid rfl 22 (.tmp 9) rfl N 2 rfl ids _ HR1.out.1 Try.underlying22 rfl (by rw [HID.out.2]; exact Try.sizeA12) ?_)
    | (refine wpList_build3 rfl 25 (.tmp 6) (.tmp 8) (.tmp 10) rfl (u1 := .int .i64 cl) (u2 := .int .i64 me) (u3 := .agg ids.toArray) (v := .agg M0) rfl rfl rfl (HBM.out _) ?_)
    | (refine wpList_store_whole rfl 25 (.tmp 3) (.tmp 11) rfl rfl rfl (by have := Whole.new W1 25 Z; rw [HZ3.out] at this; exact this) Try.sizeRMsg HM0.out.2.1 HZ.out.1 HM0.out.2.2 ?_))
  have hst : Cp 65 25 34 N M m w ((W1.alloc (.cells Z 25)).setRow (N + 2) M0) (.slice none 0 0) [] [] := by
    have hn2 : Whole (W1.alloc (.cells Z 25)) (N + 2) 25 Z := by have := Whole.new W1 25 Z; rw [HZ3.out] at this; exact this
    refine ⟨(HR1.out.2.1.alloc _).farRow (by omega) _, ?_, ?_, Row2.nil _ _ _, Els.nil _ _, below_row (HR1.out.2.2.2.alloc (by rw [HZ3.out]; omega) _) (by omega) _⟩
    · rw [HZE.out]; exact (HR1.out.2.2.1.alloc _).farRow (by omega) _
    · rw [HM0.out.1]; exact hn2.row _
  have c14 : ((W1.alloc (.cells Z 25)).setRow (N + 2) M0).cell? ⟨N, 14, none⟩ = some (.slice A n c) := by have := HM.out.1.sl hst.box; rw [HE.out.2.2] at this; exact this
  generalize (W1.alloc (.cells Z 25)).setRow (N + 2) M0 = W2 at *
  have H2 := Lib.hid hst
  clear hst h0 h1 h14 a3
  simp only [Act.put]
  go_wp2
  go_loopw [15] (fun s15 wr => ∃ (k : Nat) (v : Value) (ps : List (Int × Value)), k ≤ n ∧ s15 = .int .i64 k ∧ Cp 65 25 34 N M m w wr v ps (m.at_.take k)) (fun s15 _ => n - (intOf s15).toNat)
  case atStart => exact ⟨0, _, _, by omega, rfl, H2.out⟩
  case round =>
    obtain ⟨k, v, ps, hk, rfl, hcp⟩ := hrel
    have hpl : ps.length = k := by rw [hcp.els.1, List.length_take, HE.out.2.2]; omega
    by_cases hlt : k < n
    · have hlt' : k < m.at_.length := by rw [HE.out.2.2]; exact hlt
      obtain ⟨ad, A', c', rfl, had, x0, x1, y0, y1, hnil, hbs⟩ := HM.out.1.ats.at_ hlt'
      have hsn := seen_of HM.out.1 hcp.box hcp.below HE.out.2.2 had x0 x1
      have htk : m.at_.take (k + 1) = m.at_.take k ++ [m.at_.getD k default] := by
        rw [List.take_succ_eq_append_getElem hlt']
        simp [List.getD, hlt']
      obtain ⟨a, ha⟩ : ∃ a, m.at_.getD k default = a := ⟨_, rfl⟩
      rw [ha] at hsn htk x0 x1 y0 hbs
      obtain ⟨Av, cv, rfl, -⟩ := hcp.row.form
      rw [hpl] at hcp
      have HC := Lib.hid (And.intro hcp (And.intro htk (And.intro hpl (And.intro had (And.intro x0 (And.intro x1 (And.intro y0 (And.intro y1 (And.intro hnil hbs)))))))))
      have HSN : Hid (∀ W v2 ps2 L2, Cp 65 25 34 N M m w W v2 ps2 L2 → Seen N ad n c k a A' c' W) := Lib.hid fun W v2 ps2 L2 h => seen_of HM.out.1 h.box h.below HE.out.2.2 had x0 x1
      clear hcp htk hpl x0 x1 y0 y1 hnil hbs ha c14 hsn had
      go_upto_region 5 with fail
      have hb0 : (0 : Int) ≤ (k : Int) := by omega
      have hb1 : (k : Int) < (n : Int) := by omega
      have hsd := HSN.out _ _ _ _ HC.out.1.drew
      have hod := HC.out.1.drew.outc H12.out
      have HS0 : Hid (∀ L, TillOne (Seen N ad n c k a A' c') (fun W => W.cell? ⟨N + 2, 14, none⟩ = some (.slice Av k cv)) 18 L wr.drew) := Lib.hid fun L => TillOne.mk hsd hod
      have HTL : Hid (∀ W L ps2 L2, Cp 65 25 34 N M m w W (.slice Av k cv) ps2 L2 → TillOne (Seen N ad n c k a A' c') (fun W => W.cell? ⟨N + 2, 14, none⟩ = some (.slice Av k cv)) 18 L W) := Lib.hid fun W L ps2 L2 h => TillOne.mk (HSN.out _ _ _ _ h) (h.outc H12.out)
      have HG1 : Hid (∀ W, Ahead (TillOne (Seen N ad n c k a A' c') (fun W => W.cell? ⟨N + 2, 14, none⟩ = some (.slice Av k cv)) 18) 18 W → W.cell? ⟨N, 14, none⟩ = some (.slice (some ad) n c)) := Lib.hid fun W h => (TillOne.get h).1.1
      have HG2 : Hid (∀ W, Ahead (TillOne (Seen N ad n c k a A' c') (fun W => W.cell? ⟨N + 2, 14, none⟩ = some (.slice Av k cv)) 18) 18 W → W.cell? (ad.add (k * 2)) = some (.int .u16 a.ty)) := Lib.hid fun W h => (TillOne.get h).1.2.1
      have HG3 : Hid (∀ W, Ahead (TillOne (Seen N ad n c k a A' c') (fun W => W.cell? ⟨N + 2, 14, none⟩ = some (.slice Av k cv)) 18) 18 W → W.cell? ⟨(ad.add (k * 2)).block, (ad.add (k * 2)).off + 1, none⟩ = some (.slice A' a.val.length c')) := Lib.hid fun W h => (TillOne.get h).1.2.2
      have HG4 : Hid (∀ W, Ahead (TillOne (Seen N ad n c k a A' c') (fun W => W.cell? ⟨N + 2, 14, none⟩ = some (.slice Av k cv)) 18) 18 W → W.cell? ⟨N + 2, 14, none⟩ = some (.slice Av k cv)) := Lib.hid fun W h => (TillOne.get h).2
      have HTL2 : Hid (∀ W, Whole W N 34 M → Below N w W → W.cell? ⟨N + 2, 14, none⟩ = some (.slice Av k cv) → ∀ L, TillOne (Seen N ad n c k a A' c') (fun W => W.cell? ⟨N + 2, 14, none⟩ = some (.slice Av k cv)) 18 L W) := Lib.hid fun W h1 h2 h3 L => TillOne.mk (seen_of HM.out.1 h1 h2 HE.out.2.2 HC.out.2.2.2.1 HC.out.2.2.2.2.1 HC.out.2.2.2.2.2.1) h3
      refine wp_region_late (TillOne (Seen N ad n c k a A' c') (fun W => W.cell? ⟨N + 2, 14, none⟩ = some (.slice Av k cv)) 18) (by as_aux_lemma => kernel_rfl) ?_
      change wpLate Try.prog .any _ _ _ 19 #[false, false, false, false, false, false, false, false, false, false, false, false, false, false, false, false, false, false, false] _ _
      refine wpLate.take (i := 0) (q := 18) (oi := _) (v := ?_) rfl (by as_aux_lemma => kernel_rfl) (by as_aux_lemma => kernel_rfl) (by as_aux_lemma => kernel_rfl) (by as_aux_lemma => kernel_rfl) (by rfl) (fun _ _ _ h => h) (TillOne.set (by decide)) (HS0.out _) (Or.inl ⟨by rfl, ?_⟩) ?_
      case refine_2 => intro W hw; have e1 := HG1.out W hw; have e2 := HG2.out W hw; have e3 := HG3.out W hw; have e4 := HG4.out W hw; clear hw; go_simp; (try with_reducible rfl)
      simp only [Act.put, List.setIfInBounds_toArray, List.set_cons_succ, List.set_cons_zero]
      refine wpLate.take (i := 1) (q := 18) (oi := _) (v := ?_) rfl (by as_aux_lemma => kernel_rfl) (by as_aux_lemma => kernel_rfl) (by as_aux_lemma => kernel_rfl) (by as_aux_lemma => kernel_rfl) (by rfl) (fun _ _ _ h => h) (TillOne.set (by decide)) (HS0.out _) (Or.inl ⟨by rfl, ?_⟩) ?_
      case refine_2 => intro W hw; have e1 := HG1.out W hw; have e2 := HG2.out W hw; have e3 := HG3.out W hw; have e4 := HG4.out W hw; clear hw; go_simp; (try with_reducible rfl)
      simp only [Act.put, List.setIfInBounds_toArray, List.set_cons_succ, List.set_cons_zero]
      refine wpLate.take (i := 2) (q := 18) (oi := _) (v := ?_) rfl (by as_aux_lemma => kernel_rfl) (by as_aux_lemma => kernel_rfl) (by as_aux_lemma => kernel_rfl) (by as_aux_lemma => kernel_rfl) (by rfl) (fun _ _ _ h => h) (TillOne.set (by decide)) (HS0.out _) (Or.inl ⟨by rfl, ?_⟩) ?_
      case refine_2 => intro W hw; have e1 := HG1.out W hw; have e2 := HG2.out W hw; have e3 := HG3.out W hw; have e4 := HG4.out W hw; clear hw; go_simp; (try with_reducible rfl)
      simp only [Act.put, List.setIfInBounds_toArray, List.set_cons_succ, List.set_cons_zero]
      refine wpLate.take (i := 3) (q := 18) (oi := _) (v := ?_) rfl (by as_aux_lemma => kernel_rfl) (by as_aux_lemma => kernel_rfl) (by as_aux_lemma => kernel_rfl) (by as_aux_lemma => kernel_rfl) (by rfl) (fun _ _ _ h => h) (TillOne.set (by decide)) (HS0.out _) (Or.inl ⟨by rfl, ?_⟩) ?_
      case refine_2 => intro W hw; have e1 := HG1.out W hw; have e2 := HG2.out W hw; have e3 := HG3.out W hw; have e4 := HG4.out W hw; clear hw; go_simp; (try with_reducible rfl)
      simp only [Act.put, List.setIfInBounds_toArray, List.set_cons_succ, List.set_cons_zero]
      refine wpLate.take (i := 4) (q := 18) (oi := _) (v := ?_) rfl (by as_aux_lemma => kernel_rfl) (by as_aux_lemma => kernel_rfl) (by as_aux_lemma => kernel_rfl) (by as_aux_lemma => kernel_rfl) (by rfl) (fun _ _ _ h => h) (TillOne.set (by decide)) (HS0.out _) (Or.inl ⟨by rfl, ?_⟩) ?_
      case refine_2 => intro W hw; have e1 := HG1.out W hw; have e2 := HG2.out W hw; have e3 := HG3.out W hw; have e4 := HG4.out W hw; clear hw; go_simp; (try with_reducible rfl)
      simp only [Act.put, List.setIfInBounds_toArray, List.set_cons_succ, List.set_cons_zero]
      refine wpLate.take (i := 5) (q := 18) (oi := _) (v := ?_) rfl (by as_aux_lemma => kernel_rfl) (by as_aux_lemma => kernel_rfl) (by as_aux_lemma => kernel_rfl) (by as_aux_lemma => kernel_rfl) (by rfl) (fun _ _ _ h => h) (TillOne.set (by decide)) (HS0.out _) (Or.inl ⟨by rfl, ?_⟩) ?_
      case refine_2 => intro W hw; have e1 := HG1.out W hw; have e2 := HG2.out W hw; have e3 := HG3.out W hw; have e4 := HG4.out W hw; clear hw; go_simp; (try with_reducible rfl)
      simp only [Act.put, List.setIfInBounds_toArray, List.set_cons_succ, List.set_cons_zero]
      refine wpLate.take (i := 6) (q := 18) (oi := _) (v := ?_) rfl (by as_aux_lemma => kernel_rfl) (by as_aux_lemma => kernel_rfl) (by as_aux_lemma => kernel_rfl) (by as_aux_lemma => kernel_rfl) (by rfl) (fun _ _ _ h => h) (TillOne.set (by decide)) (HS0.out _) (Or.inl ⟨by rfl, ?_⟩) ?_
      case refine_2 => intro W hw; have e1 := HG1.out W hw; have e2 := HG2.out W hw; have e3 := HG3.out W hw; have e4 := HG4.out W hw; clear hw; go_simp; (try with_reducible rfl)
      simp only [Act.put, List.setIfInBounds_toArray, List.set_cons_succ, List.set_cons_zero]
      refine wpLate.take (i := 7) (q := 18) (oi := _) (v := ?_) rfl (by as_aux_lemma => kernel_rfl) (by as_aux_lemma => kernel_rfl) (by as_aux_lemma => kernel_rfl) (by as_aux_lemma => kernel_rfl) (by rfl) (fun _ _ _ h => h) (TillOne.set (by decide)) (HS0.out _) (Or.inl ⟨by rfl, ?_⟩) ?_
      case refine_2 => intro W hw; have e1 := HG1.out W hw; have e2 := HG2.out W hw; have e3 := HG3.out W hw; have e4 := HG4.out W hw; clear hw; go_simp; (try with_reducible rfl)
      simp only [Act.put, List.setIfInBounds_toArray, List.set_cons_succ, List.set_cons_zero]
      refine wpLate.take (i := 8) (q := 18) (oi := _) (v := ?_) rfl (by as_aux_lemma => kernel_rfl) (by as_aux_lemma => kernel_rfl) (by as_aux_lemma => kernel_rfl) (by as_aux_lemma => kernel_rfl) (by rfl) (fun _ _ _ h => h) (TillOne.set (by decide)) (HS0.out _) (Or.inl ⟨by rfl, ?_⟩) ?_
      case refine_2 => intro W hw; have e1 := HG1.out W hw; have e2 := HG2.out W hw; have e3 := HG3.out W hw; have e4 := HG4.out W hw; clear hw; go_simp; (try with_reducible rfl)
      simp only [Act.put, List.setIfInBounds_toArray, List.set_cons_succ, List.set_cons_zero]
      refine wpLate.take (i := 9) (q := 18) (oi := _) (v := ?_) rfl (by as_aux_lemma => kernel_rfl) (by as_aux_lemma => kernel_rfl) (by as_aux_lemma => kernel_rfl) (by as_aux_lemma => kernel_rfl) (by rfl) (fun _ _ _ h => h) (TillOne.set (by decide)) (HS0.out _) (Or.inl ⟨by rfl, ?_⟩) ?_
      case refine_2 => intro W hw; have e1 := HG1.out W hw; have e2 := HG2.out W hw; have e3 := HG3.out W hw; have e4 := HG4.out W hw; clear hw; go_simp; (try with_reducible rfl)
      simp only [Act.put, List.setIfInBounds_toArray, List.set_cons_succ, List.set_cons_zero]
      refine wpLate.take (i := 10) (q := 18) (oi := _) (v := ?_) rfl (by as_aux_lemma => kernel_rfl) (by as_aux_lemma => kernel_rfl) (by as_aux_lemma => kernel_rfl) (by as_aux_lemma => kernel_rfl) (by rfl) (fun _ _ _ h => h) (TillOne.set (by decide)) (HS0.out _) (Or.inl ⟨by rfl, ?_⟩) ?_
      case refine_2 => intro W hw; have e1 := HG1.out W hw; have e2 := HG2.out W hw; have e3 := HG3.out W hw; have e4 := HG4.out W hw; clear hw; go_simp; (try with_reducible rfl)
      simp only [Act.put, List.setIfInBounds_toArray, List.set_cons_succ, List.set_cons_zero]
      refine wpLate.take (i := 11) (q := 18) (oi := _) (v := ?_) rfl (by as_aux_lemma => kernel_rfl) (by as_aux_lemma => kernel_rfl) (by as_aux_lemma => kernel_rfl) (by as_aux_lemma => kernel_rfl) (by rfl) (fun _ _ _ h => h) (TillOne.set (by decide)) (HS0.out _) (Or.inl ⟨by rfl, ?_⟩) ?_
      case refine_2 => intro W hw; have e1 := HG1.out W hw; have e2 := HG2.out W hw; have e3 := HG3.out W hw; have e4 := HG4.out W hw; clear hw; go_simp; (try with_reducible rfl)
      simp only [Act.put, List.setIfInBounds_toArray, List.set_cons_succ, List.set_cons_zero]
      refine wpLate.take (i := 12) (q := 18) (oi := _) (v := ?_) rfl (by as_aux_lemma => kernel_rfl) (by as_aux_lemma => kernel_rfl) (by as_aux_lemma => kernel_rfl) (by as_aux_lemma => kernel_rfl) (by rfl) (fun _ _ _ h => h) (TillOne.set (by decide)) (HS0.out _) (Or.inl ⟨by rfl, ?_⟩) ?_
      case refine_2 => intro W hw; have e1 := HG1.out W hw; have e2 := HG2.out W hw; have e3 := HG3.out W hw; have e4 := HG4.out W hw; clear hw; go_simp; (try with_reducible rfl)
      simp only [Act.put, List.setIfInBounds_toArray, List.set_cons_succ, List.set_cons_zero]
      refine wpLate.take (i := 13) (q := 18) (oi := _) (v := ?_) rfl (by as_aux_lemma => kernel_rfl) (by as_aux_lemma => kernel_rfl) (by as_aux_lemma => kernel_rfl) (by as_aux_lemma => kernel_rfl) (by rfl) (fun _ _ _ h => h) (TillOne.set (by decide)) (HS0.out _) (Or.inl ⟨by rfl, ?_⟩) ?_
      case refine_2 => intro W hw; have e1 := HG1.out W hw; have e2 := HG2.out W hw; have e3 := HG3.out W hw; have e4 := HG4.out W hw; clear hw; go_simp; (try with_reducible rfl)
      simp only [Act.put, List.setIfInBounds_toArray, List.set_cons_succ, List.set_cons_zero]
      have hc32 := HC.out.1.drew
      have hev32 : EV wr.drew N (.slice A' a.val.length c') a.val := .inl ⟨A', c', rfl, HC.out.2.2.2.2.2.2.1, HC.out.2.2.2.2.2.2.2.1, HC.out.2.2.2.2.2.2.2.2.1, HC.out.2.2.2.2.2.2.2.2.2.below hc32.below⟩
      have H33 := Lib.hid (And.intro hc32 hev32)
      clear hc32 hev32 hsd hod
      refine wpLate.ready (rs := [14]) (by as_aux_lemma => kernel_rfl) (by simp) (eachLate.cons rfl (fun K hK => ?_) eachLate.nil)
      go_simp
      refine hK.out _ _ (HTL.out _ _ _ _ H33.out.1) ?_
      clear hK K
      try simp only [Act.put]
      refine wpLate.ready (rs := [15]) (by as_aux_lemma => kernel_rfl) (by simp) (eachLate.cons rfl (fun K hK => ?_) eachLate.nil)
      go_simp
      refine hK.out _ _ (HTL.out _ _ _ _ (H33.out.1.alloc _)) ?_
      clear hK K
      try simp only [Act.put]
      have hnw := (Whole.new wr 65 #[.int .u16 a.ty, .slice A' a.val.length c']).drew
      have hc35 := (HC.out.1.alloc (.cells #[.int .u16 a.ty, .slice A' a.val.length c'] 65)).drew
      have hev35 : EV (wr.alloc (.cells #[.int .u16 a.ty, .slice A' a.val.length c'] 65)).drew N (.slice A' a.val.length c') a.val := .inl ⟨A', c', rfl, HC.out.2.2.2.2.2.2.1, HC.out.2.2.2.2.2.2.2.1, HC.out.2.2.2.2.2.2.2.2.1, HC.out.2.2.2.2.2.2.2.2.2.below hc35.below⟩
      obtain ⟨l, hl⟩ : ∃ x, a.val.length = x := ⟨_, rfl⟩
      rw [hl] at hnw hc35 hev35 ⊢
      generalize (wr.alloc (.cells #[.int .u16 a.ty, .slice A' l c'] 65)).drew = w35 at *
      generalize wr.heap.size = g36 at *
      have H35 := Lib.hid (And.intro hc35 (And.intro hev35 hnw))
      clear hc35 hev35 hnw
      refine wpLate.ready (rs := [16]) (by as_aux_lemma => kernel_rfl) (by simp) (eachLate.cons rfl (fun K hK => ?_) eachLate.nil)
      refine step_of rfl (wp_append2 (e := 65) (.tmp 19) (.tmp 33) rfl Try.underlying23 Try.infoRAttr rfl rfl H35.out.1.row rfl H35.out.2.2 rfl (by have := HC.out.2.2.1; omega) H35.out.1.size ?_)
      intro v36 w36 h36 hg36 hh36
      have hfin := H35.out.1.grow H12.out (by decide) (by decide) (by decide) (by decide) h36 hg36 H35.out.2.1
      have hr36 : Whole w36 (N + 2) 25 (mv m.cl m.me m.id (.slice Av k cv)) := H35.out.1.out.grown hg36 (fun e => H35.out.1.row.far H35.out.1.out (by decide) e.symm)
      have hb36 : Whole w36 N 34 M := H35.out.1.box.grown hg36 (fun e => H35.out.1.row.far H35.out.1.box (by decide) e.symm)
      have hbl36 : Below N w w36 := H35.out.1.below.grown hg36 (by have := H35.out.1.size; omega) (fun j hj => by have := (H35.out.1.row.lt hj).1; omega)
      obtain ⟨A9, c9, hv9, -⟩ := h36.form
      have hps : (ps ++ [(a.ty, Value.slice A' l c')]).length = k + 1 := by simp [HC.out.2.2.1]
      rw [hps] at hv9
      subst hv9
      have q1 : w36.cell? ⟨N + 2, 14, none⟩ = some (.slice Av k cv) := by rw [hr36.cell]; exact mv_14 _ _ _ _ H12.out
      have q2 := hr36.frz 14
      have HQ1 := Lib.hid (HTL2.out w36 hb36 hbl36 q1)
      have HFIN := Lib.hid hfin
      clear hfin hr36 hb36 hbl36 h36 hg36 hh36 hps
      refine hK.out _ _ (HQ1.out _) ?_
      clear hK K
      try simp only [Act.put]
      refine wpLate.ready (rs := [17]) (by as_aux_lemma => kernel_rfl) (by simp) (eachLate.cons rfl (fun K hK => ?_) eachLate.nil)
      go_simp
      refine hK.out _ _ (HQ1.out _) ?_
      clear hK K
      try simp only [Act.put]
      refine wpLate.ready (rs := [18]) (by as_aux_lemma => kernel_rfl) (by simp) (eachLate.cons rfl (fun K hK => ?_) eachLate.nil)
      go_simp
      refine hK.out _ _ (TillOne.past (HSN.out _ _ _ _ HFIN.out) rfl) ?_
      clear hK K
      try simp only [Act.put]
      refine wpLate.done (by as_aux_lemma => kernel_rfl) ?_ _
      go_wp2_with fail
      exact ⟨⟨k + 1, _, _, by omega, by go_num, by rw [HC.out.2.1]; exact HFIN.out⟩, by simp [intOf]; omega⟩
    · have htk : m.at_.take k = m.at_ := List.take_of_length_le (by rw [HE.out.2.2]; omega)
      rw [htk] at hcp
      obtain rfl : k = n := by omega
      obtain ⟨Av, cv, rfl, -⟩ := hcp.row.form
      have hcs : Whole wr (N + 2) 25 (mv m.cl m.me m.id (.slice Av ps.length cv)) := hcp.out
      have hfin := hcp.copied H12.out HN.out
      have hres := hcp.res
      have hone : (mv m.cl m.me m.id (.slice Av ps.length cv)).all (·.oneCell') = true := mv_one rfl
      have hsz : (mv m.cl m.me m.id (.slice Av ps.length cv)).size = 15 := mv_size H12.out
      rw [HZE.out] at hres
      obtain ⟨M2, hM2⟩ : ∃ x, mv m.cl m.me m.id (.slice Av ps.length cv) = x := ⟨_, rfl⟩
      rw [hM2] at hcs hone hsz hfin
      have HF := Lib.hid (And.intro hcs (And.intro hres (And.intro hone (And.intro hsz hfin))))
      clear hcp htk hcs hres hone hsz hfin hM2 c14
      go_wp2_with (first
        | (refine wpList_load_all rfl 25 (.tmp 3) rfl HF.out.1 rfl Try.sizeRMsg HF.out.2.2.2.1 Try.underlying25 rfl ?_)
        | (refine wpList_store_whole rfl 25 (.tmp 2) (.tmp 37) rfl rfl rfl HF.out.2.1 Try.sizeRMsg HF.out.2.2.2.1 HZ.out.1 HF.out.2.2.1 ?_))
      (try simp only [Exit.inBlock, Exit.then])
      refine bodyPost_ret (ret_struct rfl rfl HF.out.2.2.2.2.1 Try.underlying25 rfl Try.sizeRMsg HF.out.2.2.2.1) rfl ?_
      exact ⟨M2, Av, cv, rfl, HF.out.2.2.2.2.2 (by decide) (by decide)⟩
end Go.Proofs.Ytladojbppfmkpaa
