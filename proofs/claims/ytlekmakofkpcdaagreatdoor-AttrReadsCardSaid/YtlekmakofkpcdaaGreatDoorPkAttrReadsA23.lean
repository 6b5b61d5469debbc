import Derived.Test.YtlekmakofkpcdaaGreatDoorPkAttrReadsA05
import Derived.Test.YtlekmakofkpcdaaGreatDoorPkAttrReadsA21
import Derived.Test.YtlekmakofkpcdaaGreatDoorPkAttrReadsA22
import Derived.Deep.CutBlock
import Derived.Great.Walk
namespace Go.Proofs.YtlekmakofkpcdaaGreatDoor
open Go.RowKit
set_option linter.unusedVariables false
set_option linter.unusedSimpArgs false
abbrev kArr : Array Value := #[.string ⟨#[109, 105, 100]⟩, .string ⟨#[105, 110, 97, 99, 116, 105, 118, 101]⟩, .string ⟨#[115, 101, 110, 100, 111, 110, 108, 121]⟩, .string ⟨#[114, 101, 99, 118, 111, 110, 108, 121]⟩, .string ⟨#[115, 101, 110, 100, 114, 101, 99, 118]⟩, .string ⟨#[114, 116, 112, 109, 97, 112]⟩, .string ⟨#[102, 109, 116, 112]⟩, .string ⟨#[114, 116, 99, 112, 45, 102, 98]⟩, .string ⟨#[101, 120, 116, 109, 97, 112]⟩, .string ⟨#[114, 105, 100]⟩, .string ⟨#[115, 105, 109, 117, 108, 99, 97, 115, 116]⟩, .string ⟨#[115, 115, 114, 99]⟩, .string ⟨#[99, 114, 121, 112, 116, 111]⟩, .string ⟨#[115, 99, 116, 112, 45, 112, 111, 114, 116]⟩]
theorem kArr_eq : kArr = (knownN.map fun l => Value.string (bs l)).toArray := rfl
theorem kArr_at (k : Nat) (h : k < 14) : kArr[k]? = some (.string (bs (knownN.getD k []))) := by
 rw [kArr_eq, List.getElem?_toArray, List.getElem?_map, List.getD_eq_getElem?_getD, List.getElem?_eq_getElem (show k < knownN.length from h)]
 rfl
set_option maxHeartbeats 1600000 in
set_option maxRecDepth 100000 in
theorem known_any (s : ByteArray) (w : World) : Calls Tryz.prog 33 #[.string s] w fun e w' => e = .returned (.bool (knownN.contains (tx s))) ∧ Below w.heap.size w w' := by
 have hb0 : Below w.heap.size w (w.alloc (.cells kArr 9)) := (Below.refl _ w).alloc (Nat.le_refl _) _
 have H0 := Lib.hid (And.intro hb0 (Whole.new w 9 kArr))
 clear hb0
 obtain ⟨r, hr⟩ : ∃ r, knownN.contains (tx s) = r := ⟨_, rfl⟩
 have HR := Lib.hid hr
 rw [hr]
 clear hr
 go_enter Tryz.func33, Tryz.ntmps33
 go_upto_region 2 with fail
 generalize w.alloc (.cells kArr 9) = W0 at *
 generalize hN : w.heap.size = N at *
 go_wp2
 go_loopw [8, 4] (fun s8 _ wr => ∃ k : Nat, k ≤ 14 ∧ s8 = .int .i64 k ∧ ((∀ j, j < k → knownN.getD j [] ≠ tx s) ∧ W0 = wr)) (fun s8 _ _ => 14 - (intOf s8).toNat)
 case atStart => exact ⟨0, by omega, rfl, (fun j hj => by omega), rfl⟩
 case round =>
  obtain ⟨k, hk, rfl, hst, rfl⟩ := hrel
  have HS := Lib.hid hst
  clear hst
  by_cases hlt : k < 14
  · have c0 : W0.cell? ⟨N, k, none⟩ = some (.string (bs (knownN.getD k []))) := (H0.out.2.cell k).trans (kArr_at k hlt)
    have HM : Hid (knownN.getD k [] ∈ knownN) := Lib.hid (by
     rw [List.getD_eq_getElem?_getD, List.getElem?_eq_getElem (show k < knownN.length from hlt)]
     exact List.getElem_mem _)
    obtain ⟨nm, hnm⟩ : ∃ a, bs (knownN.getD k []) = a := ⟨_, rfl⟩
    rw [hnm] at c0
    have HNM : Hid (tx nm = knownN.getD k []) := Lib.hid (by rw [← hnm, tx_bs])
    clear hnm
    have hk0 : (0 : Int) ≤ (k : Int) := by omega
    have hk1 : (k : Int) < 14 := by omega
    by_cases heq : nm = s
    · have HQ : Hid (r = true) := Lib.hid (by
       rw [← HR.out, List.contains_iff_mem]
       have := HM.out
       rw [← HNM.out, heq] at this
       exact this)
      subst heq
      go_wp2
      go_ret
      exact ⟨by rw [HQ.out]; rfl, by rw [hN]; exact H0.out.1⟩
    · have hq : (nm.toList == s.toList) = false := by
       rw [beq_eq_false_iff_ne, toList_tx, toList_tx]
       exact fun h => heq (tx_inj h)
      have HNX : Hid (∀ j, j < k + 1 → knownN.getD j [] ≠ tx s) := Lib.hid fun j hj => by
       by_cases e : j = k
       · subst e
         rw [← HNM.out]
         exact fun h => heq (tx_inj h)
       · exact HS.out j (by omega)
      clear heq
      go_wp2
      go_roundw
      case rel => exact ⟨k + 1, by omega, by go_num, HNX.out, trivial⟩
      case measure => simp [intOf]; omega
  · have HQ : Hid (r = false) := Lib.hid (by
     rw [← HR.out, ← Bool.not_eq_true, List.contains_iff_mem]
     intro h
     obtain ⟨j, hj⟩ := List.mem_iff_getElem?.1 h
     have hj14 : j < 14 := (List.getElem?_eq_some_iff.1 hj).1
     refine HS.out j (by omega) ?_
     rw [List.getD_eq_getElem?_getD, hj]
     rfl)
    go_wp2
    go_ret
    exact ⟨by rw [HQ.out]; rfl, by rw [hN]; exact H0.out.1⟩
structure RX (w0 : World) (P : Array Value) (ln cn : ByteArray) (L : List AttrS) (W : World) : Prop where
 low : Below w0.heap.size w0 W
 part : Whole W w0.heap.size 24 P
 res : Whole W (w0.heap.size + 1) 32 zeroM
 bare : ∃ vb, Whole W (w0.heap.size + 2) 24 #[.string ln, .string cn, vb] ∧ Own W w0.heap.size 47 2 vb (L.map acell)
def RRI (w0 : World) (P : Array Value) (ln cn : ByteArray) (m0 : MediaS) (L : List AttrS) (W : World) : Prop := RX w0 P ln cn L W ∧ L.length ≤ 64 ∧ ∃ cs vC vE vR vS vY, MW w0.heap.size (w0.heap.size + 3) L.length W (L.foldl (rd rR) m0) cs vC vE vR vS vY
section
variable {w0 W W' : World} {P : Array Value} {ln cn : ByteArray} {L : List AttrS} {m0 : MediaS}
theorem RX.under (h : RX w0 P ln cn L W) (hb : Below W.heap.size W W') : RX w0 P ln cn L W' := by
 obtain ⟨vb, h1, h2⟩ := h.bare
 exact ⟨h.low.trans (hb.mono h.low.size), h.part.under hb, h.res.under hb, vb, h1.under hb, h2.under hb⟩
theorem RX.rdt (h : RX w0 P ln cn L W) (hr : Rdt w0.heap.size (w0.heap.size + 3) W W') {X : Array Value} (hbx : Whole W (w0.heap.size + 3) 32 X) : RX w0 P ln cn L W' := by
 obtain ⟨vb, h1, h2⟩ := h.bare
 refine ⟨h.low.trans hr.low, ?_, ?_, vb, ?_, ?_⟩
 · exact hr.kept _ _ _ h.part (by decide) (by decide) (by decide) (by decide) (by decide) (by omega)
 · exact hr.kept _ _ _ h.res (by decide) (by decide) (by decide) (by decide) (by decide) (by omega)
 · exact hr.kept _ _ _ h1 (by decide) (by decide) (by decide) (by decide) (by decide) (by omega)
 · exact h2.keep fun g cs hg hw => hr.kept _ _ _ hw (by decide) (by decide) (by decide) (by decide) (by decide) (fun e => h2.apart hbx (by decide) (by rw [hg, e]))
theorem RRI.next {a : AttrS} (hx : RX w0 P ln cn (L ++ [a]) W) (hl : L.length < 64) {m' : MediaS} (hm : rd rR (L.foldl (rd rR) m0) a = m') {n : Nat} (hn : n ≤ L.length + 1) {X : Array Value} (hbx : Whole W (w0.heap.size + 3) 32 X)
 (hr : (∃ cs vC vE vR vS vY, MW w0.heap.size (w0.heap.size + 3) n W' m' cs vC vE vR vS vY) ∧ Rdt w0.heap.size (w0.heap.size + 3) W W') : RRI w0 P ln cn m0 (L ++ [a]) W' := by
 obtain ⟨⟨cs, vC, vE, vR, vS, vY, hM⟩, hR⟩ := hr
 refine ⟨hx.rdt hR hbx, by rw [List.length_append, List.length_singleton]; omega, cs, vC, vE, vR, vS, vY, ?_⟩
 rw [List.foldl_append, List.length_append]
 show MW _ _ _ _ (rd rR (L.foldl (rd rR) m0) a) _ _ _ _ _ _
 rw [hm]
 exact hM.wider hn
theorem RRI.under (h : RRI w0 P ln cn m0 L W) (hb : Below W.heap.size W W') : RRI w0 P ln cn m0 L W' := by
 obtain ⟨h1, h2, cs, vC, vE, vR, vS, vY, hM⟩ := h
 exact ⟨h1.under hb, h2, cs, vC, vE, vR, vS, vY, hM.under hb⟩
theorem RX.laid {vb v' : Value} {a : AttrS} (h : RX w0 P ln cn L W) (h1 : Whole W (w0.heap.size + 2) 24 #[.string ln, .string cn, vb]) (h2 : Own W w0.heap.size 47 2 vb (L.map acell)) (ho : Own W' w0.heap.size 47 2 v' (L.map acell ++ [acell a])) (hg : W.grownBy W' vb.ownBlock) :
 RX w0 P ln cn (L ++ [a]) (W'.setCell ⟨w0.heap.size + 2, 2, none⟩ v') ∧ Whole W' (w0.heap.size + 2) 24 #[.string ln, .string cn, vb] ∧
 (∀ g t cs, t ≠ 47 → t ≠ 24 → Whole W g t cs → Whole (W'.setCell ⟨w0.heap.size + 2, 2, none⟩ v') g t cs) := by
 have hk : ∀ g t cs, t ≠ 47 → Whole W g t cs → Whole W' g t cs := fun g t cs ht hw => hw.grown hg (fun e => (h2.apart hw (fun e2 => ht e2.symm)) e.symm)
 have hb2 := hk _ _ _ (by decide) h1
 refine ⟨⟨(h.low.grown hg h.low.size (fun j hj => (h2.lt hj).1)).setCell (p := ⟨w0.heap.size + 2, 2, none⟩) (by show w0.heap.size ≤ w0.heap.size + 2; omega) _, (hk _ _ _ (by decide) h.part).far (p := ⟨w0.heap.size + 2, 2, none⟩) (by show w0.heap.size ≠ w0.heap.size + 2; omega) _, (hk _ _ _ (by decide) h.res).far (p := ⟨w0.heap.size + 2, 2, none⟩) (by show w0.heap.size + 1 ≠ w0.heap.size + 2; omega) _, v', hb2.set 2 v', ?_⟩, hb2, fun g t cs h1 h2 hw => (hk g t cs h1 hw).far (p := ⟨w0.heap.size + 2, 2, none⟩) ((hk g t cs h1 hw).ne hb2 h2) _⟩
 rw [List.map_append]
 exact ho.far (p := ⟨w0.heap.size + 2, 2, none⟩) (ho.apart hb2 (by decide)) _
end
theorem Whole.there30 {W : World} {g : Nat} {t : TypeId} {Z : Array Value} (h : Whole W g t Z) (hs : Z.size = 31) : W.there g 1 30 := fun j hj => ⟨by
 rw [h.cell, Array.getElem?_eq_getElem (by omega : 1 + j < Z.size)]; rfl, h.frz _⟩
theorem setCells_puts (g : Nat) : ∀ (L : List Value) (i : Nat) (W : World), W.setCells g i L = puts W g L i
 | [], _, _ => rfl
 | u :: r, i, W => by rw [World.setCells, puts, setCells_puts g r]
set_option maxHeartbeats 0 in
set_option maxRecDepth 100000 in
theorem cry_put0 : ∀ (k0 k1 k2 k3 k4 k5 k6 k7 k8 k9 k10 k11 k12 k13 k14 k15 k16 k17 k18 k19 k20 k21 k22 k23 k24 k25 k26 k27 k28 k29 : UInt8) (z : Int), putsA (#[.int .i64 z] ++ zKey) (keyC [k0, k1, k2, k3, k4, k5, k6, k7, k8, k9, k10, k11, k12, k13, k14, k15, k16, k17, k18, k19, k20, k21, k22, k23, k24, k25, k26, k27, k28, k29]) 1 = (cryC ⟨z, [k0, k1, k2, k3, k4, k5, k6, k7, k8, k9, k10, k11, k12, k13, k14, k15, k16, k17, k18, k19, k20, k21, k22, k23, k24, k25, k26, k27, k28, k29]⟩).toArray := by intros; kernel_rfl
theorem cry_put (z : Int) (k : Tx) (h : k.length = 30) : putsA (#[.int .i64 z] ++ zKey) (keyC k) 1 = (cryC ⟨z, k⟩).toArray := by
 match k, h with
 | [k0, k1, k2, k3, k4, k5, k6, k7, k8, k9, k10, k11, k12, k13, k14, k15, k16, k17, k18, k19, k20, k21, k22, k23, k24, k25, k26, k27, k28, k29], _ => exact cry_put0 k0 k1 k2 k3 k4 k5 k6 k7 k8 k9 k10 k11 k12 k13 k14 k15 k16 k17 k18 k19 k20 k21 k22 k23 k24 k25 k26 k27 k28 k29 z
theorem cry_stored {W : World} {g : Nat} {t : TypeId} {z : Int} {k : Tx} (h : Whole W g t (#[.int .i64 z] ++ zKey)) (hk : k.length = 30) : Whole (W.setCells g 1 (keyC k)) g t (cryC ⟨z, k⟩).toArray := by
 rw [setCells_puts, ← cry_put z k hk]
 exact puts_same (keyC k) 1 W _ h
theorem wpList_buildOneR {ops : Array Oper} {rest : List Oper} {op : Oper} {a : Act} {w : World} {Q : Exit → Act → World → Prop} (hgd : op.guard = none) {t : TypeId} {i : Nat} {x : Operand} (ho : op.op = .build t #[(i, x)]) {u v : Value} (hx : a.eval x = u) (hr : (Instr.build t #[(i, u)]).run Tryz.prog w = .ok v w)
 (h : wpList Tryz.prog ops Q rest (a.put op.dst v) w) : wpList Tryz.prog ops Q (op :: rest) a w :=
 Go.Great.wpList_runTo hgd op.dst rfl v w (by
  unfold execOp
  simp only [ho, Sem.run_bind, List.map_toArray, List.map_cons, List.map_nil, hx, hr, Result.andThen_ok, Sem.run_pure]) h
theorem wpList_allocR {ops : Array Oper} {rest : List Oper} {op : Oper} {a : Act} {w : World} {Q : Exit → Act → World → Prop} (hgd : op.guard = none) {t : TypeId} (ho : op.op = .alloc t) {v : Value} {w' : World} (hr : (Instr.alloc t true (.tuple #[])).run Tryz.prog w = .ok v w')
 (h : wpList Tryz.prog ops Q rest (a.put op.dst v) w') : wpList Tryz.prog ops Q (op :: rest) a w :=
 Go.Great.wpList_runTo hgd op.dst rfl v w' (by
  unfold execOp
  simp only [ho, Sem.run_bind, hr, Result.andThen_ok, Sem.run_pure]) h
theorem alloc_cry (W : World) : (Instr.alloc 82 true (.tuple #[])).run Tryz.prog W = .ok (.pointer (some ⟨W.heap.size, 0, none⟩)) (W.alloc (.cells (#[.int .i64 0] ++ zKey) 82)) := by kernel_rfl
theorem built_cry1 : ∀ z : Int, Tryz.prog.built 82 [(0, .int .i64 z)] = some (#[.int .i64 z] ++ zKey) := by intros; kernel_rfl
theorem build_cry1 (z : Int) (w : World) : (Instr.build 82 #[(0, .int .i64 z)]).run Tryz.prog w = .ok (.agg (#[.int .i64 z] ++ zKey)) w := run_build w 82 _ _ (built_cry1 z)
theorem zcry_size : ∀ z : Int, ((#[.int .i64 z] : Array Value) ++ zKey).size = 31 := by intros; kernel_rfl
theorem zcry_one : ∀ z : Int, ((#[.int .i64 z] : Array Value) ++ zKey).toList.all (·.oneCell') = true := by intros; kernel_rfl
theorem zcry_letter : ∃ Z : Array Value, (∀ W : World, (Instr.alloc 82 true (.tuple #[])).run Tryz.prog W = .ok (.pointer (some ⟨W.heap.size, 0, none⟩)) (W.alloc (.cells Z 82))) ∧ Z.size = 31 := ⟨_, alloc_cry, zcry_size 0⟩
theorem zcry_letter1 (z : Int) : ∃ Z : Array Value, (∀ W : World, (Instr.build 82 #[(0, .int .i64 z)]).run Tryz.prog W = .ok (.agg Z) W) ∧ Z.size = 31 ∧ Z.toList.all (·.oneCell') = true ∧ ∀ (W : World) (g : Nat) (t : TypeId) (k : Tx), Whole W g t Z → k.length = 30 → Whole (W.setCells g 1 (keyC k)) g t (cryC ⟨z, k⟩).toArray :=
 ⟨_, build_cry1 z, zcry_size z, zcry_one z, fun W g t k h hk => cry_stored h hk⟩
theorem fill_codec : ∀ (z1 z2 ch : Int) (n1 : ByteArray), Instr.fill (fun i => some (i * 6, 6)) ((Array.range (1 * 6)).map ((Value.agg #[.int .i64 0, .string ⟨#[]⟩, .int .i64 0, .int .i64 0, .string ⟨#[]⟩, .slice none 0 0]).cells[· % (Value.agg #[.int .i64 0, .string ⟨#[]⟩, .int .i64 0, .int .i64 0, .string ⟨#[]⟩, .slice none 0 0]).cells.size]!)) [(0, .agg #[.int .i64 z1, .string n1, .int .i64 z2, .int .i64 ch, .string ⟨#[]⟩, .slice none 0 0])] = some #[.int .i64 z1, .string n1, .int .i64 z2, .int .i64 ch, .string ⟨#[]⟩, .slice none 0 0] := by intros; kernel_rfl
theorem slice_codec (z1 z2 ch : Int) (n1 : ByteArray) (w : World) : (Instr.buildSlice 26 1 #[(0, .agg #[.int .i64 z1, .string n1, .int .i64 z2, .int .i64 ch, .string ⟨#[]⟩, .slice none 0 0])]).run Tryz.prog w = .ok (.slice (some ⟨w.heap.size, 0, none⟩) 1 1) (w.alloc (.cells #[.int .i64 z1, .string n1, .int .i64 z2, .int .i64 ch, .string ⟨#[]⟩, .slice none 0 0] 50)) := by
 obtain ⟨i0, hi, hz0, hz1, hz2⟩ := info_parts Tryz.infoCodec
 refine run_buildSlice w 26 50 1 _ _ i0 _ Tryz.underlying26 hi hz0 (by rw [hz1]; decide) (by rw [hz1]; decide) ?_
 rw [hz1]
 exact fill_codec z1 z2 ch n1
theorem wpList_sliceOne {ops : Array Oper} {rest : List Oper} {op : Oper} {a : Act} {w : World} {Q : Exit → Act → World → Prop} (hgd : op.guard = none) {t : TypeId} {n i : Nat} {x : Operand} (ho : op.op = .buildSlice t n #[(i, x)]) {u v : Value} {w' : World} (hx : a.eval x = u) (hr : (Instr.buildSlice t n #[(i, u)]).run Tryz.prog w = .ok v w')
 (h : wpList Tryz.prog ops Q rest (a.put op.dst v) w') : wpList Tryz.prog ops Q (op :: rest) a w :=
 wpList_plain hgd fun _ hK => wp_sliceOne ho hx hr (hK _ _ h)
section
variable {m : MediaS} {nm vl : ByteArray}
theorem rdR_mid (hl : tx nm = nMid) : rd rR m ⟨nm, vl⟩ = { m with mid := vl } := by
 unfold rd
 simp only [hl]
 rw [if_pos trivial]
theorem rdR_sendonly (hl : tx nm = nSendonly) : rd rR m ⟨nm, vl⟩ = { m with dir := 1 } := by
 unfold rd
 simp only [hl]
 rw [if_neg (by decide), if_neg (by decide), if_neg (by decide), if_neg (by decide), if_neg (by decide), if_neg (by decide), if_neg (by decide), if_neg (by decide), if_neg (by decide), if_neg (by decide), if_neg (by decide), if_pos trivial]
theorem rdR_recvonly (hl : tx nm = nRecvonly) : rd rR m ⟨nm, vl⟩ = { m with dir := 2 } := by
 unfold rd
 simp only [hl]
 rw [if_neg (by decide), if_neg (by decide), if_neg (by decide), if_neg (by decide), if_neg (by decide), if_neg (by decide), if_neg (by decide), if_neg (by decide), if_neg (by decide), if_neg (by decide), if_neg (by decide), if_neg (by decide), if_pos trivial]
theorem rdR_sendrecv (hl : tx nm = nSendrecv) : rd rR m ⟨nm, vl⟩ = { m with dir := 3 } := by
 unfold rd
 simp only [hl]
 rw [if_neg (by decide), if_neg (by decide), if_neg (by decide), if_neg (by decide), if_neg (by decide), if_neg (by decide), if_neg (by decide), if_neg (by decide), if_neg (by decide), if_neg (by decide), if_neg (by decide), if_neg (by decide), if_neg (by decide), if_pos trivial]
theorem rdR_rtpmap (hl : tx nm = nCodec) : rd rR m ⟨nm, vl⟩ = { m with codecs := m.codecs ++ [codecOf rR (tx vl)] } := by
 unfold rd
 simp only [hl]
 rw [if_neg (by decide), if_pos trivial]
theorem rdR_fmtp (hl : tx nm = nFormat) : rd rR m ⟨nm, vl⟩ = { m with codecs := onLast (fun c => { c with format := bs (tl (tx vl)) }) m.codecs } := by
 unfold rd
 simp only [hl]
 rw [if_neg (by decide), if_neg (by decide), if_pos trivial]
theorem rdR_feed (hl : tx nm = nFeedback) : rd rR m ⟨nm, vl⟩ = { m with codecs := onLast (fun c => { c with feedback := c.feedback ++ [bs (tl (tx vl))] }) m.codecs } := by
 unfold rd
 simp only [hl]
 rw [if_neg (by decide), if_neg (by decide), if_neg (by decide), if_pos trivial]
theorem rdR_ext (hl : tx nm = nExt) : rd rR m ⟨nm, vl⟩ = { m with exts := m.exts ++ [⟨numR (hd (tx vl)), bs (tl (tx vl))⟩] } := by
 unfold rd
 simp only [hl]
 rw [if_neg (by decide), if_neg (by decide), if_neg (by decide), if_neg (by decide), if_pos trivial]
 rfl
theorem rdR_rid (hl : tx nm = nRid) : rd rR m ⟨nm, vl⟩ = { m with rids := m.rids ++ [bs (hd (tx vl))], sending := decide (tl (tx vl) = wSend) } := by
 unfold rd
 simp only [hl]
 rw [if_neg (by decide), if_neg (by decide), if_neg (by decide), if_neg (by decide), if_neg (by decide), if_pos trivial]
theorem rdR_ssrc (hl : tx nm = nSource) : rd rR m ⟨nm, vl⟩ = { m with sources := m.sources ++ [srcR (tx vl)] } := by
 unfold rd
 simp only [hl]
 rw [if_neg (by decide), if_neg (by decide), if_neg (by decide), if_neg (by decide), if_neg (by decide), if_neg (by decide), if_neg (by decide), if_pos trivial]
 rfl
theorem rdR_cry (hl : tx nm = nCrypto) : rd rR m ⟨nm, vl⟩ = { m with crypto := m.crypto ++ [cryR (tx vl)] } := by
 unfold rd
 simp only [hl]
 rw [if_neg (by decide), if_neg (by decide), if_neg (by decide), if_neg (by decide), if_neg (by decide), if_neg (by decide), if_neg (by decide), if_neg (by decide), if_pos trivial]
 rfl
theorem rdR_sctp (hl : tx nm = nSctp) : rd rR m ⟨nm, vl⟩ = { m with sctp := numR (tx vl) } := by
 unfold rd
 simp only [hl]
 rw [if_neg (by decide), if_neg (by decide), if_neg (by decide), if_neg (by decide), if_neg (by decide), if_neg (by decide), if_neg (by decide), if_neg (by decide), if_neg (by decide), if_pos trivial]
 rfl
theorem rdR_else (h0 : tx nm ≠ nMid) (h1 : tx nm ≠ nSendonly) (h2 : tx nm ≠ nRecvonly) (h3 : tx nm ≠ nSendrecv) (h4 : tx nm ≠ nCodec) (h5 : tx nm ≠ nFormat) (h6 : tx nm ≠ nFeedback) (h7 : tx nm ≠ nExt) (h8 : tx nm ≠ nRid) (h9 : tx nm ≠ nSource) (h10 : tx nm ≠ nCrypto) (h11 : tx nm ≠ nSctp) : rd rR m ⟨nm, vl⟩ = m := by
 unfold rd
 simp only []
 rw [if_neg h0, if_neg h4, if_neg h5, if_neg h6, if_neg h7, if_neg h8]
 iterate 12 (all_goals (try first | rfl | contradiction | split))
end
theorem cut_small (s : ByteArray) (c : UInt8) (hs : s.size ≤ 140737488355328) : (bs (cutS [c] (tx s)).1).size ≤ 140737488355328 ∧ (bs (cutS [c] (tx s)).2.1).size ≤ 140737488355328 := by
 have h1 := (cutS_len [c] (tx s)).1
 have h2 := (cutS_len [c] (tx s)).2
 rw [tx_length] at h1 h2
 rw [bs_size, bs_size]
 omega
theorem put_defers (a : Act) (d : Option Tmp) (v : Value) : (a.put d v).defers = a.defers := by cases d <;> rfl
def findBlock (n : Nat) : Code → Option Code
 | .block m c => if m = n then some (.block m c) else findBlock n c
 | .seq a b => match findBlock n a with
   | some c => some c
   | none => findBlock n b
 | .cond _ a b => match findBlock n a with
   | some c => some c
   | none => findBlock n b
 | .loop c => findBlock n c
 | .scope c => findBlock n c
 | _ => none
noncomputable def rrSw : Code := (Tryz.f13.body.bind (findBlock 3)).getD .skip
set_option maxRecDepth 100000 in
def SwCase (H : ByteArray → Prop) : Prop := ∀ (w w10 : World) (P : Array Value) (ln cn nm vl hS tS : ByteArray) (fS : Bool) (m0 : MediaS) (L T : List AttrS) (g13 : Nat) (cs : List (CodecS × Value)) (vC vE vR vS vY : Value)
    (hT : T = L ++ [⟨nm, vl⟩]) (hvl : vl.size ≤ 140737488355328) (hL64 : L.length < 64) (hHT : hd (tx vl) = tx hS ∧ tl (tx vl) = tx tS ∧ bs (hd (tx vl)) = hS ∧ bs (tl (tx vl)) = tS ∧ hS.size ≤ 140737488355328 ∧ tS.size ≤ 140737488355328)
    (h10 : RX w P ln cn (L ++ [⟨nm, vl⟩]) w10 ∧ MW w.heap.size (w.heap.size + 3) L.length w10 (L.foldl (rd rR) m0) cs vC vE vR vS vY ∧ Whole w10 g13 47 #[.string nm, .string vl]) (hn : H nm)
    (J K' : Act → World → Prop) (Q' : Exit → Act → World → Prop) (hK : ∀ (a' : Act) (w' : World), Met J a' w' → K' a' w') (hP : ∀ c (a a' : Act) (w : World), a.defers = a'.defers → Q' (Exit.panic c) a w → Q' (Exit.panic c) a' w) (v0 v1 v2 v3 v4 v6 v7 v8 v9 v10 v11 v12 v17 v18 v19 v20 v21 v22 v23 v24 v25 v26 v27 v28 v29 v30 v31 v32 v33 v34 v35 v36 v37 v38 v39 v40 v41 v42 v43 v44 v45 v46 v47 v48 v49 v50 v51 v52 v53 v54 v55 v56 v57 v58 v59 v60 v61 v62 v63 v64 v65 v66 v67 v68 v69 v70 v71 v72 v73 v74 v75 v76 v77 v78 v79 v80 v81 v82 v83 v84 v85 v86 v87 v88 v89 v90 v91 v92 v93 v94 v95 v96 v97 v99 v100 v101 v102 v103 v104 v105 v106 v107 v108 v109 v110 v111 v112 v113 v114 v115 v116 v117 v118 v119 v120 v121 v122 v123 v124 v125 v126 v127 v128 v129 v130 v131 v132 v133 v134 v135 v136 v137 v138 v139 v140 v141 v142 v143 v144 v145 v146 v147 v148 v149 v150 v151 v152 v153 v154 v155 v156 v157 v158 v159 v160 v161 v162 v163 v164 v165 v166 v167 v168 v169 v170 v171 v172 v173 v174 v175 v176 v177 v178 v179 v180 v181 v182 v183 v184 v185 v186 v187 v188 v189 v190 v191 v192 v193 v194 v195 v196 v197 v198 v199 v200 v201 v202 v203 v204 v205 v206 v207 v208 v209 v210 v211 v212 v213 v214 v215 v216 v217 v218 v219 v220 v221 v222 v223 v224 v225 v226 v227 v228 v229 v230 v231 v232 v233 v234 v235 v236 v237 v238 v239 v240 v241 v242 v243 v244 v245 v246 v247 v248 v249 v250 v251 v252 v253 v254 v255 v256 v257 v258 v259 v260 v261 v262 v263 v264 : Value)
    (hJ : ∀ (a' : Act) (w' : World), (∃ u3 u12 u13 u14 u15 u16 u17 u18 u19 u20 u21 u22 u23 u24 u25 u26 u27 u28 u29 u68 u69 u70 u71 u72 u73 u74 u75 u76 u77 u78 u79 u80 u81 u82 u83 u84 u85 u86 u87 u88 u89 u90 u91 u92 u93 u94 u95 u96 u97 u98 u99 u100 u101 u102 u103 u104 u105 u106 u107 u108 u109 u110 u111 u112 u113 u114 u115 u116 u117 u118 u119 u120 u121 u122 u123 u124 u125 u126 u127 u128 u129 u130 u131 u132 u133 u134 u135 u136 u137 u138 u139 u140 u141 u142 u143 u144 u145 u146 u147 u148 u149 u150 u151 u152 u153 u154 u155 u156 u157 u158 u159 u160 u161 u162 u163 u164 u165 u166 u167 u168 u169 u170 u171 u172 u173 u174 u175 u176 u177 u178 u179 u180 u181 u182 u183 u184 u185 u186 u187 u188 u189 u190 u191 u192 u193 u194 u195 u196 u197 u198 u199 u200 u201 u202 u203 u204 u205 u206 u207 u208 u209 u210 u211 u212 u213 u214 u215 u216 u217 u218 u219 u220 u221 u222 u223 u224 u225 u226 u227 u228 u229 u230 u231 u232 u233 u234 u235 u236 u237 u238 u239 u240 u241 u242 u243 u244 u245 u246 u247 u248 u249 : Value, RRI w P ln cn m0 T w' ∧ a' = ⟨#[v0, v1, v2, u3, v4, .pointer (some ⟨w.heap.size + 3, 0, none⟩), v6, v7, v8, v9, v10, v11, u12, u13, u14, u15, u16, u17, u18, u19, u20, u21, u22, u23, u24, u25, u26, u27, u28, u29, v30, v31, v32, v33, v34, v35, v36, v37, v38, v39, v40, v41, v42, v43, v44, v45, v46, v47, v48, v49, v50, v51, v52, v53, v54, v55, v56, v57, v58, v59, v60, v61, v62, v63, v64, v65, v66, v67, u68, u69, u70, u71, u72, u73, u74, u75, u76, u77, u78, u79, u80, u81, u82, u83, u84, u85, u86, u87, u88, u89, u90, u91, u92, u93, u94, u95, u96, u97, u98, u99, u100, u101, u102, u103, u104, u105, u106, u107, u108, u109, u110, u111, u112, u113, u114, u115, u116, u117, u118, u119, u120, u121, u122, u123, u124, u125, u126, u127, u128, u129, u130, u131, u132, u133, u134, u135, u136, u137, u138, u139, u140, u141, u142, u143, u144, u145, u146, u147, u148, u149, u150, u151, u152, u153, u154, u155, u156, u157, u158, u159, u160, u161, u162, u163, u164, u165, u166, u167, u168, u169, u170, u171, u172, u173, u174, u175, u176, u177, u178, u179, u180, u181, u182, u183, u184, u185, u186, u187, u188, u189, u190, u191, u192, u193, u194, u195, u196, u197, u198, u199, u200, u201, u202, u203, u204, u205, u206, u207, u208, u209, u210, u211, u212, u213, u214, u215, u216, u217, u218, u219, u220, u221, u222, u223, u224, u225, u226, u227, u228, u229, u230, u231, u232, u233, u234, u235, u236, u237, u238, u239, u240, u241, u242, u243, u244, u245, u246, u247, u248, u249, v250, v251, v252, v253, v254, v255, v256, v257, v258, v259, v260, v261, v262, v263, v264], []⟩) → J a' w'),
    Code.wp Tryz.prog rrSw (Exit.inBlock 2 (Exit.then K' Q')) ⟨#[v0, v1, v2, v3, v4, .pointer (some ⟨w.heap.size + 3, 0, none⟩), v6, v7, v8, v9, v10, v11, v12, .pointer (some ⟨g13, 0, none⟩), .string hS, .string tS, .bool fS, v17, v18, v19, v20, v21, v22, v23, v24, v25, v26, v27, v28, v29, v30, v31, v32, v33, v34, v35, v36, v37, v38, v39, v40, v41, v42, v43, v44, v45, v46, v47, v48, v49, v50, v51, v52, v53, v54, v55, v56, v57, v58, v59, v60, v61, v62, v63, v64, v65, v66, v67, v68, v69, v70, v71, v72, v73, v74, v75, v76, v77, v78, v79, v80, v81, v82, v83, v84, v85, v86, v87, v88, v89, v90, v91, v92, v93, v94, v95, v96, v97, .string nm, v99, v100, v101, v102, v103, v104, v105, v106, v107, v108, v109, v110, v111, v112, v113, v114, v115, v116, v117, v118, v119, v120, v121, v122, v123, v124, v125, v126, v127, v128, v129, v130, v131, v132, v133, v134, v135, v136, v137, v138, v139, v140, v141, v142, v143, v144, v145, v146, v147, v148, v149, v150, v151, v152, v153, v154, v155, v156, v157, v158, v159, v160, v161, v162, v163, v164, v165, v166, v167, v168, v169, v170, v171, v172, v173, v174, v175, v176, v177, v178, v179, v180, v181, v182, v183, v184, v185, v186, v187, v188, v189, v190, v191, v192, v193, v194, v195, v196, v197, v198, v199, v200, v201, v202, v203, v204, v205, v206, v207, v208, v209, v210, v211, v212, v213, v214, v215, v216, v217, v218, v219, v220, v221, v222, v223, v224, v225, v226, v227, v228, v229, v230, v231, v232, v233, v234, v235, v236, v237, v238, v239, v240, v241, v242, v243, v244, v245, v246, v247, v248, v249, v250, v251, v252, v253, v254, v255, v256, v257, v258, v259, v260, v261, v262, v263, v264], []⟩ w10
set_option maxHeartbeats 12800000 in
set_option maxRecDepth 100000 in
theorem sw_nMid : SwCase fun nm => tx nm = nMid := by
 intro w w10 P ln cn nm vl hS tS fS m0 L T g13 cs vC vE vR vS vY hT hvl hL64 hHT h10 hn J K' Q' hK hP
 intros
 have HTK := Lib.hid hT
 have HVL := Lib.hid hvl
 have HLT64 := Lib.hid hL64
 have HHT := Lib.hid hHT
 have H10 := Lib.hid h10
 have HSP : Hid (∀ (s : ByteArray) (c : UInt8) (W : World), s.size ≤ 281474976710656 → Calls Tryz.prog 31 #[.string s, .int .u8 (c.toNat : Int)] W fun e w' => e = .returned (.tuple #[.string (bs (cutS [c] (tx s)).1), .string (bs (cutS [c] (tx s)).2.1), .bool (cutS [c] (tx s)).2.2]) ∧ Below W.heap.size W w') := Lib.hid fun s c W hs => rsplit_any s c W hs
 have HCL : Hid (∀ (s : ByteArray) (c : UInt8), s.size ≤ 140737488355328 → (bs (cutS [c] (tx s)).1).size ≤ 140737488355328 ∧ (bs (cutS [c] (tx s)).2.1).size ≤ 140737488355328) := Lib.hid fun s c hs => cut_small s c hs
 have HRN : Hid (∀ (s : ByteArray) (W : World), s.size ≤ 281474976710656 → Calls Tryz.prog 32 #[.string s] W fun e w' => e = .returned (.int .i64 (numR (tx s))) ∧ W = w') := Lib.hid fun s W hs => rnumber_any s W hs
 have y0 : w10.cell? ⟨g13, 0, none⟩ = some (.string nm) := H10.out.2.2.cell 0
 have y1 : w10.cell? ⟨g13, 1, none⟩ = some (.string vl) := H10.out.2.2.cell 1
 have HPQ := Lib.hid hP
 clear hT hvl hL64 hHT h10 hP
 conv => arg 2; whnf
 have HY := Lib.hid hn
 have hq0 : (nm.toList == [109, 105, 100]) = true := by rw [toList_tx, hn]; rfl
 clear hn
 obtain ⟨m, hm⟩ : ∃ m, L.foldl (rd rR) m0 = m := ⟨_, rfl⟩
 have HMM := Lib.hid hm
 rw [hm] at H10
 clear hm
 obtain ⟨AC, kC, hvC, -⟩ := Own.form H10.out.2.1.hC
 obtain ⟨lC, hlC⟩ : ∃ l, (cs.map fun c => ccell c.1 c.2).length = l := ⟨_, rfl⟩
 rw [hlC] at hvC
 subst hvC
 obtain ⟨AE, kE, hvE, -⟩ := Own.form H10.out.2.1.hE
 obtain ⟨lE, hlE⟩ : ∃ l, (m.exts.map ecell).length = l := ⟨_, rfl⟩
 rw [hlE] at hvE
 subst hvE
 obtain ⟨AR, kR, hvR, -⟩ := Own.form H10.out.2.1.hR
 obtain ⟨lR, hlR⟩ : ∃ l, (m.rids.map tcell).length = l := ⟨_, rfl⟩
 rw [hlR] at hvR
 subst hvR
 obtain ⟨AS, kS, hvS, -⟩ := Own.form H10.out.2.1.hS
 obtain ⟨lS, hlS⟩ : ∃ l, (m.sources.map ucell).length = l := ⟨_, rfl⟩
 rw [hlS] at hvS
 subst hvS
 obtain ⟨AY, kY, hvY, -⟩ := Own.form H10.out.2.1.hY
 obtain ⟨lY, hlY⟩ : ∃ l, (m.crypto.map cryC).length = l := ⟨_, rfl⟩
 rw [hlY] at hvY
 subst hvY
 have HLC : Hid (cs.length = lC) := Lib.hid (by rw [← hlC, List.length_map])
 clear hlC hlE hlR hlS hlY
 have HLL : Hid (L.length ≤ 64) := Lib.hid (Nat.le_of_lt HLT64.out)
 have HB10 : Hid (w.heap.size ≤ w10.heap.size) := Lib.hid H10.out.1.low.size
 have HDONE : Hid (∀ (m' : MediaS) (k : Nat) (W' : World), rd rR m ⟨nm, vl⟩ = m' → k ≤ L.length + 1 → (∃ cs vC vE vR vS vY, MW w.heap.size (w.heap.size + 3) k W' m' cs vC vE vR vS vY) → Rdt w.heap.size (w.heap.size + 3) w10 W' → RRI w P ln cn m0 T W') := Lib.hid fun m' k W' hm' hk hM hR => by
  have ht : T = L ++ [⟨nm, vl⟩] := HTK.out
  rw [ht]
  exact RRI.next H10.out.1 HLT64.out (by rw [HMM.out]; exact hm') hk H10.out.2.1.box ⟨hM, hR⟩
 have qf := H10.out.2.1.box.frz
 have c0 : w10.cell? ⟨w.heap.size + 3, 2, none⟩ = some (.string m.mid) := H10.out.2.1.box.cell 2
 have HE : Hid (∀ W', W' = w10.setCell ⟨w.heap.size + 3, 2, none⟩ (.string vl) → RRI w P ln cn m0 T W') := Lib.hid fun W' hW => by
  subst hW
  exact HDONE.out _ L.length _ (rdR_mid HY.out) (Nat.le_succ _) ⟨_, _, _, _, _, _, H10.out.2.1.cell (m' := { m with mid := vl }) 2 _ rfl rfl rfl rfl rfl rfl HVL.out⟩ ((Rdt.refl _ _ _).cell H10.out.2.1.hbm 2 _)
 go_wp2
 go_meet
 exact HE.out _ rfl
set_option maxHeartbeats 12800000 in
set_option maxRecDepth 100000 in
theorem sw_nSendonly : SwCase fun nm => tx nm = nSendonly := by
 intro w w10 P ln cn nm vl hS tS fS m0 L T g13 cs vC vE vR vS vY hT hvl hL64 hHT h10 hn J K' Q' hK hP
 intros
 have HTK := Lib.hid hT
 have HVL := Lib.hid hvl
 have HLT64 := Lib.hid hL64
 have HHT := Lib.hid hHT
 have H10 := Lib.hid h10
 have HSP : Hid (∀ (s : ByteArray) (c : UInt8) (W : World), s.size ≤ 281474976710656 → Calls Tryz.prog 31 #[.string s, .int .u8 (c.toNat : Int)] W fun e w' => e = .returned (.tuple #[.string (bs (cutS [c] (tx s)).1), .string (bs (cutS [c] (tx s)).2.1), .bool (cutS [c] (tx s)).2.2]) ∧ Below W.heap.size W w') := Lib.hid fun s c W hs => rsplit_any s c W hs
 have HCL : Hid (∀ (s : ByteArray) (c : UInt8), s.size ≤ 140737488355328 → (bs (cutS [c] (tx s)).1).size ≤ 140737488355328 ∧ (bs (cutS [c] (tx s)).2.1).size ≤ 140737488355328) := Lib.hid fun s c hs => cut_small s c hs
 have HRN : Hid (∀ (s : ByteArray) (W : World), s.size ≤ 281474976710656 → Calls Tryz.prog 32 #[.string s] W fun e w' => e = .returned (.int .i64 (numR (tx s))) ∧ W = w') := Lib.hid fun s W hs => rnumber_any s W hs
 have y0 : w10.cell? ⟨g13, 0, none⟩ = some (.string nm) := H10.out.2.2.cell 0
 have y1 : w10.cell? ⟨g13, 1, none⟩ = some (.string vl) := H10.out.2.2.cell 1
 have HPQ := Lib.hid hP
 clear hT hvl hL64 hHT h10 hP
 conv => arg 2; whnf
 have HY := Lib.hid hn
 have hq0 : (nm.toList == [109, 105, 100]) = false := by rw [toList_tx, hn]; decide
 have hq1 : (nm.toList == [115, 101, 110, 100, 111, 110, 108, 121]) = true := by rw [toList_tx, hn]; rfl
 clear hn
 obtain ⟨m, hm⟩ : ∃ m, L.foldl (rd rR) m0 = m := ⟨_, rfl⟩
 have HMM := Lib.hid hm
 rw [hm] at H10
 clear hm
 obtain ⟨AC, kC, hvC, -⟩ := Own.form H10.out.2.1.hC
 obtain ⟨lC, hlC⟩ : ∃ l, (cs.map fun c => ccell c.1 c.2).length = l := ⟨_, rfl⟩
 rw [hlC] at hvC
 subst hvC
 obtain ⟨AE, kE, hvE, -⟩ := Own.form H10.out.2.1.hE
 obtain ⟨lE, hlE⟩ : ∃ l, (m.exts.map ecell).length = l := ⟨_, rfl⟩
 rw [hlE] at hvE
 subst hvE
 obtain ⟨AR, kR, hvR, -⟩ := Own.form H10.out.2.1.hR
 obtain ⟨lR, hlR⟩ : ∃ l, (m.rids.map tcell).length = l := ⟨_, rfl⟩
 rw [hlR] at hvR
 subst hvR
 obtain ⟨AS, kS, hvS, -⟩ := Own.form H10.out.2.1.hS
 obtain ⟨lS, hlS⟩ : ∃ l, (m.sources.map ucell).length = l := ⟨_, rfl⟩
 rw [hlS] at hvS
 subst hvS
 obtain ⟨AY, kY, hvY, -⟩ := Own.form H10.out.2.1.hY
 obtain ⟨lY, hlY⟩ : ∃ l, (m.crypto.map cryC).length = l := ⟨_, rfl⟩
 rw [hlY] at hvY
 subst hvY
 have HLC : Hid (cs.length = lC) := Lib.hid (by rw [← hlC, List.length_map])
 clear hlC hlE hlR hlS hlY
 have HLL : Hid (L.length ≤ 64) := Lib.hid (Nat.le_of_lt HLT64.out)
 have HB10 : Hid (w.heap.size ≤ w10.heap.size) := Lib.hid H10.out.1.low.size
 have HDONE : Hid (∀ (m' : MediaS) (k : Nat) (W' : World), rd rR m ⟨nm, vl⟩ = m' → k ≤ L.length + 1 → (∃ cs vC vE vR vS vY, MW w.heap.size (w.heap.size + 3) k W' m' cs vC vE vR vS vY) → Rdt w.heap.size (w.heap.size + 3) w10 W' → RRI w P ln cn m0 T W') := Lib.hid fun m' k W' hm' hk hM hR => by
  have ht : T = L ++ [⟨nm, vl⟩] := HTK.out
  rw [ht]
  exact RRI.next H10.out.1 HLT64.out (by rw [HMM.out]; exact hm') hk H10.out.2.1.box ⟨hM, hR⟩
 have qf := H10.out.2.1.box.frz
 have c0 : w10.cell? ⟨w.heap.size + 3, 3, none⟩ = some (.int .i64 m.dir) := H10.out.2.1.box.cell 3
 have HE : Hid (∀ W', W' = w10.setCell ⟨w.heap.size + 3, 3, none⟩ (.int .i64 1) → RRI w P ln cn m0 T W') := Lib.hid fun W' hW => by
  subst hW
  exact HDONE.out _ L.length _ (rdR_sendonly HY.out) (Nat.le_succ _) ⟨_, _, _, _, _, _, H10.out.2.1.cell (m' := { m with dir := 1 }) 3 _ rfl rfl rfl rfl rfl rfl H10.out.2.1.siz.mid⟩ ((Rdt.refl _ _ _).cell H10.out.2.1.hbm 3 _)
 go_wp2
 go_meet
 exact HE.out _ rfl
set_option maxHeartbeats 12800000 in
set_option maxRecDepth 100000 in
theorem sw_nRecvonly : SwCase fun nm => tx nm = nRecvonly := by
 intro w w10 P ln cn nm vl hS tS fS m0 L T g13 cs vC vE vR vS vY hT hvl hL64 hHT h10 hn J K' Q' hK hP
 intros
 have HTK := Lib.hid hT
 have HVL := Lib.hid hvl
 have HLT64 := Lib.hid hL64
 have HHT := Lib.hid hHT
 have H10 := Lib.hid h10
 have HSP : Hid (∀ (s : ByteArray) (c : UInt8) (W : World), s.size ≤ 281474976710656 → Calls Tryz.prog 31 #[.string s, .int .u8 (c.toNat : Int)] W fun e w' => e = .returned (.tuple #[.string (bs (cutS [c] (tx s)).1), .string (bs (cutS [c] (tx s)).2.1), .bool (cutS [c] (tx s)).2.2]) ∧ Below W.heap.size W w') := Lib.hid fun s c W hs => rsplit_any s c W hs
 have HCL : Hid (∀ (s : ByteArray) (c : UInt8), s.size ≤ 140737488355328 → (bs (cutS [c] (tx s)).1).size ≤ 140737488355328 ∧ (bs (cutS [c] (tx s)).2.1).size ≤ 140737488355328) := Lib.hid fun s c hs => cut_small s c hs
 have HRN : Hid (∀ (s : ByteArray) (W : World), s.size ≤ 281474976710656 → Calls Tryz.prog 32 #[.string s] W fun e w' => e = .returned (.int .i64 (numR (tx s))) ∧ W = w') := Lib.hid fun s W hs => rnumber_any s W hs
 have y0 : w10.cell? ⟨g13, 0, none⟩ = some (.string nm) := H10.out.2.2.cell 0
 have y1 : w10.cell? ⟨g13, 1, none⟩ = some (.string vl) := H10.out.2.2.cell 1
 have HPQ := Lib.hid hP
 clear hT hvl hL64 hHT h10 hP
 conv => arg 2; whnf
 have HY := Lib.hid hn
 have hq0 : (nm.toList == [109, 105, 100]) = false := by rw [toList_tx, hn]; decide
 have hq1 : (nm.toList == [115, 101, 110, 100, 111, 110, 108, 121]) = false := by rw [toList_tx, hn]; decide
 have hq2 : (nm.toList == [114, 101, 99, 118, 111, 110, 108, 121]) = true := by rw [toList_tx, hn]; rfl
 clear hn
 obtain ⟨m, hm⟩ : ∃ m, L.foldl (rd rR) m0 = m := ⟨_, rfl⟩
 have HMM := Lib.hid hm
 rw [hm] at H10
 clear hm
 obtain ⟨AC, kC, hvC, -⟩ := Own.form H10.out.2.1.hC
 obtain ⟨lC, hlC⟩ : ∃ l, (cs.map fun c => ccell c.1 c.2).length = l := ⟨_, rfl⟩
 rw [hlC] at hvC
 subst hvC
 obtain ⟨AE, kE, hvE, -⟩ := Own.form H10.out.2.1.hE
 obtain ⟨lE, hlE⟩ : ∃ l, (m.exts.map ecell).length = l := ⟨_, rfl⟩
 rw [hlE] at hvE
 subst hvE
 obtain ⟨AR, kR, hvR, -⟩ := Own.form H10.out.2.1.hR
 obtain ⟨lR, hlR⟩ : ∃ l, (m.rids.map tcell).length = l := ⟨_, rfl⟩
 rw [hlR] at hvR
 subst hvR
 obtain ⟨AS, kS, hvS, -⟩ := Own.form H10.out.2.1.hS
 obtain ⟨lS, hlS⟩ : ∃ l, (m.sources.map ucell).length = l := ⟨_, rfl⟩
 rw [hlS] at hvS
 subst hvS
 obtain ⟨AY, kY, hvY, -⟩ := Own.form H10.out.2.1.hY
 obtain ⟨lY, hlY⟩ : ∃ l, (m.crypto.map cryC).length = l := ⟨_, rfl⟩
 rw [hlY] at hvY
 subst hvY
 have HLC : Hid (cs.length = lC) := Lib.hid (by rw [← hlC, List.length_map])
 clear hlC hlE hlR hlS hlY
 have HLL : Hid (L.length ≤ 64) := Lib.hid (Nat.le_of_lt HLT64.out)
 have HB10 : Hid (w.heap.size ≤ w10.heap.size) := Lib.hid H10.out.1.low.size
 have HDONE : Hid (∀ (m' : MediaS) (k : Nat) (W' : World), rd rR m ⟨nm, vl⟩ = m' → k ≤ L.length + 1 → (∃ cs vC vE vR vS vY, MW w.heap.size (w.heap.size + 3) k W' m' cs vC vE vR vS vY) → Rdt w.heap.size (w.heap.size + 3) w10 W' → RRI w P ln cn m0 T W') := Lib.hid fun m' k W' hm' hk hM hR => by
  have ht : T = L ++ [⟨nm, vl⟩] := HTK.out
  rw [ht]
  exact RRI.next H10.out.1 HLT64.out (by rw [HMM.out]; exact hm') hk H10.out.2.1.box ⟨hM, hR⟩
 have qf := H10.out.2.1.box.frz
 have c0 : w10.cell? ⟨w.heap.size + 3, 3, none⟩ = some (.int .i64 m.dir) := H10.out.2.1.box.cell 3
 have HE : Hid (∀ W', W' = w10.setCell ⟨w.heap.size + 3, 3, none⟩ (.int .i64 2) → RRI w P ln cn m0 T W') := Lib.hid fun W' hW => by
  subst hW
  exact HDONE.out _ L.length _ (rdR_recvonly HY.out) (Nat.le_succ _) ⟨_, _, _, _, _, _, H10.out.2.1.cell (m' := { m with dir := 2 }) 3 _ rfl rfl rfl rfl rfl rfl H10.out.2.1.siz.mid⟩ ((Rdt.refl _ _ _).cell H10.out.2.1.hbm 3 _)
 go_wp2
 go_meet
 exact HE.out _ rfl
set_option maxHeartbeats 12800000 in
set_option maxRecDepth 100000 in
theorem sw_nSendrecv : SwCase fun nm => tx nm = nSendrecv := by
 intro w w10 P ln cn nm vl hS tS fS m0 L T g13 cs vC vE vR vS vY hT hvl hL64 hHT h10 hn J K' Q' hK hP
 intros
 have HTK := Lib.hid hT
 have HVL := Lib.hid hvl
 have HLT64 := Lib.hid hL64
 have HHT := Lib.hid hHT
 have H10 := Lib.hid h10
 have HSP : Hid (∀ (s : ByteArray) (c : UInt8) (W : World), s.size ≤ 281474976710656 → Calls Tryz.prog 31 #[.string s, .int .u8 (c.toNat : Int)] W fun e w' => e = .returned (.tuple #[.string (bs (cutS [c] (tx s)).1), .string (bs (cutS [c] (tx s)).2.1), .bool (cutS [c] (tx s)).2.2]) ∧ Below W.heap.size W w') := Lib.hid fun s c W hs => rsplit_any s c W hs
 have HCL : Hid (∀ (s : ByteArray) (c : UInt8), s.size ≤ 140737488355328 → (bs (cutS [c] (tx s)).1).size ≤ 140737488355328 ∧ (bs (cutS [c] (tx s)).2.1).size ≤ 140737488355328) := Lib.hid fun s c hs => cut_small s c hs
 have HRN : Hid (∀ (s : ByteArray) (W : World), s.size ≤ 281474976710656 → Calls Tryz.prog 32 #[.string s] W fun e w' => e = .returned (.int .i64 (numR (tx s))) ∧ W = w') := Lib.hid fun s W hs => rnumber_any s W hs
 have y0 : w10.cell? ⟨g13, 0, none⟩ = some (.string nm) := H10.out.2.2.cell 0
 have y1 : w10.cell? ⟨g13, 1, none⟩ = some (.string vl) := H10.out.2.2.cell 1
 have HPQ := Lib.hid hP
 clear hT hvl hL64 hHT h10 hP
 conv => arg 2; whnf
 have HY := Lib.hid hn
 have hq0 : (nm.toList == [109, 105, 100]) = false := by rw [toList_tx, hn]; decide
 have hq1 : (nm.toList == [115, 101, 110, 100, 111, 110, 108, 121]) = false := by rw [toList_tx, hn]; decide
 have hq2 : (nm.toList == [114, 101, 99, 118, 111, 110, 108, 121]) = false := by rw [toList_tx, hn]; decide
 have hq3 : (nm.toList == [115, 101, 110, 100, 114, 101, 99, 118]) = true := by rw [toList_tx, hn]; rfl
 clear hn
 obtain ⟨m, hm⟩ : ∃ m, L.foldl (rd rR) m0 = m := ⟨_, rfl⟩
 have HMM := Lib.hid hm
 rw [hm] at H10
 clear hm
 obtain ⟨AC, kC, hvC, -⟩ := Own.form H10.out.2.1.hC
 obtain ⟨lC, hlC⟩ : ∃ l, (cs.map fun c => ccell c.1 c.2).length = l := ⟨_, rfl⟩
 rw [hlC] at hvC
 subst hvC
 obtain ⟨AE, kE, hvE, -⟩ := Own.form H10.out.2.1.hE
 obtain ⟨lE, hlE⟩ : ∃ l, (m.exts.map ecell).length = l := ⟨_, rfl⟩
 rw [hlE] at hvE
 subst hvE
 obtain ⟨AR, kR, hvR, -⟩ := Own.form H10.out.2.1.hR
 obtain ⟨lR, hlR⟩ : ∃ l, (m.rids.map tcell).length = l := ⟨_, rfl⟩
 rw [hlR] at hvR
 subst hvR
 obtain ⟨AS, kS, hvS, -⟩ := Own.form H10.out.2.1.hS
 obtain ⟨lS, hlS⟩ : ∃ l, (m.sources.map ucell).length = l := ⟨_, rfl⟩
 rw [hlS] at hvS
 subst hvS
 obtain ⟨AY, kY, hvY, -⟩ := Own.form H10.out.2.1.hY
 obtain ⟨lY, hlY⟩ : ∃ l, (m.crypto.map cryC).length = l := ⟨_, rfl⟩
 rw [hlY] at hvY
 subst hvY
 have HLC : Hid (cs.length = lC) := Lib.hid (by rw [← hlC, List.length_map])
 clear hlC hlE hlR hlS hlY
 have HLL : Hid (L.length ≤ 64) := Lib.hid (Nat.le_of_lt HLT64.out)
 have HB10 : Hid (w.heap.size ≤ w10.heap.size) := Lib.hid H10.out.1.low.size
 have HDONE : Hid (∀ (m' : MediaS) (k : Nat) (W' : World), rd rR m ⟨nm, vl⟩ = m' → k ≤ L.length + 1 → (∃ cs vC vE vR vS vY, MW w.heap.size (w.heap.size + 3) k W' m' cs vC vE vR vS vY) → Rdt w.heap.size (w.heap.size + 3) w10 W' → RRI w P ln cn m0 T W') := Lib.hid fun m' k W' hm' hk hM hR => by
  have ht : T = L ++ [⟨nm, vl⟩] := HTK.out
  rw [ht]
  exact RRI.next H10.out.1 HLT64.out (by rw [HMM.out]; exact hm') hk H10.out.2.1.box ⟨hM, hR⟩
 have qf := H10.out.2.1.box.frz
 have c0 : w10.cell? ⟨w.heap.size + 3, 3, none⟩ = some (.int .i64 m.dir) := H10.out.2.1.box.cell 3
 have HE : Hid (∀ W', W' = w10.setCell ⟨w.heap.size + 3, 3, none⟩ (.int .i64 3) → RRI w P ln cn m0 T W') := Lib.hid fun W' hW => by
  subst hW
  exact HDONE.out _ L.length _ (rdR_sendrecv HY.out) (Nat.le_succ _) ⟨_, _, _, _, _, _, H10.out.2.1.cell (m' := { m with dir := 3 }) 3 _ rfl rfl rfl rfl rfl rfl H10.out.2.1.siz.mid⟩ ((Rdt.refl _ _ _).cell H10.out.2.1.hbm 3 _)
 go_wp2
 go_meet
 exact HE.out _ rfl
end Go.Proofs.YtlekmakofkpcdaaGreatDoor
