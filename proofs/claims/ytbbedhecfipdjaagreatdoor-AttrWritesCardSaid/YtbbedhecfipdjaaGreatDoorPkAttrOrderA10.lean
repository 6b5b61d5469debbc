import Derived.Test.YtbbedhecfipdjaaGreatDoorPkAttrOrderA06
import Derived.Test.YtbbedhecfipdjaaGreatDoorPkAttrOrderA08
import Derived.Test.YtbbedhecfipdjaaGreatDoorPkAttrOrderA09
import Derived.Test.YtbbedhecfipdjaaGreatDoorPkAttrOrderA05
import Derived.Test.YtbbedhecfipdjaaGreatDoorPkAttrOrderA00
namespace Go.Proofs.YtbbedhecfipdjaaGreatDoor
open Go.RowKit Go.Shelf
set_option linter.unusedVariables false
set_option linter.unusedSimpArgs false
def Cells (w w' : World) : Prop := ∀ (g : Nat) (t : TypeId) (cs : Array Value), Whole w g t cs → Whole w' g t cs
theorem cells_other {W W' : World} {row : Option Nat} (hg : W.grownBy W' row) (hr : ∀ r, row = some r → ∃ o : Obj, W.heap[r]? = some o ∧ o.isCells = false) : Cells W W' := fun g t cs h => h.grown hg (fun e => by
 obtain ⟨o, ho, hc⟩ := hr g e.symm
 have h' : W.heap[g]? = some (Obj.cells cs t (0, 0)) := h
 rw [h'] at ho
 cases ho
 cases hc)
theorem cells_put {W : World} {l : Nat} {o : Obj} (o' : Obj) (hl : W.heap[l]? = some o) (ho : o.isCells = false) : Cells W (W.putObj l o') := cells_other (grownBy_putObj' W l o') (fun r e => by cases e; exact ⟨o, hl, ho⟩)
section
variable {base bm n : Nat} {w w' : World} {m : MediaS} {cs : List (CodecS × Value)} {vC vE vR vS vY : Value}
theorem Own.cells {e : TypeId} {sz : Nat} {v : Value} {rs : List (List Value)} (h : Own w base e sz v rs) (hk : Cells w w') : Own w' base e sz v rs := h.keep fun g cs _ hw => hk g e cs hw
theorem MW.cells (h : MW base bm n w m cs vC vE vR vS vY) (hk : Cells w w') : MW base bm n w' m cs vC vE vR vS vY :=
 ⟨h.eqC, hk _ _ _ h.box, h.hC.cells hk, fun c hc => (h.hF c hc).cells hk, h.hE.cells hk, h.hR.cells hk, h.hS.cells hk, h.hY.cells hk, h.ap, h.hbm, h.siz, h.lens⟩
theorem MW.wider {n' : Nat} (h : MW base bm n w m cs vC vE vR vS vY) (hn : n ≤ n') : MW base bm n' w m cs vC vE vR vS vY :=
 ⟨h.eqC, h.box, h.hC, h.hF, h.hE, h.hR, h.hS, h.hY, h.ap, h.hbm, h.siz, by obtain ⟨l1, l2, l3, l4, l5, l6⟩ := h.lens; exact ⟨by omega, by omega, by omega, by omega, by omega, fun c hc => by have := l6 c hc; omega⟩⟩
end
theorem RdrV.cells {l : Tx} {v : Value} {w w' : World} (h : RdrV l v w) (hk : ∀ g cs, Whole w g 3 cs → Whole w' g 3 cs) : RdrV l v w' := by
 cases h with
 | mid h hv => exact .mid h hv
 | rtpmap h hv => exact .rtpmap h hv
 | fmtp h hv => exact .fmtp h hv
 | rtcpfb h hv => exact .rtcpfb h hv
 | extmap h hv => exact .extmap h hv
 | rid h hv => exact .rid h hv
 | simulcast h hv => exact .simulcast h hv
 | ssrc h hv => exact .ssrc h hv
 | crypto h hv => exact .crypto h hv
 | sctpport h hv => exact .sctpport h hv
 | dir k g h hv hg => exact .dir k g h hv (hk _ _ hg)
 | other h hv => exact .other h hv
abbrev zeroM : Array Value := #[.int .i64 0, .int .i64 0, .string ⟨#[]⟩, .int .i64 0, .slice none 0 0, .slice none 0 0, .slice none 0 0, .bool false, .slice none 0 0, .slice none 0 0, .int .i64 0]
structure RI (w0 : World) (P : Array Value) (m0 : MediaS) (L : List AttrS) (W : World) : Prop where
 low : Below w0.heap.size w0 W
 part : Whole W w0.heap.size 38 P
 res : Whole W (w0.heap.size + 1) 28 zeroM
 err : Whole W (w0.heap.size + 2) 33 #[.int .i64 0]
 med : ∃ cs vC vE vR vS vY, MW w0.heap.size (w0.heap.size + 3) L.length W (L.foldl (rd rP) m0) cs vC vE vR vS vY
 att : ∃ va, Whole W (w0.heap.size + 4) 36 #[va] ∧ Own W w0.heap.size 53 2 va (L.map acell)
 few : L.length ≤ 64
theorem RI.cells {w0 W W' : World} {P : Array Value} {m0 : MediaS} {L : List AttrS} (h : RI w0 P m0 L W) (hk : Cells W W') (hb : Below w0.heap.size W W') : RI w0 P m0 L W' := by
 obtain ⟨cs, vC, vE, vR, vS, vY, hm⟩ := h.med
 obtain ⟨va, h1, h2⟩ := h.att
 exact ⟨h.low.trans hb, hk _ _ _ h.part, hk _ _ _ h.res, hk _ _ _ h.err, ⟨cs, vC, vE, vR, vS, vY, hm.cells hk⟩, ⟨va, hk _ _ _ h1, h2.cells hk⟩, h.few⟩
theorem RI.grown {w0 W W' : World} {P : Array Value} {m0 : MediaS} {L : List AttrS} {K : Nat} (h : RI w0 P m0 L W) (hK : w0.heap.size ≤ K) {row : Option Nat} (hg : W.grownBy W' row) (hr : ∀ r, row = some r → K ≤ r ∧ ∃ o : Obj, W.heap[r]? = some o ∧ o.isCells = false) : RI w0 P m0 L W' :=
 h.cells (cells_other hg fun r e => (hr r e).2) ((Below.refl _ W).grown hg h.low.size (fun r e => Nat.le_trans hK (hr r e).1))
theorem cells_under {W W' : World} (hb : Below W.heap.size W W') : Cells W W' := fun g t cs h => h.under hb
theorem RI.under {w0 W W' : World} {P : Array Value} {m0 : MediaS} {L : List AttrS} (h : RI w0 P m0 L W) (hb : Below W.heap.size W W') : RI w0 P m0 L W' := h.cells (cells_under hb) (hb.mono h.low.size)
theorem RI.laid {w0 W W' : World} {P : Array Value} {m0 : MediaS} {L : List AttrS} {va v' : Value} {a : AttrS} (h : RI w0 P m0 L W) (h1 : Whole W (w0.heap.size + 4) 36 #[va]) (h2 : Own W w0.heap.size 53 2 va (L.map acell))
 (ho : Own W' w0.heap.size 53 2 v' (L.map acell ++ [acell a])) (hg : W.grownBy W' va.ownBlock) :
 Below w0.heap.size w0 (W'.setCell ⟨w0.heap.size + 4, 0, none⟩ v') ∧ Whole (W'.setCell ⟨w0.heap.size + 4, 0, none⟩ v') w0.heap.size 38 P ∧ Whole (W'.setCell ⟨w0.heap.size + 4, 0, none⟩ v') (w0.heap.size + 1) 28 zeroM ∧ Whole (W'.setCell ⟨w0.heap.size + 4, 0, none⟩ v') (w0.heap.size + 2) 33 #[.int .i64 0] ∧
 (∃ cs vC vE vR vS vY, MW w0.heap.size (w0.heap.size + 3) L.length (W'.setCell ⟨w0.heap.size + 4, 0, none⟩ v') (L.foldl (rd rP) m0) cs vC vE vR vS vY) ∧ Whole (W'.setCell ⟨w0.heap.size + 4, 0, none⟩ v') (w0.heap.size + 4) 36 #[v'] ∧ Own (W'.setCell ⟨w0.heap.size + 4, 0, none⟩ v') w0.heap.size 53 2 v' ((L ++ [a]).map acell) ∧
 (∀ g t cs, t ≠ 53 → g ≠ w0.heap.size + 4 → Whole W g t cs → Whole (W'.setCell ⟨w0.heap.size + 4, 0, none⟩ v') g t cs) ∧ Go.KeepsOthers W (W'.setCell ⟨w0.heap.size + 4, 0, none⟩ v') := by
 have hk : ∀ g t cs, t ≠ 53 → g ≠ w0.heap.size + 4 → Whole W g t cs → Whole (W'.setCell ⟨w0.heap.size + 4, 0, none⟩ v') g t cs := fun g t cs ht hne hw =>
  (hw.grown hg (fun e => (h2.apart hw (fun e2 => ht e2.symm)) e.symm)).far (p := ⟨w0.heap.size + 4, 0, none⟩) hne _
 have hb4 : Whole W' (w0.heap.size + 4) 36 #[va] := h1.grown hg (fun e => (h2.apart h1 (by decide)) e.symm)
 obtain ⟨cs, vC, vE, vR, vS, vY, hm⟩ := h.med
 have own : ∀ {e : TypeId} {sz : Nat} {v : Value} {rs : List (List Value)}, Own W w0.heap.size e sz v rs → e ≠ 53 → e ≠ 36 → Own (W'.setCell ⟨w0.heap.size + 4, 0, none⟩ v') w0.heap.size e sz v rs := fun {e sz v rs} ho he he2 =>
  ho.keep fun g cs hg' hw => hk g e cs he (fun e3 => ho.apart h1 he2 (by rw [hg', e3])) hw
 refine ⟨?_, hk _ _ _ (by decide) (by omega) h.part, hk _ _ _ (by decide) (by omega) h.res, hk _ _ _ (by decide) (by omega) h.err, ⟨cs, vC, vE, vR, vS, vY, ?_⟩, ?_, ?_, hk, (h2.others hg).trans (Go.KeepsOthers.setCell _ _ _)⟩
 · exact (h.low.grown hg h.low.size (fun j hj => (h2.lt hj).1)).setCell (p := ⟨w0.heap.size + 4, 0, none⟩) (by show w0.heap.size ≤ w0.heap.size + 4; omega) _
 · exact ⟨hm.eqC, hk _ _ _ (by decide) (by omega) hm.box, own hm.hC (by decide) (by decide), fun c hc => own (hm.hF c hc) (by decide) (by decide), own hm.hE (by decide) (by decide), own hm.hR (by decide) (by decide), own hm.hS (by decide) (by decide), own hm.hY (by decide) (by decide), hm.ap, hm.hbm, hm.siz, hm.lens⟩
 · exact hb4.set 0 v'
 · rw [List.map_append]
   exact ho.far (p := ⟨w0.heap.size + 4, 0, none⟩) (ho.apart hb4 (by decide)) _
theorem RI.read {w0 W W' : World} {P : Array Value} {m0 : MediaS} {L : List AttrS} {v' : Value} {a : AttrS} {m' : MediaS} (h0 : Below w0.heap.size w0 W) (h1 : Whole W w0.heap.size 38 P) (h2 : Whole W (w0.heap.size + 1) 28 zeroM) (h3 : Whole W (w0.heap.size + 2) 33 #[.int .i64 0]) (h4 : Whole W (w0.heap.size + 4) 36 #[v'])
 (h5 : Own W w0.heap.size 53 2 v' ((L ++ [a]).map acell)) (hl : L.length < 64) (hm : m' = rd rP (L.foldl (rd rP) m0) a) {X : Array Value} (hbx : Whole W (w0.heap.size + 3) 28 X) {e : Ending} {n : Nat} (hn : n ≤ L.length + 1) (hr : RdO w0.heap.size (w0.heap.size + 3) n W m' e W') : e = .returned (.tuple #[]) ∧ RI w0 P m0 (L ++ [a]) W' ∧ Go.KeepsOthers W W' ∧ Below w0.heap.size W W' := by
 obtain ⟨rfl, ⟨cs, vC, vE, vR, vS, vY, hM⟩, hR⟩ := hr
 refine ⟨rfl, ⟨h0.trans hR.low, ?_, ?_, ?_, ⟨cs, vC, vE, vR, vS, vY, ?_⟩, ⟨v', ?_, ?_⟩, ?_⟩, hR.rest, hR.low⟩
 · exact hR.kept _ _ _ h1 (by decide) (by decide) (by decide) (by decide) (by decide) (by omega)
 · exact hR.kept _ _ _ h2 (by decide) (by decide) (by decide) (by decide) (by decide) (by omega)
 · exact hR.kept _ _ _ h3 (by decide) (by decide) (by decide) (by decide) (by decide) (by omega)
 · rw [List.foldl_append, List.length_append]
   show MW _ _ _ _ (rd rP (L.foldl (rd rP) m0) a) _ _ _ _ _ _
   rw [← hm]
   exact hM.wider hn
 · exact hR.kept _ _ _ h4 (by decide) (by decide) (by decide) (by decide) (by decide) (by omega)
 · exact h5.keep fun g cs hg hw => hR.kept _ _ _ hw (by decide) (by decide) (by decide) (by decide) (by decide) (fun e => h5.apart hbx (by decide) (by rw [hg, e]))
 · rw [List.length_append, List.length_singleton]
   omega
end Go.Proofs.YtbbedhecfipdjaaGreatDoor
namespace Go.Proofs.YtbbedhecfipdjaaGreatDoor
open Go.RowKit
set_option linter.unusedVariables false
set_option linter.unusedSimpArgs false
theorem eqSA (W : World) (a b c d : ByteArray) : (Op.equalIn 10000 53 (.agg #[.string a, .string b]) (.agg #[.string c, .string d])).run Tryz.prog W = .ok ((a.toList == c.toList) && (b.toList == d.toList)) W := by
 go_simp
 by_cases h1 : a.toList = c.toList <;> by_cases h2 : b.toList = d.toList <;> simp [h1, h2]
theorem guardSA : Tryz.prog.eqGuardType Tryz.prog.depth 53 = false := by kernel_rfl
set_option maxHeartbeats 1600000 in
theorem slEqual_any (v1 v2 : Value) (L M : List AttrS) (w : World) (h1 : AttrsV w w.heap.size v1 L) (h2 : AttrsV w w.heap.size v2 M) : Calls Tryz.prog 55 #[v1, v2] w (SameB w L M) := by
 obtain ⟨A1, c1, rfl, hc1, hm1, _⟩ := h1.form
 obtain ⟨A2, c2, rfl, hc2, hm2, _⟩ := h2.form
 have H1 := Lib.hid h1
 have H2 := Lib.hid h2
 clear h1 h2
 obtain ⟨n, hn⟩ : ∃ n, L.length = n := ⟨_, rfl⟩
 obtain ⟨m, hm⟩ : ∃ m, M.length = m := ⟨_, rfl⟩
 have HN := Lib.hid hn
 have HM := Lib.hid hm
 rw [hn] at hc1
 rw [hm] at hc2
 rw [hn, hm]
 unfold maxLen at hm1 hm2
 clear hn hm
 by_cases hnm : n = m
 · subst hnm
   have hz : ((n : Int) == (n : Int)) = true := by simp
   go_enter Tryz.func55, Tryz.ntmps55
   go_wp2
   go_loopw [13] (fun s13 wr => ∃ k : Nat, k ≤ n ∧ s13 = .int .i64 k ∧ (∀ j, j < k → L[j]? = M[j]?) ∧ Below w.heap.size w wr) (fun s13 _ => n - (intOf s13).toNat)
   case atStart => exact ⟨0, Nat.zero_le _, rfl, (fun j hj => by omega), Below.refl _ w⟩
   case round =>
    obtain ⟨k, hk, rfl, hsame, hb⟩ := hrel
    have HS := Lib.hid (And.intro hsame hb)
    clear hsame
    by_cases hlt : k < n
    · obtain ⟨ad1, c1', e1, b1, x0, x1⟩ := H1.out.at_ (i := k) (by rw [HN.out]; exact hlt)
      obtain ⟨ad2, c2', e2, b2, y0, y1⟩ := H2.out.at_ (i := k) (by rw [HM.out]; exact hlt)
      injection e1 with e1 e1n e1c; clear e1n e1c
      injection e2 with e2 e2n e2c; clear e2n e2c
      subst e1 e2
      have x0' := (hb.cell (p := ad1.add (k * 2)) (by rw [add_block]; exact b1)).trans x0
      have x1' := (hb.cell (p := ⟨(ad1.add (k * 2)).block, (ad1.add (k * 2)).off + 1, none⟩) (by show (ad1.add (k * 2)).block < _; rw [add_block]; exact b1)).trans x1
      have y0' := (hb.cell (p := ad2.add (k * 2)) (by rw [add_block]; exact b2)).trans y0
      have y1' := (hb.cell (p := ⟨(ad2.add (k * 2)).block, (ad2.add (k * 2)).off + 1, none⟩) (by show (ad2.add (k * 2)).block < _; rw [add_block]; exact b2)).trans y1
      have gL := getD_of (L := L) (i := k) (by rw [HN.out]; exact hlt)
      have gM := getD_of (L := M) (i := k) (by rw [HM.out]; exact hlt)
      obtain ⟨a, ha⟩ : ∃ a, L.getD k default = a := ⟨_, rfl⟩
      obtain ⟨b, hbb⟩ : ∃ b, M.getD k default = b := ⟨_, rfl⟩
      rw [ha] at x0' x1' gL
      rw [hbb] at y0' y1' gM
      have HG := Lib.hid (And.intro gL gM)
      have hk0 : (0 : Int) ≤ (k : Int) := by omega
      have hk1 : (k : Int) < (n : Int) := by omega
      clear x0 x1 y0 y1 gL gM ha hbb b1 b2 hb
      by_cases heq : a = b
      · have hq : ∀ W, (Op.equalIn 10000 53 (.agg #[.string a.name, .string a.value]) (.agg #[.string b.name, .string b.value])).run Tryz.prog W = .ok true W := fun W => by rw [eqSA, heq]; simp
        have HEQ := Lib.hid heq
        have hgd := guardSA
        clear heq
        go_upto_region 6 with fail
        go_quiet (fail)
        go_wp2
        go_roundw
        case rel =>
         refine ⟨k + 1, by omega, by go_num, fun j hj => ?_, below_drewN' HS.out.2 _⟩
         by_cases e : j = k
         · subst e
           rw [HG.out.1, HG.out.2, HEQ.out]
         · exact HS.out.1 j (by omega)
        case measure => simp [intOf]; omega
      · have hq : ∀ W, (Op.equalIn 10000 53 (.agg #[.string a.name, .string a.value]) (.agg #[.string b.name, .string b.value])).run Tryz.prog W = .ok false W := fun W => by
         rw [eqSA]
         congr 1
         rw [← Bool.not_eq_true, Bool.and_eq_true, toList_beq, toList_beq]
         exact fun h => heq (AttrS.ext' h.1 h.2)
        have HNE : Hid (L ≠ M) := Lib.hid (fun e => by rw [e] at HG; have := HG.out.1.symm.trans HG.out.2; exact heq (Option.some.inj this))
        have hgd := guardSA
        clear heq
        go_upto_region 6 with fail
        go_quiet (fail)
        go_wp2
        go_ret
        exact ⟨false, rfl, ⟨fun e => (by cases e), fun e => (HNE.out e).elim⟩, below_drewN' HS.out.2 _⟩
    · obtain rfl : k = n := by omega
      have HEQ : Hid (L = M) := Lib.hid (list_same (by rw [HN.out, HM.out]) (fun j hj => HS.out.1 j (by rw [HN.out] at hj; exact hj)))
      clear hb
      go_wp2
      go_ret
      exact ⟨true, rfl, ⟨fun _ => HEQ.out, fun _ => rfl⟩, HS.out.2⟩
 · have hz : ((n : Int) == (m : Int)) = false := by rw [beq_eq_false_iff_ne]; omega
   have HNE : Hid (L ≠ M) := Lib.hid (fun e => hnm (by rw [← HN.out, ← HM.out, e]))
   clear hnm
   go_enter Tryz.func55, Tryz.ntmps55
   go_wp2
   go_ret
   exact ⟨false, rfl, ⟨fun e => (by cases e), fun e => (HNE.out e).elim⟩, Below.refl _ w⟩
end Go.Proofs.YtbbedhecfipdjaaGreatDoor
namespace Go.Proofs.YtbbedhecfipdjaaGreatDoor
open Go.RowKit Go.Shelf
set_option linter.unusedVariables false
set_option linter.unusedSimpArgs false
theorem wpListIn_appendE {F : Fence} {n : Nat} {ops : Array Oper} {rest : List Oper} {o : Oper} {a : Act} {w : World} {Q : Exit → Act → World → Prop} {base sz : Nat} {e : TypeId} {v : Value} {rs : List (List Value)} (hgd : o.guard = none) {T : TypeId} {z : Value} {by_ : Nat} (s y : Operand) (ho : o.op = .call { callee := .builtin .append, args := #[s, y], argTypes := #[T, T] })
 (hT : Tryz.prog.underlying T = some (.slice e)) (hi : (Tryz.prog.info? e).map (fun i => (i.zero, i.size, i.bytes)) = some (some z, sz, by_)) (hz : z.cells.size = sz) (hsz : 0 < sz) (hs : a.eval s = v) (hown : Own w base e sz v rs) {g c : Nat} (hy : a.eval y = .slice (some ⟨g, 0, none⟩) 1 c) {r : List Value}
 (hg : Whole w g e r.toArray) (hrl : r.length = sz) (hu : ∀ u ∈ r, u.oneCell' = true) (h63 : (rs.length + 1) * by_ ≤ 140737488355328) (h64 : rs.length + 1 ≤ 140737488355328) (hbase : base ≤ w.heap.size)
 (h : ∀ v' w', Own w' base e sz v' (rs ++ [r]) → w.grownBy w' v.ownBlock → (v'.ownBlock = v.ownBlock ∨ v'.ownBlock = some w.heap.size) → wpListIn F n Tryz.prog ops Q rest (a.put o.dst v') w') : wpListIn F n Tryz.prog ops Q (o :: rest) a w := by
 refine wpListIn_plain hgd fun K hK' => ?_
 obtain ⟨v', w', hrun, h2, h3, h4⟩ := run_appendE o.type hT hi hz hsz hown (c := c) hg hrl hu h63 h64 hbase
 refine ⟨fun f hf => by simp [Oper.about, ho, resolve, Target.leads, Sem.run_pure] at hf, ?_⟩
 have hx : (o.semAt F.round a.eval).run Tryz.prog w = .ok (.value v') w' := by
  rw [Oper.semAt_plain F _ _ (by rw [ho]; intro c hc; cases hc)]
  simp [execOp, ho, resolve, invoke, builtin, hs, hy, hrun, Result.andThen]
 rw [hx]
 exact hK' _ _ (h v' w' h2 h3 h4)
theorem wpListIn_callV {F : Fence} {n : Nat} {ops : Array Oper} {rest : List Oper} {o : Oper} {a : Act} {w : World} {Q : Exit → Act → World → Prop} {f : Nat} {cap : Array Value} {T : Array TypeId} {R : Ending → World → Prop} (hgd : o.guard = none) (x y1 y2 : Operand) (ho : o.op = .call { callee := .value x, args := #[y1, y2], argTypes := T })
 (hx : a.eval x = .func (.func f) #[] cap) {u1 u2 : Value} (h1 : a.eval y1 = u1) (h2 : a.eval y2 = u2) (hF : F.fn f) (hn : F.depth.isSome = true → 1 ≤ n) (eg : ∀ args w, (callFunc f args).run Tryz.prog w = .ok (.enter f args) w)
 (hc : CallsIn F (n - 1) Tryz.prog f (#[u1, u2] ++ cap) w R) (hr : ∀ e w', R e w' → ∃ v, e = .returned v ∧ wpListIn F n Tryz.prog ops Q rest (a.put o.dst v) w') : wpListIn F n Tryz.prog ops Q (o :: rest) a w := by
 refine wpListIn_plain hgd fun K hK' => ?_
 refine ⟨fun f' hf => ?_, ?_⟩
 · simp [Oper.about, ho, resolve, Target.leads, Sem.run_pure, hx, Sem.run_bind, h1, h2, Deferred.ofValue] at hf
   subst hf
   exact hF
 · have hx2 : (o.semAt F.round a.eval).run Tryz.prog w = .ok (.enter f (#[u1, u2] ++ cap)) w := by
    rw [Oper.semAt_plain F _ _ (by rw [ho]; intro c hc; cases hc)]
    simp [execOp, ho, resolve, invoke, hx, h1, h2, Result.andThen, eg, Deferred.ofValue]
   rw [hx2]
   refine ⟨hn, hc.mono fun e w' hw => ?_⟩
   obtain ⟨v, rfl, hk⟩ := hr e w' hw
   exact hK' _ _ hk
theorem reader_calls (base bm n : Nat) (a : AttrS) (v : Value) (m : MediaS) (cs : List (CodecS × Value)) (vC vE vR vS vY : Value) (w : World) (h : MW base bm n w m cs vC vE vR vS vY) (hE : EnvR w) (hs : a.value.size ≤ 140737488355328) (hn : n ≤ 64) (hr : RdrV (tx a.name) v w) (hk : known a = true) :
 ∃ f cap, v = .func (.func f) #[] cap ∧ (∀ args w, (callFunc f args).run Tryz.prog w = .ok (.enter f args) w) ∧ Calls Tryz.prog f (#[.pointer (some ⟨bm, 0, none⟩), .string a.value] ++ cap) w (RdO base bm (n + 1) w (rd rP m a)) := by
 have wide : ∀ {m' : MediaS} {e : Ending} {w' : World}, RdO base bm n w m' e w' → RdO base bm (n + 1) w m' e w' := fun {m' e w'} h => by
  obtain ⟨h1, ⟨cs, vC, vE, vR, vS, vY, hM⟩, h3⟩ := h
  exact ⟨h1, ⟨cs, vC, vE, vR, vS, vY, hM.wider (by omega)⟩, h3⟩
 have en : ∀ {f : Nat} {fn : Func} {c : Code}, Tryz.prog.funcs[f]? = some fn → (fn.name == "runtime.NumGoroutine") = false → fn.body = some c → ∀ args w, (callFunc f args).run Tryz.prog w = .ok (.enter f args) w := fun hf hn hb => enters_of hf hn hb
 cases hr with
 | mid hl hv =>
   have e : rd rP m a = { m with mid := a.value } := by unfold rd; simp only [hl]; rw [if_pos trivial]
   rw [e]
   exact ⟨_, _, hv, en Tryz.func149 (by kernel_rfl) rfl, (readMid_any base bm n a.value m cs vC vE vR vS vY w h hs).mono fun _ _ h => wide h⟩
 | rtpmap hl hv =>
   have e : rd rP m a = { m with codecs := m.codecs ++ [codecOf rP (tx a.value)] } := by unfold rd; simp only [hl]; rw [if_neg (by decide), if_pos trivial]
   rw [e]
   exact ⟨_, _, hv, en Tryz.func150 (by kernel_rfl) rfl, readCodec_any base bm n a.value m cs vC vE vR vS vY w h hE hs hn⟩
 | fmtp hl hv =>
   have e : rd rP m a = { m with codecs := onLast (fun c => { c with format := bs (tl (tx a.value)) }) m.codecs } := by unfold rd; simp only [hl]; rw [if_neg (by decide), if_neg (by decide), if_pos trivial]
   rw [e]
   exact ⟨_, _, hv, en Tryz.func151 (by kernel_rfl) rfl, (readFormat_any base bm n a.value m cs vC vE vR vS vY w h hs hn).mono fun _ _ h => wide h⟩
 | rtcpfb hl hv =>
   have e : rd rP m a = { m with codecs := onLast (fun c => { c with feedback := c.feedback ++ [bs (tl (tx a.value))] }) m.codecs } := by unfold rd; simp only [hl]; rw [if_neg (by decide), if_neg (by decide), if_neg (by decide), if_pos trivial]
   rw [e]
   exact ⟨_, _, hv, en Tryz.func152 (by kernel_rfl) rfl, readFeedback_any base bm n a.value m cs vC vE vR vS vY w h hs hn⟩
 | extmap hl hv =>
   have e : rd rP m a = { m with exts := m.exts ++ [⟨numP (hd (tx a.value)), bs (tl (tx a.value))⟩] } := by unfold rd; simp only [hl]; rw [if_neg (by decide), if_neg (by decide), if_neg (by decide), if_neg (by decide), if_pos trivial]; rfl
   rw [e]
   exact ⟨_, _, hv, en Tryz.func153 (by kernel_rfl) rfl, readExt_any base bm n a.value m cs vC vE vR vS vY w h hE hs hn⟩
 | rid hl hv =>
   have e : rd rP m a = { m with rids := m.rids ++ [bs (hd (tx a.value))], sending := decide (tl (tx a.value) = wSend) } := by unfold rd; simp only [hl]; rw [if_neg (by decide), if_neg (by decide), if_neg (by decide), if_neg (by decide), if_neg (by decide), if_pos trivial]
   rw [e]
   exact ⟨_, _, hv, en Tryz.func154 (by kernel_rfl) rfl, readRid_any base bm n a.value m cs vC vE vR vS vY w h hs hn⟩
 | simulcast hl hv =>
   have e : rd rP m a = m := by unfold rd; simp only [hl]; rw [if_neg (by decide), if_neg (by decide), if_neg (by decide), if_neg (by decide), if_neg (by decide), if_neg (by decide), if_pos trivial]
   rw [e]
   exact ⟨_, _, hv, en Tryz.func155 (by kernel_rfl) rfl, (readNothing_any base bm n a.value m cs vC vE vR vS vY w h).mono fun _ _ h => wide h⟩
 | ssrc hl hv =>
   have e : rd rP m a = { m with sources := m.sources ++ [srcP (tx a.value)] } := by unfold rd; simp only [hl]; rw [if_neg (by decide), if_neg (by decide), if_neg (by decide), if_neg (by decide), if_neg (by decide), if_neg (by decide), if_neg (by decide), if_pos trivial]; rfl
   rw [e]
   exact ⟨_, _, hv, en Tryz.func156 (by kernel_rfl) rfl, readSource_any base bm n a.value m cs vC vE vR vS vY w h hE hs hn⟩
 | crypto hl hv =>
   have e : rd rP m a = { m with crypto := m.crypto ++ [cryP (tx a.value)] } := by unfold rd; simp only [hl]; rw [if_neg (by decide), if_neg (by decide), if_neg (by decide), if_neg (by decide), if_neg (by decide), if_neg (by decide), if_neg (by decide), if_neg (by decide), if_pos trivial]; rfl
   rw [e]
   exact ⟨_, _, hv, en Tryz.func157 (by kernel_rfl) rfl, readCrypto_any base bm n a.value m cs vC vE vR vS vY w h hE hs hn⟩
 | sctpport hl hv =>
   have e : rd rP m a = { m with sctp := numP (tx a.value) } := by unfold rd; simp only [hl]; rw [if_neg (by decide), if_neg (by decide), if_neg (by decide), if_neg (by decide), if_neg (by decide), if_neg (by decide), if_neg (by decide), if_neg (by decide), if_neg (by decide), if_pos trivial]; rfl
   rw [e]
   exact ⟨_, _, hv, en Tryz.func158 (by kernel_rfl) rfl, (readSctp_any base bm n a.value m cs vC vE vR vS vY w h hE (by omega)).mono fun _ _ h => wide h⟩
 | dir k g hl hv hg =>
   have e : rd rP m a = { m with dir := k } := by
    unfold dirK at hl
    unfold rd
    split at hl
    · next e => obtain rfl := Option.some.inj hl; simp only [e]; rw [if_neg (by decide), if_neg (by decide), if_neg (by decide), if_neg (by decide), if_neg (by decide), if_neg (by decide), if_neg (by decide), if_neg (by decide), if_neg (by decide), if_neg (by decide), if_pos trivial]; rfl
    · split at hl
      · next e => obtain rfl := Option.some.inj hl; simp only [e]; rw [if_neg (by decide), if_neg (by decide), if_neg (by decide), if_neg (by decide), if_neg (by decide), if_neg (by decide), if_neg (by decide), if_neg (by decide), if_neg (by decide), if_neg (by decide), if_neg (by decide), if_pos trivial]
      · split at hl
        · next e => obtain rfl := Option.some.inj hl; simp only [e]; rw [if_neg (by decide), if_neg (by decide), if_neg (by decide), if_neg (by decide), if_neg (by decide), if_neg (by decide), if_neg (by decide), if_neg (by decide), if_neg (by decide), if_neg (by decide), if_neg (by decide), if_neg (by decide), if_pos trivial]
        · split at hl
          · next e => obtain rfl := Option.some.inj hl; simp only [e]; rw [if_neg (by decide), if_neg (by decide), if_neg (by decide), if_neg (by decide), if_neg (by decide), if_neg (by decide), if_neg (by decide), if_neg (by decide), if_neg (by decide), if_neg (by decide), if_neg (by decide), if_neg (by decide), if_neg (by decide), if_pos trivial]
          · cases hl
   rw [e]
   exact ⟨_, _, hv, en Tryz.func159 (by kernel_rfl) rfl, (readDir_any base bm n g k a.value m cs vC vE vR vS vY w h (hg.cell 0)).mono fun _ _ h => wide h⟩
 | other hl hv =>
   have hk : knownN.contains (tx a.name) = true := hk
   rw [hl] at hk
   cases hk
theorem read_end (n : Nat) (fn : Func) (hres : fn.results = #[ResultVar.cell 2 28, ResultVar.cell 3 33]) {R : Ending → World → Prop} {W : World} {D b2 b3 : Nat} {M : Array Value} {er : Int} (hM : M.size = 11) (h2 : Whole W b2 28 M) (h3 : Whole W b3 33 #[.int .i64 er]) (hK : W.heap[D]? = some (.deferred (some [])))
 (tmps : Array Value) (ht2 : tmps.getD 2 undef = .pointer (some ⟨b2, 0, none⟩)) (ht3 : tmps.getD 3 undef = .pointer (some ⟨b3, 0, none⟩)) (hR : R (.returned (.tuple #[.agg M, .int .i64 er])) (W.putObj D (.deferred none))) :
 postM n fn R .ret { tmps := tmps, defers := [{ target := .collected D, args := #[] }] } W := by
 refine ⟨by simp, .inl ⟨_, _, rfl, run_takeDeferred hK, ?_⟩⟩
 have hk := cells_put (.deferred none) hK rfl
 have h2' := hk _ _ _ h2
 have h3' := (hk _ _ _ h3).cell 0
 refine ⟨.tuple #[.agg M, .int .i64 er], ?_, hR⟩
 have ht2' : tmps[2]?.getD undef = .pointer (some ⟨b2, 0, none⟩) := by simpa using ht2
 have ht3' : tmps[3]?.getD undef = .pointer (some ⟨b3, 0, none⟩) := by simpa using ht3
 have hl : (loadVar 28 ⟨b2, 0, none⟩).run Tryz.prog (W.putObj D (.deferred none)) = .ok (.agg M) (W.putObj D (.deferred none)) := run_loadVar_row (P := Tryz.prog) _ b2 _ 28 M (0, 0) _ h2' Tryz.underlying28 rfl (by rw [Tryz.sizeMedia, hM])
 have hl3 : (loadVar 33 ⟨b3, 0, none⟩).run Tryz.prog (W.putObj D (.deferred none)) = .ok (.int .i64 er) (W.putObj D (.deferred none)) := by
  have h3'' : (W.putObj D (.deferred none)).cell? ⟨b3, 0, none⟩ = some (.int .i64 er) := h3'
  simp [loadVar, go_sem, h3'']
 simp [results, hres, ht2', ht3', asAddr, hl, hl3]
def puts (W : World) (g : Nat) : List Value → Nat → World
 | [], _ => W
 | u :: r, i => puts (W.setCell ⟨g, i, none⟩ u) g r (i + 1)
def putsA (cs : Array Value) : List Value → Nat → Array Value
 | [], _ => cs
 | u :: r, i => putsA (cs.setIfInBounds i u) r (i + 1)
theorem puts_others (g : Nat) : ∀ (L : List Value) (i : Nat) (W : World), Go.KeepsOthers W (puts W g L i)
 | [], _, W => Go.KeepsOthers.refl W
 | u :: r, i, W => (Go.KeepsOthers.setCell W ⟨g, i, none⟩ u).trans (puts_others g r (i + 1) _)
theorem puts_below {B g : Nat} (hB : B ≤ g) : ∀ (L : List Value) (i : Nat) (W : World), Below B W (puts W g L i)
 | [], _, W => Below.refl B W
 | u :: r, i, W => ((Below.refl B W).setCell (p := ⟨g, i, none⟩) hB u).trans (puts_below hB r (i + 1) _)
theorem puts_far {g k : Nat} {t : TypeId} {cs : Array Value} (hk : k ≠ g) : ∀ (L : List Value) (i : Nat) (W : World), Whole W k t cs → Whole (puts W g L i) k t cs
 | [], _, W, h => h
 | u :: r, i, W, h => puts_far hk r (i + 1) _ (h.far (p := ⟨g, i, none⟩) hk u)
theorem puts_same {g : Nat} {t : TypeId} : ∀ (L : List Value) (i : Nat) (W : World) (cs : Array Value), Whole W g t cs → Whole (puts W g L i) g t (putsA cs L i)
 | [], _, W, cs, h => h
 | u :: r, i, W, cs, h => puts_same r (i + 1) _ _ (h.set i u)
end Go.Proofs.YtbbedhecfipdjaaGreatDoor
