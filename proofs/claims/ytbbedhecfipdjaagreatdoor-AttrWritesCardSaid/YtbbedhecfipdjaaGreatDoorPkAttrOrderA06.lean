import Derived.Test.YtbbedhecfipdjaaGreatDoorPkAttrOrderA04
import Derived.RangeFuncNested
import Derived.RangeFuncBound
import Derived.RangeFuncCalls
import Derived.RangeFuncLeaves
import Derived.Shelf.Abstract
import Derived.OwnWalkIn
import Derived.TacticsInMore
import Derived.LoopNIn
import Derived.LoopIn
import Derived.Deep.DeepMust
import Derived.Test.YtbbedhecfipdjaaGreatDoorPkAttrOrderA05
namespace Go.Proofs.YtbbedhecfipdjaaGreatDoor
open Go.RowKit Go.Shelf
set_option linter.unusedVariables false
set_option linter.unusedSimpArgs false
abbrev FW : Fence := Fence.wide
def postM (n : Nat) (fn : Func) (R : Ending → World → Prop) : Exit → Act → World → Prop
 | .normal, a, w | .ret, a, w => LeavesInM FW n Tryz.prog fn a.tmps R a.defers .returning w
 | _, _, _ => False
theorem calls_marks (n : Nat) {f : FuncId} {fn : Func} {c : Code} {args : Array Value} {w : World} {R : Ending → World → Prop} (hf : Tryz.prog.funcs[f]? = some fn) (hb : fn.body = some c)
 (h : c.wp Tryz.prog (postM n fn R) { tmps := args ++ Array.replicate (fn.ntmps - args.size) undef, defers := [] } w) : Calls Tryz.prog f args w R := by
 refine (callsIn_wide (n := n)).1 (callsIn_of_wp_marks hf hb trivial (wpIn_wide.2 (wp_mono h ?_)) rfl)
 intro e a' w' hq
 cases e with
 | normal => exact hq
 | ret => exact hq
 | panic c => exact hq.elim
 | exit c => exact hq.elim
 | goto c => exact hq.elim
 | outgrown => exact hq.elim
def Tells {α : Type} (n g : Nat) (lb : Array Value) (encs : α → Array Value) (G : List α → α → World → Prop) (Kp : World → World → Prop) (S : List α → Prop) (w : World) : Prop :=
 ∀ (l : Nat) (J : List α → World → Prop) (Jx : World → Prop) (W : World), Below w.heap.size w W →
   (∀ s A B, J s A → Below A.heap.size A B → J s B) →
   (∀ pre x W1, J pre W1 → G pre x W1 → YieldAt FW (n - 1) Tryz.prog l (encs x) W1 fun e W' => (e = .returned (.bool true) ∧ J (pre ++ [x]) W' ∧ Kp W1 W') ∨ (e = .returned (.bool false) ∧ Jx W')) →
   J [] W →
   CallsIn FW n Tryz.prog g (#[.func (.yield l) #[] #[]] ++ lb) W fun e W' => (∃ v, e = .returned v) ∧ ((∃ xs, S xs ∧ J xs W') ∨ Jx W')
structure Books (K : Nat) (r : Loop) (W : World) : Prop where
 loop : W.heap[K + 1]? = some (.loop r)
 late : W.heap[K]? = some (.deferred (some []))
theorem Books.keeps {K : Nat} {r : Loop} {W W' : World} (h : Books K r W) (k : KeepsFrom K W W') : Books K r W' := ⟨k.same _ _ (by omega) h.loop rfl, k.same _ _ (Nat.le_refl _) h.late rfl⟩
theorem Books.under {K : Nat} {r : Loop} {W W' : World} (h : Books K r W) (k : Below W.heap.size W W') : Books K r W' := h.keeps ((others_under k).from K)
theorem Books.turn {K : Nat} {r : Loop} {W : World} (h : Books K r W) (r' : Loop) : Books K r' (W.putObj (K + 1) (.loop r')) :=
 ⟨World.putObj_heap_same (Array.getElem?_eq_some_iff.1 h.loop).1, (World.putObj_heap_other (by omega)).trans h.late⟩
def roundEnd (K : Nat) (Kp : World → World → Prop) (I Ix : World → Prop) (W : World) : Exit → Act → World → Prop
 | .normal, _, W' => KeepsFrom K W W' ∧ Kp W W' ∧ I W'
 | .ret, _, W' => KeepsFrom K W W' ∧ Ix W'
 | _, _, _ => False
theorem range_told {α : Type} {n : Nat} {g : Operand} {ps : Array Tmp} {assign body : Code} {Q : Exit → Act → World → Prop} {a : Act} {w : World} (h1 : 1 ≤ n) {gf : Nat} {lb : Array Value} (hg : a.eval g = .func (.func gf) #[] lb)
 (eg : ∀ args w, (callFunc gf args).run Tryz.prog w = .ok (.enter gf args) w) {encs : α → Array Value} {G : List α → α → World → Prop} {Kp : World → World → Prop} {S : List α → Prop} (hseq : Tells (n - 1) gf lb encs G Kp S w)
 (hKt : ∀ {A B C : World}, Kp A B → Kp B C → Kp A C) (hKb : ∀ (W : World) (l : Nat) (o o' : Obj), w.heap.size ≤ l → W.heap[l]? = some o → o.isCells = false → Kp W (W.putObj l o')) (hps : ∀ x, (encs x).size = ps.size)
 (I : List α → World → Prop) (Ix : World → Prop) (hI : OwnFrom w.heap.size I) (hIx : OwnFrom w.heap.size fun (_ : Unit) W => Ix W) (h0 : I [] w)
 (Ax : List α → α → Act → World → Prop) (hAx : ∀ pre x a', OwnFrom w.heap.size fun (_ : Unit) W => Ax pre x a' W)
 (hassign : ∀ (l : Nat) (pre : List α) (x : α) (W : World) (K : Act → World → Prop), I pre W → G pre x W → (∀ a' W', KeepsFrom w.heap.size W W' → Kp W W' → Ax pre x a' W' → K a' W') →
   assign.wpIn (FW.inRound l) (n - 1 - 1) Tryz.prog (Exit.then K fun _ _ _ => False) { tmps := (ps.zip (encs x)).foldl (fun t (p, v) => t.setIfInBounds p v) a.tmps, defers := [] } W)
 (hbody : ∀ (l : Nat) (pre : List α) (x : α) (a' : Act) (W : World), Ax pre x a' W → body.wpIn (FW.inRound l) (n - 1 - 1) Tryz.prog (roundEnd w.heap.size Kp (I (pre ++ [x])) Ix W) a' W)
 (hdone : ∀ (D : Nat) (xs : List α) (W : World), w.heap.size ≤ D → S xs → I xs W → W.heap[D]? = some (.deferred (some [])) → Q .normal { a with defers := { target := .collected D, args := #[] } :: a.defers } W)
 (hstop : ∀ (D : Nat) (W : World), w.heap.size ≤ D → Ix W → W.heap[D]? = some (.deferred (some [])) → Q .ret { a with defers := { target := .collected D, args := #[] } :: a.defers } W) :
 (Code.rangeFunc g ps assign body).wpIn FW n Tryz.prog Q a w := by
 refine wpIn_rangeFunc fun fn hfn => ?_
 obtain ⟨K, hK⟩ : ∃ K, w.heap.size = K := ⟨_, rfl⟩
 obtain ⟨rc, hrc⟩ : ∃ rc : LoopState → Option Code → Loop, rc = fun st pe => { state := st, pending := pe, fn, tmps := a.tmps, params := ps, assign, body, defers := K } := ⟨_, rfl⟩
 obtain ⟨W1, hW1⟩ : ∃ W1, (w.alloc (.deferred (some []))).alloc (.loop (rc .ready none)) = W1 := ⟨_, rfl⟩
 have hsz1 : (w.alloc (.deferred (some []))).heap.size = K + 1 := by rw [World.size_alloc, hK]
 have hb1 : Below w.heap.size w W1 := by
  rw [← hW1]
  exact ((Below.refl _ w).alloc (Nat.le_refl _) _).alloc (by simp) _
 have hB1 : Books K (rc .ready none) W1 := by
  refine ⟨?_, ?_⟩
  · rw [← hW1, ← hsz1]
    exact World.alloc_heap_new _ _
  · rw [← hW1]
    refine (Below.heap_alloc _ _ _ (by rw [hsz1]; omega)).trans ?_
    rw [← hK]
    exact World.alloc_heap_new w _
 have hI1 : I [] W1 := by
  rw [← hW1]
  exact hI.alloc _ (hI.alloc _ h0)
 rw [hK] at hI hIx hAx hassign hbody hdone hstop hKb
 have hown : ∀ {s : List α} {A B : World}, I s A → Below A.heap.size A B → I s B := fun hs hb => hI _ _ _ none hs ⟨hb.os, hb.tape, hb.output, hb.size, fun k hk _ => hb.block k hk⟩ (fun r e => by cases e)
 refine ⟨K + 1, [{ target := .collected K, args := #[] }], W1, { target := .fn (.func gf) lb, args := #[.func (.yield (K + 1)) #[] #[]] }, W1, gf, #[.func (.yield (K + 1)) #[] #[]] ++ lb, W1, ?_, ?_, ?_, ?_, fun _ => h1, ?_⟩
 · have := run_enterLoop_outer (P := Tryz.prog) (w := w) fn a.tmps ps assign body
   rw [hK] at this
   rw [← hW1, hrc]
   exact this
 · simp only [resolve, hg]
   simp [go_sem]
 · intro f' hf'
   trivial
 · simp [invoke, go_sem, eg]
 · refine (hseq (K + 1) (fun pre W => I pre W ∧ Books K (rc .ready none) W) (fun W => Ix W ∧ Books K (rc .done (some .ret)) W) W1 hb1 (fun s A B h hb => ⟨hown h.1 hb, h.2.under hb⟩) ?_ ⟨hI1, hB1⟩).mono ?_
   · rintro pre x W ⟨hi, hB⟩ hGx
     have hy := run_yield (P := Tryz.prog) (args := encs x) hB.loop (by rw [hrc]; exact hps x)
     rw [hrc] at hy
     refine ⟨fn, _, assign, body, hy, roundIn_of_wpIn hfn (hassign _ pre x W _ hi hGx ?_)⟩
     clear hy
     intro a' Wa hka hkpa hax
     have hBa := hB.keeps hka
     refine ⟨_, run_beginRound hBa.loop (by rw [hrc]), ?_⟩
     have hBb := hBa.turn { rc .ready none with state := .busy }
     have hkb : Kp Wa (Wa.putObj (K + 1) (.loop { rc .ready none with state := .busy })) := hKb _ _ _ _ (by omega) hBa.loop rfl
     refine wpIn_mono (hbody _ pre x a' _ ((hAx pre x a').putObj (s := ()) _ hax (by omega) hBa.loop rfl)) ?_
     rintro e a3 W3 hp
     cases e with
     | normal =>
       obtain ⟨hk3, hkp3, hi3⟩ := hp
       have hB3 := hBb.keeps hk3
       refine ⟨_, _, run_endRound (P := Tryz.prog) none hB3.loop, .inl ⟨rfl, ⟨hI.putObj _ hi3 (by omega) hB3.loop rfl, ?_⟩, hKt hkpa (hKt (hKt hkb hkp3) (hKb _ _ _ _ (by omega) hB3.loop rfl))⟩⟩
       rw [hrc]
       exact hB3.turn _
     | ret =>
       obtain ⟨hk3, hi3⟩ := hp
       have hB3 := hBb.keeps hk3
       refine ⟨_, _, run_endRound (P := Tryz.prog) (some .ret) hB3.loop, .inr ⟨rfl, hIx.putObj (s := ()) _ hi3 (by omega) hB3.loop rfl, ?_⟩⟩
       rw [hrc]
       exact hB3.turn _
     | exit id => exact hp.elim
     | goto t => exact hp.elim
     | panic ch => exact hp.elim
     | outgrown => exact hp.elim
   · rintro e W2 ⟨⟨v, rfl⟩, (⟨xs, hS, hi, hB⟩ | ⟨hi, hB⟩)⟩
     · refine ⟨none, W2.putObj (K + 1) (.loop { rc .ready none with state := .exhausted }), ?_, hdone _ xs _ (Nat.le_refl _) hS (hI.putObj _ hi (by omega) hB.loop rfl) (hB.turn _).late⟩
       have := run_endLoop (P := Tryz.prog) hB.loop (by rw [hrc]; simp)
       rw [hrc] at this ⊢
       exact this
     · refine ⟨some .ret, W2.putObj (K + 1) (.loop { rc .done (some .ret) with state := .exhausted }), ?_, wpIn_ret (hstop _ _ (Nat.le_refl _) (hIx.putObj (s := ()) _ hi (by omega) hB.loop rfl) (hB.turn _).late)⟩
       have := run_endLoop (P := Tryz.prog) hB.loop (by rw [hrc]; simp)
       rw [hrc] at this ⊢
       exact this
set_option maxHeartbeats 800000 in
theorem known_mk (A : Option Addr) (n c : Nat) (w : World) : Calls Tryz.prog 53 #[.slice A n c] w fun e w' => e = .returned (.func (.func 103) #[] #[.pointer (some ⟨w.heap.size, 0, none⟩)]) ∧ w.alloc (.cells #[.slice A n c] 36) = w' := by
 have hmf : ∀ (fn : Fn) (first cap : Array Value) (w : World), (Instr.makeFunc fn first cap).run Tryz.prog w = .ok (.func fn first cap) w := fun _ _ _ _ => rfl
 go_enter Tryz.func53, Tryz.ntmps53
 go_wp2
 go_ret
 exact ⟨rfl, rfl⟩
def encA (x : AttrS × Value) : Array Value := #[.agg #[.string x.1.name, .string x.1.value], x.2]
theorem neq_func (f : Fn) (cap : Array Value) (W : World) : (Go.binOp .neq 101 (.func f #[] cap) .nilFunc).run Tryz.prog W = .ok (.bool true) W := by
 have h : (Op.equalIn (9999 + 1) 101 (.func f #[] cap) .nilFunc).run Tryz.prog W = .ok false W := by
  unfold Op.equalIn
  simp only [Sem.run_bind, run_underlying Tryz.underlying101, Result.andThen_ok]
  rfl
 simp only [Go.binOp]
 simp [Op.equal, Op.maxDepth, Sem.run_bind, h]
theorem neq_nil (W : World) : (Go.binOp .neq 101 .nilFunc .nilFunc).run Tryz.prog W = .ok (.bool false) W := by
 have h : (Op.equalIn (9999 + 1) 101 .nilFunc .nilFunc).run Tryz.prog W = .ok true W := by
  unfold Op.equalIn
  simp only [Sem.run_bind, run_underlying Tryz.underlying101, Result.andThen_ok]
  rfl
 simp only [Go.binOp]
 simp [Op.equal, Op.maxDepth, Sem.run_bind, h]
structure KnG (L : List AttrS) (pre : List (AttrS × Value)) (x : AttrS × Value) (W : World) : Prop where
 is : known x.1 = true
 rdr : RdrV (tx x.1.name) x.2 W
 next : ∃ j, L[j]? = some x.1 ∧ pre.map (·.1) = (L.take j).filter known
theorem take_known {L : List AttrS} {j : Nat} {a : AttrS} (h : L[j]? = some a) : (L.take (j + 1)).filter known = (L.take j).filter known ++ (if known a then [a] else []) := by
 rw [List.take_add_one, h, List.filter_append]
 congr 1
 simp only [Option.toList_some, List.filter_cons, List.filter_nil]
attribute [local go_sem] Oper.semAt_some
set_option maxRecDepth 100000 in
set_option maxHeartbeats 3200000 in
theorem known_tells (n base gb : Nat) (hn : 1 ≤ n) (A : Option Addr) (k c : Nat) (L : List AttrS) (w : World) (h : AttrsV w base (.slice A k c) L) (hbase : base ≤ w.heap.size) (h7 : 7 ≤ base) (hE : Env w) (hgb : w.cell? ⟨gb, 0, none⟩ = some (.slice A k c)) (hbig : L.length ≤ 140737488355328) :
 Tells n 103 #[.pointer (some ⟨gb, 0, none⟩)] encA (KnG L) (fun A B => Below base A B) (fun xs => xs.map (·.1) = L.filter known) w := by
 intro l J Jx W hW hJ hY h0
 obtain ⟨A', c', e1, hcap, hmax, -⟩ := h.form
 injection e1 with e1 e2 e3
 subst e1 e2 e3
 have hc0 := (hW.cell (p := ⟨gb, 0, none⟩) (block_lt_of_cell hgb)).trans hgb
 have HV := Lib.hid h
 have HY := Lib.hid hY
 have HJ := Lib.hid (And.intro h0 hJ)
 have HB := Lib.hid (And.intro (hW.mono hbase) hbase)
 have HEN : Hid (∀ W', Below base w W' → Env W' ∧ 7 ≤ W'.heap.size) := Lib.hid fun W' hb => ⟨hE.low hb h7, Nat.le_trans h7 (Nat.le_trans hbase hb.size)⟩
 obtain ⟨m, hm⟩ : ∃ m, L.length = m := ⟨_, rfl⟩
 rw [hm] at hcap hc0 hbig
 have HL := Lib.hid hm
 clear h hE hgb h0 hJ hY hW hm hmax h7
 refine callsIn_of_wp Tryz.func103 rfl trivial ?_ rfl
 simp only [Tryz.ntmps103, List.size_toArray, List.length_cons, List.length_nil, Nat.reduceAdd, Nat.reduceSub, Array.replicate_succ, Array.replicate_zero, List.push_toArray, List.append_toArray, List.nil_append, List.cons_append]
 gi_wp2
 gi_loopw [8] (fun i wr => ∃ j : Nat, j ≤ m ∧ i = .int .i64 j ∧ (∃ pre : List (AttrS × Value), pre.map (·.1) = (L.take j).filter known ∧ J pre wr) ∧ Below base w wr) (fun i _ => m - (intOf i).toNat)
 case atStart => exact ⟨0, Nat.zero_le _, rfl, ⟨[], by simp, HJ.out.1⟩, HB.out.1⟩
 case round =>
  obtain ⟨j, hj, rfl, ⟨pre, hpre, hJs⟩, hbw⟩ := hrel
  by_cases hlt : j < m
  · have hlt' : j < L.length := by rw [HL.out]; exact hlt
    obtain ⟨ad, c2, e1, had, x0, x1⟩ := (HV.out.below hbw).at_ hlt'
    injection e1 with e1 e2 e3
    clear e2 e3
    subst e1
    have hLj := getD_of (L := L) (i := j) hlt'
    obtain ⟨a, ha⟩ : ∃ a, L.getD j default = a := ⟨_, rfl⟩
    rw [ha] at x0 x1 hLj
    obtain ⟨nm, vl⟩ := a
    have x0 : wr.cell? (ad.add (j * 2)) = some (.string nm) := x0
    have x1 : wr.cell? ⟨(ad.add (j * 2)).block, (ad.add (j * 2)).off + 1, none⟩ = some (.string vl) := x1
    have hba : Below wr.heap.size wr (wr.alloc (.cells #[.string nm, .string vl] 53)) := (Below.refl _ wr).alloc (Nat.le_refl _) _
    have hsz : base ≤ wr.heap.size := Nat.le_trans HB.out.2 hbw.size
    have HRO := Lib.hid (readerOf_any nm (wr.alloc (.cells #[.string nm, .string vl] 53)) ((HEN.out wr hbw).1.under hba) (Nat.le_trans (HEN.out wr hbw).2 hba.size))
    have HP := Lib.hid (And.intro hpre (And.intro hJs (And.intro hLj (And.intro hbw (And.intro hba hsz)))))
    have HNW : Hid (Whole (wr.alloc (.cells #[.string nm, .string vl] 53)) wr.heap.size 53 #[.string nm, .string vl]) := Lib.hid (Whole.new _ _ _)
    have hj0 : (0 : Int) ≤ (j : Int) := by omega
    have hj1 : (j : Int) < (m : Int) := by omega
    clear ha had hlt' hba hbw hJs hpre hLj hsz
    cases hkn : known ⟨nm, vl⟩ with
    | false =>
      have HK : Hid (knownN.contains (tx nm) = false) := Lib.hid hkn
      have HX0 : Hid (∀ w2, Below (wr.alloc (.cells #[.string nm, .string vl] 53)).heap.size (wr.alloc (.cells #[.string nm, .string vl] 53)) w2 → (∃ pre' : List (AttrS × Value), pre'.map (·.1) = (L.take (j + 1)).filter known ∧ J pre' w2) ∧ Below base w w2) := Lib.hid fun w2 hb2 =>
       ⟨⟨pre, by rw [take_known HP.out.2.2.1, hkn, HP.out.1]; simp, HJ.out.2 _ _ _ (HJ.out.2 _ _ _ HP.out.2.1 HP.out.2.2.2.2.1) hb2⟩, (HP.out.2.2.2.1.trans (HP.out.2.2.2.2.1.mono HP.out.2.2.2.2.2)).trans (hb2.mono (Nat.le_trans HP.out.2.2.2.2.2 HP.out.2.2.2.2.1.size))⟩
      clear hkn
      gi_wp2_with (refine ⟨trivial, ?_⟩; gi_at_call 104; go_must (refine (callsIn_wide.2 HRO.out).mono ?_); rintro e w2 ⟨rv, rfl, hrv, hb2⟩; obtain rfl : rv = .nilFunc := (by rcases hrv.nil with ⟨-, h⟩ | ⟨h, -⟩; exact h; rw [HK.out] at h; cases h); have HX := Lib.hid (HX0.out w2 hb2); clear hrv hb2; have hq := neq_nil)
      refine ⟨fun f h => (by cases h), ?_⟩
      gi_wp2
      go_roundw
      case rel => exact ⟨j + 1, by omega, by simp, HX.out.1, HX.out.2⟩
      case measure => simp [intOf]; omega
    | true =>
      have HK : Hid (knownN.contains (tx nm) = true) := Lib.hid hkn
      have HKN := Lib.hid hkn
      have HX0 : Hid (∀ w2, Below (wr.alloc (.cells #[.string nm, .string vl] 53)).heap.size (wr.alloc (.cells #[.string nm, .string vl] 53)) w2 → J pre w2 ∧ Below base w w2) := Lib.hid fun w2 hb2 =>
       ⟨HJ.out.2 _ _ _ (HJ.out.2 _ _ _ HP.out.2.1 HP.out.2.2.2.2.1) hb2, (HP.out.2.2.2.1.trans (HP.out.2.2.2.2.1.mono HP.out.2.2.2.2.2)).trans (hb2.mono (Nat.le_trans HP.out.2.2.2.2.2 HP.out.2.2.2.2.1.size))⟩
      clear hkn
      gi_wp2_with (first | (refine ⟨trivial, ?_⟩; gi_at_call 104; go_must (refine (callsIn_wide.2 HRO.out).mono ?_); rintro e w2 ⟨rv, rfl, hrv, hb2⟩; obtain ⟨f, cap, rfl⟩ : ∃ f cap, rv = .func f #[] cap := (by rcases hrv.nil with ⟨h, -⟩ | ⟨-, h⟩; rw [HK.out] at h; cases h; exact h); have HX := Lib.hid (HX0.out w2 hb2); have HN2 := Lib.hid (HNW.out.under hb2); have y0 : w2.cell? ⟨wr.heap.size, 0, none⟩ = some (.string nm) := HN2.out.cell 0; have y1 : w2.cell? ⟨wr.heap.size, 1, none⟩ = some (.string vl) := HN2.out.cell 1; have HG : Hid (KnG L pre (⟨nm, vl⟩, .func f #[] cap) w2) := Lib.hid ⟨HKN.out, hrv, j, HP.out.2.2.1, HP.out.1⟩; have HXX : Hid ((pre ++ [((⟨nm, vl⟩ : AttrS), Value.func f #[] cap)]).map (·.1) = (L.take (j + 1)).filter known) := Lib.hid (by rw [take_known HP.out.2.2.1, HKN.out, List.map_append, HP.out.1]; simp); obtain ⟨fn, tmps, assign, body, hy, hR⟩ := HY.out pre (⟨nm, vl⟩, .func f #[] cap) w2 HX.out.1 HG.out; simp only [encA] at hy; have hq := neq_func f cap; clear hrv hb2) | fail)
      refine hR.mono ?_
      rintro e W3 (⟨rfl, hJ3, hk3⟩ | ⟨rfl, hJx3⟩)
      · have HX3 : Hid (∃ pre' : List (AttrS × Value), pre'.map (·.1) = (L.take (j + 1)).filter known ∧ J pre' W3) := Lib.hid ⟨_, HXX.out, hJ3⟩
        have HB3 : Hid (Below base w W3) := Lib.hid (HX.out.2.trans hk3)
        clear hJ3 hk3
        gi_wp2
        go_roundw
        case rel => exact ⟨j + 1, by omega, by simp, HX3.out, HB3.out⟩
        case measure => simp [intOf]; omega
      · gi_wp2
        refine bodyPost_ret (results_none rfl _ _ _) rfl ?_
        exact ⟨⟨_, rfl⟩, .inr hJx3⟩
  · obtain rfl : j = m := by omega
    have HX : Hid (∃ xs : List (AttrS × Value), xs.map (·.1) = L.filter known ∧ J xs wr) := Lib.hid ⟨pre, by rw [hpre, List.take_of_length_le (by rw [HL.out]; exact Nat.le_refl _)], hJs⟩
    clear hpre hJs
    gi_wp2
    go_end0
    exact ⟨⟨_, rfl⟩, .inl HX.out⟩
end Go.Proofs.YtbbedhecfipdjaaGreatDoor
namespace Go.Proofs.YtbbedhecfipdjaaGreatDoor
open Go.RowKit
set_option linter.unusedVariables false
set_option linter.unusedSimpArgs false
theorem semi_join : ∀ (R : List ByteArray), R ≠ [] → Lib.join (R.map (·.data.toList)) [59] = semi R
 | [], h => (h rfl).elim
 | [a], _ => by
   rw [List.map_cons, List.map_nil, Lib.join_one]
   rfl
 | a :: b :: r, _ => by
   have e : Lib.join ((a :: b :: r).map (·.data.toList)) [59] = a.data.toList ++ [59] ++ Lib.join ((b :: r).map (·.data.toList)) [59] := by
    rw [List.map_cons, List.map_cons, Lib.join_cons, Lib.join_cons]
    simp [Lib.joinTail]
   rw [e, semi_join (b :: r) (by simp)]
   show tx a ++ [59] ++ semi (b :: r) = tx a ++ 59 :: semi (b :: r)
   simp
theorem semi_len : ∀ (R : List ByteArray), (∀ r ∈ R, r.size ≤ 8) → (semi R).length ≤ 9 * R.length
 | [], _ => by simp [semi]
 | [a], h => by
   have := h a (by simp)
   show (tx a).length ≤ 9
   rw [tx_length]
   omega
 | a :: b :: r, h => by
   have h1 := h a (by simp)
   have h2 := semi_len (b :: r) (fun x hx => h x (by simp at hx ⊢; rcases hx with hx | hx <;> simp [hx]))
   show (tx a ++ 59 :: semi (b :: r)).length ≤ _
   rw [List.length_append, List.length_cons, tx_length]
   simp only [List.length_cons] at h2 ⊢
   omega
theorem join_any (R : List ByteArray) (v : Value) (w : World) (h : TextsV w w.heap.size v R) (h0 : 0 < R.length) (hl : R.length ≤ 1000) (hj : (semi R).length ≤ 100000) :
 Calls Tryz.prog 107 #[v, .string ⟨#[59]⟩] w fun e w' => e = .returned (.string (bs (semi R))) ∧ Below w.heap.size w w' := by
 obtain ⟨A, c, rfl, hc, hm, _, hr⟩ := h
 obtain ⟨ad, rfl, hb, hx⟩ := hr h0
 have hs : ad.spot = none := by
  have h1 : w.cell? (ad.add (0 * 1 + 0)) = _ := hx 0 _ (getD_of h0)
  rw [Nat.zero_mul, Nat.zero_add] at h1
  have h1 : w.cell? ad = _ := h1
  unfold World.cell? at h1
  split at h1
  · split at h1
    · cases h1
    · next hn => simpa using hn
  · cases h1
 obtain ⟨bk, o, sp⟩ := ad
 simp only at hs hb
 subst hs
 have hne : R ≠ [] := by rintro rfl; simp at h0
 have hj2 := semi_join R hne
 refine (Tryz.strings_Join bk o c R ⟨#[59]⟩ w (fun j s hs => ?_) hb (by omega) hc (by show (Lib.join _ [59]).length ≤ _; rw [hj2]; omega)).mono fun e w' h => ⟨?_, h.2⟩
 · have h2 : w.cell? ((⟨bk, o, none⟩ : Addr).add (j * 1 + 0)) = some (.string s) := hx j s hs
   rw [Nat.mul_one, Nat.add_zero] at h2
   unfold Addr.add at h2
   split at h2
   · next e => subst e; exact h2
   · exact h2
 · rw [h.1]
   show Ending.returned (.string ⟨(Lib.join (R.map (·.data.toList)) [59]).toArray⟩) = _
   rw [hj2]
   rfl
set_option maxHeartbeats 6400000 in
set_option maxRecDepth 100000 in
theorem addRids_any (base : Nat) (v : Value) (L : List AttrS) (R : List ByteArray) (b : Bool) (Ar : Option Addr) (nr kr : Nat) (w : World) (hown : AtO w base v L) (hl : L.length ≤ 900000) (hbase : base ≤ w.heap.size) (h : TextsV w base (.slice Ar nr kr) R) (h3 : R.length ≤ 3) (hr : ∀ r ∈ R, r.size ≤ 8) :
 Calls Tryz.prog 80 #[v, .slice Ar nr kr, .bool b] w (AddO base w v (L ++ attrsR b R)) := by
 have hnr : nr = R.length := by
  obtain ⟨_, _, e, -⟩ := Rows.form h
  injection e
 obtain ⟨Av, nv, cv, hv⟩ : ∃ Av nv cv, v = .slice Av nv cv := by
  obtain ⟨A, c, e, -⟩ := Own.form hown
  exact ⟨A, _, c, e⟩
 have HOWN := Lib.hid hown
 have HVB : Hid (∀ k, v.ownBlock = some k → base ≤ k) := Lib.hid hown.base
 have HVW : Hid (TextsV w base (.slice Ar nr kr) R) := Lib.hid h
 have HSZ : Hid (∀ r ∈ R, r.size ≤ 8) := Lib.hid hr
 have HNB : Hid (base ≤ w.heap.size) := Lib.hid hbase
 have HL : Hid (R.length = nr) := Lib.hid hnr.symm
 by_cases h0 : nr = 0
 · have HR : Hid (L ++ attrsR b R = L) := Lib.hid (by
    have : R = [] := List.eq_nil_of_length_eq_zero (by omega)
    rw [this]
    simp [attrsR])
   rw [HR.out]
   subst hv
   clear hnr h hown hr hbase
   subst h0
   go_enter Tryz.func80, Tryz.ntmps80
   go_wp2
   go_ret
   exact ⟨_, rfl, HOWN.out, Grew.refl _ _⟩
 · have h0 : ¬ (nr : Int) = 0 := by omega
   have hn0 : 0 < nr := by omega
   have hn3 : nr ≤ 3 := by omega
   have HEND : Hid (L ++ attrsR b R = (L ++ R.map (attrR b)) ++ [⟨bs nSimulcast, bs (wayW b ++ 32 :: semi R)⟩]) := Lib.hid (by
    unfold attrsR
    rw [if_neg (by rw [List.isEmpty_iff]; intro e; rw [e] at hnr; simp at hnr; omega)]
    simp)
   have HSL : Hid ((semi R).length ≤ 27) := Lib.hid (by have := semi_len R hr; omega)
   have HLL : Hid (∀ k, (L ++ (R.take k).map (attrR b)).length ≤ 1000000) := Lib.hid fun k => by rw [List.length_append, List.length_map, List.length_take]; omega
   have HLX : Hid ((L ++ R.map (attrR b)).length ≤ 1000000) := Lib.hid (by rw [List.length_append, List.length_map]; omega)
   obtain ⟨T, hT⟩ : ∃ T, L ++ attrsR b R = T := ⟨_, rfl⟩
   have HF : Hid (T = (L ++ R.map (attrR b)) ++ [(⟨bs nSimulcast, bs (wayW b ++ 32 :: semi R)⟩ : AttrS)]) := Lib.hid (by rw [← hT]; exact HEND.out)
   rw [hT]
   clear HEND hnr h hown hr hbase hl h3 hT
   subst hv
   obtain ⟨wy, hwy⟩ : ∃ a : ByteArray, a = bs (wayW b) := ⟨_, rfl⟩
   have HWY : Hid (tx wy = wayW b) := Lib.hid (by rw [hwy, tx_bs])
   have hws : wy.size = 4 := by rw [hwy, bs_size]; cases b <;> rfl
   go_enter Tryz.func80, Tryz.ntmps80
   go_upto_if 14 with fail
   go_cut [7] from 7 to 15 (fun s wc => s = .string wy ∧ w = wc)
   case first =>
    subst hwy
    cases b
    · go_wp2
      go_meet
      exact ⟨rfl, rfl⟩
    · go_wp2
      go_meet
      exact ⟨rfl, rfl⟩
   case rest =>
    obtain ⟨rfl, rfl⟩ := hcut
    clear hwy
    go_wp2
    go_loopw [17, 0] (fun s17 s0 wr => ∃ k : Nat, k ≤ nr ∧ s17 = .int .i64 k ∧ (AtO wr base s0 (L ++ (R.take k).map (attrR b)) ∧ Grew w (.slice Av nv cv) wr s0)) (fun s17 _ _ => nr - (intOf s17).toNat)
    case atStart => exact ⟨0, by omega, rfl, by simpa using HOWN.out, Grew.refl _ _⟩
    case round =>
     obtain ⟨k, hk, rfl, hst⟩ := hrel
     have HS := Lib.hid hst
     clear hst
     have HBL : Hid (Below base w wr) := Lib.hid (HS.out.2.below HVB.out HNB.out)
     have HNW : Hid (base ≤ wr.heap.size) := Lib.hid (by have := HBL.out.size; have := HNB.out; omega)
     obtain ⟨Aw, nw, cw, hvw⟩ : ∃ A n c, u0 = .slice A n c := by
      obtain ⟨A, c, e, -⟩ := Own.form HS.out.1
      exact ⟨A, _, c, e⟩
     subst hvw
     by_cases hlt : k < nr
     · have hlt' : k < R.length := by rw [HL.out]; exact hlt
       obtain ⟨ad, c', e1, had, d0⟩ := (HVW.out.below HBL.out).at_ hlt'
       injection e1 with e1 e1n e1c
       clear e1n e1c
       subst e1
       have hfs := HSZ.out _ (getD_mem hlt')
       have HTK : Hid ((R.take (k + 1)).map (attrR b) = (R.take k).map (attrR b) ++ [attrR b (R.getD k default)]) := Lib.hid (by rw [List.take_add_one, getD_of hlt']; simp)
       obtain ⟨f, hf⟩ : ∃ f, R.getD k default = f := ⟨_, rfl⟩
       rw [hf] at d0 hfs HTK
       have hk0' : (0 : Int) ≤ (k : Int) := by omega
       have hk1' : (k : Int) < (nr : Int) := by omega
       have q8 : ¬ 9223372036854775807 < f.size + 1 := by omega
       have q9 : ¬ 9223372036854775807 < f.size + 1 + wy.size := by omega
       have HTX : Hid (attrR b f = ⟨bs nRid, f ++ ⟨#[32]⟩ ++ wy⟩) := Lib.hid (by
        unfold attrR
        congr 1
        exact (tx_inj (by rw [tx_append, tx_append, HWY.out, tx_bs]; simp [tx])).symm)
       clear hf had hlt'
       go_wp2_with (at_builtin; refine wpList_addA rfl (.tmp 21) (.tmp 27) rfl rfl rfl HS.out.1 (HLL.out k) HNW.out ?_; intro v9 w9 ho9 hg9; have HA9 : Hid (AtO w9 base v9 (L ++ (R.take (k + 1)).map (attrR b)) ∧ Grew w (.slice Av nv cv) w9 v9) := Lib.hid ⟨by rw [HTK.out, ← List.append_assoc, HTX.out]; exact ho9, HS.out.2.trans hg9⟩; clear ho9 hg9)
       go_roundw
       case rel => exact ⟨k + 1, by omega, by go_num, HA9.out⟩
       case measure => simp [intOf]; omega
     · have e : k = nr := by omega
       subst e
       have HQ : Hid (AtO wr base (.slice Aw nw cw) (L ++ R.map (attrR b))) := Lib.hid (by
        have := HS.out.1
        rw [List.take_of_length_le (by rw [HL.out]; exact Nat.le_refl _)] at this
        exact this)
       have HJ : Hid (Calls Tryz.prog 107 #[.slice Ar k kr, .string ⟨#[59]⟩] wr fun e w' => e = .returned (.string (bs (semi R))) ∧ Below wr.heap.size wr w') := Lib.hid (join_any R _ wr ((HVW.out.below HBL.out).more HNW.out) (by rw [HL.out]; exact hn0) (by rw [HL.out]; omega) (by have := HSL.out; omega))
       obtain ⟨sj, hsj⟩ : ∃ s, bs (semi R) = s := ⟨_, rfl⟩
       have HSJ : Hid (tx sj = semi R) := Lib.hid (by rw [← hsj, tx_bs])
       have hsz : sj.size ≤ 27 := by rw [← hsj, bs_size]; exact HSL.out
       rw [hsj] at HJ
       clear hsj
       have q5 : ¬ 9223372036854775807 < wy.size + 1 := by omega
       have q6 : ¬ 9223372036854775807 < wy.size + 1 + sj.size := by omega
       have HTX : Hid ((⟨bs nSimulcast, bs (wayW b ++ 32 :: semi R)⟩ : AttrS) = ⟨bs nSimulcast, wy ++ ⟨#[32]⟩ ++ sj⟩) := Lib.hid (by
        congr 1
        exact (tx_inj (by rw [tx_append, tx_append, HWY.out, HSJ.out, tx_bs]; simp [tx])).symm)
       go_wp2_with (first | (go_at_call 107; (with_reducible refine HJ.out.mono ?_); rintro e w1 ⟨rfl, hb1⟩; have H1 : Hid (Below wr.heap.size wr w1 ∧ AtO w1 base (.slice Aw nw cw) (L ++ R.map (attrR b))) := Lib.hid ⟨hb1, HQ.out.under hb1⟩; clear hb1) | (at_builtin; refine wpList_addA rfl (.tmp 30) (.tmp 37) rfl rfl rfl H1.out.2 HLX.out (by have := H1.out.1.size; have := HNW.out; omega) ?_; intro v9 w9 ho9 hg9; have HA9 : Hid (AtO w9 base v9 ((L ++ R.map (attrR b)) ++ [⟨bs nSimulcast, wy ++ ⟨#[32]⟩ ++ sj⟩]) ∧ Grew w (.slice Av nv cv) w9 v9) := Lib.hid ⟨ho9, (HS.out.2.under H1.out.1).trans hg9⟩; clear ho9 hg9))
       go_ret
       exact ⟨_, rfl, by rw [HF.out, HTX.out]; exact HA9.out.1, HA9.out.2⟩
end Go.Proofs.YtbbedhecfipdjaaGreatDoor
