/- The bytes that Build tells of a packet of no sources and no extensions. -/
import Derived.Test.YtapbodiakkdfmaaRpA
import Derived.Test.YtapbodiakkdfmaaStRow
namespace Go.Proofs.Ytapbodiakkdfmaa
open Go.RowKit
set_option linter.unusedVariables false
set_option linter.unusedSimpArgs false

/-- Its bytes. -/
def flatB (mk : Bool) (ty : Int) (ys : List Int) (pad : Nat) : List Int :=
  [if pad = 0 then 128 else 160, if mk then ty + 128 else ty] ++ be2 0 ++ be4 0 ++ be4 0 ++ ys ++ padB pad

/-- What is known while a packet is written: its box in block N, and the bytes so far. -/
structure Wq (N : Nat) (M : Array Value) (w wr : World) (v : Value) (xs : List Int) : Prop where
  own : Own8 wr (N + 1) v xs
  box : Whole wr N 37 M
  below : Below N w wr
section
variable {N : Nat} {M : Array Value} {w wr w' : World} {v v' : Value} {xs xs' : List Int}
theorem Wq.size (h : Wq N M w wr v xs) : N + 1 ≤ wr.heap.size := h.box.lt
theorem Wq.grew (h : Wq N M w wr v xs) (g : Grew (N + 1) wr w' v v' xs') : Wq N M w w' v' xs' :=
  ⟨g.own, g.keep h.own h.box (by decide), h.below.trans ((g.below h.own h.size).mono (Nat.le_succ _))⟩
theorem Wq.alloc (h : Wq N M w wr v xs) (o : Obj) : Wq N M w (wr.alloc o) v xs :=
  ⟨h.own.alloc o, h.box.alloc o, h.below.alloc (Nat.le_of_succ_le h.size) o⟩
theorem Wq.under (h : Wq N M w wr v xs) (hb : Below wr.heap.size wr w') : Wq N M w w' v xs :=
  ⟨h.own.under hb, h.box.under hb, h.below.trans (hb.mono (Nat.le_of_succ_le h.size))⟩
theorem Wq.drew (h : Wq N M w wr v xs) : Wq N M w wr.drew v xs := ⟨h.own.drew, h.box.drew, h.below.drew⟩
theorem Wq.cong (h : Wq N M w wr v xs) (e : xs = xs') : Wq N M w wr v xs' := e ▸ h
theorem Wq.live (h : Wq N M w wr v xs) (hx : 0 < xs.length) : v ≠ .slice none 0 0 := by
  rintro rfl
  obtain ⟨A, c, e, _⟩ := h.own.form
  injection e with _ e2
  omega
theorem wq_put16 (h : Wq N M w wr v xs) (y : Int) (hl : xs.length ≤ 5000) :
    Calls Try.prog 18 #[v, .int .u16 y] wr fun e w' => ∃ v', e = .returned v' ∧ Wq N M w w' v' (xs ++ be2 y) :=
  (put16_any y v (N + 1) xs wr h.own h.size (by omega)).mono fun e w' ⟨v', he, hg⟩ => ⟨v', he, h.grew hg⟩
theorem wq_put32 (h : Wq N M w wr v xs) (y : Int) (hl : xs.length ≤ 5000) :
    Calls Try.prog 19 #[v, .int .u32 y] wr fun e w' => ∃ v', e = .returned v' ∧ Wq N M w w' v' (xs ++ be4 y) :=
  (put32_any y v (N + 1) xs wr h.own h.size (by omega)).mono fun e w' ⟨v', he, hg⟩ => ⟨v', he, h.grew hg⟩
theorem wq_pad (h : Wq N M w wr v xs) (hx : 0 < xs.length) (pad : Nat) (hl : xs.length ≤ 5000) (hp : pad ≤ 255) :
    Calls Try.prog 21 #[v, .int .i64 pad] wr fun e w' => ∃ v', e = .returned v' ∧ Wq N M w w' v' (xs ++ padB pad) :=
  (putPad_any pad v (N + 1) xs wr h.own (h.live hx) h.size (by omega) hp).mono fun e w' ⟨v', he, hg⟩ => ⟨v', he, h.grew hg⟩
end

/-- A struct that lies whole in a block is loaded, in a drawn order. -/
theorem yieldsIf_load_box {ops : Array Oper} {S : World → Prop} {op : Oper} {a : Act} (hw : Region.wanted op (yielded ops a.tmps) = true) (ty : TypeId) (x : Operand) (ho : op.op = .load ty x)
    (b : Nat) (hx : a.eval x = .pointer (some ⟨b, 0, none⟩)) {t : TypeId} {cs : Array Value} (hS : ∀ w, S w → Whole w b t cs) {d : TypeDesc} (hu : Try.prog.underlying ty = some d) (hd : d.isRow = true) {n : Nat} (hi : (Try.prog.info? ty).map (·.size) = some n) (hn : cs.size = n) : YieldsIf Try.prog ops S op (.agg cs) a := by
  have e : cs.toList.toArray = cs := by simp
  have h := yieldsIf_load_mid (P := Try.prog) (ops := ops) (S := S) (op := op) (a := a) hw ty x ho b 0 hx cs.toList d (fun w h => (hS w h).rangeA) hu hd (by rw [hi, ← hn]; simp)
  rwa [e] at h

set_option maxHeartbeats 1600000 in
set_option maxRecDepth 100000 in
theorem build_flat (mk : Bool) (ty : Int) (A : Option Addr) (c pad : Nat) (ys : List Int) (h0 : 0 ≤ ty) (h1 : ty ≤ 127) (hor : bits .or .u8 ty 128 = ty + 128) (hn : ys.length ≤ 1200) (hp : pad ≤ 255) (w : World)
    (hy : Bs w w.heap.size A ys.length ys) (hA : A = none → c = 0) :
    Calls Try.prog 11 #[.agg (pk mk ty 0 0 0 (.slice none 0 0) (.slice none 0 0) (.slice A ys.length c) pad)] w fun e w' => ∃ v, e = .returned (.tuple #[v, .int .i64 0]) ∧ Own8 w' w.heap.size v (flatB mk ty ys pad) ∧ Below w.heap.size w w' := by
  obtain ⟨n, hN⟩ : ∃ n, ys.length = n := ⟨_, rfl⟩
  have HN := Lib.hid hN
  rw [hN] at hn hy
  have HY := Lib.hid hy
  rw [hN]
  have HG0 : Hid (∀ W, Calls Try.prog 14 #[.agg (pk mk ty 0 0 0 (.slice none 0 0) (.slice none 0 0) (.slice A n c) pad)] W fun e w' => e = .returned (.bool true) ∧ Below W.heap.size W w') := Lib.hid fun W => good_flat mk ty A n c pad hn hp (by omega) (by omega) W
  have HS0 : Hid (∀ W, Calls Try.prog 15 #[.agg (pk mk ty 0 0 0 (.slice none 0 0) (.slice none 0 0) (.slice A n c) pad)] W fun e w' => e = .returned (.int .i64 ((12 + n + pad : Nat) : Int)) ∧ Below W.heap.size W w') := Lib.hid fun W => size_flat mk ty A n c pad (by omega) hp W
  obtain ⟨sz, hszn⟩ : ∃ s, 12 + n + pad = s := ⟨_, rfl⟩
  have hsm : sz ≤ 1467 := by omega
  rw [hszn] at HS0
  clear hszn
  obtain ⟨b0, hb0⟩ : ∃ b, b = if pad = 0 then (128 : Int) else 160 := ⟨_, rfl⟩
  obtain ⟨b1, hb1⟩ : ∃ b, b = if mk then ty + 128 else ty := ⟨_, rfl⟩
  have HF0 : Hid (∀ W, Calls Try.prog 16 #[.agg (pk mk ty 0 0 0 (.slice none 0 0) (.slice none 0 0) (.slice A n c) pad)] W fun e w' => e = .returned (.int .u8 b0) ∧ Below W.heap.size W w') := Lib.hid fun W => first_flat mk ty _ pad b0 hb0 W
  have HF1 : Hid (∀ W, Calls Try.prog 17 #[.agg (pk mk ty 0 0 0 (.slice none 0 0) (.slice none 0 0) (.slice A n c) pad)] W fun e w' => e = .returned (.int .u8 b1) ∧ Below W.heap.size W w') := Lib.hid fun W => second_flat mk ty _ pad b1 hb1 h0 h1 hor W
  have HEX : Hid (∀ v W, Calls Try.prog 20 #[v, .slice none 0 0] W fun e w' => e = .returned v ∧ W = w') := Lib.hid fun v W => putExts_nil v W
  have hfb : flatB mk ty ys pad = [b0, b1] ++ be2 0 ++ be4 0 ++ be4 0 ++ ys ++ padB pad := by unfold flatB; rw [hb0, hb1]
  have HFB := Lib.hid hfb
  have hmr := make_room sz (by omega)
  have hsz : (pk mk ty 0 0 0 (.slice none 0 0) (.slice none 0 0) (.slice A n c) pad).size = 9 := rfl
  have hg := Whole.new w 37 (pk mk ty 0 0 0 (.slice none 0 0) (.slice none 0 0) (.slice A n c) pad)
  have HB := Lib.hid ((Below.refl w.heap.size w).alloc (Nat.le_refl _) (.cells (pk mk ty 0 0 0 (.slice none 0 0) (.slice none 0 0) (.slice A n c) pad) 37))
  have HC : Hid (∀ W, Whole W w.heap.size 37 (pk mk ty 0 0 0 (.slice none 0 0) (.slice none 0 0) (.slice A n c) pad) → W.cell? ⟨w.heap.size, 2, none⟩ = some (.int .u16 0) ∧ W.cell? ⟨w.heap.size, 3, none⟩ = some (.int .u32 0) ∧ W.cell? ⟨w.heap.size, 4, none⟩ = some (.int .u32 0) ∧ W.cell? ⟨w.heap.size, 5, none⟩ = some (.slice none 0 0) ∧ W.cell? ⟨w.heap.size, 6, none⟩ = some (.slice none 0 0) ∧ W.cell? ⟨w.heap.size, 7, none⟩ = some (.slice A n c) ∧ W.cell? ⟨w.heap.size, 8, none⟩ = some (.int .i64 pad)) := Lib.hid fun W h => by
    obtain ⟨c0, c1, c2, c3, c4, c5, c6, c7, c8⟩ := pk_cells h
    exact ⟨c2, c3, c4, c5, c6, c7, c8⟩
  generalize pk mk ty 0 0 0 (.slice none 0 0) (.slice none 0 0) (.slice A n c) pad = M at *
  have HG := Lib.hid hg
  clear hg hfb hb0 hb1 hor hy hN
  obtain ⟨N, hNN⟩ : ∃ N, w.heap.size = N := ⟨_, rfl⟩
  have HNN := Lib.hid hNN
  rw [hNN] at HG HB HC HY
  go_enter Try.func11, Try.ntmps11
  go_upto_region 1 with fail
  generalize w.alloc (.cells M 37) = W0 at *
  clear hNN
  go_upto_region 3 with (first
    | (refine wpList_load_all rfl 37 (.tmp 1) rfl HG.out rfl Try.sizePk hsz Try.underlying37 rfl ?_)
    | (go_at_call 14; (with_reducible refine (HG0.out _).mono ?_); rintro e w1 ⟨rfl, hb1⟩))
  go_upto_region 4 with (first
    | (refine wpList_load_all rfl 37 (.tmp 1) rfl (HG.out.under hb1) rfl Try.sizePk hsz Try.underlying37 rfl ?_)
    | (go_at_call 15; (with_reducible refine (HS0.out _).mono ?_); rintro e w2 ⟨rfl, hb2⟩))
  have hb12 : Below N w w2 := HB.out.trans ((hb1.trans (hb2.mono hb1.size)).mono (Nat.le_of_lt HG.out.lt))
  have hg2 := (HG.out.under hb1).under hb2
  have hmk : sz ≤ maxLen := by unfold maxLen; omega
  have ho : Own8 (w2.alloc (.cells (arr .u8 (List.replicate sz 0)) 5)) (N + 1) (.slice (some ⟨w2.heap.size, 0, none⟩) 0 sz) [] :=
    World.ownsRow_made w2 (arr .u8 (List.replicate sz 0)) sz (by have := hg2.lt; omega) hmk (by simp)
  have hw0 : Wq N M w (w2.alloc (.cells (arr .u8 (List.replicate sz 0)) 5)) (.slice (some ⟨w2.heap.size, 0, none⟩) 0 sz) [] :=
    ⟨ho, hg2.alloc _, hb12.alloc (by have := hg2.lt; omega) _⟩
  generalize w2.alloc (.cells (arr .u8 (List.replicate sz 0)) 5) = W1 at *
  generalize w2.heap.size = g1 at *
  have H1 := Lib.hid hw0
  clear hw0 ho hb1 hb2 hb12 hg2 hmk hmr
  refine wp_region_held_drew (S := fun W => Whole W N 37 M) (by kernel_rfl) H1.out.drew.box (fun hHeld => ?_)
  refine wpAnyH_take (i := 0) (v := _) rfl (by as_aux_lemma => kernel_rfl) (by as_aux_lemma => kernel_rfl) (by as_aux_lemma => kernel_rfl) (fun _ _ _ h => h) (Or.inl ⟨by rfl, fun w h => by clear h; go_simp; (try with_reducible rfl)⟩) (by assumption) ?_
  simp only [Act.put, List.getElem_toArray, List.getElem_cons_succ, List.getElem_cons_zero, List.setIfInBounds_toArray, List.set_cons_succ, List.set_cons_zero]
  refine wpAnyH_take (i := 1) (v := _) rfl (by as_aux_lemma => kernel_rfl) (by as_aux_lemma => kernel_rfl) (by as_aux_lemma => kernel_rfl) (fun _ _ _ h => h) (yieldsIf_load_box (by rfl) 37 (.tmp 1) rfl N rfl (fun w h => h) Try.underlying37 rfl Try.sizePk hsz) (by assumption) ?_
  simp only [Act.put, List.getElem_toArray, List.getElem_cons_succ, List.getElem_cons_zero, List.setIfInBounds_toArray, List.set_cons_succ, List.set_cons_zero]
  refine wpAnyH_take (i := 3) (v := _) rfl (by as_aux_lemma => kernel_rfl) (by as_aux_lemma => kernel_rfl) (by as_aux_lemma => kernel_rfl) (fun _ _ _ h => h) (yieldsIf_load_box (by rfl) 37 (.tmp 1) rfl N rfl (fun w h => h) Try.underlying37 rfl Try.sizePk hsz) (by assumption) ?_
  simp only [Act.put, List.getElem_toArray, List.getElem_cons_succ, List.getElem_cons_zero, List.setIfInBounds_toArray, List.set_cons_succ, List.set_cons_zero]
  refine wpAnyH_ready (rs := [2]) (by as_aux_lemma => kernel_rfl) (by simp) ?_
  refine AllReadyH.cons (i := 2) rfl (fun K hK => ?_) AllReadyH.nil
  go_simp
  refine (HF0.out _).mono ?_
  rintro e w3 ⟨rfl, hb3⟩
  have hw3 := H1.out.drew.under hb3
  refine hK.out _ _ hw3.box (fun hHeld => ?_)
  clear hK K
  refine wpAnyH_ready (rs := [4]) (by as_aux_lemma => kernel_rfl) (by simp) ?_
  refine AllReadyH.cons (i := 4) rfl (fun K hK => ?_) AllReadyH.nil
  go_simp
  refine (HF1.out _).mono ?_
  rintro e w4 ⟨rfl, hb4⟩
  have hw4 := hw3.under hb4
  refine hK.out _ _ hw4.box (fun hHeld => ?_)
  clear hK K
  refine wpAnyH_ready (rs := [5]) (by as_aux_lemma => kernel_rfl) (by simp) ?_
  refine AllReadyH.cons (i := 5) rfl (fun K hK => ?_) AllReadyH.nil
  go_simp
  have hw5 := hw4.alloc (.cells #[.int .u8 b0, .int .u8 b1] 5)
  have hbs5 : Bs (w4.alloc (.cells #[.int .u8 b0, .int .u8 b1] 5)) (w4.heap.size + 1) (some ⟨w4.heap.size, 0, none⟩) 2 [b0, b1] := Bs.row (t := 5) (ys := [b0, b1]) (Whole.new w4 5 (arr .u8 [b0, b1])) 0 (Nat.zero_le _)
  refine hK.out _ _ hw5.box (fun hHeld => ?_)
  clear hK K
  refine wpAnyH_ready (rs := [6]) (by as_aux_lemma => kernel_rfl) (by simp) ?_
  refine AllReadyH.cons (i := 6) rfl (fun K hK => ?_) AllReadyH.nil
  refine step_of rfl (wp_append8 (.tmp 13) (.tmp 18) rfl rfl hw5.own rfl hbs5 (fun e => by cases e) (by simp) hw5.size ?_)
  intro v6 w6 k1 k2 k3
  have hw6 := hw5.grew (Grew.of0 k1 k2 k3)
  rw [List.nil_append] at hw6
  refine hK.out _ _ hw6.box (fun hHeld => ?_)
  clear hK K
  refine wpAnyH_take (i := 7) (v := _) rfl (by as_aux_lemma => kernel_rfl) (by as_aux_lemma => kernel_rfl) (by as_aux_lemma => kernel_rfl) (fun _ _ _ h => h) (Or.inl ⟨by rfl, fun w h => by clear h; go_simp; (try with_reducible rfl)⟩) (by assumption) ?_
  simp only [Act.put, List.getElem_toArray, List.getElem_cons_succ, List.getElem_cons_zero, List.setIfInBounds_toArray, List.set_cons_succ, List.set_cons_zero]
  refine wpAnyH_done (by as_aux_lemma => kernel_rfl) ?_ _
  have H6 := Lib.hid hw6
  clear hw3 hw4 hw5 hw6 hbs5 k1 k2 k3 hb3 hb4 hHeld
  obtain ⟨c2, c3, c4, c5, c6, c7, c8⟩ := HC.out _ H6.out.box
  have HP16 : Hid (∀ W v xs y, Wq N M w W v xs → xs.length ≤ 5000 → Calls Try.prog 18 #[v, .int .u16 y] W fun e w' => ∃ v', e = .returned v' ∧ Wq N M w w' v' (xs ++ be2 y)) := Lib.hid fun W v xs y h hl => wq_put16 h y hl
  have HP32 : Hid (∀ W v xs y, Wq N M w W v xs → xs.length ≤ 5000 → Calls Try.prog 19 #[v, .int .u32 y] W fun e w' => ∃ v', e = .returned v' ∧ Wq N M w w' v' (xs ++ be4 y)) := Lib.hid fun W v xs y h hl => wq_put32 h y hl
  go_upto_region 6 with (go_at_call 18; (with_reducible refine (HP16.out _ _ _ _ H6.out (by simp)).mono ?_); rintro e w7 ⟨v7, rfl, hw7⟩)
  have H7 := Lib.hid hw7
  clear hw7 c2 c3 c4 c5 c6 c7 c8
  obtain ⟨c2, c3, c4, c5, c6, c7, c8⟩ := HC.out _ H7.out.box
  go_upto_region 7 with (go_at_call 19; (with_reducible refine (HP32.out _ _ _ _ H7.out (by simp)).mono ?_); rintro e w8 ⟨v8, rfl, hw8⟩)
  have H8 := Lib.hid hw8
  clear hw8 c2 c3 c4 c5 c6 c7 c8
  obtain ⟨c2, c3, c4, c5, c6, c7, c8⟩ := HC.out _ H8.out.box
  go_upto_region 8 with (go_at_call 19; (with_reducible refine (HP32.out _ _ _ _ H8.out (by simp)).mono ?_); rintro e w9 ⟨v9, rfl, hw9⟩)
  obtain ⟨pre, hpre⟩ : ∃ p, [b0, b1] ++ be2 0 ++ be4 0 ++ be4 0 = p := ⟨_, rfl⟩
  have hpl : pre.length = 12 := by rw [← hpre]; simp
  have hw9 := hw9.cong hpre
  have H9 := Lib.hid (And.intro hw9 (And.intro hpl hpre))
  clear hw9 hpl hpre c2 c3 c4 c5 c6 c7 c8
  obtain ⟨c2, c3, c4, c5, c6, c7, c8⟩ := HC.out _ H9.out.1.box
  go_wp2
  go_loop [4, 35] (fun s4 s35 => s4 = v9 ∧ s35 = .int .i64 0) (fun _ _ => 0)
  case atStart => exact ⟨rfl, rfl⟩
  case round =>
    obtain ⟨rfl, rfl⟩ := hrel
    go_upto_region 14 with (go_at_call 20; (with_reducible refine (HEX.out _ _).mono ?_); rintro e w10 ⟨rfl, rfl⟩)
    have hbs := (HY.out.below H9.out.1.below)
    go_upto_region 15 with (at_builtin; go_must (refine wpList_append8 rfl (.tmp 47) (.tmp 49) rfl rfl H9.out.1.own rfl hbs hA (by rw [H9.out.2.1]; omega) H9.out.1.size ?_); intro v11 w11 k1 k2 k3)
    have hw11 := H9.out.1.grew (Grew.of0 k1 k2 k3)
    have H11 := Lib.hid hw11
    clear hw11 k1 k2 k3 hbs c2 c3 c4 c5 c6 c7 c8
    obtain ⟨c2, c3, c4, c5, c6, c7, c8⟩ := HC.out _ H11.out.box
    have HPD : Hid (Calls Try.prog 21 #[v11, .int .i64 pad] w11 fun e w' => ∃ v', e = .returned v' ∧ Wq N M w w' v' (pre ++ ys ++ padB pad)) := Lib.hid (wq_pad H11.out (by rw [List.length_append, H9.out.2.1]; omega) pad (by rw [List.length_append, H9.out.2.1, HN.out]; omega) hp)
    go_wp2_with (go_at_call 21; (with_reducible refine HPD.out.mono ?_); rintro e w12 ⟨v12, rfl, hw12⟩)
    go_ret2
    refine ⟨v12, rfl, ?_, by rw [HNN.out]; exact hw12.below⟩
    rw [HFB.out, H9.out.2.2, HNN.out]
    exact hw12.own.low (Nat.le_succ _)
end Go.Proofs.Ytapbodiakkdfmaa
