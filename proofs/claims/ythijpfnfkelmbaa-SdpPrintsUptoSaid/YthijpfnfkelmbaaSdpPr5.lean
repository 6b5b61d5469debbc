/- The program's Print. -/
import Derived.Test.YthijpfnfkelmbaaSdpPr4
namespace Go.Proofs.Ythijpfnfkelmbaa
open Go.RowKit
set_option linter.unusedVariables false
set_option linter.unusedSimpArgs false

theorem join_lines : ∀ (ls : List ByteArray), ls ≠ [] → Lib.join (ls.map (·.data.toList)) crlf ++ crlf = textL (ls.map tx)
  | [], h => (h rfl).elim
  | [a], _ => by
    rw [List.map_cons, List.map_nil, Lib.join_one, List.map_cons, List.map_nil, textL_cons, textL_nil, List.append_nil]
    rfl
  | a :: b :: r, _ => by
    have ih := join_lines (b :: r) (by simp)
    have e : Lib.join ((a :: b :: r).map (·.data.toList)) crlf = a.data.toList ++ crlf ++ Lib.join ((b :: r).map (·.data.toList)) crlf := by
      rw [List.map_cons, List.map_cons, Lib.join_cons, Lib.join_cons]
      simp [Lib.joinTail]
    rw [e, List.append_assoc, ih, List.map_cons (l := b :: r), textL_cons]
    rfl
theorem textL_le {m : Nat} : ∀ (ls : List Tx), (∀ a ∈ ls, a.length ≤ m) → (textL ls).length ≤ ls.length * (m + 2)
  | [], _ => by simp [textL]
  | a :: r, h => by
    have ih := textL_le r (fun b hb => h b (by simp [hb]))
    have ha := h a (by simp)
    have e := congrArg List.length (textL_cons a r)
    simp only [List.length_append, List.length_cons, List.length_nil] at e
    rw [e, List.length_cons, Nat.succ_mul]
    omega
theorem flat_le {α β : Type} {m : Nat} {f : α → List β} : ∀ (ls : List α), (∀ a ∈ ls, (f a).length ≤ m) → (ls.flatMap f).length ≤ ls.length * m
  | [], _ => by simp
  | a :: r, h => by
    have ih := flat_le r (fun b hb => h b (by simp [hb]))
    have ha := h a (by simp)
    rw [List.flatMap_cons, List.length_append, List.length_cons, Nat.succ_mul]
    omega
theorem lineA_len {a : AttrS} (h : okAt a = true) : (lineA a).length ≤ 235 := by
  have := okAt_sizes h
  unfold lineA valTail
  split
  · simp only [List.length_append, List.length_cons, List.length_nil, tx_length]; omega
  · simp only [List.length_append, List.length_cons, List.length_nil, tx_length]; omega
theorem linesP_len {p : PartS} (h : okP p = true) : (linesP p).length ≤ 66 ∧ ∀ a ∈ linesP p, a.length ≤ 235 := by
  obtain ⟨h1, h2, h3⟩ := okP_parts h
  have h64 := okA_len h3
  have hc : (connL p.conn).length ≤ 1 := by unfold connL; split <;> simp
  refine ⟨?_, fun a ha => ?_⟩
  · unfold linesP
    rw [List.length_cons, List.length_append]
    simp only [linesA, List.length_map]
    omega
  · unfold linesP connL at ha
    rw [List.mem_cons, List.mem_append] at ha
    rcases ha with rfl | ha | ha
    · have := val_size h1
      rw [List.length_append, tx_length]
      simp; omega
    · split at ha
      · cases ha
      · rw [List.mem_singleton] at ha
        subst ha
        have := maybe_size h2
        rw [List.length_append, tx_length]
        simp; omega
    · obtain ⟨b, hb, rfl⟩ := List.mem_map.1 ha
      exact lineA_len (okA_at h3 hb)
theorem linesS_few {x : SesS} (h : okS x = true) : (linesS x).length ≤ 596 ∧ (textS x).length ≤ 141252 := by
  obtain ⟨h1, h2, h3, h4, h5, h6⟩ := okS_parts h
  have h64 := okA_len h4
  have hf := flat_le (f := linesP) (m := 66) x.parts (fun p hp => (linesP_len (h6 p hp)).1)
  have hn : (linesS x).length ≤ 596 := by
    unfold linesS headL
    rw [List.length_append, List.length_append]
    simp only [linesA, List.length_map, List.length_cons, List.length_nil]
    omega
  refine ⟨hn, ?_⟩
  have := textL_le (m := 235) (linesS x) (fun a ha => by
    unfold linesS headL at ha
    simp only [List.mem_append, List.mem_cons, List.not_mem_nil, or_false, List.mem_flatMap] at ha
    have hs : ∀ {s : ByteArray} {u v : UInt8}, valP (tx s) = true → ([u, v] ++ tx s).length ≤ 235 := fun hv => by
      have := val_size hv
      rw [List.length_append, tx_length]
      simp; omega
    rcases ha with (rfl | rfl | rfl | rfl) | ha | ⟨p, hp, ha⟩
    · simp
    · exact hs h1
    · exact hs h2
    · exact hs h3
    · obtain ⟨b, hb, rfl⟩ := List.mem_map.1 ha
      exact lineA_len (okA_at h4 hb)
    · exact (linesP_len (h6 p hp)).2 a ha)
  show (textL (linesS x)).length ≤ _
  omega
def HasText (x : SesS) : Prop := okS x = true ∧ (textS x).length ≤ 8192
def PrO (x : SesS) (t : ByteArray) (er : Int) : Prop := (HasText x ∧ er = 0 ∧ tx t = textS x) ∨ (¬ HasText x ∧ er = 1 ∧ t = ⟨#[]⟩)
def PrintO (w : World) (x : SesS) (e : Ending) (w' : World) : Prop := ∃ (t : ByteArray) (er : Int), e = .returned (.tuple #[.string t, .int .i64 er]) ∧ PrO x t er ∧ Below w.heap.size w w'
theorem join_row (ls : List ByteArray) (v : Value) (N : Nat) (w : World) (ho : Own w N 9 1 v (ls.map scell)) (h0 : 0 < ls.length) (hl : ls.length ≤ 140737488355328) (hj : (Lib.join (ls.map (·.data.toList)) crlf).length ≤ 140737488355328) :
    Calls Try.prog 31 #[v, .string ⟨#[13, 10]⟩] w fun e w' => e = .returned (.string ⟨(Lib.join (ls.map (·.data.toList)) crlf).toArray⟩) ∧ Below w.heap.size w w' := by
  obtain ⟨g, c, hv, hg, _, hlt, hc, _, _, _⟩ := ho.at_ (i := 0) (r := scell ls[0]) (by rw [List.getElem?_map, List.getElem?_eq_getElem h0]; rfl)
  rw [List.length_map] at hv hc
  subst hv
  refine Try.strings_Join g 0 c ls ⟨#[13, 10]⟩ w (fun j s hs => ?_) hlt hl hc hj
  obtain ⟨g2, c2, hv2, hg2, _, _, _, _, hcell, _⟩ := ho.at_ (i := j) (r := scell s) (by rw [List.getElem?_map, hs]; rfl)
  have : g2 = g := by rw [hg] at hg2; exact (Option.some.inj hg2).symm
  subst this
  have := hcell 0 (by decide)
  rw [Nat.mul_one, Nat.add_zero] at this
  rw [Nat.zero_add, this]
  rfl
set_option maxHeartbeats 3200000 in
set_option maxRecDepth 100000 in
theorem print_any (X : Array Value) (x : SesS) (a1 p1 : Value) (w : World) (h : SesV w w.heap.size X x a1 p1) (hz : SizS x) : Calls Try.prog 14 #[.agg X] w (PrintO w x) := by
  obtain ⟨e1, va1, vp1⟩ := h
  subst e1
  obtain ⟨A, k1, rfl, -⟩ := va1.form
  obtain ⟨P, j1, rfl, hj1, hm1, -⟩ := vp1.form
  obtain ⟨n1, hn1⟩ : ∃ n, x.attrs.length = n := ⟨_, rfl⟩
  obtain ⟨n, hn⟩ : ∃ n, x.parts.length = n := ⟨_, rfl⟩
  rw [hn1] at va1
  rw [hn] at vp1 hj1
  rw [hn1, hn]
  have hb : Below w.heap.size w (w.alloc (.cells #[.string x.origin, .string x.name, .string x.time, .slice A n1 k1, .slice P n j1] 33)) := (Below.refl _ w).alloc (Nat.le_refl _) _
  have g1 := Whole.new w 33 #[.string x.origin, .string x.name, .string x.time, .slice A n1 k1, .slice P n j1]
  have va := (va1.below hb).more hb.size
  have vp := (vp1.below hb).more hb.size
  have HZ := Lib.hid hz
  clear hn1 hn va1 vp1 hz
  obtain ⟨B, hB⟩ : ∃ B, w.heap.size = B := ⟨_, rfl⟩
  have HBE := Lib.hid hB
  go_enter Try.func14, Try.ntmps14
  go_upto_region 1 with fail
  rw [hB] at g1
  generalize hw0 : w.alloc (.cells #[.string x.origin, .string x.name, .string x.time, .slice A n1 k1, .slice P n j1] 33) = w0 at *
  try rw [hB]
  clear hw0 hB
  have HB0 := Lib.hid (And.intro hb g1)
  have HVA : Hid (Calls Try.prog 30 #[.agg #[.string x.origin, .string x.name, .string x.time, .slice A n1 k1, .slice P n j1]] w0 fun e w' => e = .returned (.bool (okS x)) ∧ Below w0.heap.size w0 w') := Lib.hid (valid_any _ x _ _ w0 ⟨by rw [], va, vp⟩ HZ.out)
  have HV := Lib.hid (And.intro va vp)
  clear va vp hb g1
  obtain ⟨b, hbb⟩ : ∃ b, okS x = b := ⟨_, rfl⟩
  rw [hbb] at HVA
  cases b with
  | false =>
    have HR : Hid (∀ W, Below w.heap.size w W → PrintO w x (.returned (.tuple #[.string ⟨#[]⟩, .int .i64 1])) W) := Lib.hid fun W hW => ⟨_, _, rfl, .inr ⟨fun hh => (by rw [hh.1] at hbb; cases hbb), rfl, rfl⟩, hW⟩
    clear hbb
    go_wp2_with (first
      | ((with_reducible refine wpList_load_all ?_ 33 (.tmp 1) ?_ HB0.out.2 ?_ Try.sizeSSes ?_ Try.underlying33 ?_ ?_); (with_reducible rfl); (with_reducible rfl); rfl; rfl; rfl)
      | (go_at_call 30; (with_reducible refine HVA.out.mono ?_); rintro e w2 ⟨rfl, hb2⟩; have HF := Lib.hid (HR.out _ (HB0.out.1.trans (hb2.mono HB0.out.1.size))); clear hb2))
    go_ret2
    exact HF.out
  | true =>
    have HFW := Lib.hid (linesS_few hbb)
    have HL : Hid (∀ W, Below w0.heap.size w0 W → Calls Try.prog 32 #[.agg #[.string x.origin, .string x.name, .string x.time, .slice A n1 k1, .slice P n j1]] W fun e w' => ∃ (v : Value) (ls : List ByteArray), e = .returned v ∧ Own w' W.heap.size 9 1 v (ls.map scell) ∧ ls.map tx = linesS x ∧ Below W.heap.size W w') := Lib.hid fun W hW => plines_any _ x _ _ W ⟨by rw [], (HV.out.1.below hW).more hW.size, (HV.out.2.below hW).more hW.size⟩ hbb
    have HJ : Hid (∀ (ls : List ByteArray) (v : Value) (N : Nat) (W : World), Own W N 9 1 v (ls.map scell) → ls.map tx = linesS x → Calls Try.prog 31 #[v, .string ⟨#[13, 10]⟩] W fun e w' => ∃ t : ByteArray, e = .returned (.string t) ∧ tx t ++ crlf = textS x ∧ Below W.heap.size W w') := Lib.hid fun ls v N W ho hl => by
      have hlen : ls.length = (linesS x).length := by rw [← hl, List.length_map]
      have h4 := linesS_len x
      have hj := join_lines ls (fun e => by rw [e] at hlen; simp at hlen; omega)
      rw [hl] at hj
      have hjl := congrArg List.length hj
      rw [List.length_append] at hjl
      have hfew := HFW.out
      have hts : (textL (linesS x)).length ≤ 141252 := hfew.2
      refine (join_row ls v N W ho (by omega) (by omega) (by omega)).mono fun e w' ⟨h1, h2⟩ => ⟨_, h1, ?_, h2⟩
      show (Lib.join (ls.map (·.data.toList)) crlf).toArray.toList ++ crlf = _
      rw [List.toList_toArray]
      exact hj
    have HOK := Lib.hid hbb
    clear hbb
    by_cases hbig : 8192 < (textS x).length
    · have HR : Hid (∀ W, Below w.heap.size w W → PrintO w x (.returned (.tuple #[.string ⟨#[]⟩, .int .i64 1])) W) := Lib.hid fun W hW => ⟨_, _, rfl, .inr ⟨fun hh => (by have := hh.2; omega), rfl, rfl⟩, hW⟩
      go_wp2_with (first
        | ((with_reducible refine wpList_load_all ?_ 33 (.tmp 1) ?_ HB0.out.2 ?_ Try.sizeSSes ?_ Try.underlying33 ?_ ?_); (with_reducible rfl); (with_reducible rfl); rfl; rfl; rfl)
        | ((with_reducible refine wpList_load_all ?_ 33 (.tmp 1) ?_ HW2.out ?_ Try.sizeSSes ?_ Try.underlying33 ?_ ?_); (with_reducible rfl); (with_reducible rfl); rfl; rfl; rfl)
        | (go_at_call 30; (with_reducible refine HVA.out.mono ?_); rintro e w2 ⟨rfl, hb2⟩; have HB2 := Lib.hid hb2; have HW2 := Lib.hid (HB0.out.2.under hb2); clear hb2)
        | (go_at_call 32; (with_reducible refine (HL.out _ HB2.out).mono ?_); rintro e w3 ⟨v3, ls, rfl, ho3, hl3, hb3⟩; have H3 := Lib.hid (And.intro ho3 (And.intro hl3 hb3)); clear ho3 hl3 hb3)
        | (go_at_call 31; (with_reducible refine (HJ.out _ _ _ _ H3.out.1 H3.out.2.1).mono ?_); rintro e w4 ⟨t, rfl, ht, hb4⟩; have hzt : t.size + 2 = (textS x).length := (by rw [← ht, List.length_append, tx_length]; rfl); have hz2 : ¬ (9223372036854775807 < t.size + 2) := (by have := HFW.out.2; omega); have H4 : Hid (Below w.heap.size w w4 ∧ tx (t ++ ⟨#[13, 10]⟩) = textS x) := Lib.hid ⟨HB0.out.1.trans ((HB2.out.trans ((H3.out.2.2.trans (hb4.mono H3.out.2.2.size)).mono HB2.out.size)).mono HB0.out.1.size), by rw [tx_append, ← ht]; rfl⟩; have HZT := Lib.hid hzt; have hbg : (8192 : Int) < (t.size : Int) + 2 := (by omega); clear ht hb4 hzt))
      go_ret2
      exact HR.out _ H4.out.1
    · have HR : Hid (∀ W t, Below w.heap.size w W → tx t = textS x → PrintO w x (.returned (.tuple #[.string t, .int .i64 0])) W) := Lib.hid fun W t hW ht => ⟨_, _, rfl, .inl ⟨⟨HOK.out, by omega⟩, rfl, ht⟩, hW⟩
      go_wp2_with (first
        | ((with_reducible refine wpList_load_all ?_ 33 (.tmp 1) ?_ HB0.out.2 ?_ Try.sizeSSes ?_ Try.underlying33 ?_ ?_); (with_reducible rfl); (with_reducible rfl); rfl; rfl; rfl)
        | ((with_reducible refine wpList_load_all ?_ 33 (.tmp 1) ?_ HW2.out ?_ Try.sizeSSes ?_ Try.underlying33 ?_ ?_); (with_reducible rfl); (with_reducible rfl); rfl; rfl; rfl)
        | (go_at_call 30; (with_reducible refine HVA.out.mono ?_); rintro e w2 ⟨rfl, hb2⟩; have HB2 := Lib.hid hb2; have HW2 := Lib.hid (HB0.out.2.under hb2); clear hb2)
        | (go_at_call 32; (with_reducible refine (HL.out _ HB2.out).mono ?_); rintro e w3 ⟨v3, ls, rfl, ho3, hl3, hb3⟩; have H3 := Lib.hid (And.intro ho3 (And.intro hl3 hb3)); clear ho3 hl3 hb3)
        | (go_at_call 31; (with_reducible refine (HJ.out _ _ _ _ H3.out.1 H3.out.2.1).mono ?_); rintro e w4 ⟨t, rfl, ht, hb4⟩; have hzt : t.size + 2 = (textS x).length := (by rw [← ht, List.length_append, tx_length]; rfl); have hz2 : ¬ (9223372036854775807 < t.size + 2) := (by have := HFW.out.2; omega); have H4 : Hid (Below w.heap.size w w4 ∧ tx (t ++ ⟨#[13, 10]⟩) = textS x) := Lib.hid ⟨HB0.out.1.trans ((HB2.out.trans ((H3.out.2.2.trans (hb4.mono H3.out.2.2.size)).mono HB2.out.size)).mono HB0.out.1.size), by rw [tx_append, ← ht]; rfl⟩; have HZT := Lib.hid hzt; have hbg : ¬ (8192 : Int) < (t.size : Int) + 2 := (by omega); clear ht hb4 hzt))
      go_ret2
      exact HR.out _ _ H4.out.1 H4.out.2
end Go.Proofs.Ythijpfnfkelmbaa
