import Derived.Test.YtbbedhecfipdjaaGreatDoorPkDescPrintsA23
namespace Go.Proofs.YtbbedhecfipdjaaGreatDoor
open Go.RowKit
set_option linter.unusedVariables false
set_option linter.unusedSimpArgs false
theorem textL_take (ls : List Tx) (k : Nat) : (textL (ls.take k)).length ≤ (textL ls).length := by
 have e : textL ls = textL (ls.take k) ++ textL (ls.drop k) := by rw [← textL_append, List.take_append_drop]
 rw [e, List.length_append]
 omega
theorem linesA_take (L : List AttrS) (k : Nat) : linesA (L.take k) = (linesA L).take k := by simp [linesA, List.map_take]
theorem textA_next {L : List AttrS} {k : Nat} {a : AttrS} (h : L[k]? = some a) : textL (linesA (L.take (k + 1))) = textL (linesA (L.take k)) ++ (lineA a ++ crlf) := by
 rw [List.take_add_one, h, linesA_append, textL_append]
 congr 1
 simp [linesA, textL]
set_option maxHeartbeats 1600000 in
theorem rattrs_any (v : Value) (L : List AttrS) (w : World) (h : AttrsV w w.heap.size v L) (hb : (textL (linesA L)).length ≤ 1099511627776) :
 Calls Tryz.prog 160 #[v] w fun e w' => ∃ t : ByteArray, e = .returned (.string t) ∧ tx t = textL (linesA L) ∧ w' = w := by
 obtain ⟨A, c, rfl, hc, hm, -⟩ := h.form
 have H := Lib.hid h
 obtain ⟨n, hn⟩ : ∃ n, L.length = n := ⟨_, rfl⟩
 have HNN := Lib.hid hn
 have HB := Lib.hid hb
 rw [hn] at hc ⊢
 unfold maxLen at hm
 clear h hn hb
 go_enter Tryz.func160, Tryz.ntmps160
 go_wp2
 go_loopw [3, 7] (fun s3 s7 wr => ∃ (k : Nat) (t : ByteArray), k ≤ n ∧ s7 = .int .i64 k ∧ s3 = .string t ∧ tx t = textL (linesA (L.take k)) ∧ wr = w) (fun _ s7 _ => n - (intOf s7).toNat)
 case atStart => exact ⟨0, ⟨#[]⟩, Nat.zero_le _, rfl, rfl, rfl, rfl⟩
 case round =>
  obtain ⟨k, t, hk, rfl, rfl, ht, rfl⟩ := hrel
  have HT := Lib.hid ht
  clear ht
  by_cases hlt : k < n
  · obtain ⟨ad, c', e1, b1, x0, x1⟩ := H.out.at_ (i := k) (by rw [HNN.out]; exact hlt)
    injection e1 with e1 e1n e1c
    clear e1n e1c
    subst e1
    have gL := getD_of (L := L) (i := k) (by rw [HNN.out]; exact hlt)
    obtain ⟨a, ha⟩ : ∃ a, L.getD k default = a := ⟨_, rfl⟩
    rw [ha] at x0 x1 gL
    have hnx := textA_next gL
    have hk0 : (0 : Int) ≤ (k : Int) := by omega
    have hk1 : (k : Int) < (n : Int) := by omega
    have e1 : IntKind.i64.wrap ((k : Int) + 1) = (k : Int) + 1 := IntWalk.i64_in _ (by omega)
    obtain ⟨nm, vl⟩ := a
    simp only at x0 x1 hnx
    have hlen := textL_take (linesA L) (k + 1)
    rw [← linesA_take, hnx, ← HT.out] at hlen
    clear gL ha b1
    cases hq : vl.toList.isEmpty with
    | true =>
      have hla : lineA ⟨nm, vl⟩ = tx (⟨#[97, 61]⟩ ++ nm) := by
       rw [toList_tx] at hq
       unfold lineA valTail
       rw [if_pos hq, tx_append, List.append_nil]
       rfl
      rw [hla] at hlen hnx
      have hsz : t.size + 2 + nm.size + 2 ≤ 1099511627776 := by
       have := HB.out
       simp only [List.length_append, tx_append, tx_length] at hlen
       have s2 : (⟨#[97, 61]⟩ : ByteArray).size = 2 := rfl
       have s1 : (⟨#[58]⟩ : ByteArray).size = 1 := rfl
       have sc : crlf.length = 2 := rfl
       omega
      have z1 : ¬ (9223372036854775807 < t.size + 2) := by omega
      have z2 : ¬ (9223372036854775807 < t.size + 2 + nm.size) := by omega
      have z3 : ¬ (9223372036854775807 < t.size + 2 + nm.size + 2) := by omega
      have HNX : Hid (tx (t ++ ⟨#[97, 61]⟩ ++ nm ++ ⟨#[13, 10]⟩) = textL (linesA (L.take (k + 1)))) := Lib.hid (by
       rw [hnx, ← HT.out]
       simp only [tx_append, List.append_assoc]
       rfl)
      clear hlen hnx hla hsz
      go_wp2
      go_roundw
      case rel => exact ⟨k + 1, _, by omega, by go_num, rfl, HNX.out, trivial⟩
      case measure => simp [intOf]; omega
    | false =>
      have hla : lineA ⟨nm, vl⟩ = tx (⟨#[97, 61]⟩ ++ nm ++ (⟨#[58]⟩ ++ vl)) := by
       rw [toList_tx] at hq
       unfold lineA valTail
       rw [if_neg (by rw [hq]; decide), tx_append, tx_append, tx_append]
       rfl
      rw [hla] at hlen hnx
      have hsz : t.size + 2 + nm.size + 1 + vl.size + 2 ≤ 1099511627776 := by
       have := HB.out
       simp only [List.length_append, tx_append, tx_length] at hlen
       have s2 : (⟨#[97, 61]⟩ : ByteArray).size = 2 := rfl
       have s1 : (⟨#[58]⟩ : ByteArray).size = 1 := rfl
       have sc : crlf.length = 2 := rfl
       omega
      have z1 : ¬ (9223372036854775807 < t.size + 2) := by omega
      have z2 : ¬ (9223372036854775807 < t.size + 2 + nm.size) := by omega
      have z3 : ¬ (9223372036854775807 < t.size + 2 + nm.size + 1) := by omega
      have z4 : ¬ (9223372036854775807 < t.size + 2 + nm.size + 1 + vl.size) := by omega
      have z5 : ¬ (9223372036854775807 < t.size + 2 + nm.size + 1 + vl.size + 2) := by omega
      have HNX : Hid (tx (t ++ ⟨#[97, 61]⟩ ++ nm ++ ⟨#[58]⟩ ++ vl ++ ⟨#[13, 10]⟩) = textL (linesA (L.take (k + 1)))) := Lib.hid (by
       rw [hnx, ← HT.out]
       simp only [tx_append, List.append_assoc]
       rfl)
      clear hlen hnx hla hsz
      go_wp2
      go_roundw
      case rel => exact ⟨k + 1, _, by omega, by go_num, rfl, HNX.out, trivial⟩
      case measure => simp [intOf]; omega
  · obtain rfl : k = n := by omega
    have HF : Hid (tx t = textL (linesA L)) := Lib.hid (by rw [HT.out, List.take_of_length_le (by rw [HNN.out]; exact Nat.le_refl _)])
    go_wp2
    go_ret
    exact ⟨_, rfl, HF.out, rfl⟩
def textK (x : SesS) (k : Nat) : Tx := textL (headL x.origin x.name x.time ++ (linesA x.attrs ++ (x.parts.take k).flatMap linesP))
theorem textK_zero (x : SesS) : textK x 0 = textL (headL x.origin x.name x.time) ++ textL (linesA x.attrs) := by simp [textK, textL_append]
theorem textK_next {x : SesS} {k : Nat} {p : PartS} (h : x.parts[k]? = some p) : textK x (k + 1) = textK x k ++ textL (linesP p) := by
 unfold textK
 rw [List.take_add_one, h, List.flatMap_append, ← List.append_assoc (linesA x.attrs), ← List.append_assoc, textL_append]
 congr 1
 simp
theorem textK_all {x : SesS} {k : Nat} (h : x.parts.length ≤ k) : textK x k = textS x := by
 unfold textK
 rw [List.take_of_length_le h]
 rfl
theorem textK_le (x : SesS) (k : Nat) : (textK x k).length ≤ (textS x).length := by
 have e : textS x = textK x k ++ textL ((x.parts.drop k).flatMap linesP) := by
  unfold textK
  rw [← textL_append, List.append_assoc, List.append_assoc, ← List.flatMap_append, List.take_append_drop]
  rfl
 rw [e, List.length_append]
 omega
theorem textL_linesP (p : PartS) : textL (linesP p) = [109, 61] ++ tx p.line ++ crlf ++ (textL (connL p.conn) ++ textL (linesA p.attrs)) := by
 unfold linesP
 rw [textL_cons, textL_append]
theorem rattrs_q (v : Value) (L : List AttrS) (w : World) (h : AttrsV w w.heap.size v L) (hb : (textL (linesA L)).length ≤ 1099511627776) :
 Calls Tryz.prog 160 #[v] w fun e w' => e = .returned (.string (bs (textL (linesA L)))) ∧ w' = w :=
 (rattrs_any v L w h hb).mono fun e w' ⟨t, h1, h2, h3⟩ => ⟨by rw [h1, ← h2, bs_tx], h3⟩
set_option maxHeartbeats 3200000 in
set_option maxRecDepth 100000 in
theorem rprint_any (X : Array Value) (x : SesS) (a1 p1 : Value) (w : World) (h : SesV w w.heap.size X x a1 p1) (hl : (textS x).length ≤ 1099511627776) :
 Calls Tryz.prog 106 #[.agg X] w fun e w' => ∃ t : ByteArray, e = .returned (.string t) ∧ tx t = textS x ∧ Below w.heap.size w w' := by
 obtain ⟨e1, va1, vp1⟩ := h
 subst e1
 obtain ⟨A, k1, rfl, -⟩ := va1.form
 obtain ⟨P, j1, rfl, hj1, hm1, -⟩ := vp1.form
 obtain ⟨n1, hn1⟩ : ∃ n, x.attrs.length = n := ⟨_, rfl⟩
 obtain ⟨n, hn⟩ : ∃ n, x.parts.length = n := ⟨_, rfl⟩
 rw [hn1] at va1
 rw [hn] at vp1 hj1
 rw [hn1, hn]
 unfold maxLen at hm1
 have hb : Below w.heap.size w (w.alloc (.cells #[.string x.origin, .string x.name, .string x.time, .slice A n1 k1, .slice P n j1] 107)) := (Below.refl _ w).alloc (Nat.le_refl _) _
 have g1 := Whole.new w 107 #[.string x.origin, .string x.name, .string x.time, .slice A n1 k1, .slice P n j1]
 have va := (va1.below hb).more hb.size
 have vp := (vp1.below hb).more hb.size
 have HNN := Lib.hid hn
 have hla : (textL (linesA x.attrs)).length ≤ 1099511627776 := by
  have h0 := textK_le x 0
  rw [textK_zero, List.length_append] at h0
  omega
 obtain ⟨ta, hta⟩ : ∃ ta, bs (textL (linesA x.attrs)) = ta := ⟨_, rfl⟩
 have HTA : Hid (tx ta = textL (linesA x.attrs)) := Lib.hid (by rw [← hta, tx_bs])
 have hsz : 7 + x.origin.size + 4 + x.name.size + 4 + x.time.size + 2 + ta.size ≤ 1099511627776 := by
  have h0 := textK_le x 0
  have h1 := congrArg List.length (textK_zero x)
  have h2 := congrArg List.length HTA.out
  rw [tx_length] at h2
  simp only [headL, textL_cons, textL_nil, List.length_append, List.length_cons, List.length_nil, tx_length] at h1
  have sc : crlf.length = 2 := rfl
  omega
 have q1 : ¬ (9223372036854775807 < 7 + x.origin.size) := by omega
 have q2 : ¬ (9223372036854775807 < 7 + x.origin.size + 4) := by omega
 have q3 : ¬ (9223372036854775807 < 7 + x.origin.size + 4 + x.name.size) := by omega
 have q4 : ¬ (9223372036854775807 < 7 + x.origin.size + 4 + x.name.size + 4) := by omega
 have q5 : ¬ (9223372036854775807 < 7 + x.origin.size + 4 + x.name.size + 4 + x.time.size) := by omega
 have q6 : ¬ (9223372036854775807 < 7 + x.origin.size + 4 + x.name.size + 4 + x.time.size + 2) := by omega
 have q7 : ¬ (9223372036854775807 < 7 + x.origin.size + 4 + x.name.size + 4 + x.time.size + 2 + ta.size) := by omega
 have HT0 : Hid (tx (⟨#[118, 61, 48, 13, 10, 111, 61]⟩ ++ x.origin ++ ⟨#[13, 10, 115, 61]⟩ ++ x.name ++ ⟨#[13, 10, 116, 61]⟩ ++ x.time ++ ⟨#[13, 10]⟩ ++ ta) = textK x 0) := Lib.hid (by
  rw [textK_zero, ← HTA.out]
  simp only [headL, textL_cons, textL_nil, tx_append, List.append_assoc, List.nil_append]
  rfl)
 have HL := Lib.hid hl
 clear hn1 hn va1 vp1 hsz hl
 obtain ⟨B, hB⟩ : ∃ B, w.heap.size = B := ⟨_, rfl⟩
 have HBE := Lib.hid hB
 go_enter Tryz.func106, Tryz.ntmps106
 go_upto_region 1 with fail
 rw [hB] at g1
 generalize hw0 : w.alloc (.cells #[.string x.origin, .string x.name, .string x.time, .slice A n1 k1, .slice P n j1] 107) = w0 at *
 try rw [hB]
 have HB0 := Lib.hid hb
 clear hw0 hB hb
 have HQA : Hid (∀ m, Calls Tryz.prog 160 #[.slice A n1 k1] (w0.drewN m) fun e w' => e = .returned (.string ta) ∧ w' = w0.drewN m) := Lib.hid fun m => by
  have hd := below_drewN' (Below.refl w0.heap.size w0) m
  have := rattrs_q _ x.attrs (w0.drewN m) ((va.below hd).more hd.size) hla
  rw [hta] at this
  exact this
 have HV := Lib.hid vp
 have HG1 := Lib.hid g1
 have c0 := g1.cell 0
 have c1 := g1.cell 1
 have c2 := g1.cell 2
 have c3 := g1.cell 3
 simp only [List.getElem?_toArray, List.getElem?_cons_zero, List.getElem?_cons_succ] at c0 c1 c2 c3
 clear va vp g1 hla hta
 go_quiet ((go_at_call 160; exact Calls.quiet_of_same (HQA.out _)))
 have H1 : Hid (∀ m, Below w.heap.size w (w0.drewN m) ∧ PartsV (w0.drewN m) (w0.drewN m).heap.size (.slice P n j1) x.parts ∧ Whole (w0.drewN m) B 107 #[.string x.origin, .string x.name, .string x.time, .slice A n1 k1, .slice P n j1]) := Lib.hid fun m => by
  have hd := below_drewN' (Below.refl w0.heap.size w0) m
  exact ⟨HB0.out.trans (hd.mono HB0.out.size), (HV.out.below hd).more hd.size, HG1.out.under hd⟩
 have H1w := H1.out nq
 generalize w0.drewN nq = W1 at *
 generalize (⟨#[118, 61, 48, 13, 10, 111, 61]⟩ ++ x.origin ++ ⟨#[13, 10, 115, 61]⟩ ++ x.name ++ ⟨#[13, 10, 116, 61]⟩ ++ x.time ++ ⟨#[13, 10]⟩ ++ ta : ByteArray) = t0 at *
 clear q1 q2 q3 q4 q5 q6 q7 c0 c1 c2 c3 H1 HQA HTA HV HG1
 obtain ⟨hbw, hpv, hgw⟩ := H1w
 have c4 := hgw.cell 4
 simp only [List.getElem?_toArray, List.getElem?_cons_zero, List.getElem?_cons_succ] at c4
 have HBW := Lib.hid hbw
 have HP := Lib.hid hpv
 clear hbw hpv hgw
 go_wp2
 go_loopw [3, 24] (fun s3 s24 wr => ∃ (k : Nat) (t : ByteArray), k ≤ n ∧ s24 = .int .i64 k ∧ s3 = .string t ∧ tx t = textK x k ∧ wr = W1) (fun _ s24 _ => n - (intOf s24).toNat)
 case atStart => exact ⟨0, t0, Nat.zero_le _, rfl, rfl, HT0.out, rfl⟩
 case round =>
  obtain ⟨k, t, hk, rfl, rfl, ht, rfl⟩ := hrel
  have HT := Lib.hid ht
  clear ht
  by_cases hlt : k < n
  · obtain ⟨ad, c1', va, e1, b1, x0, x1, x2, xr⟩ := HP.out.at_ (i := k) (by rw [HNN.out]; exact hlt)
    injection e1 with e1 e1n e1c
    clear e1n e1c
    subst e1
    have gL := getD_of (L := x.parts) (i := k) (by rw [HNN.out]; exact hlt)
    obtain ⟨p, hp⟩ : ∃ p, x.parts.getD k default = p := ⟨_, rfl⟩
    rw [hp] at x0 x1 xr gL
    have hnx := textK_next gL
    have hlen := textK_le x (k + 1)
    rw [hnx, textL_linesP, ← HT.out] at hlen
    rw [textL_linesP] at hnx
    have hk0 : (0 : Int) ≤ (k : Int) := by omega
    have hk1 : (k : Int) < (n : Int) := by omega
    have e1 : IntKind.i64.wrap ((k : Int) + 1) = (k : Int) + 1 := IntWalk.i64_in _ (by omega)
    obtain ⟨Aq, lq, cq, rfl⟩ : ∃ A l c, va = .slice A l c := by
     obtain ⟨A, c, e, -⟩ := xr.form
     exact ⟨_, _, _, e⟩
    have hpl : (textL (linesA p.attrs)).length ≤ 1099511627776 := by
     have := HL.out
     simp only [List.length_append] at hlen
     omega
    have HQP := Lib.hid (rattrs_q _ p.attrs wr xr hpl)
    obtain ⟨tp, htp⟩ : ∃ tp, bs (textL (linesA p.attrs)) = tp := ⟨_, rfl⟩
    have htp' : textL (linesA p.attrs) = tx tp := by rw [← htp, tx_bs]
    rw [htp] at HQP
    rw [htp'] at hnx hlen
    clear gL hp b1 xr htp htp' hpl
    obtain ⟨ln, cn, pa⟩ := p
    simp only at x0 x1 hnx hlen HQP
    have s2 : (⟨#[109, 61]⟩ : ByteArray).size = 2 := rfl
    have sc : crlf.length = 2 := rfl
    have HTX : Hid (∀ u : ByteArray, tx (⟨#[109, 61]⟩ ++ ln ++ ⟨#[13, 10]⟩ ++ u) = [109, 61] ++ tx ln ++ crlf ++ tx u) := Lib.hid fun u => by
     simp only [tx_append]
     rfl
    cases hq : cn.toList.isEmpty with
    | true =>
      have hcl : textL (connL cn) = [] := by
       rw [toList_tx] at hq
       unfold connL
       rw [if_pos hq]
       rfl
      rw [hcl] at hnx hlen
      have hsz : t.size + 2 + ln.size + 2 + tp.size ≤ 1099511627776 := by
       have := HL.out
       simp only [List.length_append, tx_length, List.length_cons, List.length_nil] at hlen
       omega
      have z1 : ¬ (9223372036854775807 < t.size + 2) := by omega
      have z2 : ¬ (9223372036854775807 < t.size + 2 + ln.size) := by omega
      have z3 : ¬ (9223372036854775807 < t.size + 2 + ln.size + 2) := by omega
      have z4 : ¬ (9223372036854775807 < t.size + 2 + ln.size + 2 + tp.size) := by omega
      have HNX : Hid (tx (t ++ ⟨#[109, 61]⟩ ++ ln ++ ⟨#[13, 10]⟩ ++ tp) = textK x (k + 1)) := Lib.hid (by
       rw [hnx, ← HT.out]
       simp only [tx_append, List.append_assoc, List.nil_append]
       rfl)
      clear hlen hnx hcl hsz s2 sc HTX
      go_wp2_with (go_at_call 160; (with_reducible refine HQP.out.mono ?_); rintro e w9 ⟨rfl, rfl⟩)
      go_roundw
      case rel => exact ⟨k + 1, _, by omega, by go_num, rfl, HNX.out, trivial⟩
      case measure => simp [intOf]; omega
    | false =>
      have hcl : textL (connL cn) = tx (⟨#[99, 61]⟩ ++ cn ++ ⟨#[13, 10]⟩) := by
       rw [toList_tx] at hq
       unfold connL
       rw [if_neg (by rw [hq]; decide)]
       simp only [textL_cons, textL_nil, tx_append, List.append_nil]
       rfl
      rw [hcl] at hnx hlen
      have hsz : t.size + 2 + ln.size + 2 + 2 + cn.size + 2 + tp.size ≤ 1099511627776 := by
       have := HL.out
       have s3 : (⟨#[99, 61]⟩ : ByteArray).size = 2 := rfl
       have s4 : (⟨#[13, 10]⟩ : ByteArray).size = 2 := rfl
       simp only [List.length_append, tx_append, tx_length, List.length_cons, List.length_nil] at hlen
       omega
      have z1 : ¬ (9223372036854775807 < t.size + 2) := by omega
      have z2 : ¬ (9223372036854775807 < t.size + 2 + ln.size) := by omega
      have z3 : ¬ (9223372036854775807 < t.size + 2 + ln.size + 2) := by omega
      have z4 : ¬ (9223372036854775807 < t.size + 2 + ln.size + 2 + 2) := by omega
      have z5 : ¬ (9223372036854775807 < t.size + 2 + ln.size + 2 + 2 + cn.size) := by omega
      have z6 : ¬ (9223372036854775807 < t.size + 2 + ln.size + 2 + 2 + cn.size + 2) := by omega
      have z7 : ¬ (9223372036854775807 < t.size + 2 + ln.size + 2 + 2 + cn.size + 2 + tp.size) := by omega
      have HNX : Hid (tx (t ++ ⟨#[109, 61]⟩ ++ ln ++ ⟨#[13, 10]⟩ ++ ⟨#[99, 61]⟩ ++ cn ++ ⟨#[13, 10]⟩ ++ tp) = textK x (k + 1)) := Lib.hid (by
       rw [hnx, ← HT.out]
       simp only [tx_append, List.append_assoc, List.nil_append]
       rfl)
      clear hlen hnx hcl hsz s2 sc HTX
      go_wp2_with (go_at_call 160; (with_reducible refine HQP.out.mono ?_); rintro e w9 ⟨rfl, rfl⟩)
      go_roundw
      case rel => exact ⟨k + 1, _, by omega, by go_num, rfl, HNX.out, trivial⟩
      case measure => simp [intOf]; omega
  · obtain rfl : k = n := by omega
    have HF : Hid (tx t = textS x) := Lib.hid (by rw [HT.out, textK_all (by rw [HNN.out]; exact Nat.le_refl _)])
    go_wp2
    go_ret
    exact ⟨_, rfl, HF.out, HBW.out⟩
end Go.Proofs.YtbbedhecfipdjaaGreatDoor
