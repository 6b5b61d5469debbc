import Derived.Test.YtbbedhecfipdjaaGreatDoorPkDescPrintsA24
import Derived.Test.YtbbedhecfipdjaaGreatDoorPkDescPrintsA16
import Derived.Test.YtbbedhecfipdjaaGreatDoorPkDescPrintsA04
namespace Go.Proofs.YtbbedhecfipdjaaGreatDoor
open Go.RowKit
set_option linter.unusedVariables false
set_option linter.unusedSimpArgs false
def cntK (x : SesS) (k : Nat) : Nat := x.attrs.length + x.parts.length + ((x.parts.take k).map fun p => p.attrs.length).sum
theorem cntK_zero (x : SesS) : cntK x 0 = x.attrs.length + x.parts.length := by simp [cntK]
theorem cntK_next {x : SesS} {k : Nat} {p : PartS} (h : x.parts[k]? = some p) : cntK x (k + 1) = cntK x k + p.attrs.length := by
 unfold cntK
 rw [List.take_add_one, h, List.map_append, List.sum_append]
 simp
 omega
theorem textL_two : ∀ ls : List Tx, 2 * ls.length ≤ (textL ls).length
 | [] => by simp [textL]
 | a :: r => by
   have ih := textL_two r
   have sc : crlf.length = 2 := rfl
   rw [textL_cons, List.length_append, List.length_append, List.length_cons]
   omega
theorem parts_sum : ∀ L : List PartS, L.length + (L.map fun p => p.attrs.length).sum ≤ (L.flatMap linesP).length
 | [] => by simp
 | p :: r => by
   have ih := parts_sum r
   have hp : 1 + p.attrs.length ≤ (linesP p).length := by
    unfold linesP
    rw [List.length_cons, List.length_append]
    simp only [linesA, List.length_map]
    omega
   rw [List.flatMap_cons, List.length_append, List.map_cons, List.sum_cons, List.length_cons]
   omega
theorem sum_take_le (l : List PartS) (k : Nat) : ((l.take k).map fun p => p.attrs.length).sum ≤ (l.map fun p => p.attrs.length).sum := by
 have e : (l.map fun p => p.attrs.length).sum = ((l.take k).map fun p => p.attrs.length).sum + ((l.drop k).map fun p => p.attrs.length).sum := by
  rw [← List.sum_append, ← List.map_append, List.take_append_drop]
 omega
theorem cntK_le (x : SesS) (k : Nat) : cntK x k ≤ (textS x).length := by
 have h1 := textL_two (linesS x)
 have h2 := parts_sum x.parts
 have h3 := sum_take_le x.parts k
 have h4 : (textS x).length = (textL (linesS x)).length := rfl
 have h5 : (linesS x).length = 4 + (x.attrs.length + (x.parts.flatMap linesP).length) := by
  unfold linesS headL
  rw [List.length_append, List.length_append]
  simp [linesA]
 unfold cntK
 omega
theorem sum_le {m : Nat} : ∀ L : List PartS, (∀ p ∈ L, p.attrs.length ≤ m) → (L.map fun p => p.attrs.length).sum ≤ L.length * m
 | [], _ => by simp
 | p :: r, h => by
   have ih := sum_le r (fun q hq => h q (by simp [hq]))
   have hp := h p (by simp)
   rw [List.map_cons, List.sum_cons, List.length_cons, Nat.succ_mul]
   omega
theorem okS_few {x : SesS} (h : okS x = true) : cntK x x.parts.length ≤ 2000 := by
 obtain ⟨_, _, _, h4, h5, h6⟩ := okS_parts h
 have h1 := okA_len h4
 have h2 := sum_le (m := 64) x.parts (fun p hp => okA_len (okP_parts (h6 p hp)).2.2)
 unfold cntK
 rw [List.take_length]
 omega
theorem HasText.inn {x : SesS} (h : HasText x) : Parsed (textS x) (.ok x) := parsed_print h.1 h.2
theorem HasText.out {x y : SesS} (h : Parsed (textS x) (.ok y)) (e : x = y) : HasText x := by
 subst e
 obtain ⟨h1, h2, h3⟩ := h.text
 exact ⟨h1, h3⟩
set_option maxHeartbeats 6400000 in
set_option maxRecDepth 100000 in
theorem rPrint_any (X : Array Value) (x : SesS) (a1 p1 : Value) (w : World) (h : SesV w w.heap.size X x a1 p1) (hl : (textS x).length ≤ 1099511627776) : Calls Tryz.prog 58 #[.agg X] w (PrintO w x) := by
 obtain ⟨e1, va1, vp1⟩ := h
 subst e1
 obtain ⟨A, k1, rfl, -⟩ := va1.form
 obtain ⟨P, j1, rfl, hj1, hm1, -⟩ := vp1.form
 obtain ⟨n1, hn1⟩ : ∃ n, x.attrs.length = n := ⟨_, rfl⟩
 obtain ⟨n, hn⟩ : ∃ n, x.parts.length = n := ⟨_, rfl⟩
 rw [hn1] at va1
 rw [hn] at vp1 hj1
 rw [hn1, hn]
 unfold maxLen at hm1
 have hb : Below w.heap.size w (w.alloc (.cells #[.string x.origin, .string x.name, .string x.time, .slice A n1 k1, .slice P n j1] 107)) := (Below.refl _ w).alloc (Nat.le_refl _) _
 have g1 := Whole.new w 107 #[.string x.origin, .string x.name, .string x.time, .slice A n1 k1, .slice P n j1]
 have va := (va1.below hb).more hb.size
 have vp := (vp1.below hb).more hb.size
 have HNN := Lib.hid hn
 have HN1 := Lib.hid hn1
 have HL := Lib.hid hl
 have hc0 : cntK x 0 ≤ 1099511627776 := Nat.le_trans (cntK_le x 0) hl
 have hcz := cntK_zero x
 rw [hn1, hn] at hcz
 have HCZ := Lib.hid hcz
 have e0 : IntKind.i64.wrap ((n1 : Int) + (n : Int)) = ((n1 + n : Nat) : Int) := by
  rw [IntWalk.i64_in _ (by omega)]
  omega
 clear hn1 hn va1 vp1 hl hc0 hcz
 obtain ⟨B, hB⟩ : ∃ B, w.heap.size = B := ⟨_, rfl⟩
 have HBE := Lib.hid hB
 go_enter Tryz.func58, Tryz.ntmps58
 go_upto_region 1 with fail
 rw [hB] at g1
 generalize hw0 : w.alloc (.cells #[.string x.origin, .string x.name, .string x.time, .slice A n1 k1, .slice P n j1] 107) = w0 at *
 try rw [hB]
 have HB0 := Lib.hid hb
 clear hw0 hB hb
 have HPR := Lib.hid (rprint_any #[.string x.origin, .string x.name, .string x.time, .slice A n1 k1, .slice P n j1] x _ _ w0 ⟨rfl, va, vp⟩ HL.out)
 have HV := Lib.hid (And.intro va vp)
 have HG1 := Lib.hid g1
 have c3 := g1.cell 3
 have c4 := g1.cell 4
 simp only [List.getElem?_toArray, List.getElem?_cons_zero, List.getElem?_cons_succ] at c3 c4
 clear va vp g1
 go_upto_region 2 with fail
 go_wp2
 go_loopw [4, 20] (fun s4 s20 wr => ∃ (k c : Nat), k ≤ n ∧ s20 = .int .i64 k ∧ s4 = .int .i64 c ∧ c = cntK x k ∧ wr = w0) (fun _ s20 _ => n - (intOf s20).toNat)
 case atStart => exact ⟨0, n1 + n, Nat.zero_le _, rfl, rfl, HCZ.out.symm, rfl⟩
 case round =>
  obtain ⟨k, c, hk, rfl, rfl, hc, rfl⟩ := hrel
  have HC := Lib.hid hc
  clear hc
  by_cases hlt : k < n
  · obtain ⟨ad, c1', va, e1, b1, x0, x1, x2, xr⟩ := HV.out.2.at_ (i := k) (by rw [HNN.out]; exact hlt)
    injection e1 with e1 e1n e1c
    clear e1n e1c
    subst e1
    have gL := getD_of (L := x.parts) (i := k) (by rw [HNN.out]; exact hlt)
    obtain ⟨p, hp⟩ : ∃ p, x.parts.getD k default = p := ⟨_, rfl⟩
    rw [hp] at x0 x1 xr gL
    have hk0 : (0 : Int) ≤ (k : Int) := by omega
    have hk1 : (k : Int) < (n : Int) := by omega
    have e1 : IntKind.i64.wrap ((k : Int) + 1) = (k : Int) + 1 := IntWalk.i64_in _ (by omega)
    have hcn := cntK_next gL
    have hcl := cntK_le x (k + 1)
    obtain ⟨Aq, cq, rfl, -⟩ := xr.form
    obtain ⟨lq, hlq⟩ : ∃ l, p.attrs.length = l := ⟨_, rfl⟩
    rw [hlq] at hcn x2
    rw [hcn, ← HC.out] at hcl
    have e2 : IntKind.i64.wrap ((c : Int) + (lq : Int)) = ((c + lq : Nat) : Int) := by
     have := HL.out
     rw [IntWalk.i64_in _ (by omega)]
     omega
    have HNX : Hid (c + lq = cntK x (k + 1)) := Lib.hid (by rw [hcn, HC.out])
    clear gL hp b1 xr hlq hcn hcl x0 x1
    go_wp2
    go_roundw
    case rel => exact ⟨k + 1, c + lq, by omega, by go_num, rfl, HNX.out, trivial⟩
    case measure => simp [intOf]; omega
  · obtain rfl : k = n := by omega
    have HCN : Hid (c = cntK x x.parts.length) := Lib.hid (by rw [HC.out, HNN.out])
    clear e0
    by_cases hbig : 2000 < c
    · have hbi : (2000 : Int) < (c : Int) := by omega
      have HR : Hid (∀ W, Below w.heap.size w W → PrintO w x (.returned (.tuple #[.string ⟨#[]⟩, .int .i64 1])) W) := Lib.hid fun W hW => ⟨_, _, rfl, .inr ⟨fun hh => (by have := okS_few hh.1; have := HCN.out; omega), rfl, rfl⟩, hW⟩
      go_wp2
      go_ret2
      exact HR.out _ HB0.out
    have hbi : ¬ (2000 : Int) < (c : Int) := by omega
    have HTS : Hid (∀ t : ByteArray, tx t = textS x → t.size ≤ maxLen) := Lib.hid fun t ht => by
     have h1 := HL.out
     rw [← ht, tx_length] at h1
     unfold maxLen
     omega
    obtain ⟨r, hr⟩ := Parsed.total (textS x)
    cases r with
    | err kk er =>
    have HP : Hid (∀ (t : ByteArray) (W : World), tx t = textS x → Calls Tryz.prog 65 #[.string t] W (ErrO W kk er)) := Lib.hid fun t W ht => (rparse_any t W (HTS.out t ht)).mono fun e w' h => h.err (by rw [ht]; exact hr)
    have HR : Hid (∀ W, Below w.heap.size w W → PrintO w x (.returned (.tuple #[.string ⟨#[]⟩, .int .i64 1])) W) := Lib.hid fun W hW => ⟨_, _, rfl, .inr ⟨fun hh => (by have e := hr.one hh.inn; cases e), rfl, rfl⟩, hW⟩
    clear hr
    go_upto_region 11 with (first
     | ((with_reducible refine wpList_load_all ?_ 107 (.tmp 1) ?_ HG1.out ?_ Tryz.sizeRsSes ?_ Tryz.underlying107 ?_ ?_); (with_reducible rfl); (with_reducible rfl); rfl; rfl; rfl)
     | (go_at_call 106; (with_reducible refine HPR.out.mono ?_); rintro e w3 ⟨t, rfl, ht, hb3⟩; have H3 : Hid (tx t = textS x ∧ Below wr.heap.size wr w3) := Lib.hid ⟨ht, hb3⟩; have HPA := Lib.hid (HP.out t w3 ht); clear ht hb3)
     | (go_at_call 65; (with_reducible refine HPA.out.mono ?_); rintro e w6 ⟨A6, P6, ca6, cp6, rfl, -, -, her, hb6⟩; have hal6 := (Below.refl w6.heap.size w6).alloc (Nat.le_refl _) (.cells #[.string ⟨#[]⟩, .string ⟨#[]⟩, .string ⟨#[]⟩, .slice none 0 0, .slice none 0 0] 107); have HW6 : Hid (Whole (w6.alloc (.cells #[.string ⟨#[]⟩, .string ⟨#[]⟩, .string ⟨#[]⟩, .slice none 0 0, .slice none 0 0] 107)) w6.heap.size 107 #[.string ⟨#[]⟩, .string ⟨#[]⟩, .string ⟨#[]⟩, .slice none 0 0, .slice none 0 0]) := Lib.hid (Whole.new _ _ _))
     | ((with_reducible refine wpList_storeS #[.string (bs []), .string (bs []), .string (bs []), .slice A6 0 ca6, .slice P6 0 cp6] ?_ 107 (.tmp 7) (.tmp 40) ?_ ?_ ?_ HW6.out Tryz.sizeRsSes ?_ ?_ ?_ ?_); (with_reducible rfl); (with_reducible rfl); rfl; rfl; rfl; rfl; rfl))
    have hr6 := HW6.out.row #[.string (bs []), .string (bs []), .string (bs []), .slice A6 0 ca6, .slice P6 0 cp6]
    have hb6' := below_row hal6 (Nat.le_refl _) #[.string (bs []), .string (bs []), .string (bs []), .slice A6 0 ca6, .slice P6 0 cp6]
    have hb06 : Below wr.heap.size wr ((w6.alloc (.cells #[.string ⟨#[]⟩, .string ⟨#[]⟩, .string ⟨#[]⟩, .slice none 0 0, .slice none 0 0] 107)).setRow w6.heap.size #[.string (bs []), .string (bs []), .string (bs []), .slice A6 0 ca6, .slice P6 0 cp6]) := H3.out.2.trans ((hb6.trans (hb6'.mono hb6.size)).mono H3.out.2.size)
    have HB6 : Hid (Below w.heap.size w ((w6.alloc (.cells #[.string ⟨#[]⟩, .string ⟨#[]⟩, .string ⟨#[]⟩, .slice none 0 0, .slice none 0 0] 107)).setRow w6.heap.size #[.string (bs []), .string (bs []), .string (bs []), .slice A6 0 ca6, .slice P6 0 cp6])) := Lib.hid (HB0.out.trans (hb06.mono HB0.out.size))
    clear hal6 HW6 hb6 hb6' hb06 hr6
    generalize hg6 : w6.heap.size = g6 at *
    generalize ((w6.alloc (.cells #[.string ⟨#[]⟩, .string ⟨#[]⟩, .string ⟨#[]⟩, .slice none 0 0, .slice none 0 0] 107)).setRow g6 #[.string (bs []), .string (bs []), .string (bs []), .slice A6 0 ca6, .slice P6 0 cp6]) = W4 at *
    clear hg6
    rcases her with rfl | rfl
    · go_wp2
      go_ret2
      exact HR.out _ HB6.out
    · go_wp2
      go_ret2
      exact HR.out _ HB6.out
    | ok z =>
    have HP : Hid (∀ (t : ByteArray) (W : World), tx t = textS x → Calls Tryz.prog 65 #[.string t] W (OkO W z)) := Lib.hid fun t W ht => (rparse_any t W (HTS.out t ht)).mono fun e w' h => h.ok (by rw [ht]; exact hr)
    have HR : Hid (∀ (W : World) (t : ByteArray) (b : Bool), Below w.heap.size w W → tx t = textS x → (b = true ↔ x = z) → PrintO w x (.returned (.tuple (if b = true then #[.string t, .int .i64 0] else #[.string ⟨#[]⟩, .int .i64 1]))) W) := Lib.hid fun W t b hW ht hb => by
     cases b with
     | true => exact ⟨t, 0, rfl, .inl ⟨HasText.out hr (hb.1 rfl), rfl, ht⟩, hW⟩
     | false => exact ⟨⟨#[]⟩, 1, rfl, .inr ⟨fun hh => (by have e := hr.one hh.inn; injection e with e; have := hb.2 e.symm; cases this), rfl, rfl⟩, hW⟩
    clear hr
    obtain ⟨m1, hm1⟩ : ∃ n, z.attrs.length = n := ⟨_, rfl⟩
    obtain ⟨m, hm⟩ : ∃ n, z.parts.length = n := ⟨_, rfl⟩
    unfold OkO at HP
    rw [hm1, hm] at HP
    have HMM := Lib.hid (And.intro hm1 hm)
    clear hm1 hm
    go_upto_region 11 with (first
     | ((with_reducible refine wpList_load_all ?_ 107 (.tmp 1) ?_ HG1.out ?_ Tryz.sizeRsSes ?_ Tryz.underlying107 ?_ ?_); (with_reducible rfl); (with_reducible rfl); rfl; rfl; rfl)
     | (go_at_call 106; (with_reducible refine HPR.out.mono ?_); rintro e w3 ⟨t, rfl, ht, hb3⟩; have H3 : Hid (tx t = textS x ∧ Below wr.heap.size wr w3) := Lib.hid ⟨ht, hb3⟩; have HPA := Lib.hid (HP.out t w3 ht); clear ht hb3)
     | (go_at_call 65; (with_reducible refine HPA.out.mono ?_); rintro e w6 ⟨A6, P6, ca6, cp6, rfl, hA6, hP6, hb6⟩; have hal6 := (Below.refl w6.heap.size w6).alloc (Nat.le_refl _) (.cells #[.string ⟨#[]⟩, .string ⟨#[]⟩, .string ⟨#[]⟩, .slice none 0 0, .slice none 0 0] 107); have HW6 : Hid (Whole (w6.alloc (.cells #[.string ⟨#[]⟩, .string ⟨#[]⟩, .string ⟨#[]⟩, .slice none 0 0, .slice none 0 0] 107)) w6.heap.size 107 #[.string ⟨#[]⟩, .string ⟨#[]⟩, .string ⟨#[]⟩, .slice none 0 0, .slice none 0 0]) := Lib.hid (Whole.new _ _ _))
     | ((with_reducible refine wpList_storeS #[.string z.origin, .string z.name, .string z.time, .slice A6 m1 ca6, .slice P6 m cp6] ?_ 107 (.tmp 7) (.tmp 40) ?_ ?_ ?_ HW6.out Tryz.sizeRsSes ?_ ?_ ?_ ?_); (with_reducible rfl); (with_reducible rfl); rfl; rfl; rfl; rfl; rfl))
    have hr6 := HW6.out.row #[.string z.origin, .string z.name, .string z.time, .slice A6 m1 ca6, .slice P6 m cp6]
    have hb6' := below_row hal6 (Nat.le_refl _) #[.string z.origin, .string z.name, .string z.time, .slice A6 m1 ca6, .slice P6 m cp6]
    have hb06 : Below wr.heap.size wr ((w6.alloc (.cells #[.string ⟨#[]⟩, .string ⟨#[]⟩, .string ⟨#[]⟩, .slice none 0 0, .slice none 0 0] 107)).setRow w6.heap.size #[.string z.origin, .string z.name, .string z.time, .slice A6 m1 ca6, .slice P6 m cp6]) := H3.out.2.trans ((hb6.trans (hb6'.mono hb6.size)).mono H3.out.2.size)
    have HB6 : Hid (Below w.heap.size w ((w6.alloc (.cells #[.string ⟨#[]⟩, .string ⟨#[]⟩, .string ⟨#[]⟩, .slice none 0 0, .slice none 0 0] 107)).setRow w6.heap.size #[.string z.origin, .string z.name, .string z.time, .slice A6 m1 ca6, .slice P6 m cp6])) := Lib.hid (HB0.out.trans (hb06.mono HB0.out.size))
    have hA6' := (hA6.below hb6').more hb6'.size
    have hP6' := (hP6.below hb6').more hb6'.size
    have hA0 := (HV.out.1.below hb06).more hb06.size
    have hP0 := (HV.out.2.below hb06).more hb06.size
    have hr0 := HG1.out.under hb06
    clear hA6 hP6 hal6 HW6 hb6 hb6' hb06
    generalize hg6 : w6.heap.size = g6 at *
    generalize ((w6.alloc (.cells #[.string ⟨#[]⟩, .string ⟨#[]⟩, .string ⟨#[]⟩, .slice none 0 0, .slice none 0 0] 107)).setRow g6 #[.string z.origin, .string z.name, .string z.time, .slice A6 m1 ca6, .slice P6 m cp6]) = W4 at *
    clear hg6
    have HS := Lib.hid (same_any #[.string x.origin, .string x.name, .string x.time, .slice A n1 k1, .slice P k j1] #[.string z.origin, .string z.name, .string z.time, .slice A6 m1 ca6, .slice P6 m cp6] x z _ _ _ _ W4 ⟨rfl, hA0, hP0⟩ ⟨rfl, hA6', hP6'⟩)
    have HR0 := Lib.hid hr0
    have HR6 := Lib.hid hr6
    clear hr0 hr6 hA6' hP6' hA0 hP0
    go_upto_if 50 with (first
     | (refine wpList_load_allG rfl 107 (.tmp 1) rfl HR0.out rfl Tryz.sizeRsSes rfl Tryz.underlying107 rfl ?_)
     | (refine wpList_load_allG rfl 107 (.tmp 7) rfl HR6.out rfl Tryz.sizeRsSes rfl Tryz.underlying107 rfl ?_)
     | (go_at_call 67; (with_reducible refine HS.out.mono ?_); rintro e w7 ⟨b, rfl, hbb, hb7⟩; have HB7 : Hid (Below w.heap.size w w7 ∧ (b = true ↔ x = z)) := Lib.hid ⟨HB6.out.trans (hb7.mono HB6.out.size), hbb⟩; clear hb7 hbb))
    have HFR := Lib.hid (HR.out w7 t b HB7.out.1 H3.out.1 HB7.out.2)
    cases b with
    | true =>
      go_wp2
      go_ret2
      exact HFR.out
    | false =>
      go_wp2
      go_ret2
      exact HFR.out
end Go.Proofs.YtbbedhecfipdjaaGreatDoor
