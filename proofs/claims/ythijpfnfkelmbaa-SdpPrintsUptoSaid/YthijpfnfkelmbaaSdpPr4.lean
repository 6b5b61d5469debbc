/- lines: a description's lines in memory. -/
import Derived.Test.YthijpfnfkelmbaaSdpPr3
namespace Go.Proofs.Ythijpfnfkelmbaa
open Go.RowKit
set_option linter.unusedVariables false
set_option linter.unusedSimpArgs false

theorem val_size {s : ByteArray} (h : valP (tx s) = true) : s.size ≤ 200 := by have := (valP_len h).2; rwa [tx_length] at this
theorem maybe_size {s : ByteArray} (h : maybeP (tx s) = true) : s.size ≤ 200 := by
  unfold maybeP at h
  rw [Bool.or_eq_true, List.isEmpty_iff] at h
  rcases h with h | h
  · rw [← tx_length, h]; simp
  · exact val_size h
theorem okA_at {L : List AttrS} (h : okA L = true) {a : AttrS} (ha : a ∈ L) : okAt a = true := by
  unfold okA at h
  simp only [Bool.and_eq_true, decide_eq_true_eq, List.all_eq_true] at h
  exact h.2 a ha
theorem okAt_sizes {a : AttrS} (h : okAt a = true) : a.name.size ≤ 32 ∧ a.value.size ≤ 200 := by
  unfold okAt at h
  rw [Bool.and_eq_true] at h
  exact ⟨by have := (wordP_len h.1).2; rwa [tx_length] at this, maybe_size h.2⟩
theorem okA_siz {L : List AttrS} (h : okA L = true) : SizA L := fun i a e => by
  have := okAt_sizes (okA_at h (List.mem_of_getElem? e))
  omega
theorem okS_siz {x : SesS} (h : okS x = true) : SizS x := by
  obtain ⟨h1, h2, h3, h4, h5, h6⟩ := okS_parts h
  refine ⟨⟨by have := val_size h1; omega, by have := val_size h2; omega, by have := val_size h3; omega⟩, okA_siz h4, fun i p e => ?_⟩
  obtain ⟨q1, q2, q3⟩ := okP_parts (h6 p (List.mem_of_getElem? e))
  refine ⟨by have := val_size q1; omega, by have := maybe_size q2; omega, okA_siz q3, by have := okA_len q3; omega⟩

theorem own_four {w : World} {g N : Nat} {a b c d : ByteArray} (h : Whole w g 9 #[.string a, .string b, .string c, .string d]) (hg : N ≤ g) : Own w N 9 1 (.slice (some ⟨g, 0, none⟩) 4 4) ([a, b, c, d].map scell) :=
  ⟨⟨rfl, .inr ⟨g, 4, _, rfl, hg, h, Nat.le_refl _, by unfold maxLen; omega, rfl, rfl⟩⟩, fun r hr => by
    simp [scell] at hr
    rcases hr with rfl | rfl | rfl | rfl <;> rfl⟩
set_option maxHeartbeats 3200000 in
set_option maxRecDepth 100000 in
theorem plines_any (X : Array Value) (x : SesS) (a1 p1 : Value) (w : World) (h : SesV w w.heap.size X x a1 p1) (hok : okS x = true) :
    Calls Try.prog 32 #[.agg X] w fun e w' => ∃ (v : Value) (ls : List ByteArray), e = .returned v ∧ Own w' w.heap.size 9 1 v (ls.map scell) ∧ ls.map tx = linesS x ∧ Below w.heap.size w w' := by
  obtain ⟨e1, va1, vp1⟩ := h
  subst e1
  obtain ⟨A, k1, rfl, -⟩ := va1.form
  obtain ⟨P, j1, rfl, hj1, hm1, -⟩ := vp1.form
  obtain ⟨n1, hn1⟩ : ∃ n, x.attrs.length = n := ⟨_, rfl⟩
  obtain ⟨n, hn⟩ : ∃ n, x.parts.length = n := ⟨_, rfl⟩
  rw [hn1] at va1
  rw [hn] at vp1 hj1
  rw [hn1, hn]
  unfold maxLen at hm1
  have hb : Below w.heap.size w (w.alloc (.cells #[.string x.origin, .string x.name, .string x.time, .slice A n1 k1, .slice P n j1] 33)) := (Below.refl _ w).alloc (Nat.le_refl _) _
  have g1 := Whole.new w 33 #[.string x.origin, .string x.name, .string x.time, .slice A n1 k1, .slice P n j1]
  have va := (va1.below hb).more hb.size
  have vp := (vp1.below hb).more hb.size
  have HNN := Lib.hid hn
  have HN1 := Lib.hid hn1
  have HOK := Lib.hid (okS_parts hok)
  have hz := okS_siz hok
  have HZ := Lib.hid hz
  have hn8 : n ≤ 8 := by rw [← hn]; exact HOK.out.2.2.2.2.1
  have hq1 : ¬ (9223372036854775807 < 2 + x.origin.size) := by have := hz.1.1; omega
  have hq2 : ¬ (9223372036854775807 < 2 + x.name.size) := by have := hz.1.2.1; omega
  have hq3 : ¬ (9223372036854775807 < 2 + x.time.size) := by have := hz.1.2.2; omega
  clear hn1 hn va1 vp1 hz hok
  obtain ⟨B, hB⟩ : ∃ B, w.heap.size = B := ⟨_, rfl⟩
  have HBE := Lib.hid hB
  go_enter Try.func32, Try.ntmps32
  go_upto_region 1 with fail
  rw [hB] at g1
  generalize hw0 : w.alloc (.cells #[.string x.origin, .string x.name, .string x.time, .slice A n1 k1, .slice P n j1] 33) = w0 at *
  try rw [hB]
  have HB0 := Lib.hid hb
  clear hw0 hB
  obtain ⟨N, hN⟩ : ∃ N, w0.heap.size = N := ⟨_, rfl⟩
  have HN := Lib.hid hN
  rw [hN] at va vp
  have hBN : B < N := by rw [← hN]; exact g1.lt
  have HBN := Lib.hid hBN
  have c0 := g1.cell 0
  have c1 := g1.cell 1
  have c2 := g1.cell 2
  simp only [List.getElem?_toArray, List.getElem?_cons_zero, List.getElem?_cons_succ] at c0 c1 c2
  have HA1 : Hid (Own (w0.alloc (.cells #[.string ⟨#[118, 61, 48]⟩, .string (⟨#[111, 61]⟩ ++ x.origin), .string (⟨#[115, 61]⟩ ++ x.name), .string (⟨#[116, 61]⟩ ++ x.time)] 9)) N 9 1 (.slice (some ⟨N, 0, none⟩) 4 4) ([⟨#[118, 61, 48]⟩, ⟨#[111, 61]⟩ ++ x.origin, ⟨#[115, 61]⟩ ++ x.name, ⟨#[116, 61]⟩ ++ x.time].map scell) ∧ Below N w0 (w0.alloc (.cells #[.string ⟨#[118, 61, 48]⟩, .string (⟨#[111, 61]⟩ ++ x.origin), .string (⟨#[115, 61]⟩ ++ x.name), .string (⟨#[116, 61]⟩ ++ x.time)] 9)) ∧ (w0.alloc (.cells #[.string ⟨#[118, 61, 48]⟩, .string (⟨#[111, 61]⟩ ++ x.origin), .string (⟨#[115, 61]⟩ ++ x.name), .string (⟨#[116, 61]⟩ ++ x.time)] 9)).cell? ⟨B, 3, none⟩ = some (.slice A n1 k1) ∧ (w0.alloc (.cells #[.string ⟨#[118, 61, 48]⟩, .string (⟨#[111, 61]⟩ ++ x.origin), .string (⟨#[115, 61]⟩ ++ x.name), .string (⟨#[116, 61]⟩ ++ x.time)] 9)).cell? ⟨B, 4, none⟩ = some (.slice P n j1)) := Lib.hid (by
    have hw := Whole.new w0 9 #[.string ⟨#[118, 61, 48]⟩, .string (⟨#[111, 61]⟩ ++ x.origin), .string (⟨#[115, 61]⟩ ++ x.name), .string (⟨#[116, 61]⟩ ++ x.time)]
    rw [hN] at hw
    have hg := g1.alloc (.cells #[.string ⟨#[118, 61, 48]⟩, .string (⟨#[111, 61]⟩ ++ x.origin), .string (⟨#[115, 61]⟩ ++ x.name), .string (⟨#[116, 61]⟩ ++ x.time)] 9)
    exact ⟨own_four hw (Nat.le_refl _), (Below.refl _ _).alloc (by rw [hN]; exact Nat.le_refl _) _, hg.cell 3, hg.cell 4⟩)
  have HV := Lib.hid (And.intro va vp)
  have HG1 := Lib.hid g1
  go_upto_region 2 with fail
  try rw [hN]
  have c3 := HA1.out.2.2.1
  have c4 := HA1.out.2.2.2
  generalize (w0.alloc (.cells #[.string ⟨#[118, 61, 48]⟩, .string (⟨#[111, 61]⟩ ++ x.origin), .string (⟨#[115, 61]⟩ ++ x.name), .string (⟨#[116, 61]⟩ ++ x.time)] 9)) = w1 at *
  clear hN va vp hBN hb g1 c0 c1 c2 hq1 hq2 hq3
  have HC2 : Hid (Calls Try.prog 47 #[.slice (some ⟨N, 0, none⟩) 4 4, .slice A n1 k1] w1 fun e w' => ∃ (v : Value) (l : List ByteArray), e = .returned v ∧ Own w' N 9 1 v (([⟨#[118, 61, 48]⟩, ⟨#[111, 61]⟩ ++ x.origin, ⟨#[115, 61]⟩ ++ x.name, ⟨#[116, 61]⟩ ++ x.time] ++ l).map scell) ∧ l.map tx = linesA x.attrs ∧ Below N w1 w') := Lib.hid
    (addAttrs_any N _ _ _ x.attrs w1 (by have := HA1.out.2.1.size; rw [HN.out] at this; exact this) HA1.out.1 (HV.out.1.below HA1.out.2.1) HZ.out.2.1 (okA_len HOK.out.2.2.2.1) (by simp))
  go_wp2_with (go_at_call 47; (with_reducible refine HC2.out.mono ?_); rintro e w2 ⟨v2, l2, rfl, ho2, hl2, hb2⟩; have c4' := (hb2.cell (p := ⟨B, 4, none⟩) HBN.out).trans c4; have H2 : Hid (Own w2 N 9 1 v2 (([⟨#[118, 61, 48]⟩, ⟨#[111, 61]⟩ ++ x.origin, ⟨#[115, 61]⟩ ++ x.name, ⟨#[116, 61]⟩ ++ x.time] ++ l2).map scell) ∧ l2.map tx = linesA x.attrs ∧ Below N w0 w2) := Lib.hid ⟨ho2, hl2, HA1.out.2.1.trans hb2⟩; clear ho2 hl2 hb2)
  clear c4' c3 c4
  have HHD : Hid (([⟨#[118, 61, 48]⟩, ⟨#[111, 61]⟩ ++ x.origin, ⟨#[115, 61]⟩ ++ x.name, ⟨#[116, 61]⟩ ++ x.time] ++ l2).map tx = headL x.origin x.name x.time ++ linesA x.attrs ∧ ([⟨#[118, 61, 48]⟩, ⟨#[111, 61]⟩ ++ x.origin, ⟨#[115, 61]⟩ ++ x.name, ⟨#[116, 61]⟩ ++ x.time] ++ l2 : List ByteArray).length ≤ 4 + 64) := Lib.hid (by
    constructor
    · rw [List.map_append, H2.out.2.1]
      simp only [List.map_cons, List.map_nil, tx_append]
      rfl
    · have h1 := congrArg List.length H2.out.2.1
      rw [List.length_map] at h1
      simp only [linesA, List.length_map] at h1
      have := okA_len HOK.out.2.2.2.1
      simp
      omega)
  generalize hg0 : ([⟨#[118, 61, 48]⟩, ⟨#[111, 61]⟩ ++ x.origin, ⟨#[115, 61]⟩ ++ x.name, ⟨#[116, 61]⟩ ++ x.time] ++ l2 : List ByteArray) = l3 at *
  clear hg0
  go_loopw [3, 23] (fun s3 s23 wr => ∃ (k : Nat) (lk : List ByteArray), k ≤ n ∧ s23 = .int .i64 k ∧ Own wr N 9 1 s3 (lk.map scell) ∧ lk.map tx = headL x.origin x.name x.time ++ (linesA x.attrs ++ (x.parts.take k).flatMap linesP) ∧ lk.length ≤ 4 + 64 + k * 66 ∧ Below N w0 wr) (fun _ s23 _ => n - (intOf s23).toNat)
  case atStart => exact ⟨0, l3, Nat.zero_le _, rfl, H2.out.1, by rw [HHD.out.1]; simp, HHD.out.2, H2.out.2.2⟩
  case round =>
    obtain ⟨k, lk, hk, rfl, hown, hlt, hlk, hbl⟩ := hrel
    have HS := Lib.hid (And.intro hown (And.intro hlt hbl))
    have HLK := Lib.hid hlk
    clear hown hlt hlk
    by_cases hlt : k < n
    · obtain ⟨ad, c1', va, e1, b1, x0, x1, xa, xr⟩ := HV.out.2.at_ (i := k) (by rw [HNN.out]; exact hlt)
      injection e1 with e1 e1n e1c
      clear e1n e1c
      subst e1
      have gL := getD_of (L := x.parts) (i := k) (by rw [HNN.out]; exact hlt)
      obtain ⟨p, hp⟩ : ∃ p, x.parts.getD k default = p := ⟨_, rfl⟩
      rw [hp] at x0 x1 xr gL
      have x0' := (hbl.cell (p := ad.add (k * 3)) (by rw [add_block]; exact b1)).trans x0
      have x1' := (hbl.cell (p := ⟨(ad.add (k * 3)).block, (ad.add (k * 3)).off + 1, none⟩) (by show (ad.add (k * 3)).block < _; rw [add_block]; exact b1)).trans x1
      have x2' := (hbl.cell (p := ⟨(ad.add (k * 3)).block, (ad.add (k * 3)).off + 2, none⟩) (by show (ad.add (k * 3)).block < _; rw [add_block]; exact b1)).trans xa
      have HG := Lib.hid gL
      have hzp := HZ.out.2.2 k p gL
      have HPL : Hid (p.attrs.length ≤ 64) := Lib.hid (okA_len (okP_parts (HOK.out.2.2.2.2.2 p (List.mem_of_getElem? gL))).2.2)
      have hNr : N ≤ wr.heap.size := by have := hbl.size; rw [HN.out] at this; exact this
      have hal := (hbl.alloc hNr (.cells #[.string ⟨#[]⟩, .string ⟨#[]⟩, .slice none 0 0] 69))
      have hw1 : Whole (wr.alloc (.cells #[.string ⟨#[]⟩, .string ⟨#[]⟩, .slice none 0 0] 69)) wr.heap.size 69 #[.string ⟨#[]⟩, .string ⟨#[]⟩, .slice none 0 0] := Whole.new _ _ _
      have HW1 := Lib.hid hw1
      have hk0 : (0 : Int) ≤ (k : Int) := by omega
      have hk1 : (k : Int) < (n : Int) := by omega
      have e1 : IntKind.i64.wrap ((k : Int) + 1) = (k : Int) + 1 := IntWalk.i64_in _ (by omega)
      obtain ⟨Aq, lq, cq, rfl⟩ : ∃ A l c, va = .slice A l c := by
        obtain ⟨A, c, e, -⟩ := xr.form
        exact ⟨_, _, _, e⟩
      have HO1 := Lib.hid ((HS.out.1.alloc (.cells #[.string ⟨#[]⟩, .string ⟨#[]⟩, .slice none 0 0] 69)).farRow ((HS.out.1.alloc _).apart hw1 (by decide)) #[.string p.line, .string p.conn, .slice Aq lq cq])
      have HB1 := Lib.hid (And.intro hNr hal)
      have HADD : Hid (∀ (W : World) (v : Value) (ss : List ByteArray), Own W N 9 1 v (ss.map scell) → Below N w0 W → ss.length ≤ 1000 → Calls Try.prog 47 #[v, .slice Aq lq cq] W fun e w' => ∃ (u : Value) (l : List ByteArray), e = .returned u ∧ Own w' N 9 1 u ((ss ++ l).map scell) ∧ l.map tx = linesA p.attrs ∧ Below N W w') := Lib.hid fun W v ss ho hW hl =>
        addAttrs_any N v _ ss p.attrs W (by have := hW.size; rw [HN.out] at this; exact this) ho (xr.below hW) hzp.2.2.1 HPL.out hl
      have hq4 : ¬ (9223372036854775807 < 2 + p.line.size) := by have := hzp.1; omega
      have hq5 : ¬ (9223372036854775807 < 2 + p.conn.size) := by have := hzp.2.1; omega
      have HCN : Hid ((tx p.conn).isEmpty = p.conn.toList.isEmpty) := Lib.hid (by rw [toList_tx])
      clear x0 x1 xa gL hp b1 hbl hNr hal xr hw1 hzp
      go_upto_region 6 with ((with_reducible refine wpList_storeS #[.string p.line, .string p.conn, .slice Aq lq cq] ?_ 69 (.tmp 5) (.tmp 26) ?_ ?_ ?_ HW1.out Try.sizeSPart ?_ ?_ ?_ ?_); (with_reducible rfl); (with_reducible rfl); rfl; rfl; rfl; rfl; rfl)
      have hr := HW1.out.row #[.string p.line, .string p.conn, .slice Aq lq cq]
      have hb2 := below_row HB1.out.2 HB1.out.1 #[.string p.line, .string p.conn, .slice Aq lq cq]
      have ho1 := HO1.out
      generalize (wr.alloc (.cells #[.string ⟨#[]⟩, .string ⟨#[]⟩, .slice none 0 0] 69)).setRow wr.heap.size #[.string p.line, .string p.conn, .slice Aq lq cq] = W2 at *
      generalize wr.heap.size = g at *
      have d0 := hr.cell 0
      simp only [List.getElem?_toArray, List.getElem?_cons_zero, List.getElem?_cons_succ] at d0
      have HP2 : Hid (Own W2 N 9 1 u3 (lk.map scell) ∧ Below N w0 W2 ∧ Whole W2 g 69 #[.string p.line, .string p.conn, .slice Aq lq cq]) := Lib.hid ⟨ho1, hb2, hr⟩
      clear hr hb2 HW1 HB1 x0' x1' x2' ho1 HO1
      have HLN0 : Hid (lk.length ≤ 900) := Lib.hid (by have := HLK.out; omega)
      have HA2 : Hid (Own (W2.alloc (.cells #[.string (⟨#[109, 61]⟩ ++ p.line)] 9)) N 9 1 u3 ((lk).map scell) ∧ Whole (W2.alloc (.cells #[.string (⟨#[109, 61]⟩ ++ p.line)] 9)) W2.heap.size 9 #[.string (⟨#[109, 61]⟩ ++ p.line)] ∧ Below N w0 (W2.alloc (.cells #[.string (⟨#[109, 61]⟩ ++ p.line)] 9)) ∧ N ≤ (W2.alloc (.cells #[.string (⟨#[109, 61]⟩ ++ p.line)] 9)).heap.size ∧ Whole (W2.alloc (.cells #[.string (⟨#[109, 61]⟩ ++ p.line)] 9)) g 69 #[.string p.line, .string p.conn, .slice Aq lq cq]) := Lib.hid (by
        have hs := HP2.out.2.1.size
        rw [HN.out] at hs
        exact ⟨HP2.out.1.alloc _, Whole.new _ _ _, HP2.out.2.1.alloc hs _, by rw [World.size_alloc]; omega, HP2.out.2.2.alloc _⟩)
      go_upto_region 7 with (at_builtin; refine wpList_appendE (r := [.string (⟨#[109, 61]⟩ ++ p.line)]) rfl (.tmp 27) (.tmp 31) rfl Try.underlying46 Try.infoStr rfl (Nat.zero_lt_succ _) rfl HA2.out.1 rfl HA2.out.2.1 rfl (fun u hu => by simp at hu; subst hu; rfl) (by rw [List.length_map]; have := HLN0.out; omega) (by rw [List.length_map]; have := HLN0.out; omega) HA2.out.2.2.2.1 ?_; intro v6 w6 ho6 hg6 hn6; have HF6 : Hid (Own w6 N 9 1 v6 ((lk ++ [⟨#[109, 61]⟩ ++ p.line]).map scell) ∧ Below N w0 w6 ∧ Whole w6 g 69 #[.string p.line, .string p.conn, .slice Aq lq cq]) := Lib.hid ⟨by simpa [scell] using ho6, HA2.out.2.2.1.grown hg6 HA2.out.2.2.2.1 (fun j hj => (HA2.out.1.lt hj).1), HA2.out.2.2.2.2.grown hg6 (fun e => (HA2.out.1.apart HA2.out.2.2.2.2 (by decide)) e.symm)⟩; clear ho6 hg6 hn6)
      have d1 := HF6.out.2.2.cell 1
      have d2 := HF6.out.2.2.cell 2
      simp only [List.getElem?_toArray, List.getElem?_cons_zero, List.getElem?_cons_succ] at d1 d2
      have HLN1 : Hid ((lk ++ [⟨#[109, 61]⟩ ++ p.line]).length ≤ 1000) := Lib.hid (by rw [List.length_append]; have := HLN0.out; simp; omega)
      clear HP2 d0
      cases hq : p.conn.toList.isEmpty with
      | true =>
        have hqt : (p.conn.toList.isEmpty = true) = True := by simp [hq]
        go_wp2_with (go_at_call 47; (with_reducible refine (HADD.out _ _ _ HF6.out.1 HF6.out.2.1 HLN1.out).mono ?_); rintro e w9 ⟨v9, l9, rfl, ho9, hl9, hb9⟩; have HF9 : Hid (Own w9 N 9 1 v9 ((lk ++ [⟨#[109, 61]⟩ ++ p.line] ++ l9).map scell) ∧ l9.map tx = linesA p.attrs ∧ Below N w0 w9) := Lib.hid ⟨ho9, hl9, HF6.out.2.1.trans hb9⟩; clear ho9 hl9 hb9)
        have HNX : Hid ((lk ++ [⟨#[109, 61]⟩ ++ p.line] ++ l9).map tx = headL x.origin x.name x.time ++ (linesA x.attrs ++ (x.parts.take (k + 1)).flatMap linesP) ∧ (lk ++ [⟨#[109, 61]⟩ ++ p.line] ++ l9).length ≤ 4 + 64 + (k + 1) * 66) := Lib.hid (by
          constructor
          · rw [List.take_add_one, HG.out, List.flatMap_append]
            simp only [List.map_append, HS.out.2.1, HF9.out.2.1, Option.toList, List.flatMap_cons, List.flatMap_nil, List.append_nil, linesP, connL, HCN.out, hqt, List.map_cons, List.map_nil, tx_append, List.append_assoc, List.cons_append, List.nil_append, if_true, if_false]
            rfl
          · have h1 := congrArg List.length HF9.out.2.1
            rw [List.length_map] at h1
            simp only [linesA, List.length_map] at h1
            simp only [List.length_append, List.length_cons, List.length_nil, h1]
            have := HLK.out
            have := HPL.out
            omega)
        go_roundw
        case rel => exact ⟨k + 1, _, by omega, by go_num, HF9.out.1, HNX.out.1, HNX.out.2, HF9.out.2.2⟩
        case measure => simp [intOf]; omega
      | false =>
        have hqt : (p.conn.toList.isEmpty = true) = False := by rw [hq]; simp
        have HA3 : Hid (Own (w6.alloc (.cells #[.string (⟨#[99, 61]⟩ ++ p.conn)] 9)) N 9 1 v6 ((lk ++ [⟨#[109, 61]⟩ ++ p.line]).map scell) ∧ Whole (w6.alloc (.cells #[.string (⟨#[99, 61]⟩ ++ p.conn)] 9)) w6.heap.size 9 #[.string (⟨#[99, 61]⟩ ++ p.conn)] ∧ Below N w0 (w6.alloc (.cells #[.string (⟨#[99, 61]⟩ ++ p.conn)] 9)) ∧ N ≤ (w6.alloc (.cells #[.string (⟨#[99, 61]⟩ ++ p.conn)] 9)).heap.size ∧ Whole (w6.alloc (.cells #[.string (⟨#[99, 61]⟩ ++ p.conn)] 9)) g 69 #[.string p.line, .string p.conn, .slice Aq lq cq]) := Lib.hid (by
          have hs := HF6.out.2.1.size
          rw [HN.out] at hs
          exact ⟨HF6.out.1.alloc _, Whole.new _ _ _, HF6.out.2.1.alloc hs _, by rw [World.size_alloc]; omega, HF6.out.2.2.alloc _⟩)
        go_upto_region 9 with (at_builtin; refine wpList_appendE (r := [.string (⟨#[99, 61]⟩ ++ p.conn)]) rfl (.tmp 36) (.tmp 40) rfl Try.underlying46 Try.infoStr rfl (Nat.zero_lt_succ _) rfl HA3.out.1 rfl HA3.out.2.1 rfl (fun u hu => by simp at hu; subst hu; rfl) (by rw [List.length_map]; have := HLN1.out; omega) (by rw [List.length_map]; have := HLN1.out; omega) HA3.out.2.2.2.1 ?_; intro v7 w7 ho6 hg6 hn6; have HF7 : Hid (Own w7 N 9 1 v7 ((lk ++ [⟨#[109, 61]⟩ ++ p.line] ++ [⟨#[99, 61]⟩ ++ p.conn]).map scell) ∧ Below N w0 w7 ∧ Whole w7 g 69 #[.string p.line, .string p.conn, .slice Aq lq cq]) := Lib.hid ⟨by simpa [scell] using ho6, HA3.out.2.2.1.grown hg6 HA3.out.2.2.2.1 (fun j hj => (HA3.out.1.lt hj).1), HA3.out.2.2.2.2.grown hg6 (fun e => (HA3.out.1.apart HA3.out.2.2.2.2 (by decide)) e.symm)⟩; clear ho6 hg6 hn6)
        have d3 := HF7.out.2.2.cell 2
        simp only [List.getElem?_toArray, List.getElem?_cons_zero, List.getElem?_cons_succ] at d3
        have HLN2 : Hid ((lk ++ [⟨#[109, 61]⟩ ++ p.line] ++ [⟨#[99, 61]⟩ ++ p.conn]).length ≤ 1000) := Lib.hid (by simp only [List.length_append, List.length_cons, List.length_nil]; have := HLN0.out; omega)
        go_wp2_with (go_at_call 47; (with_reducible refine (HADD.out _ _ _ HF7.out.1 HF7.out.2.1 HLN2.out).mono ?_); rintro e w9 ⟨v9, l9, rfl, ho9, hl9, hb9⟩; have HF9 : Hid (Own w9 N 9 1 v9 ((lk ++ [⟨#[109, 61]⟩ ++ p.line] ++ [⟨#[99, 61]⟩ ++ p.conn] ++ l9).map scell) ∧ l9.map tx = linesA p.attrs ∧ Below N w0 w9) := Lib.hid ⟨ho9, hl9, HF7.out.2.1.trans hb9⟩; clear ho9 hl9 hb9)
        have HNX : Hid ((lk ++ [⟨#[109, 61]⟩ ++ p.line] ++ [⟨#[99, 61]⟩ ++ p.conn] ++ l9).map tx = headL x.origin x.name x.time ++ (linesA x.attrs ++ (x.parts.take (k + 1)).flatMap linesP) ∧ (lk ++ [⟨#[109, 61]⟩ ++ p.line] ++ [⟨#[99, 61]⟩ ++ p.conn] ++ l9).length ≤ 4 + 64 + (k + 1) * 66) := Lib.hid (by
          constructor
          · rw [List.take_add_one, HG.out, List.flatMap_append]
            simp only [List.map_append, HS.out.2.1, HF9.out.2.1, Option.toList, List.flatMap_cons, List.flatMap_nil, List.append_nil, linesP, connL, HCN.out, hqt, List.map_cons, List.map_nil, tx_append, List.append_assoc, List.cons_append, List.nil_append, if_true, if_false]
            rfl
          · have h1 := congrArg List.length HF9.out.2.1
            rw [List.length_map] at h1
            simp only [linesA, List.length_map] at h1
            simp only [List.length_append, List.length_cons, List.length_nil, h1]
            have := HLK.out
            have := HPL.out
            omega)
        go_roundw
        case rel => exact ⟨k + 1, _, by omega, by go_num, HF9.out.1, HNX.out.1, HNX.out.2, HF9.out.2.2⟩
        case measure => simp [intOf]; omega
    · obtain rfl : k = n := by omega
      have HF : Hid (lk.map tx = linesS x) := Lib.hid (by rw [HS.out.2.1, List.take_of_length_le (by rw [HNN.out]; exact Nat.le_refl _)]; rfl)
      have HBW : Hid (w.heap.size ≤ N ∧ Below w.heap.size w wr) := Lib.hid (by
        have h1 : w.heap.size ≤ N := by rw [HBE.out]; have := HBN.out; omega
        exact ⟨h1, HB0.out.trans (HS.out.2.2.mono h1)⟩)
      clear hbl
      go_wp2
      go_ret
      exact ⟨_, lk, rfl, HS.out.1.base_le HBW.out.1, HF.out, HBW.out.2⟩
end Go.Proofs.Ythijpfnfkelmbaa
