import Derived.Test.YtbbedhecfipdjaaGreatDoorPkAttrOrderA26
import Derived.Test.YtbbedhecfipdjaaGreatDoorPkAttrOrderA12
import Derived.Test.YtbbedhecfipdjaaGreatDoorPkAttrOrderA13
namespace Go.Proofs.YtbbedhecfipdjaaGreatDoor
open Go.RowKit
set_option linter.unusedVariables false
set_option linter.unusedSimpArgs false
set_option maxHeartbeats 3200000 in
set_option maxRecDepth 100000 in
theorem l7read_any (p : PartS) (vp : Value) (w : World) (h : AttrsV w w.heap.size vp p.attrs) (hz : SizR p) (hl : p.attrs.length * 32 ≤ 140737488351232) (hE : EnvR w) (h7 : 7 ≤ w.heap.size) :
 Calls Tryz.prog 26 #[.agg #[.string p.line, .string p.conn, vp]] w fun e w' => e = .returned (.bool true) ∧ Below w.heap.size w w' := by
 obtain ⟨A, c, rfl, -⟩ := h.form
 obtain ⟨n, hn⟩ : ∃ n, p.attrs.length = n := ⟨_, rfl⟩
 have HRR : Hid (∀ W, Below w.heap.size w W → Calls Tryz.prog 21 #[.agg #[.string p.line, .string p.conn, .slice A n c]] W (RReadO p W)) := Lib.hid fun W hW => by
  have := rRead_any p _ W ((h.below hW).more hW.size) hz
  rw [hn] at this
  exact this
 have HTH : Hid (∀ W, Below w.heap.size w W → Calls Tryz.prog 23 #[.agg #[.string p.line, .string p.conn, .slice A n c]] W fun e w' => ∃ v, e = .returned (.agg #[.string p.line, .string p.conn, v]) ∧ Own w' W.heap.size 53 2 v (p.attrs.map acell) ∧ Below W.heap.size W w') := Lib.hid fun W hW => by
  have := theirs7_any p _ W ((h.below hW).more hW.size) hl
  rw [hn] at this
  exact this
 have HRD : Hid (∀ (W : World) (v : Value), Below w.heap.size w W → AttrsV W W.heap.size v p.attrs → Calls Tryz.prog 22 #[.agg #[.string p.line, .string p.conn, v]] W (ReadO p W)) := Lib.hid fun W v hW hv => read_any p v W hv hz (hE.under hW) (Nat.le_trans h7 hW.size)
 rw [hn]
 obtain ⟨ln, hln⟩ : ∃ x, p.line = x := ⟨_, rfl⟩
 obtain ⟨cn, hcn⟩ : ∃ x, p.conn = x := ⟨_, rfl⟩
 rw [hln, hcn] at HRR HTH HRD
 rw [hln, hcn]
 have HB0 : Hid (Below w.heap.size w (w.alloc (.cells #[.string ln, .string cn, .slice A n c] 32)) ∧ Whole (w.alloc (.cells #[.string ln, .string cn, .slice A n c] 32)) w.heap.size 32 #[.string ln, .string cn, .slice A n c]) := Lib.hid ⟨(Below.refl _ w).alloc (Nat.le_refl _) _, Whole.new _ _ _⟩
 obtain ⟨N, hN⟩ : ∃ N, w.heap.size = N := ⟨_, rfl⟩
 have HN := Lib.hid hN
 rw [hN] at HB0
 clear h hz hl hE h7 hN hln hcn hn
 go_enter Tryz.func26, Tryz.ntmps26
 go_upto_region 1 with fail
 simp only [HN.out]
 generalize w.alloc (.cells #[.string ln, .string cn, .slice A n c] 32) = W0 at *
 have H1 : Hid (Below w.heap.size w W0 ∧ Whole W0 N 32 #[.string ln, .string cn, .slice A n c]) := Lib.hid ⟨by rw [HN.out]; exact HB0.out.1, HB0.out.2⟩
 generalize W0 = w1 at *
 clear HB0
 have a0 : w1.cell? ⟨N, 0, none⟩ = some (.string ln) := H1.out.2.cell 0
 have a1 : w1.cell? ⟨N, 1, none⟩ = some (.string cn) := H1.out.2.cell 1
 have a2 : w1.cell? ⟨N, 2, none⟩ = some (.slice A n c) := H1.out.2.cell 2
 go_upto_region 2 with (go_at_call 21; (with_reducible refine (HRR.out _ H1.out.1).mono ?_); rintro e w2 hw2; obtain ⟨m, AC, lC, kC, AE, lE, kE, AR, lR, kR, AS, lS, kS, AY, lY, kY, er, rfl, hb2, hi2, hm2⟩ := hw2.norm; clear hw2; unfold mcell; have H2 := Lib.hid (And.intro hb2 (And.intro hi2 hm2)); clear hb2 hi2 hm2; dsimp only)
 clear a0 a1 a2
 have hb3 : Below w2.heap.size w2 (w2.alloc (.cells #[.int .i64 m.kind, .int .i64 m.port, .string m.mid, .int .i64 m.dir, .slice AC lC kC, .slice AE lE kE, .slice AR lR kR, .bool m.sending, .slice AS lS kS, .slice AY lY kY, .int .i64 m.sctp] 28)) := (Below.refl _ w2).alloc (Nat.le_refl _) _
 have H3 : Hid (Below w.heap.size w (w2.alloc (.cells #[.int .i64 m.kind, .int .i64 m.port, .string m.mid, .int .i64 m.dir, .slice AC lC kC, .slice AE lE kE, .slice AR lR kR, .bool m.sending, .slice AS lS kS, .slice AY lY kY, .int .i64 m.sctp] 28)) ∧ Whole (w2.alloc (.cells #[.int .i64 m.kind, .int .i64 m.port, .string m.mid, .int .i64 m.dir, .slice AC lC kC, .slice AE lE kE, .slice AR lR kR, .bool m.sending, .slice AS lS kS, .slice AY lY kY, .int .i64 m.sctp] 28)) N 32 #[.string ln, .string cn, .slice A n c] ∧ Whole (w2.alloc (.cells #[.int .i64 m.kind, .int .i64 m.port, .string m.mid, .int .i64 m.dir, .slice AC lC kC, .slice AE lE kE, .slice AR lR kR, .bool m.sending, .slice AS lS kS, .slice AY lY kY, .int .i64 m.sctp] 28)) w2.heap.size 28 #[.int .i64 m.kind, .int .i64 m.port, .string m.mid, .int .i64 m.dir, .slice AC lC kC, .slice AE lE kE, .slice AR lR kR, .bool m.sending, .slice AS lS kS, .slice AY lY kY, .int .i64 m.sctp] ∧ MediaV (w2.alloc (.cells #[.int .i64 m.kind, .int .i64 m.port, .string m.mid, .int .i64 m.dir, .slice AC lC kC, .slice AE lE kE, .slice AR lR kR, .bool m.sending, .slice AS lS kS, .slice AY lY kY, .int .i64 m.sctp] 28)) w2.heap.size (mcell m (.slice AC lC kC) (.slice AE lE kE) (.slice AR lR kR) (.slice AS lS kS) (.slice AY lY kY)) m (.slice AC lC kC) (.slice AE lE kE) (.slice AR lR kR) (.slice AS lS kS) (.slice AY lY kY)) := Lib.hid (by
  have hb := below_chain (Nat.le_refl _) H2.out.1 hb3
  exact ⟨H1.out.1.trans (hb.mono H1.out.1.size), H1.out.2.under hb, Whole.new _ _ _, H2.out.2.2.below hb3⟩)
 have HIS := Lib.hid H2.out.2.1
 clear hb3 H2
 generalize w2.alloc (.cells #[.int .i64 m.kind, .int .i64 m.port, .string m.mid, .int .i64 m.dir, .slice AC lC kC, .slice AE lE kE, .slice AR lR kR, .bool m.sending, .slice AS lS kS, .slice AY lY kY, .int .i64 m.sctp] 28) = w3 at *
 have HG3 : Hid (w2.heap.size ≤ w3.heap.size) := Lib.hid (Nat.le_of_lt H3.out.2.2.1.lt)
 generalize w2.heap.size = g3 at *
 have a0 : w3.cell? ⟨N, 0, none⟩ = some (.string ln) := H3.out.2.1.cell 0
 have a1 : w3.cell? ⟨N, 1, none⟩ = some (.string cn) := H3.out.2.1.cell 1
 have a2 : w3.cell? ⟨N, 2, none⟩ = some (.slice A n c) := H3.out.2.1.cell 2
 go_upto_region 3 with (first
  | (go_at_call 23; (with_reducible refine (HTH.out _ H3.out.1).mono ?_); rintro e w4 ⟨v4, rfl, ho4, hb4⟩; have H4 : Hid (Below w3.heap.size w3 w4 ∧ Below w.heap.size w w4 ∧ Calls Tryz.prog 22 #[.agg #[.string ln, .string cn, v4]] w4 (ReadO p w4)) := Lib.hid (by have hb := H3.out.1.trans (hb4.mono H3.out.1.size); exact ⟨hb4, hb, HRD.out w4 v4 hb (ho4.reads (Nat.le_refl _))⟩); obtain ⟨A4, l4, k4, hv4⟩ : ∃ A l k, v4 = .slice A l k := (by obtain ⟨A, k, h, -⟩ := ho4.form; exact ⟨_, _, _, h⟩); subst hv4; clear hb4 ho4; dsimp only)
  | (go_at_call 22; (with_reducible refine H4.out.2.2.mono ?_); rintro e w5 hw5; obtain ⟨m', xAC, xlC, xkC, xAE, xlE, xkE, xAR, xlR, xkR, xAS, xlS, xkS, xAY, xlY, xkY, er', rfl, hb5, hi5, hm5⟩ := hw5.norm; clear hw5; obtain ⟨rfl, rfl⟩ := HIS.out.uniq hi5; unfold mcell; have H5 : Hid (Below w3.heap.size w3 w5 ∧ MediaV w5 w5.heap.size (mcell m (.slice xAC xlC xkC) (.slice xAE xlE xkE) (.slice xAR xlR xkR) (.slice xAS xlS xkS) (.slice xAY xlY xkY)) m (.slice xAC xlC xkC) (.slice xAE xlE xkE) (.slice xAR xlR xkR) (.slice xAS xlS xkS) (.slice xAY xlY xkY)) := Lib.hid ⟨below_chain (Nat.le_refl _) H4.out.1 hb5, hm5⟩; clear hb5 hi5 hm5; dsimp only))
 clear a0 a1 a2
 have hb6 : Below w5.heap.size w5 (w5.alloc (.cells #[.int .i64 m.kind, .int .i64 m.port, .string m.mid, .int .i64 m.dir, .slice xAC xlC xkC, .slice xAE xlE xkE, .slice xAR xlR xkR, .bool m.sending, .slice xAS xlS xkS, .slice xAY xlY xkY, .int .i64 m.sctp] 28)) := (Below.refl _ w5).alloc (Nat.le_refl _) _
 have H6 : Hid (Below w3.heap.size w3 (w5.alloc (.cells #[.int .i64 m.kind, .int .i64 m.port, .string m.mid, .int .i64 m.dir, .slice xAC xlC xkC, .slice xAE xlE xkE, .slice xAR xlR xkR, .bool m.sending, .slice xAS xlS xkS, .slice xAY xlY xkY, .int .i64 m.sctp] 28)) ∧ Whole (w5.alloc (.cells #[.int .i64 m.kind, .int .i64 m.port, .string m.mid, .int .i64 m.dir, .slice xAC xlC xkC, .slice xAE xlE xkE, .slice xAR xlR xkR, .bool m.sending, .slice xAS xlS xkS, .slice xAY xlY xkY, .int .i64 m.sctp] 28)) w5.heap.size 28 #[.int .i64 m.kind, .int .i64 m.port, .string m.mid, .int .i64 m.dir, .slice xAC xlC xkC, .slice xAE xlE xkE, .slice xAR xlR xkR, .bool m.sending, .slice xAS xlS xkS, .slice xAY xlY xkY, .int .i64 m.sctp] ∧ MediaV (w5.alloc (.cells #[.int .i64 m.kind, .int .i64 m.port, .string m.mid, .int .i64 m.dir, .slice xAC xlC xkC, .slice xAE xlE xkE, .slice xAR xlR xkR, .bool m.sending, .slice xAS xlS xkS, .slice xAY xlY xkY, .int .i64 m.sctp] 28)) w5.heap.size (mcell m (.slice xAC xlC xkC) (.slice xAE xlE xkE) (.slice xAR xlR xkR) (.slice xAS xlS xkS) (.slice xAY xlY xkY)) m (.slice xAC xlC xkC) (.slice xAE xlE xkE) (.slice xAR xlR xkR) (.slice xAS xlS xkS) (.slice xAY xlY xkY)) := Lib.hid ⟨below_chain (Nat.le_refl _) H5.out.1 hb6, Whole.new _ _ _, H5.out.2.below hb6⟩
 clear hb6 H5 H4
 generalize w5.alloc (.cells #[.int .i64 m.kind, .int .i64 m.port, .string m.mid, .int .i64 m.dir, .slice xAC xlC xkC, .slice xAE xlE xkE, .slice xAR xlR xkR, .bool m.sending, .slice xAS xlS xkS, .slice xAY xlY xkY, .int .i64 m.sctp] 28) = w6 at *
 have HG6 : Hid (w5.heap.size ≤ w6.heap.size) := Lib.hid (Nat.le_of_lt H6.out.2.1.lt)
 generalize w5.heap.size = g6 at *
 have HSA : Hid (Calls Tryz.prog 24 #[.agg #[.int .i64 m.kind, .int .i64 m.port, .string m.mid, .int .i64 m.dir, .slice xAC xlC xkC, .slice xAE xlE xkE, .slice xAR xlR xkR, .bool m.sending, .slice xAS xlS xkS, .slice xAY xlY xkY, .int .i64 m.sctp], .agg #[.int .i64 m.kind, .int .i64 m.port, .string m.mid, .int .i64 m.dir, .slice AC lC kC, .slice AE lE kE, .slice AR lR kR, .bool m.sending, .slice AS lS kS, .slice AY lY kY, .int .i64 m.sctp]] w6 fun e w' => e = .returned (.bool true) ∧ Below w6.heap.size w6 w') := Lib.hid (by
  have := same_yes m (.slice xAC xlC xkC) (.slice xAE xlE xkE) (.slice xAR xlR xkR) (.slice xAS xlS xkS) (.slice xAY xlY xkY) (.slice AC lC kC) (.slice AE lE kE) (.slice AR lR kR) (.slice AS lS kS) (.slice AY lY kY) w6 (H6.out.2.2.more HG6.out) ((H3.out.2.2.2.more HG3.out).under H6.out.1)
  unfold mcell at this
  exact this)
 have H7 : Hid (Below w.heap.size w w6 ∧ Whole w6 g3 28 #[.int .i64 m.kind, .int .i64 m.port, .string m.mid, .int .i64 m.dir, .slice AC lC kC, .slice AE lE kE, .slice AR lR kR, .bool m.sending, .slice AS lS kS, .slice AY lY kY, .int .i64 m.sctp]) := Lib.hid ⟨H3.out.1.trans (H6.out.1.mono H3.out.1.size), H3.out.2.2.1.under H6.out.1⟩
 have b0 : w6.cell? ⟨g3, 0, none⟩ = some (.int .i64 m.kind) := H7.out.2.cell 0
 have b1 : w6.cell? ⟨g3, 1, none⟩ = some (.int .i64 m.port) := H7.out.2.cell 1
 have b2 : w6.cell? ⟨g3, 2, none⟩ = some (.string m.mid) := H7.out.2.cell 2
 have b3 : w6.cell? ⟨g3, 3, none⟩ = some (.int .i64 m.dir) := H7.out.2.cell 3
 have b4 : w6.cell? ⟨g3, 4, none⟩ = some (.slice AC lC kC) := H7.out.2.cell 4
 have b5 : w6.cell? ⟨g3, 5, none⟩ = some (.slice AE lE kE) := H7.out.2.cell 5
 have b6 : w6.cell? ⟨g3, 6, none⟩ = some (.slice AR lR kR) := H7.out.2.cell 6
 have b7 : w6.cell? ⟨g3, 7, none⟩ = some (.bool m.sending) := H7.out.2.cell 7
 have b8 : w6.cell? ⟨g3, 8, none⟩ = some (.slice AS lS kS) := H7.out.2.cell 8
 have b9 : w6.cell? ⟨g3, 9, none⟩ = some (.slice AY lY kY) := H7.out.2.cell 9
 have b10 : w6.cell? ⟨g3, 10, none⟩ = some (.int .i64 m.sctp) := H7.out.2.cell 10
 have z0 : w6.cell? ⟨g6, 0, none⟩ = some (.int .i64 m.kind) := H6.out.2.1.cell 0
 have z1 : w6.cell? ⟨g6, 1, none⟩ = some (.int .i64 m.port) := H6.out.2.1.cell 1
 have z2 : w6.cell? ⟨g6, 2, none⟩ = some (.string m.mid) := H6.out.2.1.cell 2
 have z3 : w6.cell? ⟨g6, 3, none⟩ = some (.int .i64 m.dir) := H6.out.2.1.cell 3
 have z4 : w6.cell? ⟨g6, 4, none⟩ = some (.slice xAC xlC xkC) := H6.out.2.1.cell 4
 have z5 : w6.cell? ⟨g6, 5, none⟩ = some (.slice xAE xlE xkE) := H6.out.2.1.cell 5
 have z6 : w6.cell? ⟨g6, 6, none⟩ = some (.slice xAR xlR xkR) := H6.out.2.1.cell 6
 have z7 : w6.cell? ⟨g6, 7, none⟩ = some (.bool m.sending) := H6.out.2.1.cell 7
 have z8 : w6.cell? ⟨g6, 8, none⟩ = some (.slice xAS xlS xkS) := H6.out.2.1.cell 8
 have z9 : w6.cell? ⟨g6, 9, none⟩ = some (.slice xAY xlY xkY) := H6.out.2.1.cell 9
 have z10 : w6.cell? ⟨g6, 10, none⟩ = some (.int .i64 m.sctp) := H6.out.2.1.cell 10
 have hee : (er == er) = true := by simp
 rcases HIS.out with ⟨rfl, -, -⟩ | ⟨rfl, -, -⟩
 all_goals
  go_wp2_with (go_at_call 24; (with_reducible refine HSA.out.mono ?_); rintro e w7 ⟨rfl, hb7⟩; have H8 : Hid (Below w.heap.size w w7) := Lib.hid (H7.out.1.trans (hb7.mono H7.out.1.size)); clear hb7; dsimp only)
  go_ret
  exact ⟨rfl, H8.out⟩
theorem encK_le : ∀ (n : Nat) (l : Tx), l.length ≤ n → (encK l).length ≤ 2 * n
 | n, [], _ => by simp [encK]
 | n, [_], _ => by simp [encK]
 | n, [_, _], _ => by simp [encK]
 | n, a :: b :: c :: r, h => by
   have h2 : r.length ≤ n - 3 := by simp at h; omega
   have := encK_le (n - 3) r h2
   have h3 : 3 ≤ n := by simp at h; omega
   show ((enc3 a b c) ++ encK r).length ≤ _
   rw [List.length_append]
   show 4 + (encK r).length ≤ _
   omega
theorem decI_le19 {n : Int} (h : n ≤ 9223372036854775807) : (decI n).length ≤ 19 := by
 have := decI_len h
 rwa [bs_size] at this
theorem dec_le19 {n : Nat} (h : n < 4294967296) : (dec n).length ≤ 19 := by
 have := decI_le19 (n := (n : Int)) (by omega)
 unfold decI at this
 simpa using this
theorem wayW_len (b : Bool) : (wayW b).length = 4 := by cases b <;> rfl
theorem semi_le : ∀ (L : List ByteArray), (∀ r ∈ L, r.size ≤ 8) → (semi L).length ≤ 9 * L.length
 | [], _ => by simp [semi]
 | [a], h => by
   have := h a (by simp)
   show (tx a).length ≤ 9
   rw [tx_length]; omega
 | a :: b :: r, h => by
   have h1 := h a (by simp)
   have h2 := semi_le (b :: r) (fun x hx => h x (by simp [hx]))
   show (tx a ++ 59 :: semi (b :: r)).length ≤ _
   rw [List.length_append, List.length_cons, tx_length]
   simp only [List.length_cons] at h2 ⊢
   omega
theorem typesT_le : ∀ (L : List CodecS), (∀ c ∈ L, c.type ≤ 127) → (typesT L).length ≤ 20 * L.length
 | [], _ => by simp [typesT]
 | c :: L, h => by
   have h1 := decI_le19 (n := c.type) (by have := h c (by simp); omega)
   have h2 := typesT_le L (fun x hx => h x (by simp [hx]))
   unfold typesT at h2 ⊢
   rw [List.flatMap_cons, List.length_append]
   simp only [List.length_cons] at *
   omega
theorem sizR_part {m : MediaS} (h : mayM m = true) (ht : TypedM m) : SizR (partM m) := by
 have hm : goodM m = true ∧ (attrsM m).length ≤ 64 := by
  unfold mayM at h
  rw [Bool.and_eq_true, decide_eq_true_eq] at h
  exact h
 obtain ⟨hp, hw, hd, hk, hg⟩ := goodM_parts hm.1
 refine ⟨?_, ?_, by show (attrsM m).length ≤ _; omega⟩
 · show (bs (lineM m)).size ≤ _
   rw [bs_size]
   unfold lineM
   have h1 := kindW_len m.kind
   rw [bs_size] at h1
   have h2 := decI_le19 (n := m.port) (by omega)
   have h3 := typesT_le m.codecs (fun c hc => (goodC_parts (hg.codecs c hc)).1.2)
   have h4 := hg.counts.1
   simp only [List.length_append, List.length_cons]
   split
   · show _ + (_ + 1 + (27 + 1)) ≤ _ <;> simp <;> omega
   · simp only [List.length_append]
     show _ ≤ _
     have : wStreams.length = 9 := rfl
     omega
 · intro a ha
   have ha : a ∈ attrsM m := ha
   unfold attrsM attrsR at ha
   simp only [List.mem_cons, List.mem_append] at ha
   rcases ha with rfl | rfl | ha | ha | (ha | ha) | ha | ha | ha
   · have := (wordP_len hw).2
     rw [tx_length] at this
     show m.mid.size ≤ _
     omega
   · show (bs []).size ≤ _
     rw [bs_size]; simp
   · obtain ⟨c, hc, ha⟩ := List.mem_flatMap.1 ha
     obtain ⟨⟨t0, t1⟩, hn, ⟨k0, k1⟩, hch, hf, hfl, hfe⟩ := goodC_parts (hg.codecs c hc)
     have d1 := decI_le19 (n := c.type) (by omega)
     have d2 := decI_le19 (n := c.clock) (by omega)
     have d3 := (wordP_len hn).2
     unfold attrsC formatA at ha
     rw [List.mem_cons, List.mem_append] at ha
     rcases ha with rfl | ha | ha
     · show (bs (codecT c)).size ≤ _
       rw [bs_size]
       unfold codecT
       have : (if c.chans = 2 then ([47, 50] : Tx) else []).length ≤ 2 := by split <;> simp
       simp only [List.length_append, List.length_cons]
       omega
     · split at ha
       · cases ha
       · next he =>
         rw [List.mem_singleton] at ha
         subst ha
         show (bs (headT c.type (tx c.format))).size ≤ _
         rw [bs_size]
         unfold headT
         rcases hf with hf | hf
         · exact absurd hf he
         · have := plain_len hf
           simp only [List.length_append, List.length_cons]
           omega
     · obtain ⟨f, hfm, rfl⟩ := List.mem_map.1 ha
       have := plain_len (hfe f hfm)
       show (bs (headT c.type (tx f))).size ≤ _
       rw [bs_size]
       unfold headT
       simp only [List.length_append, List.length_cons]
       omega
   · obtain ⟨x, hx, rfl⟩ := List.mem_map.1 ha
     have hgx := hg.exts x hx
     unfold goodE at hgx
     simp only [Bool.and_eq_true, decide_eq_true_eq] at hgx
     have d1 := decI_le19 (n := x.id) (by omega)
     have hu : (tx x.uri).length ≤ 100 := by
      have := hgx.2
      unfold uriP at this
      simp only [Bool.and_eq_true, decide_eq_true_eq] at this
      exact this.1.2
     show (bs (headT x.id (tx x.uri))).size ≤ _
     rw [bs_size]
     unfold headT
     simp only [List.length_append, List.length_cons]
     omega
   · obtain ⟨x, hx, rfl⟩ := List.mem_map.1 ha
     have h1 := (wordP_len (hg.rids x hx)).2
     have h2 := wayW_len m.sending
     show (bs (tx x ++ 32 :: wayW m.sending)).size ≤ _
     rw [bs_size, List.length_append, List.length_cons]
     omega
   · split at ha
     · cases ha
     · rw [List.mem_singleton] at ha
       subst ha
       have h2 := wayW_len m.sending
       have h3 := semi_le m.rids (fun r hr => by have := (wordP_len (hg.rids r hr)).2; rw [tx_length] at this; exact this)
       have h4 := hg.counts.2.2.1
       show (bs (wayW m.sending ++ 32 :: semi m.rids)).size ≤ _
       rw [bs_size, List.length_append, List.length_cons]
       omega
   · obtain ⟨x, hx, rfl⟩ := List.mem_map.1 ha
     have := dec_le19 (ht.1 x hx)
     show (bs (dec x)).size ≤ _
     rw [bs_size]
     omega
   · obtain ⟨x, hx, rfl⟩ := List.mem_map.1 ha
     have hgx := hg.crypto x hx
     unfold goodY at hgx
     simp only [Bool.and_eq_true, decide_eq_true_eq] at hgx
     have d1 := decI_le19 (n := x.tag) (by omega)
     have d2 := encK_le 30 x.key (by rw [ht.2 x hx]; exact Nat.le_refl _)
     show (bs (cryptoT x)).size ≤ _
     rw [bs_size]
     unfold cryptoT
     simp only [List.length_append]
     have : wInline.length = 32 := rfl
     omega
   · split at ha
     · rw [List.mem_singleton] at ha
       subst ha
       have := decI_le19 (n := m.sctp) (by have := hg.port; omega)
       show (bs (decI m.sctp)).size ≤ _
       rw [bs_size]
       omega
     · cases ha
theorem ReadO.is {p : PartS} {w w' : World} {e : Ending} {m : MediaS} (h : ReadO p w e w') (hi : IsM p m) (ht : TypedM m) : ∃ vC vE vR vS vY bm cs, e = .returned (.tuple #[.agg (mcell m vC vE vR vS vY), .int .i64 0]) ∧ Below w.heap.size w w' ∧ MW w.heap.size bm 64 w' m cs vC vE vR vS vY := by
 obtain ⟨m', vC, vE, vR, vS, vY, er, rfl, hb, h⟩ := h
 rcases h with ⟨rfl, h1, bm, cs, hM⟩ | ⟨rfl, -, h2⟩
 · have e1 := IsM.read rP_law hi ht
   have e2 := IsM.read rP_law h1 hM.siz.typed
   obtain rfl : m' = m := by rw [← e1, ← e2]
   exact ⟨vC, vE, vR, vS, vY, bm, cs, rfl, hb, hM⟩
 · exact absurd hi (h2 m ht)
theorem wpList_appendLR {ops : Array Oper} {rest : List Oper} {o : Oper} {a : Act} {w : World} {Q : Exit → Act → World → Prop} {base : Nat} {v : Value} {K L : List AttrS} {ad : Addr} {n c : Nat} (hgd : o.guard = none) (s y : Operand) (ho : o.op = .call { callee := .builtin .append, args := #[s, y], argTypes := #[30, 30] })
 (hs : a.eval s = v) (hown : Own w base 55 2 v (K.map acell)) (hy : a.eval y = .slice (some ad) n c) (hn : L.length = n) (hL : ∀ i x, L[i]? = some x → w.cell? (ad.add (i * 2)) = some (.string x.name) ∧ w.cell? (ad.add (i * 2 + 1)) = some (.string x.value)) (hk : K.length + L.length ≤ 1000000) (hbase : base ≤ w.heap.size)
 (h : ∀ v' w', Own w' base 55 2 v' ((K ++ L).map acell) → w.grownBy w' v.ownBlock → (v'.ownBlock = v.ownBlock ∨ v'.ownBlock = some w.heap.size) → wpList Tryz.prog ops Q rest (a.put o.dst v') w') : wpList Tryz.prog ops Q (o :: rest) a w := by
 obtain ⟨i0, hi0, hz0, hz1, hz2⟩ := info_parts Tryz.infoRSAttr
 have hfl : ((L.map acell).flatten).length = n * 2 := by
  rw [flatten_len (sz := 2) (fun r hr => by obtain ⟨x, _, rfl⟩ := List.mem_map.1 hr; rfl), List.length_map, hn]
 obtain ⟨v', w', hrun, h2, h3, _, h5⟩ := run_append_own_at (P := Tryz.prog) w base 30 o.type 55 i0 _ 2 32 Tryz.underlying30 hi0 hz0 hz1 hz2 rfl (by omega) v (K.map acell).length (K.map acell).flatten hown.1 ad n c (L.map acell).flatten hfl
  (fun j u hj => by
    have hjl : j < n * 2 := by rw [← hfl]; exact (List.getElem?_eq_some_iff.1 hj).1
    have hi : j / 2 < L.length := by omega
    have hx := List.getElem?_eq_getElem hi
    have hm : (L.map acell)[j / 2]? = some (acell L[j / 2]) := by rw [List.getElem?_map, hx]; rfl
    have hf := flatten_at (sz := 2) (rs := L.map acell) (fun r hr => by obtain ⟨x, _, rfl⟩ := List.mem_map.1 hr; rfl) hm (Nat.mod_lt j (by omega : 0 < 2))
    rw [show j / 2 * 2 + j % 2 = j by omega] at hf
    rw [hf] at hj
    obtain ⟨c0, c1⟩ := hL (j / 2) _ hx
    have e2 : j = j / 2 * 2 + j % 2 := by omega
    rcases (show j % 2 = 0 ∨ j % 2 = 1 by omega) with h0 | h0
    · rw [h0] at hj
      obtain rfl := Option.some.inj hj
      rw [h0, Nat.add_zero] at e2
      rw [congrArg ad.add e2]
      exact c0
    · rw [h0] at hj
      obtain rfl := Option.some.inj hj
      rw [h0] at e2
      rw [congrArg ad.add e2]
      exact c1)
  (fun u hu => by
    obtain ⟨r, hr, hur⟩ := List.mem_flatten.1 hu
    obtain ⟨x, _, rfl⟩ := List.mem_map.1 hr
    simp [acell] at hur
    rcases hur with rfl | rfl <;> rfl)
  (by unfold maxLen; rw [List.length_map]; omega) (by rw [List.length_map]; omega) hbase
 refine wpList_plain hgd fun _ hK => ?_
 unfold Oper.wp execOp
 simp only [ho, resolve, invoke, builtin, Sem.run_bind, Sem.run_pure, Result.andThen_ok, List.map_toArray, List.map_cons, List.map_nil, hs, hy, hrun]
 refine hK _ _ (h v' w' ⟨?_, fun r hr => by obtain ⟨x, _, rfl⟩ := List.mem_map.1 hr; rfl⟩ h3 h5)
 rw [List.map_append, List.flatten_append, List.length_append, List.length_map, List.length_map, hn]
 rw [List.length_map] at h2
 exact h2
theorem wp_appendLR {o : Oper} {a : Act} {w : World} {Q : Exit → Act → World → Prop} {KK : Act → World → Prop} {base : Nat} {v : Value} {K L : List AttrS} {ad : Addr} {n c : Nat} (s y : Operand) (ho : o.op = .call { callee := .builtin .append, args := #[s, y], argTypes := #[30, 30] })
 (hs : a.eval s = v) (hown : Own w base 55 2 v (K.map acell)) (hy : a.eval y = .slice (some ad) n c) (hn : L.length = n) (hL : ∀ i x, L[i]? = some x → w.cell? (ad.add (i * 2)) = some (.string x.name) ∧ w.cell? (ad.add (i * 2 + 1)) = some (.string x.value)) (hk : K.length + L.length ≤ 1000000) (hbase : base ≤ w.heap.size)
 (h : ∀ v' w', Own w' base 55 2 v' ((K ++ L).map acell) → w.grownBy w' v.ownBlock → (v'.ownBlock = v.ownBlock ∨ v'.ownBlock = some w.heap.size) → KK (a.put o.dst v') w') : o.wp Tryz.prog a w KK Q := by
 obtain ⟨i0, hi0, hz0, hz1, hz2⟩ := info_parts Tryz.infoRSAttr
 have hfl : ((L.map acell).flatten).length = n * 2 := by
  rw [flatten_len (sz := 2) (fun r hr => by obtain ⟨x, _, rfl⟩ := List.mem_map.1 hr; rfl), List.length_map, hn]
 obtain ⟨v', w', hrun, h2, h3, _, h5⟩ := run_append_own_at (P := Tryz.prog) w base 30 o.type 55 i0 _ 2 32 Tryz.underlying30 hi0 hz0 hz1 hz2 rfl (by omega) v (K.map acell).length (K.map acell).flatten hown.1 ad n c (L.map acell).flatten hfl
  (fun j u hj => by
    have hjl : j < n * 2 := by rw [← hfl]; exact (List.getElem?_eq_some_iff.1 hj).1
    have hi : j / 2 < L.length := by omega
    have hx := List.getElem?_eq_getElem hi
    have hm : (L.map acell)[j / 2]? = some (acell L[j / 2]) := by rw [List.getElem?_map, hx]; rfl
    have hf := flatten_at (sz := 2) (rs := L.map acell) (fun r hr => by obtain ⟨x, _, rfl⟩ := List.mem_map.1 hr; rfl) hm (Nat.mod_lt j (by omega : 0 < 2))
    rw [show j / 2 * 2 + j % 2 = j by omega] at hf
    rw [hf] at hj
    obtain ⟨c0, c1⟩ := hL (j / 2) _ hx
    have e2 : j = j / 2 * 2 + j % 2 := by omega
    rcases (show j % 2 = 0 ∨ j % 2 = 1 by omega) with h0 | h0
    · rw [h0] at hj
      obtain rfl := Option.some.inj hj
      rw [h0, Nat.add_zero] at e2
      rw [congrArg ad.add e2]
      exact c0
    · rw [h0] at hj
      obtain rfl := Option.some.inj hj
      rw [h0] at e2
      rw [congrArg ad.add e2]
      exact c1)
  (fun u hu => by
    obtain ⟨r, hr, hur⟩ := List.mem_flatten.1 hu
    obtain ⟨x, _, rfl⟩ := List.mem_map.1 hr
    simp [acell] at hur
    rcases hur with rfl | rfl <;> rfl)
  (by unfold maxLen; rw [List.length_map]; omega) (by rw [List.length_map]; omega) hbase
 unfold Oper.wp execOp
 simp only [ho, resolve, invoke, builtin, Sem.run_bind, Sem.run_pure, Result.andThen_ok, List.map_toArray, List.map_cons, List.map_nil, hs, hy, hrun]
 refine h v' w' ⟨?_, fun r hr => by obtain ⟨x, _, rfl⟩ := List.mem_map.1 hr; rfl⟩ h3 h5
 rw [List.map_append, List.flatten_append, List.length_append, List.length_map, List.length_map, hn]
 rw [List.length_map] at h2
 exact h2
end Go.Proofs.YtbbedhecfipdjaaGreatDoor
