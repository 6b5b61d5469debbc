import Derived.Test.YtbbedhecfipdjaaGreatDoorPkDescPrintsA03
import Derived.Test.YtbbedhecfipdjaaGreatDoorPkDescPrintsA04
namespace Go.Proofs.YtbbedhecfipdjaaGreatDoor
open Go.RowKit
set_option linter.unusedVariables false
set_option linter.unusedSimpArgs false
abbrev TR : Ty3 := ⟨107, 32, 55⟩
theorem TR.ok : TR.Ok := by unfold Ty3.Ok; decide
theorem Tryz.infoRSPart : (Tryz.prog.info? 32).map (fun i => (i.zero, i.size, i.bytes)) = some (some (.agg #[.string ⟨#[]⟩, .string ⟨#[]⟩, .slice none 0 0]), 3, 56) := by kernel_rfl
theorem Tryz.sizeRsSes : (Tryz.prog.info? 107).map (·.size) = some 5 := by kernel_rfl
theorem Tryz.rbuilt0 : Tryz.prog.built 107 [] = some #[.string ⟨#[]⟩, .string ⟨#[]⟩, .string ⟨#[]⟩, .slice none 0 0, .slice none 0 0] := by kernel_rfl
structure RK (T : Ty3) (w1 : World) (N1 : Nat) (l : Tx) (ss : List ByteArray) (rem : Tx) (st : PSt) (i : Nat) (q : Addr) (pp cur vA vP : Value) (us : List Value) (wr : World) : Prop where
 pv : PV T N1 N1 st q pp cur vA vP us wr
 below : Below N1 w1 wr
 le : i ≤ ss.length
 runs : ∃ rest, rest.length ≤ 8192 ∧ Cuts rest ((ss.drop i).map tx) rem ∧ ∀ r, Runs st (i + 1) rest r → Runs PSt.init 1 l r
 ok : st.Ok (i + 1)
def RL (T : Ty3) (w1 : World) (N1 : Nat) (l : Tx) (ss : List ByteArray) (rem : Tx) (s8 s9 s28 : Value) (wr : World) : Prop :=
 ∃ (st : PSt) (i : Nat) (q : Addr) (pp cur vA vP : Value) (us : List Value), s8 = .pointer (if i ≤ 3 then none else some q) ∧ s9 = .bool st.bare ∧ s28 = .int .i64 i ∧ RK T w1 N1 l ss rem st i q pp cur vA vP us wr
structure RW (w : World) (N N1 : Nat) (l : Tx) (v : Value) (ss : List ByteArray) (rem : Tx) (b : Bool) (w1 : World) : Prop where
 row : Own w1 N 9 1 v (ss.map scell)
 cuts : Cuts l (ss.map tx) rem
 flag : b = true ↔ rem ≠ []
 res : Whole w1 N 107 zSes
 below : Below N w w1
 size : w1.heap.size = N1
 lt : N < N1
theorem rstep1 {st : PSt} {a : ByteArray} {b : Bool} (hb : (a.toList == [118, 61, 48]) = b) : (b = true → stepP st 1 (tx a) = .go st) ∧ (b = false → stepP st 1 (tx a) = .bad 2) := by
 have h := eqB hb
 constructor
 · intro e
   rw [h.2 e]
   rfl
 · intro e
   unfold stepP
   rw [if_pos rfl, if_neg]
   intro hh
   have : tx a = [118, 61, 48] := by rw [← take2 hh.1 hh.2]; rfl
   rw [h.1 this] at e
   cases e
theorem rstep2 {st : PSt} {a v : ByteArray} {c0 : UInt8} (h2 : (tx a).take 2 = [c0, 61]) (hv : tx v = (tx a).drop 2) : (c0 = 111 → valP (tx v) = true → stepP st 2 (tx a) = .go { st with o := v }) ∧ ((c0 ≠ 111 ∨ valP (tx v) = false) → stepP st 2 (tx a) = .bad 2) := by
 have e : bs ((tx a).drop 2) = v := by rw [← hv, bs_tx]
 unfold stepP
 rw [h2, e, ← hv]
 refine ⟨fun h3 h4 => by simp [h3, h4], fun h => ?_⟩
 rcases h with h | h <;> simp [h]
theorem rstep3 {st : PSt} {a v : ByteArray} {c0 : UInt8} (h2 : (tx a).take 2 = [c0, 61]) (hv : tx v = (tx a).drop 2) : (c0 = 115 → valP (tx v) = true → stepP st 3 (tx a) = .go { st with n := v }) ∧ ((c0 ≠ 115 ∨ valP (tx v) = false) → stepP st 3 (tx a) = .bad 2) := by
 have e : bs ((tx a).drop 2) = v := by rw [← hv, bs_tx]
 unfold stepP
 rw [h2, e, ← hv]
 refine ⟨fun h3 h4 => by simp [h3, h4], fun h => ?_⟩
 rcases h with h | h <;> simp [h]
theorem rstep4 {st : PSt} {a v : ByteArray} {c0 : UInt8} (h2 : (tx a).take 2 = [c0, 61]) (hv : tx v = (tx a).drop 2) : (c0 = 116 → valP (tx v) = true → stepP st 4 (tx a) = .go { st with t := v }) ∧ ((c0 ≠ 116 ∨ valP (tx v) = false) → stepP st 4 (tx a) = .bad 2) := by
 have e : bs ((tx a).drop 2) = v := by rw [← hv, bs_tx]
 unfold stepP
 rw [h2, e, ← hv]
 refine ⟨fun h3 h4 => by simp [h3, h4], fun h => ?_⟩
 rcases h with h | h <;> simp [h]
theorem early_none {st : PSt} {k : Nat} (h : st.Ok k) (hk : k ≤ 4) : st.cur = none := by
 have := (h.early hk).2
 unfold PSt.parts at this
 cases hc : st.cur with
 | none => rfl
 | some p => rw [hc] at this; simp at this
theorem bare_push (st : PSt) (a : AttrS) : (st.push a).bare = false := by
 unfold PSt.push PSt.bare
 cases hc : st.cur <;> simp [hc]
theorem bare_conn {st : PSt} {v : Tx} (h : valP v = true) : (st.conn v).bare = false := by
 have hne : v.isEmpty = false := by
  cases v with
  | nil => exact (valP_ne h rfl).elim
  | cons c r => rfl
 unfold PSt.conn PSt.bare
 cases hc : st.cur <;> simp [hc, hne]
theorem bare_part (st : PSt) (v : Tx) : (st.part v).bare = true := by simp [PSt.part, PSt.bare]
theorem two_eq {a : ByteArray} (h : 2 ≤ a.size) : (tx a).take 2 = [a[0], a[1]] := by
 have hl : 2 ≤ (tx a).length := by rw [tx_length]; exact h
 have e0 : (tx a)[0]? = some a[0] := by rw [List.getElem?_eq_getElem (by omega)]; rfl
 have e1 : (tx a)[1]? = some a[1] := by rw [List.getElem?_eq_getElem (by omega)]; rfl
 rw [List.take_add_one, List.take_add_one, e0, e1]
 rfl
theorem u8_eq {x : UInt8} {n : Nat} (hn : n < 256) (h : x ≠ UInt8.ofNat n) : ((x.toNat : Int) == (n : Int)) = false := by
 rw [beq_eq_false_iff_ne]
 intro e
 apply h
 rw [← UInt8.toNat_inj, UInt8.toNat_ofNat_of_lt' (by simpa using hn)]
 omega
theorem step_noeq {st : PSt} {k : Nat} {l : Tx} (h : ∀ c, l.take 2 ≠ [c, 61]) : stepP st k l = .bad 2 := by
 unfold stepP bodyP
 simp [h]
theorem step_short {st : PSt} {k : Nat} {a : ByteArray} (h : a.size < 2) : stepP st k (tx a) = .bad 2 := step_noeq fun c e => by
 have := congrArg List.length e
 rw [List.length_take, tx_length] at this
 simp at this
 omega
theorem step_odd {st : PSt} {k : Nat} {a : ByteArray} (h : 2 ≤ a.size) (h1 : a[1] ≠ 61) : stepP st k (tx a) = .bad 2 := step_noeq fun c e => by
 rw [two_eq h] at e
 simp at e
 exact h1 e.2
section
variable {T : Ty3} {w w1 W : World} {N N1 : Nat} {l : Tx} {ss : List ByteArray} {rem : Tx} {st : PSt} {i : Nat} {q : Addr} {pp cur vA vP : Value} {us : List Value} {wr : World} {a : ByteArray}
theorem RK.line (h : RK T w1 N1 l ss rem st i q pp cur vA vP us wr) (ha : ss[i]? = some a) : ∃ rest b, rest.length ≤ 8192 ∧ cutS crlf rest = (tx a, b, true) ∧ Cuts b ((ss.drop (i + 1)).map tx) rem ∧ ∀ r, Runs st (i + 1) rest r → Runs PSt.init 1 l r := by
 obtain ⟨rest, h1, h2, h3⟩ := h.runs
 have hi : i < ss.length := (List.getElem?_eq_some_iff.1 ha).1
 have ha' : ss[i] = a := (List.getElem?_eq_some_iff.1 ha).2
 rw [List.drop_eq_getElem_cons hi, ha', List.map_cons] at h2
 cases h2 with
 | cons hc hr => exact ⟨rest, _, h1, hc, hr, h3⟩
theorem RK.size (h : RK T w1 N1 l ss rem st i q pp cur vA vP us wr) (ha : ss[i]? = some a) : a.size ≤ 8192 := by
 obtain ⟨rest, b, h1, h2, _⟩ := h.line ha
 have := (cutS_len crlf rest).1
 rw [h2, tx_length] at this
 omega
theorem RK.bad (h : RK T w1 N1 l ss rem st i q pp cur vA vP us wr) (hl : l.length ≤ 8192) (ha : ss[i]? = some a) {er : Int} (he : er = 2 ∨ er = 3) (hs : stepP st (i + 1) (tx a) = .bad er) (hN : w.heap.size = N) (hb : Below N w W) :
 ParseO w l (.returned (.tuple #[.agg zSes, .int .i64 ((i : Int) + 1), .int .i64 er])) W := by
 subst hN
 obtain ⟨rest, b, h1, h2, h3, h4⟩ := h.line ha
 exact ⟨zSes, SesS.none, _, _, i + 1, er, rfl, zSes_v _ _, .inr ⟨he, rfl, .inr ⟨hl, h4 _ (.bad h2 hs)⟩⟩, hb⟩
theorem RK.next (h : RK T w1 N1 l ss rem st i q pp cur vA vP us wr) (ha : ss[i]? = some a) {st' : PSt} (hs : stepP st (i + 1) (tx a) = .go st') {q' : Addr} {pp' cur' vA' vP' : Value} {us' : List Value} {w5 : World} (hp : PV T N1 N1 st' q' pp' cur' vA' vP' us' w5) (hb : Below N1 w1 w5) :
 RK T w1 N1 l ss rem st' (i + 1) q' pp' cur' vA' vP' us' w5 := by
 obtain ⟨rest, b, h1, h2, h3, h4⟩ := h.line ha
 have hi : i < ss.length := (List.getElem?_eq_some_iff.1 ha).1
 refine ⟨hp, hb, hi, ⟨b, ?_, h3, fun r hr => h4 r (.step h2 hs hr)⟩, (stepP_ok (by omega) h.ok hs).1⟩
 have := (cutS_len crlf rest).2
 rw [h2] at this
 simp only at this
 omega
theorem RK.head (h : RK T w1 N1 l ss rem st i q pp cur vA vP us wr) (hT : T.Ok) (ha : ss[i]? = some a) {o n t : ByteArray} (hs : stepP st (i + 1) (tx a) = .go { st with o := o, n := n, t := t }) {w5 : World} (hw : Whole w5 N1 T.s #[.string o, .string n, .string t, vA, vP]) (ho : Only (· = N1) wr w5) (hN : w1.heap.size = N1) :
 RK T w1 N1 l ss rem { st with o := o, n := n, t := t } (i + 1) q pp cur vA vP us w5 :=
 h.next ha hs (h.pv.head hT hw ho) (h.below.trans (ho.below (fun j e => by omega) (by have := h.below.size; omega)))
end
section
variable {T : Ty3} {w w1 W : World} {N N1 : Nat} {l : Tx} {ss : List ByteArray} {rem : Tx} {st : PSt} {i : Nat} {q : Addr} {pp cur vA vP : Value} {us : List Value} {wr : World}
theorem RK.rest (h : RK T w1 N1 l ss rem st i q pp cur vA vP us wr) (hi : i = ss.length) : (cutS crlf rem).2.2 = false ∧ ∀ r, Runs st (i + 1) rem r → Runs PSt.init 1 l r := by
 obtain ⟨rest, h1, h2, h3⟩ := h.runs
 rw [hi, List.drop_length] at h2
 cases h2 with
 | nil hc => exact ⟨hc, h3⟩
theorem RK.torn (h : RK T w1 N1 l ss rem st i q pp cur vA vP us wr) (hi : i = ss.length) (hl : l.length ≤ 8192) (hr : rem ≠ [] ∨ i < 4) (hN : w.heap.size = N) (hb : Below N w W) :
 ParseO w l (.returned (.tuple #[.agg zSes, .int .i64 ((i : Int) + 1), .int .i64 2])) W := by
 subst hN
 obtain ⟨h1, h2⟩ := h.rest hi
 refine ⟨zSes, SesS.none, _, _, i + 1, 2, rfl, zSes_v _ _, .inr ⟨.inl rfl, rfl, .inr ⟨hl, h2 _ (.torn (fun e => ?_) h1)⟩⟩, hb⟩
 rcases hr with hr | hr
 · exact hr e.2
 · omega
theorem RK.all (h : RK T w1 N1 l ss rem st i q pp cur vA vP us wr) (hT : T.Ok) (hi : i = ss.length) (hl : l.length ≤ 8192) (hr : rem = []) (h4 : 4 ≤ i) {zs : Array Value} (hN : w.heap.size = N) (hres : Whole wr N T.s zs) (hne : N1 ≠ N) (hb : Below N w wr) :
 ParseO w l (.returned (.tuple #[.agg #[.string st.o, .string st.n, .string st.t, vA, vP], .int .i64 0, .int .i64 0])) (wr.setRow N #[.string st.o, .string st.n, .string st.t, vA, vP]) := by
 subst hN
 obtain ⟨h1, h2⟩ := h.rest hi
 have hp := h.pv.res hT hres hne #[.string st.o, .string st.n, .string st.t, vA, vP]
 refine ⟨_, st.ses, vA, vP, 0, 0, rfl, hp.sesV (Nat.le_refl _), .inl ⟨rfl, rfl, .inr ⟨hl, h2 _ ?_⟩⟩, below_row hb (Nat.le_refl _) _⟩
 rw [hr]
 exact .done (by omega)
end
set_option maxHeartbeats 6400000 in
set_option maxRecDepth 100000 in
theorem rparse_any (s : ByteArray) (w : World) (hs : s.size ≤ maxLen) : Calls Tryz.prog 65 #[.string s] w (ParseO w (tx s)) := by
 unfold maxLen at hs
 obtain ⟨N, hN⟩ : ∃ N, w.heap.size = N := ⟨_, rfl⟩
 have a0 := Whole.new w 107 zSes
 have a1 : Below w.heap.size w (w.alloc (.cells zSes 107)) := (Below.refl _ w).alloc (Nat.le_refl _) _
 have a2 : (w.alloc (.cells zSes 107)).heap.size = w.heap.size + 1 := World.size_alloc ..
 rw [hN] at a0 a1 a2
 have HB := Lib.hid (And.intro a0 (And.intro a1 a2))
 clear a0 a1 a2
 obtain ⟨Z, hZ⟩ : ∃ Z, zSes = Z := ⟨_, rfl⟩
 have hz : ∀ W, (zeroValue 107).run Tryz.prog W = .ok (.agg Z) W := fun W => by rw [← hZ]; kernel_rfl
 have HN := Lib.hid hN
 by_cases hbig : 8192 < s.size
 · have hb : (8192 : Int) < (s.size : Int) := by omega
   have HR4 : Hid (Whole (w.alloc (.cells Z 107)) N 107 zSes ∧ ParseO w (tx s) (.returned (.tuple #[.agg zSes, .int .i64 0, .int .i64 3])) ((w.alloc (.cells Z 107)).setRow N zSes)) := Lib.hid (by
    subst hZ hN
    exact ⟨HB.out.1, zSes, SesS.none, _, _, 0, 3, rfl, zSes_v _ _, .inr ⟨.inr rfl, rfl, .inl ⟨by rw [tx_length]; exact hbig, rfl⟩⟩, below_row HB.out.2.1 (Nat.le_refl _) _⟩)
   clear hbig HB hZ
   go_enter Tryz.func65, Tryz.ntmps65
   go_upto_region 1 with fail
   generalize w.alloc (.cells Z 107) = w0 at *
   clear hN hz
   go_wp2_with (first
    | ((with_reducible refine wpList_buildG ?_ 107 #[] ?_ (us := []) ?_ Tryz.rbuilt0 ?_); (with_reducible rfl); (with_reducible rfl); rfl)
    | ((with_reducible refine wpList_storeS #[.string ⟨#[]⟩, .string ⟨#[]⟩, .string ⟨#[]⟩, .slice none 0 0, .slice none 0 0] ?_ 107 (.tmp 2) (.tmp 20) ?_ ?_ ?_ HR4.out.1 Tryz.sizeRsSes ?_ ?_ ?_ ?_); (with_reducible rfl); (with_reducible rfl); rfl; rfl; rfl; rfl; rfl)
    | ((with_reducible show bodyPost _ _ _ _ _ _); exact bodyPost_ret (ret_struct3 rfl rfl (HR4.out.1.row _) Tryz.underlying107 rfl Tryz.sizeRsSes rfl) rfl HR4.out.2))
 · have hb : (s.size : Int) ≤ 8192 := by omega
   have HSZ : Hid (s.size ≤ 8192) := Lib.hid (by omega)
   have HZ := Lib.hid hZ
   have HC := Lib.hid (fun W => lines_any s W (by omega))
   clear hbig
   go_enter Tryz.func65, Tryz.ntmps65
   go_upto_region 1 with fail
   rw [hZ] at HB
   generalize w.alloc (.cells Z 107) = w0 at *
   clear hN hZ
   go_upto_region 4 with (go_at_call 112; (with_reducible refine (HC.out _).mono ?_); rintro e w1 ⟨v, ss, rem, b, rfl, hrow, hcuts, hflag, hb1⟩)
   obtain ⟨N1, hN1⟩ : ∃ N1, w1.heap.size = N1 := ⟨_, rfl⟩
   have HRW : Hid (RW w N N1 (tx s) v ss rem b w1) := Lib.hid (by
    have h := HB.out
    rw [← HZ.out] at h
    exact ⟨hrow.base_le (by rw [h.2.2]; omega), hcuts, hflag, h.1.under hb1, h.2.1.trans (hb1.mono (Nat.le_of_lt h.1.lt)), hN1, by have := hb1.size; rw [h.2.2] at this; omega⟩)
   obtain ⟨Av, lv, cv, hv, hvl, hvc⟩ : ∃ A l c, v = .slice A l c ∧ l = ss.length ∧ l ≤ 8192 := by
    obtain ⟨A, c, h1, h2, _⟩ := hrow.form
    refine ⟨A, _, c, h1, by simp, ?_⟩
    have := hcuts.len
    rw [tx_length] at this
    simp at this ⊢
    have := HSZ.out
    omega
   have HVL := Lib.hid hvl
   subst hv
   have hal := Whole.new w1 107 Z
   have HPV : Hid (RL TR w1 N1 (tx s) ss rem (.pointer none) (.bool false) (.int .i64 0) (w1.alloc (.cells Z 107))) := Lib.hid (by
    rw [hN1] at hal
    rw [← HZ.out] at hal ⊢
    refine ⟨PSt.init, 0, _, _, _, _, _, _, rfl, rfl, rfl, PV.start (Nat.le_refl _) hal, (Below.refl _ _).alloc (by rw [hN1]; exact Nat.le_refl _) _, Nat.zero_le _, ⟨tx s, by rw [tx_length]; exact HSZ.out, by simpa using HRW.out.cuts, fun r h => h⟩, PSt.Ok.start⟩)
   clear hrow hcuts hflag hb1 hal hvl HB HC
   go_upto_region 7 with fail
   generalize w1.alloc (.cells Z 107) = w2 at *
   clear hN1 hz
   go_wp2
   go_loopw [8, 9, 28] (fun s8 s9 s28 wr => RL TR w1 N1 (tx s) ss rem s8 s9 s28 wr) (fun _ _ s28 _ => lv - (intOf s28).toNat)
   case atStart => exact HPV.out
   case round =>
    clear HPV
    obtain ⟨st, i, q, pp, cur, vA, vP, us, rfl, rfl, rfl, hrk⟩ := hrel
    have HK := Lib.hid hrk
    have hil := hrk.le
    rw [← HVL.out] at hil
    clear hrk
    by_cases hlt : i < lv
    · have hlt' : i < ss.length := by rw [← HVL.out]; exact hlt
      obtain ⟨a, ha⟩ : ∃ a, ss[i]? = some a := ⟨_, List.getElem?_eq_getElem hlt'⟩
      have hrow : (ss.map scell)[i]? = some [.string a] := by rw [List.getElem?_map, ha]; rfl
      obtain ⟨gl, cl, hgl, -, -, hgl2, -, -, hgc, -⟩ := HRW.out.row.at_ hrow
      rw [HRW.out.size] at hgl2
      rw [List.length_map, ← HVL.out] at hgl
      injection hgl with hA hB hC
      subst hA hC
      clear hB
      have ca : wr.cell? ⟨gl, i, none⟩ = some (.string a) := by
       have ca := hgc 0 (by omega)
       have : wr.cell? ⟨gl, i * 1 + 0, none⟩ = w1.cell? ⟨gl, i * 1 + 0, none⟩ := HK.out.below.cell (p := ⟨gl, i * 1 + 0, none⟩) hgl2
       rw [Nat.mul_one, Nat.add_zero] at this ca
       rw [this]
       exact ca
      have hci : (i : Int) < (lv : Int) := by omega
      have HBAD : Hid (∀ er : Int, er = 2 ∨ er = 3 → stepP st (i + 1) (tx a) = .bad er → ∀ W, Below N1 w1 W → Whole W N 107 zSes ∧ ParseO w (tx s) (.returned (.tuple #[.agg zSes, .int .i64 ((i : Int) + 1), .int .i64 er])) (W.setRow N zSes)) := Lib.hid fun er he hs W hb2 => by
       have hres : Whole W N 107 zSes := HRW.out.res.below hb2 HRW.out.lt
       have hbw : Below N w W := HRW.out.below.trans (hb2.mono (Nat.le_of_lt HRW.out.lt))
       exact ⟨hres, HK.out.bad (by rw [tx_length]; exact HSZ.out) ha he hs HN.out (below_row hbw (Nat.le_refl _) _)⟩
      have HA := Lib.hid ha
      have hasz := HK.out.size ha
      have HASZ := Lib.hid hasz
      obtain ⟨pq, hpq⟩ : ∃ pq, (if i ≤ 3 then none else some q) = pq := ⟨_, rfl⟩
      have HPQ := Lib.hid hpq
      rw [hpq]
      clear hrow hgl2 hgc ha hlt' hpq
      go_upto_region 13 with fail
      clear ca
      by_cases h2 : a.size < 2
      · have h2' : (a.size : Int) < 2 := by omega
        have HS := Lib.hid (step_short (st := st) (k := i + 1) h2)
        have HR4 : Hid (Whole (wr) N 107 zSes ∧ ParseO w (tx s) (.returned (.tuple #[.agg zSes, .int .i64 ((i : Int) + 1), .int .i64 2])) ((wr).setRow N zSes)) := Lib.hid (HBAD.out 2 (Or.inl rfl) (HS.out) _ (HK.out.below))
        clear HK HS
        go_wp2_with (first
         | ((with_reducible refine wpList_buildG ?_ 107 #[] ?_ (us := []) ?_ Tryz.rbuilt0 ?_); (with_reducible rfl); (with_reducible rfl); rfl)
         | ((with_reducible refine wpList_storeS #[.string ⟨#[]⟩, .string ⟨#[]⟩, .string ⟨#[]⟩, .slice none 0 0, .slice none 0 0] ?_ 107 (.tmp 2) (.tmp 173) ?_ ?_ ?_ HR4.out.1 Tryz.sizeRsSes ?_ ?_ ?_ ?_); (with_reducible rfl); (with_reducible rfl); rfl; rfl; rfl; rfl; rfl)
         | ((with_reducible show bodyPost _ _ _ _ _ _); exact bodyPost_ret (ret_struct3 rfl rfl (HR4.out.1.row _) Tryz.underlying107 rfl Tryz.sizeRsSes rfl) rfl HR4.out.2))
      · have h2n : 2 ≤ a.size := by omega
        have h2' : (2 : Int) ≤ (a.size : Int) := by omega
        by_cases h61 : a[1] = 61
        · have hq : (((a[1]).toNat : Int) == 61) = true := by rw [h61]; rfl
          have HT2 : Hid ((tx a).take 2 = [a[0], 61]) := Lib.hid (by rw [two_eq h2n, h61])
          obtain ⟨v, hv⟩ : ∃ v, a.extract 2 a.size = v := ⟨_, rfl⟩
          have HVD : Hid (tx v = (tx a).drop 2 ∧ v.size ≤ 8192) := Lib.hid (by
           have : tx v = (tx a).drop 2 := by
            rw [← hv, tx_extract, List.take_of_length_le (by rw [List.length_drop, tx_length]; omega)]
           refine ⟨this, ?_⟩
           rw [← tx_length, this, List.length_drop, tx_length]
           omega)
          obtain ⟨c0, hc0⟩ : ∃ c : UInt8, a[0] = c := ⟨_, rfl⟩
          rw [hc0] at HT2
          obtain ⟨bv, hbv⟩ : ∃ b, valP (tx v) = b := ⟨_, rfl⟩
          have HV := Lib.hid (fun W => r6Value_200 v W (by have := HVD.out.2; unfold maxLen; omega))
          rw [hbv] at HV
          have HBV := Lib.hid hbv
          clear h61 hbv
          go_upto_if 45 with fail
          clear hv hq
          by_cases hi0 : i = 0
          · have e0 : ((i : Int) == 0) = true := by rw [beq_iff_eq]; omega
            obtain ⟨b1, hb1⟩ : ∃ b, (a.toList == [118, 61, 48]) = b := ⟨_, rfl⟩
            have HS := Lib.hid (rstep1 (st := st) hb1)
            have HI0 := Lib.hid hi0
            clear hi0
            cases b1 with
            | false =>
              have HR4 : Hid (Whole (wr) N 107 zSes ∧ ParseO w (tx s) (.returned (.tuple #[.agg zSes, .int .i64 ((i : Int) + 1), .int .i64 2])) ((wr).setRow N zSes)) := Lib.hid (HBAD.out 2 (Or.inl rfl) (by rw [HI0.out]; exact HS.out.2 rfl) _ (HK.out.below))
              clear HK HS
              go_wp2_with (first
               | ((with_reducible refine wpList_buildG ?_ 107 #[] ?_ (us := []) ?_ Tryz.rbuilt0 ?_); (with_reducible rfl); (with_reducible rfl); rfl)
               | ((with_reducible refine wpList_storeS #[.string ⟨#[]⟩, .string ⟨#[]⟩, .string ⟨#[]⟩, .slice none 0 0, .slice none 0 0] ?_ 107 (.tmp 2) (.tmp 173) ?_ ?_ ?_ HR4.out.1 Tryz.sizeRsSes ?_ ?_ ?_ ?_); (with_reducible rfl); (with_reducible rfl); rfl; rfl; rfl; rfl; rfl)
               | ((with_reducible show bodyPost _ _ _ _ _ _); exact bodyPost_ret (ret_struct3 rfl rfl (HR4.out.1.row _) Tryz.underlying107 rfl Tryz.sizeRsSes rfl) rfl HR4.out.2))
            | true =>
              have HFIN := Lib.hid (HK.out.next HA.out (by rw [HI0.out]; exact HS.out.1 rfl) HK.out.pv HK.out.below)
              have hpq : pq = none := by rw [← HPQ.out, HI0.out]; rfl
              subst hpq
              clear HS HK HBAD
              go_wp2
              go_roundw
              case rel => exact ⟨_, i + 1, _, _, _, _, _, _, by rw [if_pos (by have := HI0.out; omega)], rfl, by go_num, HFIN.out⟩
              case measure => simp [intOf]; omega
          · have n0 : ((i : Int) == 0) = false := by rw [beq_eq_false_iff_ne]; omega
            by_cases hi1 : i = 1
            · have e1 : ((i : Int) == 1) = true := by rw [beq_iff_eq]; omega
              have HS := Lib.hid (rstep2 (st := st) HT2.out HVD.out.1)
              have HI := Lib.hid hi1
              have k0 := HK.out.pv.box.cell 0
              have f0 := HK.out.pv.box.frz 0
              have k0 : wr.cell? ⟨N1, 0, none⟩ = some (.string st.o) := k0
              have HBW : Hid (Below N1 w1 (wr.setCell ⟨N1, 0, none⟩ (.string v))) := Lib.hid (HK.out.below.setCell (p := ⟨N1, 0, none⟩) (Nat.le_refl _) _)
              have HWH : Hid (Whole (wr.setCell ⟨N1, 0, none⟩ (.string v)) N1 107 _ ∧ Only (· = N1) wr (wr.setCell ⟨N1, 0, none⟩ (.string v))) := Lib.hid ⟨HK.out.pv.box.set 0 (.string v), (Only.refl (· = N1) wr).setCell (p := ⟨N1, 0, none⟩) (.inl rfl) _⟩
              have hpq : pq = none := by rw [← HPQ.out, HI.out]; rfl
              subst hpq
              clear hi1
              by_cases hch : c0 = 111
              · have q0 : ((c0.toNat : Int) == 111) = true := by rw [hch]; rfl
                have HCH := Lib.hid hch
                clear hch
                cases bv with
                | false =>
                  have HR4 : Hid (Whole (wr.setCell ⟨N1, 0, none⟩ (.string v)) N 107 zSes ∧ ParseO w (tx s) (.returned (.tuple #[.agg zSes, .int .i64 ((i : Int) + 1), .int .i64 2])) ((wr.setCell ⟨N1, 0, none⟩ (.string v)).setRow N zSes)) := Lib.hid (HBAD.out 2 (Or.inl rfl) (by rw [HI.out]; exact HS.out.2 (.inr HBV.out)) _ (HBW.out))
                  clear HK HS HWH
                  go_wp2_with (first
                   | (go_at_call 100; (with_reducible refine (HV.out _).mono ?_); rintro e w' ⟨rfl, rfl⟩)
                   | ((with_reducible refine wpList_buildG ?_ 107 #[] ?_ (us := []) ?_ Tryz.rbuilt0 ?_); (with_reducible rfl); (with_reducible rfl); rfl)
                   | ((with_reducible refine wpList_storeS #[.string ⟨#[]⟩, .string ⟨#[]⟩, .string ⟨#[]⟩, .slice none 0 0, .slice none 0 0] ?_ 107 (.tmp 2) (.tmp 173) ?_ ?_ ?_ HR4.out.1 Tryz.sizeRsSes ?_ ?_ ?_ ?_); (with_reducible rfl); (with_reducible rfl); rfl; rfl; rfl; rfl; rfl)
                   | ((with_reducible show bodyPost _ _ _ _ _ _); exact bodyPost_ret (ret_struct3 rfl rfl (HR4.out.1.row _) Tryz.underlying107 rfl Tryz.sizeRsSes rfl) rfl HR4.out.2))
                | true =>
                  have HFIN := Lib.hid (HK.out.head TR.ok HA.out (o := v) (n := st.n) (t := st.t) (by rw [HI.out]; exact HS.out.1 HCH.out HBV.out) HWH.out.1 HWH.out.2 HRW.out.size)
                  clear HS HK HBAD HWH HBW
                  go_wp2_with (first
                   | (go_at_call 100; (with_reducible refine (HV.out _).mono ?_); rintro e w' ⟨rfl, rfl⟩))
                  go_roundw
                  case rel => exact ⟨{ st with o := v, n := st.n, t := st.t }, i + 1, q, _, _, _, _, _, by rw [if_pos (by have := HI.out; omega)], rfl, by go_num, HFIN.out⟩
                  case measure => simp [intOf]; omega
              · have q0 : ((c0.toNat : Int) == 111) = false := u8_eq (n := 111) (by omega) hch
                have HCH := Lib.hid hch
                clear hch
                have HR4 : Hid (Whole (wr.setCell ⟨N1, 0, none⟩ (.string v)) N 107 zSes ∧ ParseO w (tx s) (.returned (.tuple #[.agg zSes, .int .i64 ((i : Int) + 1), .int .i64 2])) ((wr.setCell ⟨N1, 0, none⟩ (.string v)).setRow N zSes)) := Lib.hid (HBAD.out 2 (Or.inl rfl) (by rw [HI.out]; exact HS.out.2 (.inl HCH.out)) _ (HBW.out))
                clear HK HS HWH
                go_wp2_with (first
                 | ((with_reducible refine wpList_buildG ?_ 107 #[] ?_ (us := []) ?_ Tryz.rbuilt0 ?_); (with_reducible rfl); (with_reducible rfl); rfl)
                 | ((with_reducible refine wpList_storeS #[.string ⟨#[]⟩, .string ⟨#[]⟩, .string ⟨#[]⟩, .slice none 0 0, .slice none 0 0] ?_ 107 (.tmp 2) (.tmp 173) ?_ ?_ ?_ HR4.out.1 Tryz.sizeRsSes ?_ ?_ ?_ ?_); (with_reducible rfl); (with_reducible rfl); rfl; rfl; rfl; rfl; rfl)
                 | ((with_reducible show bodyPost _ _ _ _ _ _); exact bodyPost_ret (ret_struct3 rfl rfl (HR4.out.1.row _) Tryz.underlying107 rfl Tryz.sizeRsSes rfl) rfl HR4.out.2))
            · have n1 : ((i : Int) == 1) = false := by rw [beq_eq_false_iff_ne]; omega
              by_cases hi2 : i = 2
              · have e2 : ((i : Int) == 2) = true := by rw [beq_iff_eq]; omega
                have HS := Lib.hid (rstep3 (st := st) HT2.out HVD.out.1)
                have HI := Lib.hid hi2
                have k0 := HK.out.pv.box.cell 1
                have f0 := HK.out.pv.box.frz 1
                have k0 : wr.cell? ⟨N1, 1, none⟩ = some (.string st.n) := k0
                have HBW : Hid (Below N1 w1 (wr.setCell ⟨N1, 1, none⟩ (.string v))) := Lib.hid (HK.out.below.setCell (p := ⟨N1, 1, none⟩) (Nat.le_refl _) _)
                have HWH : Hid (Whole (wr.setCell ⟨N1, 1, none⟩ (.string v)) N1 107 _ ∧ Only (· = N1) wr (wr.setCell ⟨N1, 1, none⟩ (.string v))) := Lib.hid ⟨HK.out.pv.box.set 1 (.string v), (Only.refl (· = N1) wr).setCell (p := ⟨N1, 1, none⟩) (.inl rfl) _⟩
                have hpq : pq = none := by rw [← HPQ.out, HI.out]; rfl
                subst hpq
                clear hi2
                by_cases hch : c0 = 115
                · have q0 : ((c0.toNat : Int) == 115) = true := by rw [hch]; rfl
                  have HCH := Lib.hid hch
                  clear hch
                  cases bv with
                  | false =>
                    have HR4 : Hid (Whole (wr.setCell ⟨N1, 1, none⟩ (.string v)) N 107 zSes ∧ ParseO w (tx s) (.returned (.tuple #[.agg zSes, .int .i64 ((i : Int) + 1), .int .i64 2])) ((wr.setCell ⟨N1, 1, none⟩ (.string v)).setRow N zSes)) := Lib.hid (HBAD.out 2 (Or.inl rfl) (by rw [HI.out]; exact HS.out.2 (.inr HBV.out)) _ (HBW.out))
                    clear HK HS HWH
                    go_wp2_with (first
                     | (go_at_call 100; (with_reducible refine (HV.out _).mono ?_); rintro e w' ⟨rfl, rfl⟩)
                     | ((with_reducible refine wpList_buildG ?_ 107 #[] ?_ (us := []) ?_ Tryz.rbuilt0 ?_); (with_reducible rfl); (with_reducible rfl); rfl)
                     | ((with_reducible refine wpList_storeS #[.string ⟨#[]⟩, .string ⟨#[]⟩, .string ⟨#[]⟩, .slice none 0 0, .slice none 0 0] ?_ 107 (.tmp 2) (.tmp 173) ?_ ?_ ?_ HR4.out.1 Tryz.sizeRsSes ?_ ?_ ?_ ?_); (with_reducible rfl); (with_reducible rfl); rfl; rfl; rfl; rfl; rfl)
                     | ((with_reducible show bodyPost _ _ _ _ _ _); exact bodyPost_ret (ret_struct3 rfl rfl (HR4.out.1.row _) Tryz.underlying107 rfl Tryz.sizeRsSes rfl) rfl HR4.out.2))
                  | true =>
                    have HFIN := Lib.hid (HK.out.head TR.ok HA.out (o := st.o) (n := v) (t := st.t) (by rw [HI.out]; exact HS.out.1 HCH.out HBV.out) HWH.out.1 HWH.out.2 HRW.out.size)
                    clear HS HK HBAD HWH HBW
                    go_wp2_with (first
                     | (go_at_call 100; (with_reducible refine (HV.out _).mono ?_); rintro e w' ⟨rfl, rfl⟩))
                    go_roundw
                    case rel => exact ⟨{ st with o := st.o, n := v, t := st.t }, i + 1, q, _, _, _, _, _, by rw [if_pos (by have := HI.out; omega)], rfl, by go_num, HFIN.out⟩
                    case measure => simp [intOf]; omega
                · have q0 : ((c0.toNat : Int) == 115) = false := u8_eq (n := 115) (by omega) hch
                  have HCH := Lib.hid hch
                  clear hch
                  have HR4 : Hid (Whole (wr.setCell ⟨N1, 1, none⟩ (.string v)) N 107 zSes ∧ ParseO w (tx s) (.returned (.tuple #[.agg zSes, .int .i64 ((i : Int) + 1), .int .i64 2])) ((wr.setCell ⟨N1, 1, none⟩ (.string v)).setRow N zSes)) := Lib.hid (HBAD.out 2 (Or.inl rfl) (by rw [HI.out]; exact HS.out.2 (.inl HCH.out)) _ (HBW.out))
                  clear HK HS HWH
                  go_wp2_with (first
                   | ((with_reducible refine wpList_buildG ?_ 107 #[] ?_ (us := []) ?_ Tryz.rbuilt0 ?_); (with_reducible rfl); (with_reducible rfl); rfl)
                   | ((with_reducible refine wpList_storeS #[.string ⟨#[]⟩, .string ⟨#[]⟩, .string ⟨#[]⟩, .slice none 0 0, .slice none 0 0] ?_ 107 (.tmp 2) (.tmp 173) ?_ ?_ ?_ HR4.out.1 Tryz.sizeRsSes ?_ ?_ ?_ ?_); (with_reducible rfl); (with_reducible rfl); rfl; rfl; rfl; rfl; rfl)
                   | ((with_reducible show bodyPost _ _ _ _ _ _); exact bodyPost_ret (ret_struct3 rfl rfl (HR4.out.1.row _) Tryz.underlying107 rfl Tryz.sizeRsSes rfl) rfl HR4.out.2))
              · have n2 : ((i : Int) == 2) = false := by rw [beq_eq_false_iff_ne]; omega
                by_cases hi3 : i = 3
                · have e3 : ((i : Int) == 3) = true := by rw [beq_iff_eq]; omega
                  have HS := Lib.hid (rstep4 (st := st) HT2.out HVD.out.1)
                  have HI := Lib.hid hi3
                  have k0 := HK.out.pv.box.cell 2
                  have f0 := HK.out.pv.box.frz 2
                  have k0 : wr.cell? ⟨N1, 2, none⟩ = some (.string st.t) := k0
                  have HBW : Hid (Below N1 w1 (wr.setCell ⟨N1, 2, none⟩ (.string v))) := Lib.hid (HK.out.below.setCell (p := ⟨N1, 2, none⟩) (Nat.le_refl _) _)
                  have HWH : Hid (Whole (wr.setCell ⟨N1, 2, none⟩ (.string v)) N1 107 _ ∧ Only (· = N1) wr (wr.setCell ⟨N1, 2, none⟩ (.string v))) := Lib.hid ⟨HK.out.pv.box.set 2 (.string v), (Only.refl (· = N1) wr).setCell (p := ⟨N1, 2, none⟩) (.inl rfl) _⟩
                  have hpq : pq = none := by rw [← HPQ.out, HI.out]; rfl
                  subst hpq
                  clear hi3
                  by_cases hch : c0 = 116
                  · have q0 : ((c0.toNat : Int) == 116) = true := by rw [hch]; rfl
                    have HCH := Lib.hid hch
                    clear hch
                    cases bv with
                    | false =>
                      have HR4 : Hid (Whole (wr.setCell ⟨N1, 2, none⟩ (.string v)) N 107 zSes ∧ ParseO w (tx s) (.returned (.tuple #[.agg zSes, .int .i64 ((i : Int) + 1), .int .i64 2])) ((wr.setCell ⟨N1, 2, none⟩ (.string v)).setRow N zSes)) := Lib.hid (HBAD.out 2 (Or.inl rfl) (by rw [HI.out]; exact HS.out.2 (.inr HBV.out)) _ (HBW.out))
                      clear HK HS HWH
                      go_wp2_with (first
                       | (go_at_call 100; (with_reducible refine (HV.out _).mono ?_); rintro e w' ⟨rfl, rfl⟩)
                       | ((with_reducible refine wpList_buildG ?_ 107 #[] ?_ (us := []) ?_ Tryz.rbuilt0 ?_); (with_reducible rfl); (with_reducible rfl); rfl)
                       | ((with_reducible refine wpList_storeS #[.string ⟨#[]⟩, .string ⟨#[]⟩, .string ⟨#[]⟩, .slice none 0 0, .slice none 0 0] ?_ 107 (.tmp 2) (.tmp 173) ?_ ?_ ?_ HR4.out.1 Tryz.sizeRsSes ?_ ?_ ?_ ?_); (with_reducible rfl); (with_reducible rfl); rfl; rfl; rfl; rfl; rfl)
                       | ((with_reducible show bodyPost _ _ _ _ _ _); exact bodyPost_ret (ret_struct3 rfl rfl (HR4.out.1.row _) Tryz.underlying107 rfl Tryz.sizeRsSes rfl) rfl HR4.out.2))
                    | true =>
                      have HFIN := Lib.hid (HK.out.head TR.ok HA.out (o := st.o) (n := st.n) (t := v) (by rw [HI.out]; exact HS.out.1 HCH.out HBV.out) HWH.out.1 HWH.out.2 HRW.out.size)
                      have HQ : Hid (q = ⟨N1, 3, none⟩) := Lib.hid (HK.out.pv.first (early_none HK.out.ok (by have := HI.out; omega))).2.2.1
                      clear HS HK HBAD HWH HBW
                      go_wp2_with (first
                       | (go_at_call 100; (with_reducible refine (HV.out _).mono ?_); rintro e w' ⟨rfl, rfl⟩))
                      go_roundw
                      case rel => exact ⟨{ st with o := st.o, n := st.n, t := v }, i + 1, q, _, _, _, _, _, by rw [if_neg (by have := HI.out; omega), HQ.out], rfl, by go_num, HFIN.out⟩
                      case measure => simp [intOf]; omega
                  · have q0 : ((c0.toNat : Int) == 116) = false := u8_eq (n := 116) (by omega) hch
                    have HCH := Lib.hid hch
                    clear hch
                    have HR4 : Hid (Whole (wr.setCell ⟨N1, 2, none⟩ (.string v)) N 107 zSes ∧ ParseO w (tx s) (.returned (.tuple #[.agg zSes, .int .i64 ((i : Int) + 1), .int .i64 2])) ((wr.setCell ⟨N1, 2, none⟩ (.string v)).setRow N zSes)) := Lib.hid (HBAD.out 2 (Or.inl rfl) (by rw [HI.out]; exact HS.out.2 (.inl HCH.out)) _ (HBW.out))
                    clear HK HS HWH
                    go_wp2_with (first
                     | ((with_reducible refine wpList_buildG ?_ 107 #[] ?_ (us := []) ?_ Tryz.rbuilt0 ?_); (with_reducible rfl); (with_reducible rfl); rfl)
                     | ((with_reducible refine wpList_storeS #[.string ⟨#[]⟩, .string ⟨#[]⟩, .string ⟨#[]⟩, .slice none 0 0, .slice none 0 0] ?_ 107 (.tmp 2) (.tmp 173) ?_ ?_ ?_ HR4.out.1 Tryz.sizeRsSes ?_ ?_ ?_ ?_); (with_reducible rfl); (with_reducible rfl); rfl; rfl; rfl; rfl; rfl)
                     | ((with_reducible show bodyPost _ _ _ _ _ _); exact bodyPost_ret (ret_struct3 rfl rfl (HR4.out.1.row _) Tryz.underlying107 rfl Tryz.sizeRsSes rfl) rfl HR4.out.2))
                · have n3 : ((i : Int) == 3) = false := by rw [beq_eq_false_iff_ne]; omega
                  have hi4 : ¬ i ≤ 3 := by omega
                  have h5 : 4 < i + 1 := by omega
                  have hpq : pq = some q := by rw [← HPQ.out, if_neg hi4]
                  subst hpq
                  obtain ⟨bb, hbb⟩ : ∃ b, st.bare = b := ⟨_, rfl⟩
                  have HBB := Lib.hid hbb
                  rw [hbb]
                  clear hi0 hi1 hi2 hi3 hbb
                  by_cases ha : c0 = 97
                  · have q0 : ((c0.toNat : Int) == 97) = true := by rw [ha]; rfl
                    have HSM := Lib.hid (step_a (st := st) h5 (by rw [HT2.out, ha]))
                    have HRA := Lib.hid (rattr_any v wr HVD.out.2)
                    clear ha
                    go_upto_region 26 with (go_at_call 113; (with_reducible refine HRA.out.mono ?_); rintro e w5 ⟨x, bx, rfl, hax, hb5⟩)
                    obtain ⟨Ac, cc, hcv, hc1, hc2⟩ := HK.out.pv.cur_form
                    obtain ⟨m, hm⟩ : ∃ m, st.here.length = m := ⟨_, rfl⟩
                    have HMM := Lib.hid hm
                    rw [hm] at hcv hc1
                    have hm64 : m ≤ 64 := by rw [← hm]; exact okA_len HK.out.ok.here
                    have hb6 : Below N1 w1 (w5.alloc (.cells #[.string x.name, .string x.value] 55)) := (HK.out.below.trans (hb5.mono (Nat.le_of_lt HK.out.pv.lt))).alloc (Nat.le_of_lt (Nat.lt_of_lt_of_le HK.out.pv.lt hb5.size)) _
                    have hal := (Below.refl w5.heap.size w5).alloc (Nat.le_refl _) (.cells #[.string x.name, .string x.value] 55)
                    have hpv6 := (HK.out.pv.under hb5).under hal
                    have hne : cur.ownBlock ≠ some w5.heap.size := fun e => by
                     have := (HK.out.pv.now.lt e).2
                     have := hb5.size
                     omega
                    rw [hcv] at hpv6 hne
                    have HNE := Lib.hid hne
                    have H6 : Hid (PV TR N1 N1 st q pp (.slice Ac m cc) vA vP us (w5.alloc (.cells #[.string x.name, .string x.value] 55)) ∧ Whole (w5.alloc (.cells #[.string x.name, .string x.value] 55)) w5.heap.size 55 #[.string x.name, .string x.value] ∧ Below N1 w1 (w5.alloc (.cells #[.string x.name, .string x.value] 55))) := Lib.hid ⟨hpv6, Whole.new _ _ _, hb6⟩
                    clear hpv6 hal hb5 hb6 hcv hm hne HRA
                    generalize w5.alloc (.cells #[.string x.name, .string x.value] 55) = w6 at *
                    generalize w5.heap.size = g6 at *
                    have cq := H6.out.1.cell_q.1
                    cases bx with
                    | false =>
                      have hs : stepP st (i + 1) (tx a) = .bad 2 := HSM.out.1 (by
                       rcases hax with ⟨e, _⟩ | ⟨_, e⟩
                       · cases e
                       · rw [← HVD.out.1]; exact e)
                      have HS := Lib.hid hs
                      clear hax hs
                      have HR4 : Hid (Whole (w6) N 107 zSes ∧ ParseO w (tx s) (.returned (.tuple #[.agg zSes, .int .i64 ((i : Int) + 1), .int .i64 2])) ((w6).setRow N zSes)) := Lib.hid (HBAD.out 2 (Or.inl rfl) (HS.out) _ (H6.out.2.2))
                      clear HK HSM H6
                      go_wp2_with (first
                       | ((with_reducible refine wpList_buildG ?_ 107 #[] ?_ (us := []) ?_ Tryz.rbuilt0 ?_); (with_reducible rfl); (with_reducible rfl); rfl)
                       | ((with_reducible refine wpList_storeS #[.string ⟨#[]⟩, .string ⟨#[]⟩, .string ⟨#[]⟩, .slice none 0 0, .slice none 0 0] ?_ 107 (.tmp 2) (.tmp 173) ?_ ?_ ?_ HR4.out.1 Tryz.sizeRsSes ?_ ?_ ?_ ?_); (with_reducible rfl); (with_reducible rfl); rfl; rfl; rfl; rfl; rfl)
                       | ((with_reducible show bodyPost _ _ _ _ _ _); exact bodyPost_ret (ret_struct3 rfl rfl (HR4.out.1.row _) Tryz.underlying107 rfl Tryz.sizeRsSes rfl) rfl HR4.out.2))
                    | true =>
                      have hax2 : attrP ((tx a).drop 2) = some x := by
                       rcases hax with ⟨_, e⟩ | ⟨e, _⟩
                       · rw [← HVD.out.1]; exact e
                       · cases e
                      have HAX := Lib.hid hax2
                      clear hax hax2
                      by_cases h64 : m = 64
                      · subst h64
                        have HS := Lib.hid (HSM.out.2.1 x HAX.out (by rw [HMM.out]; exact Nat.le_refl _))
                        have HR4 : Hid (Whole (w6) N 107 zSes ∧ ParseO w (tx s) (.returned (.tuple #[.agg zSes, .int .i64 ((i : Int) + 1), .int .i64 3])) ((w6).setRow N zSes)) := Lib.hid (HBAD.out 3 (Or.inr rfl) (HS.out) _ (H6.out.2.2))
                        clear HK HSM H6
                        go_wp2_with (first
                         | ((with_reducible refine wpList_buildG ?_ 107 #[] ?_ (us := []) ?_ Tryz.rbuilt0 ?_); (with_reducible rfl); (with_reducible rfl); rfl)
                         | ((with_reducible refine wpList_storeS #[.string ⟨#[]⟩, .string ⟨#[]⟩, .string ⟨#[]⟩, .slice none 0 0, .slice none 0 0] ?_ 107 (.tmp 2) (.tmp 173) ?_ ?_ ?_ HR4.out.1 Tryz.sizeRsSes ?_ ?_ ?_ ?_); (with_reducible rfl); (with_reducible rfl); rfl; rfl; rfl; rfl; rfl)
                         | ((with_reducible show bodyPost _ _ _ _ _ _); exact bodyPost_ret (ret_struct3 rfl rfl (HR4.out.1.row _) Tryz.underlying107 rfl Tryz.sizeRsSes rfl) rfl HR4.out.2))
                      · have h64' : (m : Int) < 64 := by omega
                        have HS := Lib.hid (HSM.out.2.2 x HAX.out (by rw [HMM.out]; omega))
                        clear HBAD HSM HAX h64
                        go_upto_region 30 with fail
                        obtain ⟨nm, hnm⟩ : ∃ y, x.name = y := ⟨_, rfl⟩
                        obtain ⟨vl, hvl⟩ : ∃ y, x.value = y := ⟨_, rfl⟩
                        have HXE := Lib.hid (And.intro hnm hvl)
                        have h6 := H6.out
                        rw [hnm, hvl] at h6
                        clear H6
                        have H6 := Lib.hid h6
                        clear hnm hvl h6
                        have hq0 := H6.out.1.drew
                        have HS0 : Hid (∀ L, TillOne (fun W => W.cell? ⟨g6, 0, none⟩ = some (.string nm) ∧ W.cell? ⟨g6, 1, none⟩ = some (.string vl)) (fun W => W.cell? q = some (.slice Ac m cc)) 8 L w6.drew) := Lib.hid fun L => TillOne.mk ⟨H6.out.2.1.cell 0, H6.out.2.1.cell 1⟩ hq0.cell_q.1
                        have HG0 : Hid (∀ W, Ahead (TillOne (fun W => W.cell? ⟨g6, 0, none⟩ = some (.string nm) ∧ W.cell? ⟨g6, 1, none⟩ = some (.string vl)) (fun W => W.cell? q = some (.slice Ac m cc)) 8) 8 W → W.cell? ⟨g6, 0, none⟩ = some (.string nm)) := Lib.hid fun W h => (TillOne.get h).1.1
                        have HG1 : Hid (∀ W, Ahead (TillOne (fun W => W.cell? ⟨g6, 0, none⟩ = some (.string nm) ∧ W.cell? ⟨g6, 1, none⟩ = some (.string vl)) (fun W => W.cell? q = some (.slice Ac m cc)) 8) 8 W → W.cell? ⟨g6, 1, none⟩ = some (.string vl)) := Lib.hid fun W h => (TillOne.get h).1.2
                        have HG2 : Hid (∀ W, Ahead (TillOne (fun W => W.cell? ⟨g6, 0, none⟩ = some (.string nm) ∧ W.cell? ⟨g6, 1, none⟩ = some (.string vl)) (fun W => W.cell? q = some (.slice Ac m cc)) 8) 8 W → W.cell? q = some (.slice Ac m cc)) := Lib.hid fun W h => (TillOne.get h).2
                        have hal := (Below.refl w6.heap.size w6).alloc (Nat.le_refl _) (.cells #[.string nm, .string vl] 55)
                        have HA7 : Hid (PV TR N1 N1 st q pp (.slice Ac m cc) vA vP us (w6.alloc (.cells #[.string nm, .string vl] 55)).drew ∧ Whole (w6.alloc (.cells #[.string nm, .string vl] 55)).drew w6.heap.size 55 #[.string nm, .string vl] ∧ Below N1 w1 (w6.alloc (.cells #[.string nm, .string vl] 55)).drew ∧ Whole (w6.alloc (.cells #[.string nm, .string vl] 55)).drew g6 55 #[.string nm, .string vl]) := Lib.hid ⟨(H6.out.1.under hal).drew, (Whole.new w6 _ _).drew, (H6.out.2.2.alloc (Nat.le_of_lt H6.out.1.lt) _).drew, (H6.out.2.1.under hal).drew⟩
                        have HLR : Hid ((st.here.map acell).length = m) := Lib.hid (by rw [List.length_map]; exact HMM.out)
                        refine wp_region_late (TillOne (fun W => W.cell? ⟨g6, 0, none⟩ = some (.string nm) ∧ W.cell? ⟨g6, 1, none⟩ = some (.string vl)) (fun W => W.cell? q = some (.slice Ac m cc)) 8) (by as_aux_lemma => kernel_rfl) ?_
                        change wpLate Tryz.prog .any _ _ _ 9 #[false, false, false, false, false, false, false, false, false] _ _
                        clear cq hal hq0
                        refine wpLate.take (i := 0) (q := 8) (oi := _) (v := ?_) rfl (by as_aux_lemma => kernel_rfl) (by as_aux_lemma => kernel_rfl) (by as_aux_lemma => kernel_rfl) (by as_aux_lemma => kernel_rfl) (by rfl) (fun _ _ _ h => h) (TillOne.set (by decide)) (HS0.out _) (Or.inl ⟨by rfl, ?_⟩) ?_
                        case refine_2 => intro W hw; have e0 := HG0.out W hw; have e1 := HG1.out W hw; have e2 := HG2.out W hw; clear hw; go_simp; (try with_reducible rfl)
                        simp only [Act.put, List.setIfInBounds_toArray, List.set_cons_succ, List.set_cons_zero]
                        refine wpLate.take (i := 1) (q := 8) (oi := _) (v := ?_) rfl (by as_aux_lemma => kernel_rfl) (by as_aux_lemma => kernel_rfl) (by as_aux_lemma => kernel_rfl) (by as_aux_lemma => kernel_rfl) (by rfl) (fun _ _ _ h => h) (TillOne.set (by decide)) (HS0.out _) (Or.inl ⟨by rfl, ?_⟩) ?_
                        case refine_2 => intro W hw; have e0 := HG0.out W hw; have e1 := HG1.out W hw; have e2 := HG2.out W hw; clear hw; go_simp; (try with_reducible rfl)
                        simp only [Act.put, List.setIfInBounds_toArray, List.set_cons_succ, List.set_cons_zero]
                        refine wpLate.take (i := 2) (q := 8) (oi := _) (v := ?_) rfl (by as_aux_lemma => kernel_rfl) (by as_aux_lemma => kernel_rfl) (by as_aux_lemma => kernel_rfl) (by as_aux_lemma => kernel_rfl) (by rfl) (fun _ _ _ h => h) (TillOne.set (by decide)) (HS0.out _) (Or.inl ⟨by rfl, ?_⟩) ?_
                        case refine_2 => intro W hw; have e0 := HG0.out W hw; have e1 := HG1.out W hw; have e2 := HG2.out W hw; clear hw; go_simp; (try with_reducible rfl)
                        simp only [Act.put, List.setIfInBounds_toArray, List.set_cons_succ, List.set_cons_zero]
                        refine wpLate.take (i := 3) (q := 8) (oi := _) (v := ?_) rfl (by as_aux_lemma => kernel_rfl) (by as_aux_lemma => kernel_rfl) (by as_aux_lemma => kernel_rfl) (by as_aux_lemma => kernel_rfl) (by rfl) (fun _ _ _ h => h) (TillOne.set (by decide)) (HS0.out _) (Or.inl ⟨by rfl, ?_⟩) ?_
                        case refine_2 => intro W hw; have e0 := HG0.out W hw; have e1 := HG1.out W hw; have e2 := HG2.out W hw; clear hw; go_simp; (try with_reducible rfl)
                        simp only [Act.put, List.setIfInBounds_toArray, List.set_cons_succ, List.set_cons_zero]
                        refine wpLate.take (i := 4) (q := 8) (oi := _) (v := ?_) rfl (by as_aux_lemma => kernel_rfl) (by as_aux_lemma => kernel_rfl) (by as_aux_lemma => kernel_rfl) (by as_aux_lemma => kernel_rfl) (by rfl) (fun _ _ _ h => h) (TillOne.set (by decide)) (HS0.out _) (Or.inl ⟨by rfl, ?_⟩) ?_
                        case refine_2 => intro W hw; have e0 := HG0.out W hw; have e1 := HG1.out W hw; have e2 := HG2.out W hw; clear hw; go_simp; (try with_reducible rfl)
                        simp only [Act.put, List.setIfInBounds_toArray, List.set_cons_succ, List.set_cons_zero]
                        refine wpLate.ready (rs := [5]) (by as_aux_lemma => kernel_rfl) (by simp) (eachLate.cons rfl (fun K hK => ?_) eachLate.nil)
                        go_simp
                        refine hK.out _ _ (TillOne.mk ⟨HA7.out.2.2.2.cell 0, HA7.out.2.2.2.cell 1⟩ HA7.out.1.cell_q.1) ?_
                        clear hK K
                        try simp only [Act.put]
                        generalize (w6.alloc (.cells #[.string nm, .string vl] 55)).drew = w7 at *
                        generalize w6.heap.size = g7 at *
                        refine wpLate.ready (rs := [6]) (by as_aux_lemma => kernel_rfl) (by simp) (eachLate.cons rfl (fun K hK => ?_) eachLate.nil)
                        refine step_of rfl (wp_appendE (r := [.string nm, .string vl]) (.tmp 113) (.tmp 115) rfl Tryz.underlying30 Tryz.infoRSAttr rfl (Nat.zero_lt_succ _) rfl HA7.out.1.now rfl HA7.out.2.1 rfl (fun u hu => by simp at hu; rcases hu with rfl | rfl <;> rfl) (by rw [HLR.out]; omega) (by rw [HLR.out]; omega) (by have := HA7.out.1.lt; omega) ?_)
                        intro v8 w8 ho8 hg8 hn8
                        have hbx8 := HA7.out.1.box.grown hg8 (fun e => (HA7.out.1.now.apart HA7.out.1.box TR.ok.2.1.symm) e.symm)
                        have hbl8 : Below N1 w1 w8 := HA7.out.2.2.1.grown hg8 (Nat.le_of_lt HA7.out.1.lt) (fun j hj => (HA7.out.1.now.lt hj).1)
                        have hac : acell x = [.string nm, .string vl] := by rw [← HXE.out.1, ← HXE.out.2]; rfl
                        rw [← hac] at ho8
                        obtain ⟨vA', hpv8⟩ := HA7.out.1.push TR.ok ho8 hg8 hn8
                        have hg68 := HA7.out.2.2.2.grown hg8 (fun e => HNE.out e.symm)
                        have cq8 : w8.cell? q = some (.slice Ac m cc) ∧ w8.frozen? q = false ∧ N1 ≤ q.block ∧ q.block ≠ g6 := by
                         cases hc : st.cur with
                         | none =>
                           obtain ⟨_, rfl, hq, _⟩ := HA7.out.1.first hc
                           rw [hq]
                           refine ⟨hbx8.cell 3, hbx8.frz 3, Nat.le_refl N1, fun e => ?_⟩
                           have e : N1 = g6 := e
                           subst e
                           exact (hg68.ne hbx8 TR.ok.2.1.symm) rfl
                         | some p =>
                           obtain ⟨gp, e1, hq, _⟩ := HA7.out.1.last p hc
                           have hpar8 := HA7.out.1.par.grown hg8 (HA7.out.1.par.apart2 HA7.out.1.now TR.ok.2.2)
                           obtain ⟨g', c, _, e2, e3, e4, _, _, e5, e6⟩ := hpar8.at_ (HA7.out.1.last_row hc)
                           rw [e1] at e2
                           cases e2
                           rw [hq]
                           refine ⟨e5 2 (by omega), e6 _, e3, fun e => ?_⟩
                           obtain ⟨cs, hw⟩ := hpar8.whole e1
                           have e : gp = g6 := e
                           subst e
                           exact (hw.ne hg68 TR.ok.2.2) rfl
                        have c8 := cq8.1
                        have f8 := cq8.2.1
                        have HT8 : Hid (∀ L, TillOne (fun W => W.cell? ⟨g6, 0, none⟩ = some (.string nm) ∧ W.cell? ⟨g6, 1, none⟩ = some (.string vl)) (fun W => W.cell? q = some (.slice Ac m cc)) 8 L w8) := Lib.hid fun L => TillOne.mk ⟨hg68.cell 0, hg68.cell 1⟩ cq8.1
                        have HS9 : Hid (∀ L, L.getD 8 true = true → TillOne (fun W => W.cell? ⟨g6, 0, none⟩ = some (.string nm) ∧ W.cell? ⟨g6, 1, none⟩ = some (.string vl)) (fun W => W.cell? q = some (.slice Ac m cc)) 8 L (w8.setCell q v8)) := Lib.hid fun L hL => TillOne.past ⟨(hg68.far (Ne.symm cq8.2.2.2) v8).cell 0, (hg68.far (Ne.symm cq8.2.2.2) v8).cell 1⟩ hL
                        have HFIN := Lib.hid (HK.out.next HA.out HS.out hpv8 (hbl8.setCell cq8.2.2.1 v8))
                        obtain ⟨A8, k8, hv8, -⟩ := ho8.form
                        generalize (st.here.map acell ++ [acell x]).length = l8 at hv8
                        subst hv8
                        clear ho8 hg8 hn8 hbx8 hbl8 hac hpv8 hg68 cq8 HA7 HK
                        refine hK.out _ _ (HT8.out _) ?_
                        clear hK K
                        try simp only [Act.put]
                        refine wpLate.take (i := 7) (q := 8) (oi := _) (v := ?_) rfl (by as_aux_lemma => kernel_rfl) (by as_aux_lemma => kernel_rfl) (by as_aux_lemma => kernel_rfl) (by as_aux_lemma => kernel_rfl) (by rfl) (fun _ _ _ h => h) (TillOne.set (by decide)) (HT8.out _) (Or.inl ⟨by rfl, ?_⟩) ?_
                        case refine_2 => intro W hw; have e0 := HG0.out W hw; have e1 := HG1.out W hw; have e2 := HG2.out W hw; clear hw; go_simp; (try with_reducible rfl)
                        simp only [Act.put, List.setIfInBounds_toArray, List.set_cons_succ, List.set_cons_zero]
                        refine wpLate.ready (rs := [8]) (by as_aux_lemma => kernel_rfl) (by simp) (eachLate.cons rfl (fun K hK => ?_) eachLate.nil)
                        go_simp
                        refine hK.out _ _ (HS9.out _ rfl) ?_
                        clear hK K
                        try simp only [Act.put]
                        refine wpLate.done (by as_aux_lemma => kernel_rfl) ?_ _
                        go_wp2
                        go_roundw
                        case rel => exact ⟨st.push x, i + 1, q, _, _, vA', vP, us, by rw [if_neg (by omega)], by rw [bare_push], by go_num, HFIN.out⟩
                        case measure => simp [intOf]; omega
                  · have HNA := Lib.hid ha
                    have q0 : ((c0.toNat : Int) == 97) = false := u8_eq (n := 97) (by omega) ha
                    clear ha
                    by_cases hm : c0 = 109
                    · have q1 : ((c0.toNat : Int) == 109) = true := by rw [hm]; rfl
                      have HSM := Lib.hid (step_m (st := st) h5 (by rw [HT2.out, hm]))
                      clear hm
                      obtain ⟨Ap, cp, hvp, hp1, hp2⟩ := HK.out.pv.vP_form
                      obtain ⟨n, hn⟩ : ∃ n, st.parts.length = n := ⟨_, rfl⟩
                      have HNN := Lib.hid hn
                      rw [hn] at hvp hp1
                      have HVP := Lib.hid hvp
                      have c4 := HK.out.pv.box.cell 4
                      rw [hvp] at c4
                      have c4 : wr.cell? ⟨N1, 4, none⟩ = some (.slice Ap n cp) := c4
                      have hn8 : n ≤ 8 := by rw [← hn]; exact HK.out.ok.parts
                      clear hvp hn
                      cases bv with
                      | false =>
                        have HS := Lib.hid (HSM.out.1 (by rw [← HVD.out.1]; exact HBV.out))
                        have HR4 : Hid (Whole (wr) N 107 zSes ∧ ParseO w (tx s) (.returned (.tuple #[.agg zSes, .int .i64 ((i : Int) + 1), .int .i64 2])) ((wr).setRow N zSes)) := Lib.hid (HBAD.out 2 (Or.inl rfl) (HS.out) _ (HK.out.below))
                        clear HK HSM
                        go_wp2_with (first
                         | (go_at_call 100; (with_reducible refine (HV.out _).mono ?_); rintro e w' ⟨rfl, rfl⟩)
                         | ((with_reducible refine wpList_buildG ?_ 107 #[] ?_ (us := []) ?_ Tryz.rbuilt0 ?_); (with_reducible rfl); (with_reducible rfl); rfl)
                         | ((with_reducible refine wpList_storeS #[.string ⟨#[]⟩, .string ⟨#[]⟩, .string ⟨#[]⟩, .slice none 0 0, .slice none 0 0] ?_ 107 (.tmp 2) (.tmp 173) ?_ ?_ ?_ HR4.out.1 Tryz.sizeRsSes ?_ ?_ ?_ ?_); (with_reducible rfl); (with_reducible rfl); rfl; rfl; rfl; rfl; rfl)
                         | ((with_reducible show bodyPost _ _ _ _ _ _); exact bodyPost_ret (ret_struct3 rfl rfl (HR4.out.1.row _) Tryz.underlying107 rfl Tryz.sizeRsSes rfl) rfl HR4.out.2))
                      | true =>
                        by_cases h8 : n = 8
                        · subst h8
                          have HS := Lib.hid (HSM.out.2.1 (by rw [← HVD.out.1]; exact HBV.out) (by rw [HNN.out]; exact Nat.le_refl _))
                          have HR4 : Hid (Whole (wr) N 107 zSes ∧ ParseO w (tx s) (.returned (.tuple #[.agg zSes, .int .i64 ((i : Int) + 1), .int .i64 3])) ((wr).setRow N zSes)) := Lib.hid (HBAD.out 3 (Or.inr rfl) (HS.out) _ (HK.out.below))
                          clear HK HSM
                          go_wp2_with (first
                           | (go_at_call 100; (with_reducible refine (HV.out _).mono ?_); rintro e w' ⟨rfl, rfl⟩)
                           | ((with_reducible refine wpList_buildG ?_ 107 #[] ?_ (us := []) ?_ Tryz.rbuilt0 ?_); (with_reducible rfl); (with_reducible rfl); rfl)
                           | ((with_reducible refine wpList_storeS #[.string ⟨#[]⟩, .string ⟨#[]⟩, .string ⟨#[]⟩, .slice none 0 0, .slice none 0 0] ?_ 107 (.tmp 2) (.tmp 173) ?_ ?_ ?_ HR4.out.1 Tryz.sizeRsSes ?_ ?_ ?_ ?_); (with_reducible rfl); (with_reducible rfl); rfl; rfl; rfl; rfl; rfl)
                           | ((with_reducible show bodyPost _ _ _ _ _ _); exact bodyPost_ret (ret_struct3 rfl rfl (HR4.out.1.row _) Tryz.underlying107 rfl Tryz.sizeRsSes rfl) rfl HR4.out.2))
                        · have h8' : (n : Int) < 8 := by omega
                          have hs : stepP st (i + 1) (tx a) = .go (st.part (tx v)) := by rw [HSM.out.2.2 (by rw [← HVD.out.1]; exact HBV.out) (by rw [HNN.out]; omega), HVD.out.1]
                          have HS := Lib.hid hs
                          have hal := (Below.refl wr.heap.size wr).alloc (Nat.le_refl _) (.cells #[.string v, .string ⟨#[]⟩, .slice none 0 0] 32)
                          have HA7 : Hid (PV TR N1 N1 st q pp cur vA (.slice Ap n cp) us (wr.alloc (.cells #[.string v, .string ⟨#[]⟩, .slice none 0 0] 32)) ∧ Whole (wr.alloc (.cells #[.string v, .string ⟨#[]⟩, .slice none 0 0] 32)) wr.heap.size 32 #[.string v, .string ⟨#[]⟩, .slice none 0 0] ∧ Below N1 w1 (wr.alloc (.cells #[.string v, .string ⟨#[]⟩, .slice none 0 0] 32))) := Lib.hid (by
                           rw [← HVP.out]
                           exact ⟨HK.out.pv.under hal, Whole.new _ _ _, HK.out.below.alloc (Nat.le_of_lt HK.out.pv.lt) _⟩)
                          have HL : Hid ((rowsP st cur us).length = n) := Lib.hid (by rw [HK.out.pv.len]; exact HNN.out)
                          clear hs h8 hal HSM HVP HBAD
                          go_upto_region 38 with (first
                           | (go_at_call 100; (with_reducible refine (HV.out _).mono ?_); rintro e w' ⟨rfl, rfl⟩)
                           | (at_builtin; refine wpList_appendE (r := [.string v, .string ⟨#[]⟩, .slice none 0 0]) rfl (.tmp 138) (.tmp 141) rfl Tryz.underlying105 Tryz.infoRSPart rfl (Nat.zero_lt_succ _) rfl HA7.out.1.par rfl HA7.out.2.1 rfl (fun u hu => by simp at hu; rcases hu with rfl | rfl | rfl <;> rfl) (by rw [HL.out]; omega) (by rw [HL.out]; omega) (by have := HA7.out.1.lt; omega) ?_; intro v6 w6 ho6 hg6 hn6; have hbx6 := HA7.out.1.box.grown hg6 (fun e => (HA7.out.1.par.apart HA7.out.1.box TR.ok.1.symm) e.symm); have k4 := hbx6.cell 4; have f4 := hbx6.frz 4; have hbl6 : Below N1 w1 w6 := HA7.out.2.2.grown hg6 (Nat.le_of_lt HA7.out.1.lt) (fun j hj => (HA7.out.1.par.lt hj).1); obtain ⟨gp, c6, q6, us6, hv6, hc1, hc2, hq6, hpv6⟩ := HA7.out.1.part TR.ok ho6 hg6; rw [HNN.out] at hv6 hc1 hq6 hpv6; subst hv6 hq6; have H6 := Lib.hid (And.intro hpv6 hbl6); clear ho6 hg6 hn6 hbx6 hbl6 hpv6))
                          have hn1 : IntKind.i64.wrap (((n : Int) + 1) - 1) = (n : Int) := by rw [IntWalk.i64_in _ (by omega)]; omega
                          have HFIN := Lib.hid (HK.out.next HA.out HS.out H6.out.1 (H6.out.2.setCell (p := ⟨N1, 4, none⟩) (Nat.le_refl _) _))
                          clear H6 HA7 HK
                          go_wp2
                          go_roundw
                          case rel => exact ⟨st.part (tx v), i + 1, ⟨gp, n * 3 + 2, none⟩, _, _, vA, _, us6, by rw [if_neg (by omega)], by rw [bare_part], by go_num, HFIN.out⟩
                          case measure => simp [intOf]; omega
                    · have HNM := Lib.hid hm
                      have q1 : ((c0.toNat : Int) == 109) = false := u8_eq (n := 109) (by omega) hm
                      clear hm
                      by_cases hc : c0 = 99
                      · have q2 : ((c0.toNat : Int) == 99) = true := by rw [hc]; rfl
                        have HSM := Lib.hid (step_c (st := st) h5 (by rw [HT2.out, hc]))
                        clear hc
                        cases bb with
                        | false =>
                          have HS := Lib.hid (HSM.out.1 (.inr HBB.out))
                          have HR4 : Hid (Whole (wr) N 107 zSes ∧ ParseO w (tx s) (.returned (.tuple #[.agg zSes, .int .i64 ((i : Int) + 1), .int .i64 2])) ((wr).setRow N zSes)) := Lib.hid (HBAD.out 2 (Or.inl rfl) (HS.out) _ (HK.out.below))
                          clear HK HSM
                          go_wp2_with (first
                           | (go_at_call 100; (with_reducible refine (HV.out _).mono ?_); rintro e w' ⟨rfl, rfl⟩)
                           | ((with_reducible refine wpList_buildG ?_ 107 #[] ?_ (us := []) ?_ Tryz.rbuilt0 ?_); (with_reducible rfl); (with_reducible rfl); rfl)
                           | ((with_reducible refine wpList_storeS #[.string ⟨#[]⟩, .string ⟨#[]⟩, .string ⟨#[]⟩, .slice none 0 0, .slice none 0 0] ?_ 107 (.tmp 2) (.tmp 173) ?_ ?_ ?_ HR4.out.1 Tryz.sizeRsSes ?_ ?_ ?_ ?_); (with_reducible rfl); (with_reducible rfl); rfl; rfl; rfl; rfl; rfl)
                           | ((with_reducible show bodyPost _ _ _ _ _ _); exact bodyPost_ret (ret_struct3 rfl rfl (HR4.out.1.row _) Tryz.underlying107 rfl Tryz.sizeRsSes rfl) rfl HR4.out.2))
                        | true =>
                          cases bv with
                          | false =>
                            have HS := Lib.hid (HSM.out.1 (.inl (by rw [← HVD.out.1]; exact HBV.out)))
                            have HR4 : Hid (Whole (wr) N 107 zSes ∧ ParseO w (tx s) (.returned (.tuple #[.agg zSes, .int .i64 ((i : Int) + 1), .int .i64 2])) ((wr).setRow N zSes)) := Lib.hid (HBAD.out 2 (Or.inl rfl) (HS.out) _ (HK.out.below))
                            clear HK HSM
                            go_wp2_with (first
                             | (go_at_call 100; (with_reducible refine (HV.out _).mono ?_); rintro e w' ⟨rfl, rfl⟩)
                             | ((with_reducible refine wpList_buildG ?_ 107 #[] ?_ (us := []) ?_ Tryz.rbuilt0 ?_); (with_reducible rfl); (with_reducible rfl); rfl)
                             | ((with_reducible refine wpList_storeS #[.string ⟨#[]⟩, .string ⟨#[]⟩, .string ⟨#[]⟩, .slice none 0 0, .slice none 0 0] ?_ 107 (.tmp 2) (.tmp 173) ?_ ?_ ?_ HR4.out.1 Tryz.sizeRsSes ?_ ?_ ?_ ?_); (with_reducible rfl); (with_reducible rfl); rfl; rfl; rfl; rfl; rfl)
                             | ((with_reducible show bodyPost _ _ _ _ _ _); exact bodyPost_ret (ret_struct3 rfl rfl (HR4.out.1.row _) Tryz.underlying107 rfl Tryz.sizeRsSes rfl) rfl HR4.out.2))
                          | true =>
                            have hs : stepP st (i + 1) (tx a) = .go (st.conn (tx v)) := by rw [HSM.out.2 (by rw [← HVD.out.1]; exact HBV.out) HBB.out, HVD.out.1]
                            have hcur : ∃ p, st.cur = some p := by
                             have := HBB.out
                             unfold PSt.bare at this
                             cases hq : st.cur with
                             | none => rw [hq] at this; cases this
                             | some p => exact ⟨p, rfl⟩
                            obtain ⟨p, hcur⟩ := hcur
                            obtain ⟨gp, hgp1, hgp2, hgp3⟩ := HK.out.pv.last p hcur
                            obtain ⟨g', c', hgv, hgp4, hgp5, hgp6, _, _, hgc, hgf⟩ := HK.out.pv.par.at_ (HK.out.pv.last_row hcur)
                            rw [hgp1] at hgp4
                            obtain rfl := Option.some.inj hgp4
                            have hcn := HK.out.pv.conn TR.ok hcur hgp3 v
                            have hlen : (rowsP st cur us).length = st.done.length + 1 := by rw [rowsP_len HK.out.pv.hus, hcur]
                            rw [hlen] at hgv
                            have c1 := hgc 1 (by omega)
                            have f1 := hgf (st.done.length * 3 + 1)
                            have c4 := HK.out.pv.box.cell 4
                            rw [hgv] at c4
                            have hd8 : st.done.length ≤ 8 := by have := HK.out.ok.parts; unfold PSt.parts at this; rw [List.length_append] at this; omega
                            have HFIN := Lib.hid (HK.out.next HA.out hs hcn (HK.out.below.setCell (p := ⟨gp, st.done.length * 3 + 1, none⟩) hgp5 _))
                            generalize st.done.length = d at *
                            have c1 : wr.cell? ⟨gp, d * 3 + 1, none⟩ = some (.string p.conn) := c1
                            have c4 : wr.cell? ⟨N1, 4, none⟩ = some (.slice (some ⟨gp, 0, none⟩) (d + 1) c') := c4
                            have HBC := Lib.hid (bare_conn (st := st) HBV.out)
                            have hd1 : IntKind.i64.wrap (((d : Int) + 1) - 1) = (d : Int) := by rw [IntWalk.i64_in _ (by omega)]; omega
                            clear hs hcur hgp1 hgp2 hgp3 hgp4 hgp5 hgp6 hgc hgf hcn HSM hgv hlen HK HBAD
                            go_wp2_with (first
                             | (go_at_call 100; (with_reducible refine (HV.out _).mono ?_); rintro e w' ⟨rfl, rfl⟩))
                            go_roundw
                            case rel => exact ⟨st.conn (tx v), i + 1, q, _, _, vA, _, us, by rw [if_neg (by omega)], by rw [HBC.out], by go_num, HFIN.out⟩
                            case measure => simp [intOf]; omega
                      · have q2 : ((c0.toNat : Int) == 99) = false := u8_eq (n := 99) (by omega) hc
                        have HS := Lib.hid (step_no (st := st) h5 (by rw [HT2.out]; intro e; simp at e; exact HNM.out e) (by rw [HT2.out]; intro e; simp at e; exact hc e) (by rw [HT2.out]; intro e; simp at e; exact HNA.out e))
                        clear hc
                        have HR4 : Hid (Whole (wr) N 107 zSes ∧ ParseO w (tx s) (.returned (.tuple #[.agg zSes, .int .i64 ((i : Int) + 1), .int .i64 2])) ((wr).setRow N zSes)) := Lib.hid (HBAD.out 2 (Or.inl rfl) (HS.out) _ (HK.out.below))
                        clear HK
                        go_wp2_with (first
                         | ((with_reducible refine wpList_buildG ?_ 107 #[] ?_ (us := []) ?_ Tryz.rbuilt0 ?_); (with_reducible rfl); (with_reducible rfl); rfl)
                         | ((with_reducible refine wpList_storeS #[.string ⟨#[]⟩, .string ⟨#[]⟩, .string ⟨#[]⟩, .slice none 0 0, .slice none 0 0] ?_ 107 (.tmp 2) (.tmp 173) ?_ ?_ ?_ HR4.out.1 Tryz.sizeRsSes ?_ ?_ ?_ ?_); (with_reducible rfl); (with_reducible rfl); rfl; rfl; rfl; rfl; rfl)
                         | ((with_reducible show bodyPost _ _ _ _ _ _); exact bodyPost_ret (ret_struct3 rfl rfl (HR4.out.1.row _) Tryz.underlying107 rfl Tryz.sizeRsSes rfl) rfl HR4.out.2))
        · have HS := Lib.hid (step_odd (st := st) (k := i + 1) h2n h61)
          have hq : (((a[1]).toNat : Int) == 61) = false := u8_eq (n := 61) (by omega) h61
          clear h61
          have HR4 : Hid (Whole (wr) N 107 zSes ∧ ParseO w (tx s) (.returned (.tuple #[.agg zSes, .int .i64 ((i : Int) + 1), .int .i64 2])) ((wr).setRow N zSes)) := Lib.hid (HBAD.out 2 (Or.inl rfl) (HS.out) _ (HK.out.below))
          clear HK HS
          go_wp2_with (first
           | ((with_reducible refine wpList_buildG ?_ 107 #[] ?_ (us := []) ?_ Tryz.rbuilt0 ?_); (with_reducible rfl); (with_reducible rfl); rfl)
           | ((with_reducible refine wpList_storeS #[.string ⟨#[]⟩, .string ⟨#[]⟩, .string ⟨#[]⟩, .slice none 0 0, .slice none 0 0] ?_ 107 (.tmp 2) (.tmp 173) ?_ ?_ ?_ HR4.out.1 Tryz.sizeRsSes ?_ ?_ ?_ ?_); (with_reducible rfl); (with_reducible rfl); rfl; rfl; rfl; rfl; rfl)
           | ((with_reducible show bodyPost _ _ _ _ _ _); exact bodyPost_ret (ret_struct3 rfl rfl (HR4.out.1.row _) Tryz.underlying107 rfl Tryz.sizeRsSes rfl) rfl HR4.out.2))
    · obtain rfl : i = lv := by omega
      have HLV := Lib.hid (show i = ss.length from HVL.out)
      have HFB : Hid (Whole wr N 107 zSes ∧ Below N w wr ∧ N1 ≠ N) := Lib.hid ⟨HRW.out.res.below HK.out.below HRW.out.lt, HRW.out.below.trans (HK.out.below.mono (Nat.le_of_lt HRW.out.lt)), by have := HRW.out.lt; omega⟩
      have HSZT : Hid ((tx s).length ≤ 8192) := Lib.hid (by rw [tx_length]; exact HSZ.out)
      have hge : ¬ (i : Int) < (i : Int) := by omega
      have HFL := Lib.hid HRW.out.flag
      obtain ⟨pq, hpq⟩ : ∃ pq, (if i ≤ 3 then none else some q) = pq := ⟨_, rfl⟩
      rw [hpq]
      clear hpq hlt
      cases b with
      | true =>
        have HR4 : Hid (Whole wr N 107 zSes ∧ ParseO w (tx s) (.returned (.tuple #[.agg zSes, .int .i64 ((i : Int) + 1), .int .i64 2])) (wr.setRow N zSes)) := Lib.hid ⟨HFB.out.1, HK.out.torn HLV.out HSZT.out (.inl (HFL.out.1 rfl)) HN.out (below_row HFB.out.2.1 (Nat.le_refl _) _)⟩
        clear HK HFB
        go_wp2_with (first
         | ((with_reducible refine wpList_buildG ?_ 107 #[] ?_ (us := []) ?_ Tryz.rbuilt0 ?_); (with_reducible rfl); (with_reducible rfl); rfl)
         | ((with_reducible refine wpList_storeS #[.string ⟨#[]⟩, .string ⟨#[]⟩, .string ⟨#[]⟩, .slice none 0 0, .slice none 0 0] ?_ 107 (.tmp 2) (.tmp 184) ?_ ?_ ?_ HR4.out.1 Tryz.sizeRsSes ?_ ?_ ?_ ?_); (with_reducible rfl); (with_reducible rfl); rfl; rfl; rfl; rfl; rfl)
         | ((with_reducible show bodyPost _ _ _ _ _ _); exact bodyPost_ret (ret_struct3 rfl rfl (HR4.out.1.row _) Tryz.underlying107 rfl Tryz.sizeRsSes rfl) rfl HR4.out.2))
      | false =>
        have HRM : Hid (rem = []) := Lib.hid (Classical.byContradiction fun h => by have := HFL.out.2 h; cases this)
        by_cases hi4 : i < 4
        · have hi4' : (i : Int) < 4 := by omega
          have HR4 : Hid (Whole wr N 107 zSes ∧ ParseO w (tx s) (.returned (.tuple #[.agg zSes, .int .i64 ((i : Int) + 1), .int .i64 2])) (wr.setRow N zSes)) := Lib.hid ⟨HFB.out.1, HK.out.torn HLV.out HSZT.out (.inr hi4) HN.out (below_row HFB.out.2.1 (Nat.le_refl _) _)⟩
          clear HK HFB hi4
          go_wp2_with (first
           | ((with_reducible refine wpList_buildG ?_ 107 #[] ?_ (us := []) ?_ Tryz.rbuilt0 ?_); (with_reducible rfl); (with_reducible rfl); rfl)
           | ((with_reducible refine wpList_storeS #[.string ⟨#[]⟩, .string ⟨#[]⟩, .string ⟨#[]⟩, .slice none 0 0, .slice none 0 0] ?_ 107 (.tmp 2) (.tmp 184) ?_ ?_ ?_ HR4.out.1 Tryz.sizeRsSes ?_ ?_ ?_ ?_); (with_reducible rfl); (with_reducible rfl); rfl; rfl; rfl; rfl; rfl)
           | ((with_reducible show bodyPost _ _ _ _ _ _); exact bodyPost_ret (ret_struct3 rfl rfl (HR4.out.1.row _) Tryz.underlying107 rfl Tryz.sizeRsSes rfl) rfl HR4.out.2))
        · have hi4' : (4 : Int) ≤ (i : Int) := by omega
          have HR4 : Hid (Whole wr N 107 zSes ∧ ParseO w (tx s) (.returned (.tuple #[.agg #[.string st.o, .string st.n, .string st.t, vA, vP], .int .i64 0, .int .i64 0])) (wr.setRow N #[.string st.o, .string st.n, .string st.t, vA, vP])) := Lib.hid ⟨HFB.out.1, HK.out.all TR.ok HLV.out HSZT.out HRM.out (by omega) HN.out HFB.out.1 HFB.out.2.2 HFB.out.2.1⟩
          have HBX := Lib.hid (And.intro HK.out.pv.box (oneA HK.out.pv))
          clear HK HFB hi4
          go_wp2_with (first
           | ((with_reducible refine wpList_load_all ?_ 107 (.tmp 7) ?_ HBX.out.1 ?_ Tryz.sizeRsSes ?_ Tryz.underlying107 ?_ ?_); (with_reducible rfl); (with_reducible rfl); rfl; rfl; rfl)
           | ((with_reducible refine wpList_storeS #[.string st.o, .string st.n, .string st.t, vA, vP] ?_ 107 (.tmp 2) (.tmp 188) ?_ ?_ ?_ HR4.out.1 Tryz.sizeRsSes ?_ ?_ HBX.out.2 ?_); (with_reducible rfl); (with_reducible rfl); rfl; rfl; rfl; rfl)
           | ((with_reducible show bodyPost _ _ _ _ _ _); exact bodyPost_ret (ret_struct3 rfl rfl (HR4.out.1.row _) Tryz.underlying107 rfl Tryz.sizeRsSes rfl) rfl HR4.out.2))
end Go.Proofs.YtbbedhecfipdjaaGreatDoor
