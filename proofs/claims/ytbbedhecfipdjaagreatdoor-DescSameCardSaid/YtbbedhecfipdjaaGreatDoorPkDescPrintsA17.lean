import Derived.Test.YtbbedhecfipdjaaGreatDoorPkDescPrintsA16
import Derived.Test.YtbbedhecfipdjaaGreatDoorPkDescPrintsA05
import Derived.Test.YtbbedhecfipdjaaGreatDoorPkDescPrintsA14
import Derived.Test.YtbbedhecfipdjaaGreatDoorPkDescPrintsA15
import Derived.Test.YtbbedhecfipdjaaGreatDoorPkDescPrintsA03
import Derived.Test.YtbbedhecfipdjaaGreatDoorPkDescPrintsA10
namespace Go.Proofs.YtbbedhecfipdjaaGreatDoor
open Go.RowKit
set_option linter.unusedVariables false
set_option linter.unusedSimpArgs false
structure CK (T : Ty3) (base go : Nat) (x : SesS) (k : Nat) (vA vP : Value) (us : List Value) (w : World) : Prop where
 own : base ≤ go
 box : Whole w go T.s #[.string x.origin, .string x.name, .string x.time, vA, vP]
 att : Own w base T.a 2 vA (x.attrs.map acell)
 par : Own w base T.p 3 vP (List.zipWith pcell (x.parts.take k) us)
 hus : us.length = k
 le : k ≤ x.parts.length
 each : ∀ (i : Nat) (u : Value) (p : PartS), us[i]? = some u → x.parts[i]? = some p → Own w base T.a 2 u (p.attrs.map acell)
section
variable {T : Ty3} {base go : Nat} {x : SesS} {k : Nat} {vA vP : Value} {us : List Value} {w w' : World}
theorem CK.under (h : CK T base go x k vA vP us w) (hb : Below w.heap.size w w') : CK T base go x k vA vP us w' :=
 ⟨h.own, h.box.under hb, h.att.under hb, h.par.under hb, h.hus, h.le, fun i u p hu hp => (h.each i u p hu hp).under hb⟩
theorem CK.len (h : CK T base go x k vA vP us w) : (List.zipWith pcell (x.parts.take k) us).length = k := by
 have := h.hus
 have := h.le
 simp
 omega
theorem CK.drew (h : CK T base go x k vA vP us w) : CK T base go x k vA vP us w.drew := h.under (below_drewN' (Below.refl _ w) 1)
theorem CK.start (hT : T.Ok) (hgo : base ≤ go) (hb : Whole w go T.s #[.string x.origin, .string x.name, .string x.time, vA, .slice none 0 0]) (ha : Own w base T.a 2 vA (x.attrs.map acell)) : CK T base go x 0 vA (.slice none 0 0) [] w :=
 ⟨hgo, hb, ha, by simpa using Own.nil w base T.p 3, rfl, Nat.zero_le _, fun i u p hu _ => by simp at hu⟩
theorem CK.next (h : CK T base go x k vA vP us w) (hT : T.Ok) {p : PartS} (hp : x.parts[k]? = some p) {v : Value} (hv : Own w base T.a 2 v (p.attrs.map acell)) {vP' : Value} {w8 : World}
 (ho : Own w8 base T.p 3 vP' (List.zipWith pcell (x.parts.take k) us ++ [pcell p v])) (hg : w.grownBy w8 vP.ownBlock) (hone : vP'.oneCell' = true) :
 CK T base go x (k + 1) vA vP' (us ++ [v]) (w8.setCell ⟨go, 4, none⟩ vP') := by
 have hbox8 := h.box.grown hg (fun e => (h.par.apart h.box hT.1.symm) e.symm)
 have hset := hbox8.set 4 vP'
 have hfar : ∀ {u : Value} {L : List AttrS}, Own w base T.a 2 u (L.map acell) → Own (w8.setCell ⟨go, 4, none⟩ vP') base T.a 2 u (L.map acell) := fun hu => by
  have h8 := hu.grown hg (hu.apart2 h.par hT.2.2.symm)
  exact h8.far (p := ⟨go, 4, none⟩) (h8.apart hbox8 hT.2.1.symm) _
 refine ⟨h.own, hset, hfar h.att, ?_, by simp [h.hus], (List.getElem?_eq_some_iff.1 hp).1, fun i u q hu hq => ?_⟩
 · have e : List.zipWith pcell (x.parts.take (k + 1)) (us ++ [v]) = List.zipWith pcell (x.parts.take k) us ++ [pcell p v] := by
    rw [List.take_add_one, hp]
    have hlt := (List.getElem?_eq_some_iff.1 hp).1
    rw [List.zipWith_append (by rw [h.hus, List.length_take]; omega)]
    rfl
   rw [e]
   exact ho.far (p := ⟨go, 4, none⟩) (ho.apart hbox8 hT.1.symm) _
 · rw [List.getElem?_append] at hu
   split at hu
   · exact hfar (h.each i u q hu hq)
   · next hn =>
     have hi : i = k := by
      have hl := (List.getElem?_eq_some_iff.1 hu).1
      rw [h.hus] at hl hn
      simp at hl
      omega
     subst hi
     rw [h.hus, Nat.sub_self] at hu
     obtain rfl : v = u := by simpa using hu
     obtain rfl : p = q := by rw [hp] at hq; exact Option.some.inj hq
     exact hfar hv
theorem CK.farRow (h : CK T base go x k vA vP us w) (hT : T.Ok) {g : Nat} {cs0 : Array Value} (hg : Whole w g T.s cs0) (hne : go ≠ g) (cs : Array Value) : CK T base go x k vA vP us (w.setRow g cs) :=
 ⟨h.own, h.box.farRow hne cs, h.att.farRow (h.att.apart hg hT.2.1.symm) cs, h.par.farRow (h.par.apart hg hT.1.symm) cs, h.hus, h.le, fun i u p hu hp => (h.each i u p hu hp).farRow ((h.each i u p hu hp).apart hg hT.2.1.symm) cs⟩
theorem CK.read (h : CK T base go x k vA vP us w) (hk : k = x.parts.length) : AttrsV w w.heap.size vA x.attrs ∧ PartsV w w.heap.size vP x.parts := by
 refine ⟨h.att.reads (Nat.le_refl _), ?_⟩
 have hpar := h.par
 have hus := h.hus
 have hle : x.parts.take k = x.parts := List.take_of_length_le (by omega)
 rw [hle] at hpar
 refine hpar.rows (Nat.le_refl _) (by simp; omega) fun i r p f hr hp hf => ?_
 have hi := (List.getElem?_eq_some_iff.1 hp).1
 have hu := List.getElem?_eq_getElem (l := us) (i := i) (by omega)
 rw [List.getElem?_zipWith, hp, hu] at hr
 obtain rfl : pcell p us[i] = r := by simpa using hr
 exact ⟨hf 0 (by decide), hf 1 (by decide), us[i], hf 2 (by decide), (h.each i _ p hu hp).reads (Nat.le_refl _)⟩
end
theorem PrD.none {d : DescS} (h : ¬ TextD d) : PrD d ⟨#[]⟩ 1 := .inr ⟨h, rfl, rfl⟩
theorem PrD.of {d : DescS} {t : ByteArray} {er : Int} (hg : goodD d = true) (hm : ∀ m ∈ d.media, mayM m = true) (h : PrO (sesD d) t er) : PrD d t er := by
 rcases h with ⟨h1, h2, h3⟩ | ⟨h1, h2, h3⟩
 · exact .inl ⟨⟨hg, hm, h1⟩, h2, h3⟩
 · exact .inr ⟨fun h => h1 h.2.2, h2, h3⟩
theorem part_step {W w8 w : World} {N go k : Nat} {d : DescS} {vA vP v8 v : Value} {us : List Value} {p : PartS} {D : Array Value} (h : CK TS N go (sesD d) k vA vP us W) (hp : (sesD d).parts[k]? = some p) (hv : Own W N 53 2 v (p.attrs.map acell))
 (ho : Own w8 N 38 3 v8 (List.zipWith pcell ((sesD d).parts.take k) us ++ [[.string p.line, .string p.conn, v]])) (hg : W.grownBy w8 vP.ownBlock) (hb : Below N w W) (hD : Whole W N 62 D) (hN : N ≤ W.heap.size) (hgo : N < go) :
 Whole w8 go 113 #[.string (sesD d).origin, .string (sesD d).name, .string (sesD d).time, vA, vP] ∧ ∀ u, u = v8 → CK TS N go (sesD d) (k + 1) vA u (us ++ [v]) (w8.setCell ⟨go, 4, none⟩ u) ∧ Below N w (w8.setCell ⟨go, 4, none⟩ u) ∧ Whole (w8.setCell ⟨go, 4, none⟩ u) N 62 D := by
 refine ⟨h.box.grown hg (fun e => (h.par.apart h.box TS.ok.1.symm) e.symm), fun u hu => ?_⟩
 subst hu
 exact ⟨h.next TS.ok hp hv ho hg ho.one, (hb.grown hg hN (fun j hj => (h.par.lt hj).1)).setCell (p := ⟨go, 4, none⟩) (Nat.le_of_lt hgo) _, (hD.grown hg (fun e => (h.par.apart hD (by decide)) e.symm)).far (p := ⟨go, 4, none⟩) (Nat.ne_of_lt hgo) _⟩
set_option maxHeartbeats 6400000 in
set_option maxRecDepth 100000 in
theorem dePrint_any (D : Array Value) (d : DescS) (vB vM : Value) (w : World) (h : DescV w w.heap.size D d vB vM) (hz : SizD d) (hE : Env w) (h7 : 7 ≤ w.heap.size) :
 Calls Tryz.prog 29 #[.agg D] w (PrintDO w d) := by
 obtain ⟨AB, cB, hvB, -⟩ := Rows.form h.bundle
 obtain ⟨AM, cM, hvM, hcM, hmM, -⟩ := Rows.form h.media
 have HD : Hid (∀ W, Below w.heap.size w W → DescV W W.heap.size D d vB vM) := Lib.hid fun W hW => h.under hW
 have HMV := Lib.hid h.media
 have hsz6 : D.size = 6 := by rw [h.form]; rfl
 have hb0 : Below w.heap.size w (w.alloc (.cells D 62)) := (Below.refl _ w).alloc (Nat.le_refl _) _
 have H0 := Lib.hid (And.intro hb0 (Whole.new w 62 D))
 have HGD : Hid (∀ W, Below w.heap.size w W → Calls Tryz.prog 30 #[.agg D] W fun e w' => e = .returned (.bool (goodD d)) ∧ Below W.heap.size W w') := Lib.hid fun W hW => deGood_any D d vB vM W (HD.out W hW) hz
 have HHD : Hid (goodD d = true → ∀ W, Below w.heap.size w W → Calls Tryz.prog 59 #[.agg D] W (DHeadO W d)) := Lib.hid fun hg W hW => by
  have hB := goodD_few hg
  have hbs : ∀ b ∈ d.bundle, b.size ≤ 16 := fun b hb => by
   have := (wordP_len (goodD_bundle hg b hb)).2
   rwa [tx_length] at this
  have hfl := bundle_fl hbs
  have h8 : d.bundle.length * (16 + 1) ≤ 8 * (16 + 1) := Nat.mul_le_mul_right _ hB
  exact head_any D d vB vM W (HD.out W hW) (hE.under hW) hz.ids.1 hz.ids.2 (by omega) (by omega)
 have HWR : Hid (∀ (W : World) (M : Array Value) (m : MediaS) (C E R S Y : Value), Below w.heap.size w W → MediaV w w.heap.size M m C E R S Y → SizM m → Calls Tryz.prog 16 #[.agg M] W (WriteO 53 W m)) := Lib.hid fun W M m C E R S Y hW hM hs => write_any M m C E R S Y W (hM.under hW) hs (hE.under hW) (Nat.le_trans h7 hW.size)
 have HZ := Lib.hid hz
 have HNB : Hid (w.heap.size ≤ (w.alloc (.cells D 62)).heap.size) := Lib.hid hb0.size
 have HXC : Hid (D[0]? = some (.int .u64 d.id) ∧ D[5]? = some vM) := Lib.hid (by rw [h.form]; exact ⟨rfl, rfl⟩)
 obtain ⟨n, hn⟩ : ∃ n, d.media.length = n := ⟨_, rfl⟩
 have HNL := Lib.hid hn
 rw [hn] at hvM hcM
 subst hvM
 unfold maxLen at hmM
 have HW0 : Hid (Whole (w.alloc (.cells D 62)) w.heap.size 62 D) := Lib.hid H0.out.2
 obtain ⟨N, hN⟩ : ∃ N, w.heap.size = N := ⟨_, rfl⟩
 have HN := Lib.hid hN
 have HNN : Hid (N ≤ w.heap.size) := Lib.hid (by omega)
 rw [hN] at H0 HNB HW0
 clear h hz hE h7 hb0 hn hvB hN
 cases hg : goodD d with
 | false =>
   have HNO : Hid (PrD d ⟨#[]⟩ 1) := Lib.hid (PrD.none fun h => by have := h.1; rw [hg] at this; cases this)
   rw [hg] at HGD
   clear hg
   go_enter Tryz.func29, Tryz.ntmps29
   go_upto_region 1 with fail
   simp only [HN.out]
   generalize w.alloc (.cells D 62) = w0 at *
   go_wp2_with (first
    | ((with_reducible refine wpList_load_all ?_ 62 (.tmp 1) ?_ HW0.out ?_ Tryz.sizeDesc ?_ Tryz.underlying62 ?_ ?_); (with_reducible rfl); (with_reducible rfl); rfl; exact hsz6; rfl)
    | (go_at_call 30; (with_reducible refine (HGD.out _ (by rw [HN.out]; exact H0.out.1)).mono ?_); rintro e w1 ⟨rfl, hb1⟩; have H1 := Lib.hid hb1; clear hb1; dsimp only))
   go_ret2
   exact ⟨_, _, rfl, HNO.out, by rw [HN.out]; exact below_chain HNN.out H0.out.1 H1.out⟩
 | true =>
   have HGT := Lib.hid hg
   have HHE : Hid (∀ W, Below N w W → Calls Tryz.prog 59 #[.agg D] W (DHeadO W d)) := Lib.hid fun W hW => HHD.out hg W (by rw [HN.out]; exact hW)
   rw [hg] at HGD
   clear hg HHD
   go_enter Tryz.func29, Tryz.ntmps29
   go_upto_region 1 with fail
   simp only [HN.out]
   generalize w.alloc (.cells D 62) = w0 at *
   go_upto_if 11 with (first
    | ((with_reducible refine wpList_load_all ?_ 62 (.tmp 1) ?_ HW0.out ?_ Tryz.sizeDesc ?_ Tryz.underlying62 ?_ ?_); (with_reducible rfl); (with_reducible rfl); rfl; exact hsz6; rfl)
    | (go_at_call 30; (with_reducible refine (HGD.out _ (by rw [HN.out]; exact H0.out.1)).mono ?_); rintro e w1 ⟨rfl, hb1⟩; have H1 : Hid (Below N w w1 ∧ Whole w1 N 62 D) := Lib.hid ⟨below_chain HNN.out H0.out.1 hb1, HW0.out.under hb1⟩; clear hb1; dsimp only))
   go_upto_region 4 with (first
    | ((with_reducible refine wpList_load_all ?_ 62 (.tmp 1) ?_ H1.out.2 ?_ Tryz.sizeDesc ?_ Tryz.underlying62 ?_ ?_); (with_reducible rfl); (with_reducible rfl); rfl; exact hsz6; rfl)
    | (go_at_call 59; (with_reducible refine (HHE.out _ H1.out.1).mono ?_); rintro e w2 ⟨vA, rfl, ha, hb2⟩; obtain ⟨AA, cA, hvA, -⟩ := Own.form ha; generalize ((headA d).map acell).length = lA at hvA; subst hvA; have H2 : Hid (Below N w w2 ∧ Whole w2 N 62 D ∧ AtO w2 N (.slice AA lA cA) (headA d) ∧ N ≤ w2.heap.size) := Lib.hid ⟨below_chain HNN.out H1.out.1 hb2, H1.out.2.under hb2, Own.base_le ha (Nat.le_of_lt H1.out.2.lt), Nat.le_trans (Nat.le_of_lt H1.out.2.lt) hb2.size⟩; clear ha hb2; dsimp only)
    | ((with_reducible refine wpList_storeS #[.string (bs (originT d.id d.ver)), .string (bs [45]), .string (bs [48, 32, 48]), .slice AA lA cA, .slice none 0 0] ?_ 113 (.tmp 4) (.tmp 13) ?_ ?_ ?_ (Whole.new _ _ _) Tryz.sizeSSes ?_ ?_ ?_ ?_); (with_reducible rfl); (with_reducible rfl); rfl; rfl; rfl; rfl; rfl))
   have H3 : Hid (CK TS N w2.heap.size (sesD d) 0 (.slice AA lA cA) (.slice none 0 0) [] ((w2.alloc (.cells #[.string ⟨#[]⟩, .string ⟨#[]⟩, .string ⟨#[]⟩, .slice none 0 0, .slice none 0 0] 113)).setRow w2.heap.size #[.string (bs (originT d.id d.ver)), .string (bs [45]), .string (bs [48, 32, 48]), .slice AA lA cA, .slice none 0 0]) ∧ Below N w ((w2.alloc (.cells #[.string ⟨#[]⟩, .string ⟨#[]⟩, .string ⟨#[]⟩, .slice none 0 0, .slice none 0 0] 113)).setRow w2.heap.size #[.string (bs (originT d.id d.ver)), .string (bs [45]), .string (bs [48, 32, 48]), .slice AA lA cA, .slice none 0 0]) ∧ Whole ((w2.alloc (.cells #[.string ⟨#[]⟩, .string ⟨#[]⟩, .string ⟨#[]⟩, .slice none 0 0, .slice none 0 0] 113)).setRow w2.heap.size #[.string (bs (originT d.id d.ver)), .string (bs [45]), .string (bs [48, 32, 48]), .slice AA lA cA, .slice none 0 0]) N 62 D) := Lib.hid (by
    have hnw := Whole.new w2 113 #[.string ⟨#[]⟩, .string ⟨#[]⟩, .string ⟨#[]⟩, .slice none 0 0, .slice none 0 0]
    have hal := Own.alloc H2.out.2.2.1 (.cells #[.string ⟨#[]⟩, .string ⟨#[]⟩, .string ⟨#[]⟩, .slice none 0 0, .slice none 0 0] 113)
    refine ⟨CK.start TS.ok H2.out.2.2.2 (hnw.row _) (Own.farRow hal (Own.apart hal hnw (by decide)) _), below_row (H2.out.1.alloc H2.out.2.2.2 _) H2.out.2.2.2 _, (H2.out.2.1.alloc _).farRow (Nat.ne_of_lt H2.out.2.1.lt) _⟩)
   generalize (w2.alloc (.cells #[.string ⟨#[]⟩, .string ⟨#[]⟩, .string ⟨#[]⟩, .slice none 0 0, .slice none 0 0] 113)).setRow w2.heap.size #[.string (bs (originT d.id d.ver)), .string (bs [45]), .string (bs [48, 32, 48]), .slice AA lA cA, .slice none 0 0] = w3 at *
   have HGO : Hid (N < w2.heap.size) := Lib.hid H2.out.2.1.lt
   generalize w2.heap.size = go at *
   have c5 : w3.cell? ⟨N, 5, none⟩ = some (.slice AM n cM) := (H3.out.2.2.cell 5).trans HXC.out.2
   clear H1 H2
   go_wp2
   clear c5
   go_loopw [17] (fun s17 wr => ∃ (k : Nat) (vP : Value) (us : List Value), k ≤ n ∧ s17 = .int .i64 k ∧ CK TS N go (sesD d) k (.slice AA lA cA) vP us wr ∧ Below N w wr ∧ Whole wr N 62 D ∧ ∀ m ∈ d.media.take k, mayM m = true) (fun s17 _ => n - (intOf s17).toNat)
   case atStart => exact ⟨0, _, _, Nat.zero_le _, rfl, H3.out.1, H3.out.2.1, H3.out.2.2, fun m hm => (by simp at hm)⟩
   case round =>
    obtain ⟨k, vP, us, hk, rfl, hck, hbl, hwh, hall⟩ := hrel
    have HK := Lib.hid (And.intro hck (And.intro hbl (And.intro hwh hall)))
    clear hck hbl hwh hall H3
    by_cases hlt : k < n
    · obtain ⟨ad, c1', X, vC, vE, vR, vS, vY, e1, b1, hx, xs⟩ := MediasV.at_ HMV.out (i := k) (by rw [HNL.out]; exact hlt)
      injection e1 with e1 e1n e1c
      clear e1n e1c
      subst e1
      have gm := getD_of (L := d.media) (i := k) (by rw [HNL.out]; exact hlt)
      obtain ⟨m, hm⟩ : ∃ m, d.media.getD k default = m := ⟨_, rfl⟩
      rw [hm] at hx gm
      have HGM := Lib.hid gm
      have hk0 : (0 : Int) ≤ (k : Int) := by omega
      have hk1 : (k : Int) < (n : Int) := by omega
      have HLD : Hid (∀ (ops : Array Oper) (rest : List Oper) (op : Oper) (act : Act) (Q : Exit → Act → World → Prop), op.guard = none → op.op = .load 28 (.tmp 19) → act.eval (.tmp 19) = .pointer (some (ad.add (k * 11))) → wpList Tryz.prog ops Q rest (act.put op.dst (.agg X)) wr → wpList Tryz.prog ops Q (op :: rest) act wr) :=
       Lib.hid fun ops rest op act Q h1 h2 h3 h4 => wpList_load_at h1 28 (.tmp 19) h2 _ h3 X.toList _ (fun j u hu => (HK.out.2.1.cell (p := (ad.add (k * 11)).add j) (by rw [add_block, add_block, ← HN.out]; exact b1)).trans (xs j u hu)) Tryz.underlying28 rfl (by rw [Array.length_toList, hx.size]; exact Tryz.sizeMedia) (by rw [Array.toArray_toList]; exact h4)
      have HXS : Hid (X.size = 11 ∧ X.toList.all (·.oneCell') = true) := Lib.hid ⟨hx.size, hx.one⟩
      have HXV := Lib.hid hx
      have HSM : Hid (SizM m) := Lib.hid (HZ.out.media m (List.mem_of_getElem? gm))
      have HW1 : Hid (Below wr.heap.size wr ((wr.alloc (.cells #[.int .i64 0, .int .i64 0, .string ⟨#[]⟩, .int .i64 0, .slice none 0 0, .slice none 0 0, .slice none 0 0, .bool false, .slice none 0 0, .slice none 0 0, .int .i64 0] 28)).setRow wr.heap.size X) ∧ Whole ((wr.alloc (.cells #[.int .i64 0, .int .i64 0, .string ⟨#[]⟩, .int .i64 0, .slice none 0 0, .slice none 0 0, .slice none 0 0, .bool false, .slice none 0 0, .slice none 0 0, .int .i64 0] 28)).setRow wr.heap.size X) wr.heap.size 28 X) := Lib.hid ⟨below_row ((Below.refl _ wr).alloc (Nat.le_refl _) _) (Nat.le_refl _) _, (Whole.new _ _ _).row _⟩
      clear gm hm xs hx b1
      go_upto_region 7 with (first
       | ((with_reducible refine HLD.out _ _ _ _ _ ?_ ?_ ?_ ?_); (with_reducible rfl); (with_reducible rfl); rfl)
       | ((with_reducible refine wpList_storeS X ?_ 28 (.tmp 6) (.tmp 20) ?_ ?_ ?_ (Whole.new _ _ _) Tryz.sizeMedia HXS.out.1 ?_ HXS.out.2 ?_); (with_reducible rfl); (with_reducible rfl); rfl; rfl; rfl))
      clear HLD
      have H4 : Hid (CK TS N go (sesD d) k (.slice AA lA cA) vP us ((wr.alloc (.cells #[.int .i64 0, .int .i64 0, .string ⟨#[]⟩, .int .i64 0, .slice none 0 0, .slice none 0 0, .slice none 0 0, .bool false, .slice none 0 0, .slice none 0 0, .int .i64 0] 28)).setRow wr.heap.size X) ∧ Below N w ((wr.alloc (.cells #[.int .i64 0, .int .i64 0, .string ⟨#[]⟩, .int .i64 0, .slice none 0 0, .slice none 0 0, .slice none 0 0, .bool false, .slice none 0 0, .slice none 0 0, .int .i64 0] 28)).setRow wr.heap.size X) ∧ Whole ((wr.alloc (.cells #[.int .i64 0, .int .i64 0, .string ⟨#[]⟩, .int .i64 0, .slice none 0 0, .slice none 0 0, .slice none 0 0, .bool false, .slice none 0 0, .slice none 0 0, .int .i64 0] 28)).setRow wr.heap.size X) N 62 D ∧ Whole ((wr.alloc (.cells #[.int .i64 0, .int .i64 0, .string ⟨#[]⟩, .int .i64 0, .slice none 0 0, .slice none 0 0, .slice none 0 0, .bool false, .slice none 0 0, .slice none 0 0, .int .i64 0] 28)).setRow wr.heap.size X) wr.heap.size 28 X) := Lib.hid ⟨HK.out.1.under HW1.out.1, below_chain HNN.out HK.out.2.1 HW1.out.1, HK.out.2.2.1.under HW1.out.1, HW1.out.2⟩
      have HALL : Hid (∀ m ∈ d.media.take k, mayM m = true) := Lib.hid HK.out.2.2.2
      clear HW1 HK
      generalize (wr.alloc (.cells #[.int .i64 0, .int .i64 0, .string ⟨#[]⟩, .int .i64 0, .slice none 0 0, .slice none 0 0, .slice none 0 0, .bool false, .slice none 0 0, .slice none 0 0, .int .i64 0] 28)).setRow wr.heap.size X = w4 at *
      generalize wr.heap.size = g6 at *
      have HWM : Hid (Calls Tryz.prog 16 #[.agg X] w4 (WriteO 53 w4 m)) := Lib.hid (HWR.out w4 X m vC vE vR vS vY (by rw [HN.out]; exact H4.out.2.1) HXV.out HSM.out)
      by_cases hmm : mayM m = true
      · have hp : partW m = partM m := by unfold partW; rw [if_pos hmm]
        have he : errW m = 0 := by unfold errW; rw [if_pos hmm]
        have HMM := Lib.hid hmm
        have HPE := Lib.hid (And.intro hp he)
        clear hmm hp he
        obtain ⟨p, hpp⟩ : ∃ p, partM m = p := ⟨_, rfl⟩
        have HPP := Lib.hid hpp
        clear hpp
        go_upto_if 27 with (first
         | ((with_reducible refine wpList_load_all ?_ 28 (.tmp 6) ?_ H4.out.2.2.2 ?_ Tryz.sizeMedia HXS.out.1 Tryz.underlying28 rfl ?_); (with_reducible rfl); (with_reducible rfl); rfl)
         | (go_at_call 16; (with_reducible refine HWM.out.mono ?_); rintro e w5 hw5; obtain ⟨v5, rfl, ho5, hb5⟩ := hw5.part; rw [HPE.out.1, HPE.out.2, HPP.out]; rw [HPE.out.1, HPP.out] at ho5; obtain ⟨A5, c5, hv5, -⟩ := Own.form ho5; generalize (p.attrs.map acell).length = l5 at hv5; subst hv5; have H5 : Hid (CK TS N go (sesD d) k (.slice AA lA cA) vP us (w5.alloc (.cells #[.string p.line, .string p.conn, .slice A5 l5 c5] 38)) ∧ Below N w (w5.alloc (.cells #[.string p.line, .string p.conn, .slice A5 l5 c5] 38)) ∧ Whole (w5.alloc (.cells #[.string p.line, .string p.conn, .slice A5 l5 c5] 38)) N 62 D ∧ Own (w5.alloc (.cells #[.string p.line, .string p.conn, .slice A5 l5 c5] 38)) N 53 2 (.slice A5 l5 c5) (p.attrs.map acell) ∧ Whole (w5.alloc (.cells #[.string p.line, .string p.conn, .slice A5 l5 c5] 38)) w5.heap.size 38 #[.string p.line, .string p.conn, .slice A5 l5 c5]) := Lib.hid (by have hbb := hb5.alloc hb5.size (.cells #[.string p.line, .string p.conn, .slice A5 l5 c5] 38); exact ⟨H4.out.1.under hbb, below_chain HNN.out H4.out.2.1 hbb, H4.out.2.2.1.under hbb, Own.base_le (Own.alloc ho5 _) (Nat.le_of_lt H4.out.2.2.1.lt), Whole.new _ _ _⟩); clear ho5 hb5 hw5; dsimp only))
        generalize w5.alloc (.cells #[.string p.line, .string p.conn, .slice A5 l5 c5] 38) = w7 at *
        generalize w5.heap.size = g7 at *
        clear HWM H4
        have HFU : Hid ((List.zipWith pcell ((sesD d).parts.take k) us).length = k) := Lib.hid H5.out.1.len
        obtain ⟨AP, cP, hvP, -⟩ := Own.form H5.out.1.par
        rw [HFU.out] at hvP
        subst hvP
        have q4 : w7.cell? ⟨go, 4, none⟩ = some (.slice AP k cP) := H5.out.1.box.cell 4
        have p70 : w7.cell? ⟨g7, 0, none⟩ = some (.string p.line) := H5.out.2.2.2.2.cell 0
        have p71 : w7.cell? ⟨g7, 1, none⟩ = some (.string p.conn) := H5.out.2.2.2.2.cell 1
        have p72 : w7.cell? ⟨g7, 2, none⟩ = some (.slice A5 l5 c5) := H5.out.2.2.2.2.cell 2
        have HNW : Hid (N ≤ w7.heap.size) := Lib.hid (Nat.le_of_lt H5.out.2.2.1.lt)
        have HAL : Hid (CK TS N go (sesD d) k (.slice AA lA cA) (.slice AP k cP) us (w7.alloc (.cells #[.string p.line, .string p.conn, .slice A5 l5 c5] 38)) ∧ Whole (w7.alloc (.cells #[.string p.line, .string p.conn, .slice A5 l5 c5] 38)) w7.heap.size 38 #[.string p.line, .string p.conn, .slice A5 l5 c5] ∧ N ≤ (w7.alloc (.cells #[.string p.line, .string p.conn, .slice A5 l5 c5] 38)).heap.size) := Lib.hid ⟨H5.out.1.under ((Below.refl _ _).alloc (Nat.le_refl _) _), Whole.new _ _ _, by rw [World.size_alloc]; have := HNW.out; omega⟩
        have HKP : Hid ((sesD d).parts[k]? = some p) := Lib.hid (by show (d.media.map partM)[k]? = _; rw [List.getElem?_map, HGM.out, ← HPP.out]; rfl)
        have hk8 : k ≤ 1000 := by
         have := (goodD_parts HGT.out).2.2.1
         have := HNL.out
         omega
        go_upto_region 11 with (at_builtin; refine wpList_appendE (r := [.string p.line, .string p.conn, .slice A5 l5 c5]) rfl (.tmp 30) (.tmp 32) rfl Tryz.underlying111 Tryz.infoSPart rfl (Nat.zero_lt_succ _) rfl HAL.out.1.par rfl HAL.out.2.1 rfl (fun u hu => by simp at hu; rcases hu with rfl | rfl | rfl <;> rfl) (by rw [HFU.out]; omega) (by rw [HFU.out]; omega) HAL.out.2.2 ?_; intro v8 w8 ho8 hg8 hn8; have H8 := Lib.hid (part_step HAL.out.1 HKP.out (Own.alloc H5.out.2.2.2.1 _) ho8 hg8 (H5.out.2.1.alloc HNW.out _) (H5.out.2.2.1.alloc _) HAL.out.2.2 HGO.out); have x8 : w8.cell? ⟨go, 4, none⟩ = some (.slice AP k cP) := H8.out.1.cell 4; have y8 := H8.out.1.frz 4; obtain ⟨A8, c8, hv8, -⟩ := Own.form ho8; generalize (List.zipWith pcell ((sesD d).parts.take k) us ++ [[Value.string p.line, Value.string p.conn, Value.slice A5 l5 c5]]).length = l8 at hv8; subst hv8; clear ho8 hg8 hn8)
        have HFN : Hid (∀ m ∈ d.media.take (k + 1), mayM m = true) := Lib.hid fun m' hm' => by
         rw [List.take_add_one, HGM.out, List.mem_append] at hm'
         rcases hm' with hm' | hm'
         · exact HALL.out m' hm'
         · have : m' = m := by simpa using hm'
           rw [this]
           exact HMM.out
        have H9 := Lib.hid (H8.out.2 _ rfl)
        clear x8 y8 q4 p70 p71 p72 HAL H8 H5
        go_wp2
        go_roundw
        case rel => exact ⟨k + 1, _, _, by omega, by go_num, H9.out.1, H9.out.2.1, H9.out.2.2, HFN.out⟩
        case measure => simp [intOf]; omega
      · have he : errW m = 1 := by unfold errW; rw [if_neg hmm]
        have HNT : Hid (PrD d ⟨#[]⟩ 1) := Lib.hid (PrD.none fun h => hmm (h.2.1 m (List.mem_of_getElem? HGM.out)))
        have HPE := Lib.hid he
        clear hmm he
        go_wp2_with (first
         | ((with_reducible refine wpList_load_all ?_ 28 (.tmp 6) ?_ H4.out.2.2.2 ?_ Tryz.sizeMedia HXS.out.1 Tryz.underlying28 rfl ?_); (with_reducible rfl); (with_reducible rfl); rfl)
         | (go_at_call 16; (with_reducible refine HWM.out.mono ?_); rintro e w5 hw5; obtain ⟨v5, rfl, ho5, hb5⟩ := hw5.part; rw [HPE.out]; obtain ⟨A5, c5, hv5, -⟩ := Own.form ho5; generalize ((partW m).attrs.map acell).length = l5 at hv5; subst hv5; have H5 : Hid (Below N w (w5.alloc (.cells #[.string (partW m).line, .string (partW m).conn, .slice A5 l5 c5] 38))) := Lib.hid (below_chain HNN.out H4.out.2.1 (hb5.alloc hb5.size _)); clear ho5 hb5 hw5; dsimp only))
        go_ret2
        exact ⟨_, _, rfl, HNT.out, by rw [HN.out]; exact H5.out⟩
    · obtain rfl : k = n := by omega
      have HALL : Hid (∀ m ∈ d.media, mayM m = true) := Lib.hid (by
       have := HK.out.2.2.2
       rwa [List.take_of_length_le (by rw [HNL.out]; exact Nat.le_refl _)] at this)
      have HRD := Lib.hid (HK.out.1.read (by show k = (d.media.map partM).length; rw [List.length_map, HNL.out]))
      have HPT : Hid (Calls Tryz.prog 60 #[.agg #[.string (bs (originT d.id d.ver)), .string (bs [45]), .string (bs [48, 32, 48]), .slice AA lA cA, vP]] wr (PrintO wr (sesD d))) := Lib.hid (print_any _ (sesD d) _ _ wr ⟨rfl, HRD.out.1, HRD.out.2⟩ (siz_ses HGT.out HALL.out HZ.out.typed))
      have HBX : Hid (Whole wr go 113 #[.string (bs (originT d.id d.ver)), .string (bs [45]), .string (bs [48, 32, 48]), .slice AA lA cA, vP]) := Lib.hid HK.out.1.box
      go_wp2_with (first
       | ((with_reducible refine wpList_load_all ?_ 113 (.tmp 4) ?_ HBX.out ?_ Tryz.sizeSSes ?_ Tryz.underlying113 ?_ ?_); (with_reducible rfl); (with_reducible rfl); rfl; rfl; rfl)
       | (go_at_call 60; (with_reducible refine HPT.out.mono ?_); rintro e w5 ⟨t, er, rfl, hpr, hb5⟩; have H5 := Lib.hid (And.intro hpr hb5); clear hpr hb5; dsimp only))
      go_ret2
      exact ⟨_, _, rfl, PrD.of HGT.out HALL.out H5.out.1, by rw [HN.out]; exact below_chain HNN.out HK.out.2.1 H5.out.2⟩
theorem desc08 (W : World) (B : Nat) : DescV W B #[.int .u64 1, .int .u64 1, .slice none 0 0, .string ⟨#[97, 98, 99, 100]⟩, .string ⟨#[48, 49, 50, 51, 52, 53, 54, 55, 56, 57, 48, 49, 50, 51, 52, 53, 54, 55, 56, 57, 48, 49]⟩, .slice none 0 0] d08 (.slice none 0 0) (.slice none 0 0) := ⟨rfl, Rows.nil _ _ _ _, MediasV.nil _ _⟩
set_option maxHeartbeats 3200000 in
set_option maxRecDepth 100000 in
theorem awake8_any (w : World) (hE : Env w) (h7 : 7 ≤ w.heap.size) : Calls Tryz.prog 27 #[] w fun e w' => e = .returned (.bool true) ∧ Below w.heap.size w w' := by
 have hb0 : Below w.heap.size w (w.alloc (.cells #[.int .u64 1, .int .u64 1, .slice none 0 0, .string ⟨#[97, 98, 99, 100]⟩, .string ⟨#[48, 49, 50, 51, 52, 53, 54, 55, 56, 57, 48, 49, 50, 51, 52, 53, 54, 55, 56, 57, 48, 49]⟩, .slice none 0 0] 62)) := (Below.refl _ w).alloc (Nat.le_refl _) _
 have H0 := Lib.hid (And.intro hb0 (Whole.new w 62 #[.int .u64 1, .int .u64 1, .slice none 0 0, .string ⟨#[97, 98, 99, 100]⟩, .string ⟨#[48, 49, 50, 51, 52, 53, 54, 55, 56, 57, 48, 49, 50, 51, 52, 53, 54, 55, 56, 57, 48, 49]⟩, .slice none 0 0]))
 have HPR : Hid (∀ W, Below w.heap.size w W → Calls Tryz.prog 29 #[.agg #[.int .u64 1, .int .u64 1, .slice none 0 0, .string ⟨#[97, 98, 99, 100]⟩, .string ⟨#[48, 49, 50, 51, 52, 53, 54, 55, 56, 57, 48, 49, 50, 51, 52, 53, 54, 55, 56, 57, 48, 49]⟩, .slice none 0 0]] W (PrintDO W d08)) := Lib.hid fun W hW => dePrint_any _ _ _ _ W (desc08 W _) siz08 (hE.under hW) (Nat.le_trans h7 hW.size)
 have HGD : Hid (∀ W, Calls Tryz.prog 30 #[.agg #[.int .u64 1, .int .u64 1, .slice none 0 0, .string ⟨#[97, 98, 99, 100]⟩, .string ⟨#[48, 49, 50, 51, 52, 53, 54, 55, 56, 57, 48, 49, 50, 51, 52, 53, 54, 55, 56, 57, 48, 49]⟩, .slice none 0 0]] W fun e w' => e = .returned (.bool true) ∧ Below W.heap.size W w') := Lib.hid fun W => by
  have h := deGood_any _ _ _ _ W (desc08 W _) siz08
  rw [good08] at h
  exact h
 have HNN : Hid (w.heap.size ≤ w.heap.size) := Lib.hid (Nat.le_refl _)
 obtain ⟨N, hN⟩ : ∃ N, w.heap.size = N := ⟨_, rfl⟩
 have HN := Lib.hid hN
 rw [hN] at H0 HPR
 have HNW : Hid (N ≤ w.heap.size) := Lib.hid (by omega)
 clear hN hE h7 hb0 HNN
 go_enter Tryz.func27, Tryz.ntmps27
 go_upto_region 2 with fail
 simp only [HN.out]
 generalize w.alloc (.cells #[.int .u64 1, .int .u64 1, .slice none 0 0, .string ⟨#[97, 98, 99, 100]⟩, .string ⟨#[48, 49, 50, 51, 52, 53, 54, 55, 56, 57, 48, 49, 50, 51, 52, 53, 54, 55, 56, 57, 48, 49]⟩, .slice none 0 0] 62) = w0 at *
 go_upto_region 3 with (first
  | ((with_reducible refine wpList_load_all ?_ 62 (.tmp 1) ?_ H0.out.2 ?_ Tryz.sizeDesc ?_ Tryz.underlying62 ?_ ?_); (with_reducible rfl); (with_reducible rfl); rfl; rfl; rfl)
  | (go_at_call 29; (with_reducible refine (HPR.out _ H0.out.1).mono ?_); rintro e w1 ⟨t, er, rfl, hpr, hb1⟩; obtain ⟨ht, her⟩ := hpr.one (.inl ⟨text08, rfl, tx_bs _⟩); rw [lit08] at ht; have hq : (t.toList == [118, 61, 48, 13, 10, 111, 61, 45, 32, 49, 32, 49, 32, 73, 78, 32, 73, 80, 52, 32, 49, 50, 55, 46, 48, 46, 48, 46, 49, 13, 10, 115, 61, 45, 13, 10, 116, 61, 48, 32, 48, 13, 10, 97, 61, 105, 99, 101, 45, 117, 102, 114, 97, 103, 58, 97, 98, 99, 100, 13, 10, 97, 61, 105, 99, 101, 45, 112, 119, 100, 58, 48, 49, 50, 51, 52, 53, 54, 55, 56, 57, 48, 49, 50, 51, 52, 53, 54, 55, 56, 57, 48, 49, 13, 10]) = true := (by rw [toList_tx, ht, tx_bs]; rfl); have HTT := Lib.hid ht; clear ht hpr; subst her; have H1 : Hid (Below N w w1 ∧ Whole w1 N 62 #[.int .u64 1, .int .u64 1, .slice none 0 0, .string ⟨#[97, 98, 99, 100]⟩, .string ⟨#[48, 49, 50, 51, 52, 53, 54, 55, 56, 57, 48, 49, 50, 51, 52, 53, 54, 55, 56, 57, 48, 49]⟩, .slice none 0 0]) := Lib.hid ⟨below_chain HNW.out H0.out.1 hb1, H0.out.2.under hb1⟩; clear hb1; dsimp only))
 go_wp2_with (first
  | ((with_reducible refine wpList_load_allG ?_ 62 (.tmp 1) ?_ H1.out.2 ?_ Tryz.sizeDesc ?_ Tryz.underlying62 ?_ ?_); rfl; (with_reducible rfl); rfl; rfl; rfl)
  | (go_at_call 30; (with_reducible refine (HGD.out _).mono ?_); rintro e w2 ⟨rfl, hb2⟩; have H2 := Lib.hid hb2; clear hb2; dsimp only))
 go_ret
 exact ⟨rfl, by rw [HN.out]; exact below_chain HNW.out H1.out.1 H2.out⟩
theorem wpList_appendLR {ops : Array Oper} {rest : List Oper} {o : Oper} {a : Act} {w : World} {Q : Exit → Act → World → Prop} {base : Nat} {v : Value} {K L : List AttrS} {ad : Addr} {n c : Nat} (hgd : o.guard = none) (s y : Operand) (ho : o.op = .call { callee := .builtin .append, args := #[s, y], argTypes := #[30, 30] })
 (hs : a.eval s = v) (hown : Own w base 55 2 v (K.map acell)) (hy : a.eval y = .slice (some ad) n c) (hn : L.length = n) (hL : ∀ i x, L[i]? = some x → w.cell? (ad.add (i * 2)) = some (.string x.name) ∧ w.cell? (ad.add (i * 2 + 1)) = some (.string x.value)) (hk : K.length + L.length ≤ 1000000) (hbase : base ≤ w.heap.size)
 (h : ∀ v' w', Own w' base 55 2 v' ((K ++ L).map acell) → w.grownBy w' v.ownBlock → (v'.ownBlock = v.ownBlock ∨ v'.ownBlock = some w.heap.size) → wpList Tryz.prog ops Q rest (a.put o.dst v') w') : wpList Tryz.prog ops Q (o :: rest) a w := by
 obtain ⟨i0, hi0, hz0, hz1, hz2⟩ := info_parts Tryz.infoRSAttr
 have hfl : ((L.map acell).flatten).length = n * 2 := by
  rw [flatten_len (sz := 2) (fun r hr => by obtain ⟨x, _, rfl⟩ := List.mem_map.1 hr; rfl), List.length_map, hn]
 obtain ⟨v', w', hrun, h2, h3, _, h5⟩ := run_append_own_at (P := Tryz.prog) w base 30 o.type 55 i0 _ 2 32 Tryz.underlying30 hi0 hz0 hz1 hz2 rfl (by omega) v (K.map acell).length (K.map acell).flatten hown.1 ad n c (L.map acell).flatten hfl
  (fun j u hj => by
    have hjl : j < n * 2 := by rw [← hfl]; exact (List.getElem?_eq_some_iff.1 hj).1
    have hi : j / 2 < L.length := by omega
    have hx := List.getElem?_eq_getElem hi
    have hm : (L.map acell)[j / 2]? = some (acell L[j / 2]) := by rw [List.getElem?_map, hx]; rfl
    have hf := flatten_at (sz := 2) (rs := L.map acell) (fun r hr => by obtain ⟨x, _, rfl⟩ := List.mem_map.1 hr; rfl) hm (Nat.mod_lt j (by omega : 0 < 2))
    rw [show j / 2 * 2 + j % 2 = j by omega] at hf
    rw [hf] at hj
    obtain ⟨c0, c1⟩ := hL (j / 2) _ hx
    have e2 : j = j / 2 * 2 + j % 2 := by omega
    rcases (show j % 2 = 0 ∨ j % 2 = 1 by omega) with h0 | h0
    · rw [h0] at hj
      obtain rfl := Option.some.inj hj
      rw [h0, Nat.add_zero] at e2
      rw [congrArg ad.add e2]
      exact c0
    · rw [h0] at hj
      obtain rfl := Option.some.inj hj
      rw [h0] at e2
      rw [congrArg ad.add e2]
      exact c1)
  (fun u hu => by
    obtain ⟨r, hr, hur⟩ := List.mem_flatten.1 hu
    obtain ⟨x, _, rfl⟩ := List.mem_map.1 hr
    simp [acell] at hur
    rcases hur with rfl | rfl <;> rfl)
  (by unfold maxLen; rw [List.length_map]; omega) (by rw [List.length_map]; omega) hbase
 refine wpList_plain hgd fun _ hK => ?_
 unfold Oper.wp execOp
 simp only [ho, resolve, invoke, builtin, Sem.run_bind, Sem.run_pure, Result.andThen_ok, List.map_toArray, List.map_cons, List.map_nil, hs, hy, hrun]
 refine hK _ _ (h v' w' ⟨?_, fun r hr => by obtain ⟨x, _, rfl⟩ := List.mem_map.1 hr; rfl⟩ h3 h5)
 rw [List.map_append, List.flatten_append, List.length_append, List.length_map, List.length_map, hn]
 rw [List.length_map] at h2
 exact h2
set_option maxHeartbeats 6400000 in
set_option maxRecDepth 100000 in
theorem rWrite_any (M : Array Value) (m : MediaS) (vC vE vR vS vY : Value) (w : World) (h : MediaV w w.heap.size M m vC vE vR vS vY) (hz : SizM m)
 (hgood : ∀ W, Below w.heap.size w W → Calls Tryz.prog 20 #[.agg M] W fun e w' => e = .returned (.bool (goodM m)) ∧ Below W.heap.size W w')
 (hwrite : goodM m = true → ∀ W, Below w.heap.size w W → Calls Tryz.prog 37 #[.agg M] W fun e w' => ∃ s v, e = .returned (.agg #[.string s, .string connB, v]) ∧ s = bs (lineM m) ∧ AtR w' W.heap.size v (attrsM m) ∧ Below W.heap.size W w') :
 Calls Tryz.prog 15 #[.agg M] w (WriteO 55 w m) := by
 have hb0 : Below w.heap.size w ((w.alloc (.cells M 28)).alloc (.cells zPart 32)) := two_new _ _ _ _
 have hw := (Whole.new w 28 M).alloc (.cells zPart 32)
 have hr := Whole.new2 w (.cells M 28) 32 zPart
 have HSZ := Lib.hid h.size
 have H0 := Lib.hid (And.intro hb0 (And.intro hw hr))
 have HWR := Lib.hid hwrite
 clear h hz hb0 hw hr hwrite
 obtain ⟨N, hN⟩ : ∃ N, w.heap.size = N := ⟨_, rfl⟩
 have HNW : Hid (w.heap.size = N) := Lib.hid hN
 rw [hN] at H0
 clear hN
 go_enter Tryz.func15, Tryz.ntmps15
 go_upto_region 1 with fail
 simp only [HNW.out]
 generalize (w.alloc (.cells M 28)).alloc (.cells #[.string ⟨#[]⟩, .string ⟨#[]⟩, .slice none 0 0] 32) = W0 at *
 have HGO : Hid (Calls Tryz.prog 20 #[.agg M] W0 fun e w' => e = .returned (.bool (goodM m)) ∧ Below W0.heap.size W0 w') := Lib.hid (hgood W0 (by rw [HNW.out]; exact H0.out.1))
 have HST : Hid (∀ W W', Below N w W ∧ Whole W N 28 M ∧ Whole W (N + 1) 32 zPart → Below W.heap.size W W' → Below N w W' ∧ Whole W' N 28 M ∧ Whole W' (N + 1) 32 zPart) := Lib.hid fun W W' h hb => ⟨h.1.trans (hb.mono (by rw [← HNW.out]; have := h.1.size; rw [HNW.out] at this ⊢; exact this)), h.2.1.under hb, h.2.2.under hb⟩
 clear hgood
 cases hg : goodM m with
 | false =>
   have HNO := Lib.hid (mayM_no hg)
   rw [hg] at HGO
   clear hg
   go_wp2_with (first
    | ((with_reducible refine wpList_load_all ?_ 28 (.tmp 1) ?_ H0.out.2.1 ?_ Tryz.sizeMedia HSZ.out Tryz.underlying28 ?_ ?_); (with_reducible rfl); (with_reducible rfl); rfl; rfl)
    | (go_at_call 20; (with_reducible refine HGO.out.mono ?_); rintro e w1 ⟨rfl, hb1⟩; have H1 := Lib.hid (HST.out _ _ H0.out hb1); clear hb1)
    | ((with_reducible refine wpList_storeS #[.string ⟨#[]⟩, .string ⟨#[]⟩, .slice none 0 0] ?_ 32 (.tmp 2) (.tmp 8) ?_ ?_ ?_ H1.out.2.2 Tryz.sizeRsPart ?_ ?_ ?_ ?_); (with_reducible rfl); (with_reducible rfl); rfl; rfl; rfl; rfl; rfl)
    | ((with_reducible show bodyPost _ _ _ _ _ _); refine bodyPost_ret (v := .tuple #[.agg #[.string ⟨#[]⟩, .string ⟨#[]⟩, .slice none 0 0], .int .i64 1]) (ret_struct2 (p := 2) (s := 3) rfl rfl (H1.out.2.2.row _) Tryz.underlying32 rfl Tryz.sizeRsPart rfl) rfl (WriteO.no HNO.out (by rw [HNW.out]; exact below_row H1.out.1 (by omega) _))))
 | true =>
   have HG := Lib.hid hg
   have HAT : Hid (∀ W, Below N w W → Calls Tryz.prog 37 #[.agg M] W fun e w' => ∃ s v, e = .returned (.agg #[.string s, .string connB, v]) ∧ s = bs (lineM m) ∧ AtR w' W.heap.size v (attrsM m) ∧ Below W.heap.size W w') := Lib.hid fun W hW => HWR.out hg W (by rw [HNW.out]; exact hW)
   rw [hg] at HGO
   clear hg HWR
   go_upto_region 3 with (first
    | ((with_reducible refine wpList_load_all ?_ 28 (.tmp 1) ?_ H0.out.2.1 ?_ Tryz.sizeMedia HSZ.out Tryz.underlying28 ?_ ?_); (with_reducible rfl); (with_reducible rfl); rfl; rfl)
    | (go_at_call 20; (with_reducible refine HGO.out.mono ?_); rintro e w1 ⟨rfl, hb1⟩; have H1 := Lib.hid (HST.out _ _ H0.out hb1); clear hb1))
   have HAT1 := Lib.hid (HAT.out w1 H1.out.1)
   go_upto_region 4 with (first
    | ((with_reducible refine wpList_load_all ?_ 28 (.tmp 1) ?_ H1.out.2.1 ?_ Tryz.sizeMedia HSZ.out Tryz.underlying28 ?_ ?_); (with_reducible rfl); (with_reducible rfl); rfl; rfl)
    | (go_at_call 37; (with_reducible refine HAT1.out.mono ?_); rintro e w2 ⟨s2, v2, rfl, hs2, ho2, hb2⟩; have H2 := Lib.hid (HST.out _ _ H1.out hb2); have HO2 : Hid (AtR w2 N v2 (attrsM m)) := Lib.hid (Own.base_le ho2 (by have := H1.out.1.size; rw [HNW.out] at this; exact this)); have HS2 := Lib.hid hs2; clear hb2 ho2 hs2; obtain ⟨A2, c2, hv2, -⟩ := Own.form HO2.out; rw [List.length_map] at hv2; obtain ⟨n, hn⟩ : ∃ n, (attrsM m).length = n := ⟨_, rfl⟩; rw [hn] at hv2; subst hv2; have HNEW : Hid (Whole (w2.alloc (.cells zPart 32)) w2.heap.size 32 zPart) := Lib.hid (Whole.new _ _ _); dsimp only)
    | ((with_reducible refine wpList_storeS #[.string s2, .string connB, .slice A2 n c2] ?_ 32 (.tmp 4) (.tmp 10) ?_ ?_ ?_ HNEW.out Tryz.sizeRsPart ?_ ?_ ?_ ?_); (with_reducible rfl); (with_reducible rfl); rfl; rfl; rfl; rfl; rfl))
   have HBB : Hid (Below w2.heap.size w2 ((w2.alloc (.cells zPart 32)).setRow w2.heap.size #[.string s2, .string connB, .slice A2 n c2])) := Lib.hid (below_row ((Below.refl _ w2).alloc (Nat.le_refl _) _) (Nat.le_refl _) _)
   have H3 := Lib.hid (HST.out _ _ H2.out HBB.out)
   have HO3 := Lib.hid (AtR.under HO2.out HBB.out)
   have HP3 : Hid (Whole ((w2.alloc (.cells zPart 32)).setRow w2.heap.size #[.string s2, .string connB, .slice A2 n c2]) w2.heap.size 32 #[.string s2, .string connB, .slice A2 n c2]) := Lib.hid (HNEW.out.row _)
   generalize ((w2.alloc (.cells zPart 32)).setRow w2.heap.size #[.string s2, .string connB, .slice A2 n c2]) = w3 at *
   generalize w2.heap.size = pb at *
   clear HNEW HBB
   have k2 : w3.cell? ⟨pb, 2, none⟩ = some (.slice A2 n c2) := HP3.out.cell 2
   by_cases h64 : 64 < n
   · have HNO : Hid (mayM m = false) := Lib.hid (by unfold mayM; rw [HG.out, hn]; simp; omega)
     have h64 : (64 : Int) < (n : Int) := by omega
     clear hn
     go_wp2_with (first
      | ((with_reducible refine wpList_storeS #[.string ⟨#[]⟩, .string ⟨#[]⟩, .slice none 0 0] ?_ 32 (.tmp 2) (.tmp 15) ?_ ?_ ?_ H3.out.2.2 Tryz.sizeRsPart ?_ ?_ ?_ ?_); (with_reducible rfl); (with_reducible rfl); rfl; rfl; rfl; rfl; rfl)
      | ((with_reducible show bodyPost _ _ _ _ _ _); refine bodyPost_ret (v := .tuple #[.agg #[.string ⟨#[]⟩, .string ⟨#[]⟩, .slice none 0 0], .int .i64 1]) (ret_struct2 (p := 2) (s := 3) rfl rfl (H3.out.2.2.row _) Tryz.underlying32 rfl Tryz.sizeRsPart rfl) rfl (WriteO.no HNO.out (by rw [HNW.out]; exact below_row H3.out.1 (by omega) _))))
   · have HYE : Hid (mayM m = true) := Lib.hid (by unfold mayM; rw [HG.out, hn]; simp; omega)
     have h64 : (n : Int) ≤ (64 : Int) := by omega
     clear hn
     go_wp2_with (first
      | ((with_reducible refine wpList_load_all ?_ 32 (.tmp 4) ?_ HP3.out ?_ Tryz.sizeRsPart ?_ Tryz.underlying32 ?_ ?_); (with_reducible rfl); (with_reducible rfl); rfl; rfl; rfl)
      | ((with_reducible refine wpList_storeS #[.string s2, .string connB, .slice A2 n c2] ?_ 32 (.tmp 2) (.tmp 16) ?_ ?_ ?_ H3.out.2.2 Tryz.sizeRsPart ?_ ?_ ?_ ?_); (with_reducible rfl); (with_reducible rfl); rfl; rfl; rfl; rfl; rfl)
      | ((with_reducible show bodyPost _ _ _ _ _ _); refine bodyPost_ret (v := .tuple #[.agg #[.string s2, .string connB, .slice A2 n c2], .int .i64 0]) (ret_struct2 (p := 2) (s := 3) rfl rfl (H3.out.2.2.row _) Tryz.underlying32 rfl Tryz.sizeRsPart rfl) rfl (WriteO.yes HYE.out (by rw [HNW.out]; exact below_row H3.out.1 (by omega) _) HS2.out (by rw [HNW.out]; exact Own.farRow HO3.out (Own.apart HO3.out H3.out.2.2 (by decide)) _))))
end Go.Proofs.YtbbedhecfipdjaaGreatDoor
