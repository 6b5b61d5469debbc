import Derived.Test.YtbbedhecfipdjaaGreatDoorPkDescPrintsA04
namespace Go.Proofs.YtbbedhecfipdjaaGreatDoor
open Go.RowKit
set_option linter.unusedVariables false
set_option linter.unusedSimpArgs false
theorem AtO.nil (w : World) (base : Nat) : AtO w base (.slice none 0 0) [] := Own.nil _ _ _ _
theorem Grew.belowNone {w w1 w' : World} {v' : Value} {B : Nat} (h : Grew w (.slice none 0 0) w' v') (hb : Below B w1 w) (hB : B ≤ w.heap.size) : Below B w1 w' :=
 hb.trans (h.only.below (fun k hk => by cases hk) hB)
theorem two_attrs {W : World} {g : Nat} {a b c d : ByteArray} (h : Whole W g 53 #[.string a, .string b, .string c, .string d]) : ∀ (i : Nat) (x : AttrS), ([⟨a, b⟩, ⟨c, d⟩] : List AttrS)[i]? = some x → W.cell? ((⟨g, 0, none⟩ : Addr).add (i * 2)) = some (.string x.name) ∧ W.cell? ((⟨g, 0, none⟩ : Addr).add (i * 2 + 1)) = some (.string x.value) := fun i x hx => by
 rw [Addr.add_lit, Addr.add_lit, Nat.zero_add, Nat.zero_add]
 match i, hx with
 | 0, hx =>
   obtain rfl := Option.some.inj hx
   exact ⟨h.cell 0, h.cell 1⟩
 | 1, hx =>
   obtain rfl := Option.some.inj hx
   exact ⟨h.cell 2, h.cell 3⟩
theorem head_step {W w9 w : World} {N g : Nat} {d : DescS} {pre : List AttrS} {AA : Option Addr} {lA cA : Nat} {v9 : Value} {o : Obj} {zs : Array Value} (hp : headA d = pre ++ ([⟨bs nUfrag, d.name⟩, ⟨bs nPwd, d.pass⟩] : List AttrS))
 (ho : Own w9 N 53 2 v9 ((pre ++ ([⟨⟨#[105, 99, 101, 45, 117, 102, 114, 97, 103]⟩, d.name⟩, ⟨⟨#[105, 99, 101, 45, 112, 119, 100]⟩, d.pass⟩] : List AttrS)).map acell)) (hg : (W.alloc o).grownBy w9 (Value.slice AA lA cA).ownBlock) (hw : Whole W g 113 zs) (ha : AtO W N (.slice AA lA cA) pre) {ys : Array Value} (hz : Whole W (N + 1) 113 ys) (hb : Below N w W) (hN : N ≤ W.heap.size) :
 Own w9 N 53 2 v9 ((headA d).map acell) ∧ Whole w9 g 113 zs ∧ Whole w9 (N + 1) 113 ys ∧ Below N w w9 := by
 refine ⟨by rw [hp]; exact ho, (hw.alloc o).grown hg (fun e => (Own.apart ha hw (by decide)) e.symm), (hz.alloc o).grown hg (fun e => (Own.apart ha hz (by decide)) e.symm), ?_⟩
 exact (hb.alloc hN o).grown hg (by rw [World.size_alloc]; omega) (fun j hj => (Own.lt ha hj).1)
def DHeadO (w : World) (d : DescS) (e : Ending) (w' : World) : Prop := ∃ vA : Value, e = .returned (.agg #[.string (bs (originT d.id d.ver)), .string (bs [45]), .string (bs [48, 32, 48]), vA, .slice none 0 0]) ∧ AtO w' w.heap.size vA (headA d) ∧ Below w.heap.size w w'
set_option maxHeartbeats 6400000 in
set_option maxRecDepth 100000 in
theorem head_any (D : Array Value) (d : DescS) (vB vM : Value) (w : World) (h : DescV w w.heap.size D d vB vM) (hE : Env w) (hi : d.id < 18446744073709551616) (hv : d.ver < 18446744073709551616) (hl : d.bundle.length ≤ 1000000) (hj : (d.bundle.flatMap fun b => 32 :: tx b).length ≤ 1000000000) :
 Calls Tryz.prog 59 #[.agg D] w (DHeadO w d) := by
 obtain ⟨AB, cB, hvB, -⟩ := Rows.form h.bundle
 obtain ⟨AM, cM, hvM, -⟩ := Rows.form h.media
 obtain rfl := h.form
 have hb0 : Below w.heap.size w (w.alloc (.cells #[.int .u64 d.id, .int .u64 d.ver, vB, .string d.name, .string d.pass, vM] 62)) := (Below.refl _ w).alloc (Nat.le_refl _) _
 have HTV := Lib.hid h.bundle
 obtain ⟨n, hn⟩ : ∃ n, d.bundle.length = n := ⟨_, rfl⟩
 obtain ⟨nM, hnM⟩ : ∃ n, d.media.length = n := ⟨_, rfl⟩
 rw [hn] at hvB
 rw [hnM] at hvM
 subst hvB hvM
 have HNB := Lib.hid hn
 have hn6 : n ≤ 1000000 := by omega
 have HFM := Lib.hid hj
 have HENV := Lib.hid hE
 have HIV := Lib.hid (And.intro hi hv)
 have hdi : (bs (dec d.id)).size ≤ 20 := by rw [bs_size]; exact dec_len 19 _ (by rw [show (10 : Nat) ^ (19 + 1) = 100000000000000000000 by decide]; omega)
 have hdv : (bs (dec d.ver)).size ≤ 20 := by rw [bs_size]; exact dec_len 19 _ (by rw [show (10 : Nat) ^ (19 + 1) = 100000000000000000000 by decide]; omega)
 have HFI : Hid (∀ W, Below w.heap.size w W → Calls Tryz.prog 81 #[.int .u64 d.id, .int .i64 10] W fun e w' => e = .returned (.string (bs (dec d.id))) ∧ Below W.heap.size W w') := Lib.hid fun W hW => formatUint_any d.id W (HENV.out.under hW) HIV.out.1
 have HFV : Hid (∀ W, Below w.heap.size w W → Calls Tryz.prog 81 #[.int .u64 d.ver, .int .i64 10] W fun e w' => e = .returned (.string (bs (dec d.ver))) ∧ Below W.heap.size W w') := Lib.hid fun W hW => formatUint_any d.ver W (HENV.out.under hW) HIV.out.2
 obtain ⟨dI, hdI⟩ : ∃ s, bs (dec d.id) = s := ⟨_, rfl⟩
 obtain ⟨dV, hdV⟩ : ∃ s, bs (dec d.ver) = s := ⟨_, rfl⟩
 rw [hdI] at hdi HFI
 rw [hdV] at hdv HFV
 have HTX : Hid (((((⟨#[45, 32]⟩ ++ dI) ++ ⟨#[32]⟩) ++ dV) ++ ⟨#[32, 73, 78, 32, 73, 80, 52, 32, 49, 50, 55, 46, 48, 46, 48, 46, 49]⟩) = bs (originT d.id d.ver)) := Lib.hid (by
  rw [← hdI, ← hdV]
  refine tx_inj ?_
  simp only [tx_append, tx_bs]
  simp [originT, tx])
 have q1 : ¬ 9223372036854775807 < 2 + dI.size := by omega
 have q2 : ¬ 9223372036854775807 < 2 + dI.size + 1 := by omega
 have q3 : ¬ 9223372036854775807 < 2 + dI.size + 1 + dV.size := by omega
 have q4 : ¬ 9223372036854775807 < 2 + dI.size + 1 + dV.size + 17 := by omega
 have hb0 := two_new (w := w) 62 113 #[.int .u64 d.id, .int .u64 d.ver, .slice AB n cB, .string d.name, .string d.pass, .slice AM nM cM] #[.string ⟨#[]⟩, .string ⟨#[]⟩, .string ⟨#[]⟩, .slice none 0 0, .slice none 0 0]
 have H0 := Lib.hid (And.intro hb0 (And.intro ((Whole.new w 62 #[.int .u64 d.id, .int .u64 d.ver, .slice AB n cB, .string d.name, .string d.pass, .slice AM nM cM]).alloc (.cells #[.string ⟨#[]⟩, .string ⟨#[]⟩, .string ⟨#[]⟩, .slice none 0 0, .slice none 0 0] 113)) (Whole.new2 w (.cells #[.int .u64 d.id, .int .u64 d.ver, .slice AB n cB, .string d.name, .string d.pass, .slice AM nM cM] 62) 113 #[.string ⟨#[]⟩, .string ⟨#[]⟩, .string ⟨#[]⟩, .slice none 0 0, .slice none 0 0])))
 obtain ⟨N, hN⟩ : ∃ N, w.heap.size = N := ⟨_, rfl⟩
 have HN := Lib.hid hN
 rw [hN] at H0 HFI HFV HTV
 have HHO : Hid (DHeadO w d = fun e w' => ∃ vA : Value, e = .returned (.agg #[.string (bs (originT d.id d.ver)), .string (bs [45]), .string (bs [48, 32, 48]), vA, .slice none 0 0]) ∧ AtO w' N vA (headA d) ∧ Below N w w') := Lib.hid (by unfold DHeadO; rw [hN])
 clear hb0 h hE hi hv hl hj hn hnM hdI hdV hN
 go_enter Tryz.func59, Tryz.ntmps59
 go_upto_region 1 with fail
 simp only [HN.out]
 generalize ((w.alloc (.cells #[.int .u64 d.id, .int .u64 d.ver, .slice AB n cB, .string d.name, .string d.pass, .slice AM nM cM] 62)).alloc (.cells #[.string ⟨#[]⟩, .string ⟨#[]⟩, .string ⟨#[]⟩, .slice none 0 0, .slice none 0 0] 113)) = w0 at *
 obtain ⟨B0, hB0⟩ : ∃ B, w0.heap.size = B := ⟨_, rfl⟩
 have HB0 := Lib.hid hB0
 clear hB0
 have HNB0 : Hid (N ≤ B0) := Lib.hid (by have := H0.out.1.size; rw [HN.out, HB0.out] at this; exact this)
 have HKB : Hid (∀ W W', Below B0 w0 W → Below W.heap.size W W' → Below B0 w0 W') := Lib.hid fun W W' h1 h2 => h1.trans (h2.mono (by have := h1.size; rw [HB0.out] at this; exact this))
 have HUP : Hid (∀ W, Below B0 w0 W → Below N w W) := Lib.hid fun W hW => H0.out.1.trans (hW.mono HNB0.out)
 have HSZ : Hid (∀ W, Below B0 w0 W → B0 ≤ W.heap.size) := Lib.hid fun W hW => by have := hW.size; rw [HB0.out] at this; exact this
 have HX : Hid (∀ W, Below B0 w0 W → Whole W N 62 #[.int .u64 d.id, .int .u64 d.ver, .slice AB n cB, .string d.name, .string d.pass, .slice AM nM cM] ∧ Whole W (N + 1) 113 #[.string ⟨#[]⟩, .string ⟨#[]⟩, .string ⟨#[]⟩, .slice none 0 0, .slice none 0 0]) := Lib.hid fun W hW => ⟨H0.out.2.1.below hW (by have := H0.out.2.1.lt; rw [HB0.out] at this; exact this), H0.out.2.2.below hW (by have := H0.out.2.2.lt; rw [HB0.out] at this; exact this)⟩
 have HG0 : Hid (∀ W, Below B0 w0 W → W.cell? ⟨N, 0, none⟩ = some (.int .u64 d.id)) := Lib.hid fun W hW => (HX.out W hW).1.cell 0
 have HG1 : Hid (∀ W, Below B0 w0 W → W.cell? ⟨N, 1, none⟩ = some (.int .u64 d.ver)) := Lib.hid fun W hW => (HX.out W hW).1.cell 1
 have HFA : Hid (∀ W, Below B0 w0 W → Calls Tryz.prog 81 #[.int .u64 d.id, .int .i64 10] W fun e w' => e = .returned (.string dI) ∧ Below W.heap.size W w') := Lib.hid fun W hW => HFI.out W (HUP.out W hW)
 have HFB : Hid (∀ W, Below B0 w0 W → Calls Tryz.prog 81 #[.int .u64 d.ver, .int .i64 10] W fun e w' => e = .returned (.string dV) ∧ Below W.heap.size W w') := Lib.hid fun W hW => HFV.out W (HUP.out W hW)
 have HR0 : Hid (Below B0 w0 w0.drew) := Lib.hid (Below.refl _ _).drew
 clear HFI HFV
 go_cut [3] from 3 to 15 (fun s3 wc => ∃ (g : Nat) (O : ByteArray), s3 = .pointer (some ⟨g, 0, none⟩) ∧ O = bs (originT d.id d.ver) ∧ Whole wc g 113 #[.string O, .string ⟨#[45]⟩, .string ⟨#[48, 32, 48]⟩, .slice none 0 0, .slice none 0 0] ∧ B0 ≤ g ∧ Below B0 w0 wc)
 case first =>
  refine wp_region_held_drew (S := fun W => Below B0 w0 W) (by kernel_rfl) HR0.out (fun hHeld => ?_)
  generalize w0.drew = w1 at hHeld ⊢
  refine wpAnyH_take (i := 0) (v := _) rfl (by as_aux_lemma => kernel_rfl) (by as_aux_lemma => kernel_rfl) (by as_aux_lemma => kernel_rfl) (fun _ _ _ h => h) (Or.inl ⟨by rfl, fun w h => by have e0 := HG0.out w h; have e1 := HG1.out w h; clear h; go_simp; (try with_reducible rfl)⟩) (by assumption) ?_
  simp only [Act.put, List.getElem_toArray, List.getElem_cons_succ, List.getElem_cons_zero, List.setIfInBounds_toArray, List.set_cons_succ, List.set_cons_zero]
  refine wpAnyH_take (i := 1) (v := _) rfl (by as_aux_lemma => kernel_rfl) (by as_aux_lemma => kernel_rfl) (by as_aux_lemma => kernel_rfl) (fun _ _ _ h => h) (Or.inl ⟨by rfl, fun w h => by have e0 := HG0.out w h; have e1 := HG1.out w h; clear h; go_simp; (try with_reducible rfl)⟩) (by assumption) ?_
  simp only [Act.put, List.getElem_toArray, List.getElem_cons_succ, List.getElem_cons_zero, List.setIfInBounds_toArray, List.set_cons_succ, List.set_cons_zero]
  refine wpAnyH_take (i := 5) (v := _) rfl (by as_aux_lemma => kernel_rfl) (by as_aux_lemma => kernel_rfl) (by as_aux_lemma => kernel_rfl) (fun _ _ _ h => h) (Or.inl ⟨by rfl, fun w h => by have e0 := HG0.out w h; have e1 := HG1.out w h; clear h; go_simp; (try with_reducible rfl)⟩) (by assumption) ?_
  simp only [Act.put, List.getElem_toArray, List.getElem_cons_succ, List.getElem_cons_zero, List.setIfInBounds_toArray, List.set_cons_succ, List.set_cons_zero]
  refine wpAnyH_take (i := 6) (v := _) rfl (by as_aux_lemma => kernel_rfl) (by as_aux_lemma => kernel_rfl) (by as_aux_lemma => kernel_rfl) (fun _ _ _ h => h) (Or.inl ⟨by rfl, fun w h => by have e0 := HG0.out w h; have e1 := HG1.out w h; clear h; go_simp; (try with_reducible rfl)⟩) (by assumption) ?_
  simp only [Act.put, List.getElem_toArray, List.getElem_cons_succ, List.getElem_cons_zero, List.setIfInBounds_toArray, List.set_cons_succ, List.set_cons_zero]
  refine wpAnyH_ready (rs := [2, 11]) (by as_aux_lemma => kernel_rfl) (by simp) ?_
  refine (AllReadyH.cons (i := 2) rfl (fun K hK => ?_) (AllReadyH.cons (i := 11) rfl (fun K hK => ?_) AllReadyH.nil))
  · go_simp
    refine (HFA.out _ hHeld).mono ?_
    rintro e w2 ⟨rfl, hb5⟩
    have hbn := HKB.out _ _ hHeld hb5
    refine hK.out _ _ hbn (fun hHeld' => ?_)
    clear hb5 hbn
    clear hK K hHeld
    have hHeld := hHeld'
    clear hHeld'
    try simp only [Act.put]
    refine wpAnyH_take (i := 3) (v := _) rfl (by as_aux_lemma => kernel_rfl) (by as_aux_lemma => kernel_rfl) (by as_aux_lemma => kernel_rfl) (fun _ _ _ h => h) (Or.inl ⟨by rfl, fun w h => by have e0 := HG0.out w h; have e1 := HG1.out w h; clear h; go_simp; (try with_reducible rfl)⟩) (by assumption) ?_
    simp only [Act.put, List.getElem_toArray, List.getElem_cons_succ, List.getElem_cons_zero, List.setIfInBounds_toArray, List.set_cons_succ, List.set_cons_zero]
    refine wpAnyH_take (i := 4) (v := _) rfl (by as_aux_lemma => kernel_rfl) (by as_aux_lemma => kernel_rfl) (by as_aux_lemma => kernel_rfl) (fun _ _ _ h => h) (Or.inl ⟨by rfl, fun w h => by have e0 := HG0.out w h; have e1 := HG1.out w h; clear h; go_simp; (try with_reducible rfl)⟩) (by assumption) ?_
    simp only [Act.put, List.getElem_toArray, List.getElem_cons_succ, List.getElem_cons_zero, List.setIfInBounds_toArray, List.set_cons_succ, List.set_cons_zero]
    refine wpAnyH_ready (rs := [7, 11]) (by as_aux_lemma => kernel_rfl) (by simp) ?_
    refine (AllReadyH.cons (i := 7) rfl (fun K hK => ?_) (AllReadyH.cons (i := 11) rfl (fun K hK => ?_) AllReadyH.nil))
    · go_simp
      refine (HFB.out _ hHeld).mono ?_
      rintro e w7 ⟨rfl, hb5⟩
      have hbn := HKB.out _ _ hHeld hb5
      refine hK.out _ _ hbn (fun hHeld' => ?_)
      clear hb5 hbn
      clear hK K hHeld
      have hHeld := hHeld'
      clear hHeld'
      try simp only [Act.put]
      refine wpAnyH_take (i := 8) (v := _) rfl (by as_aux_lemma => kernel_rfl) (by as_aux_lemma => kernel_rfl) (by as_aux_lemma => kernel_rfl) (fun _ _ _ h => h) (Or.inl ⟨by rfl, fun w h => by have e0 := HG0.out w h; have e1 := HG1.out w h; clear h; go_simp; (try with_reducible rfl)⟩) (by assumption) ?_
      simp only [Act.put, List.getElem_toArray, List.getElem_cons_succ, List.getElem_cons_zero, List.setIfInBounds_toArray, List.set_cons_succ, List.set_cons_zero]
      refine wpAnyH_take (i := 9) (v := _) rfl (by as_aux_lemma => kernel_rfl) (by as_aux_lemma => kernel_rfl) (by as_aux_lemma => kernel_rfl) (fun _ _ _ h => h) (Or.inl ⟨by rfl, fun w h => by have e0 := HG0.out w h; have e1 := HG1.out w h; clear h; go_simp; (try with_reducible rfl)⟩) (by assumption) ?_
      simp only [Act.put, List.getElem_toArray, List.getElem_cons_succ, List.getElem_cons_zero, List.setIfInBounds_toArray, List.set_cons_succ, List.set_cons_zero]
      refine wpAnyH_take (i := 10) (v := _) rfl (by as_aux_lemma => kernel_rfl) (by as_aux_lemma => kernel_rfl) (by as_aux_lemma => kernel_rfl) (fun _ _ _ h => h) (Or.inl ⟨by rfl, fun w h => by have e0 := HG0.out w h; have e1 := HG1.out w h; clear h; go_simp; (try with_reducible rfl)⟩) (by assumption) ?_
      simp only [Act.put, List.getElem_toArray, List.getElem_cons_succ, List.getElem_cons_zero, List.setIfInBounds_toArray, List.set_cons_succ, List.set_cons_zero]
      refine wpAnyH_ready (rs := [11]) (by as_aux_lemma => kernel_rfl) (by simp) ?_
      refine (AllReadyH.cons (i := 11) rfl (fun K hK => ?_) AllReadyH.nil)
      go_simp
      have HW := Lib.hid (And.intro (Whole.new w7 113 #[.string ⟨#[]⟩, .string ⟨#[]⟩, .string ⟨#[]⟩, .slice none 0 0, .slice none 0 0]) (HSZ.out _ hHeld))
      have hbn := hHeld.alloc (HSZ.out _ hHeld) (.cells #[.string ⟨#[]⟩, .string ⟨#[]⟩, .string ⟨#[]⟩, .slice none 0 0, .slice none 0 0] 113)
      refine hK.out _ _ hbn (fun hHeld' => ?_)
      clear hbn
      clear hK K hHeld
      have hHeld := hHeld'
      clear hHeld'
      try simp only [Act.put]
      refine wpAnyH_ready (rs := [12]) (by as_aux_lemma => kernel_rfl) (by simp) ?_
      refine (AllReadyH.cons (i := 12) rfl (fun K hK => ?_) AllReadyH.nil)
      refine step_storeS #[.string ((((⟨#[45, 32]⟩ ++ dI) ++ ⟨#[32]⟩) ++ dV) ++ ⟨#[32, 73, 78, 32, 73, 80, 52, 32, 49, 50, 55, 46, 48, 46, 48, 46, 49]⟩), .string ⟨#[45]⟩, .string ⟨#[48, 32, 48]⟩, .slice none 0 0, .slice none 0 0] rfl 113 (.tmp 3) (.tmp 14) rfl rfl rfl HW.out.1 Tryz.sizeSSes rfl rfl rfl ?_
      have hbn := below_row hHeld HW.out.2 #[.string ((((⟨#[45, 32]⟩ ++ dI) ++ ⟨#[32]⟩) ++ dV) ++ ⟨#[32, 73, 78, 32, 73, 80, 52, 32, 49, 50, 55, 46, 48, 46, 48, 46, 49]⟩), .string ⟨#[45]⟩, .string ⟨#[48, 32, 48]⟩, .slice none 0 0, .slice none 0 0]
      have hWn := HW.out.1.row #[.string ((((⟨#[45, 32]⟩ ++ dI) ++ ⟨#[32]⟩) ++ dV) ++ ⟨#[32, 73, 78, 32, 73, 80, 52, 32, 49, 50, 55, 46, 48, 46, 48, 46, 49]⟩), .string ⟨#[45]⟩, .string ⟨#[48, 32, 48]⟩, .slice none 0 0, .slice none 0 0]
      have HX := Lib.hid (And.intro hWn hbn)
      refine hK.out _ _ hbn (fun hHeld' => ?_)
      clear hbn hWn
      clear hK K hHeld
      have hHeld := hHeld'
      clear hHeld'
      try simp only [Act.put]
      refine wpAnyH_done (by as_aux_lemma => kernel_rfl) ?_ _
      clear hHeld
      go_wp2
      go_meet
      exact ⟨_, _, rfl, HTX.out, HX.out.1, HW.out.2, HX.out.2⟩
    · go_simp
      have HW := Lib.hid (And.intro (Whole.new w2 113 #[.string ⟨#[]⟩, .string ⟨#[]⟩, .string ⟨#[]⟩, .slice none 0 0, .slice none 0 0]) (HSZ.out _ hHeld))
      have hbn := hHeld.alloc (HSZ.out _ hHeld) (.cells #[.string ⟨#[]⟩, .string ⟨#[]⟩, .string ⟨#[]⟩, .slice none 0 0, .slice none 0 0] 113)
      refine hK.out _ _ hbn (fun hHeld' => ?_)
      clear hbn
      clear hK K hHeld
      have hHeld := hHeld'
      clear hHeld'
      try simp only [Act.put]
      refine wpAnyH_ready (rs := [7]) (by as_aux_lemma => kernel_rfl) (by simp) ?_
      refine (AllReadyH.cons (i := 7) rfl (fun K hK => ?_) AllReadyH.nil)
      go_simp
      refine (HFB.out _ hHeld).mono ?_
      rintro e w7 ⟨rfl, hb5⟩
      have hWn := And.intro (HW.out.1.under hb5) HW.out.2
      clear HW
      have HW := Lib.hid hWn
      clear hWn
      have hbn := HKB.out _ _ hHeld hb5
      refine hK.out _ _ hbn (fun hHeld' => ?_)
      clear hb5 hbn
      clear hK K hHeld
      have hHeld := hHeld'
      clear hHeld'
      try simp only [Act.put]
      refine wpAnyH_take (i := 8) (v := _) rfl (by as_aux_lemma => kernel_rfl) (by as_aux_lemma => kernel_rfl) (by as_aux_lemma => kernel_rfl) (fun _ _ _ h => h) (Or.inl ⟨by rfl, fun w h => by have e0 := HG0.out w h; have e1 := HG1.out w h; clear h; go_simp; (try with_reducible rfl)⟩) (by assumption) ?_
      simp only [Act.put, List.getElem_toArray, List.getElem_cons_succ, List.getElem_cons_zero, List.setIfInBounds_toArray, List.set_cons_succ, List.set_cons_zero]
      refine wpAnyH_take (i := 9) (v := _) rfl (by as_aux_lemma => kernel_rfl) (by as_aux_lemma => kernel_rfl) (by as_aux_lemma => kernel_rfl) (fun _ _ _ h => h) (Or.inl ⟨by rfl, fun w h => by have e0 := HG0.out w h; have e1 := HG1.out w h; clear h; go_simp; (try with_reducible rfl)⟩) (by assumption) ?_
      simp only [Act.put, List.getElem_toArray, List.getElem_cons_succ, List.getElem_cons_zero, List.setIfInBounds_toArray, List.set_cons_succ, List.set_cons_zero]
      refine wpAnyH_take (i := 10) (v := _) rfl (by as_aux_lemma => kernel_rfl) (by as_aux_lemma => kernel_rfl) (by as_aux_lemma => kernel_rfl) (fun _ _ _ h => h) (Or.inl ⟨by rfl, fun w h => by have e0 := HG0.out w h; have e1 := HG1.out w h; clear h; go_simp; (try with_reducible rfl)⟩) (by assumption) ?_
      simp only [Act.put, List.getElem_toArray, List.getElem_cons_succ, List.getElem_cons_zero, List.setIfInBounds_toArray, List.set_cons_succ, List.set_cons_zero]
      refine wpAnyH_ready (rs := [12]) (by as_aux_lemma => kernel_rfl) (by simp) ?_
      refine (AllReadyH.cons (i := 12) rfl (fun K hK => ?_) AllReadyH.nil)
      refine step_storeS #[.string ((((⟨#[45, 32]⟩ ++ dI) ++ ⟨#[32]⟩) ++ dV) ++ ⟨#[32, 73, 78, 32, 73, 80, 52, 32, 49, 50, 55, 46, 48, 46, 48, 46, 49]⟩), .string ⟨#[45]⟩, .string ⟨#[48, 32, 48]⟩, .slice none 0 0, .slice none 0 0] rfl 113 (.tmp 3) (.tmp 14) rfl rfl rfl HW.out.1 Tryz.sizeSSes rfl rfl rfl ?_
      have hbn := below_row hHeld HW.out.2 #[.string ((((⟨#[45, 32]⟩ ++ dI) ++ ⟨#[32]⟩) ++ dV) ++ ⟨#[32, 73, 78, 32, 73, 80, 52, 32, 49, 50, 55, 46, 48, 46, 48, 46, 49]⟩), .string ⟨#[45]⟩, .string ⟨#[48, 32, 48]⟩, .slice none 0 0, .slice none 0 0]
      have hWn := HW.out.1.row #[.string ((((⟨#[45, 32]⟩ ++ dI) ++ ⟨#[32]⟩) ++ dV) ++ ⟨#[32, 73, 78, 32, 73, 80, 52, 32, 49, 50, 55, 46, 48, 46, 48, 46, 49]⟩), .string ⟨#[45]⟩, .string ⟨#[48, 32, 48]⟩, .slice none 0 0, .slice none 0 0]
      have HX := Lib.hid (And.intro hWn hbn)
      refine hK.out _ _ hbn (fun hHeld' => ?_)
      clear hbn hWn
      clear hK K hHeld
      have hHeld := hHeld'
      clear hHeld'
      try simp only [Act.put]
      refine wpAnyH_done (by as_aux_lemma => kernel_rfl) ?_ _
      clear hHeld
      go_wp2
      go_meet
      exact ⟨_, _, rfl, HTX.out, HX.out.1, HW.out.2, HX.out.2⟩
  · go_simp
    have HW := Lib.hid (And.intro (Whole.new w1 113 #[.string ⟨#[]⟩, .string ⟨#[]⟩, .string ⟨#[]⟩, .slice none 0 0, .slice none 0 0]) (HSZ.out _ hHeld))
    have hbn := hHeld.alloc (HSZ.out _ hHeld) (.cells #[.string ⟨#[]⟩, .string ⟨#[]⟩, .string ⟨#[]⟩, .slice none 0 0, .slice none 0 0] 113)
    refine hK.out _ _ hbn (fun hHeld' => ?_)
    clear hbn
    clear hK K hHeld
    have hHeld := hHeld'
    clear hHeld'
    try simp only [Act.put]
    refine wpAnyH_ready (rs := [2]) (by as_aux_lemma => kernel_rfl) (by simp) ?_
    refine (AllReadyH.cons (i := 2) rfl (fun K hK => ?_) AllReadyH.nil)
    go_simp
    refine (HFA.out _ hHeld).mono ?_
    rintro e w2 ⟨rfl, hb5⟩
    have hWn := And.intro (HW.out.1.under hb5) HW.out.2
    clear HW
    have HW := Lib.hid hWn
    clear hWn
    have hbn := HKB.out _ _ hHeld hb5
    refine hK.out _ _ hbn (fun hHeld' => ?_)
    clear hb5 hbn
    clear hK K hHeld
    have hHeld := hHeld'
    clear hHeld'
    try simp only [Act.put]
    refine wpAnyH_take (i := 3) (v := _) rfl (by as_aux_lemma => kernel_rfl) (by as_aux_lemma => kernel_rfl) (by as_aux_lemma => kernel_rfl) (fun _ _ _ h => h) (Or.inl ⟨by rfl, fun w h => by have e0 := HG0.out w h; have e1 := HG1.out w h; clear h; go_simp; (try with_reducible rfl)⟩) (by assumption) ?_
    simp only [Act.put, List.getElem_toArray, List.getElem_cons_succ, List.getElem_cons_zero, List.setIfInBounds_toArray, List.set_cons_succ, List.set_cons_zero]
    refine wpAnyH_take (i := 4) (v := _) rfl (by as_aux_lemma => kernel_rfl) (by as_aux_lemma => kernel_rfl) (by as_aux_lemma => kernel_rfl) (fun _ _ _ h => h) (Or.inl ⟨by rfl, fun w h => by have e0 := HG0.out w h; have e1 := HG1.out w h; clear h; go_simp; (try with_reducible rfl)⟩) (by assumption) ?_
    simp only [Act.put, List.getElem_toArray, List.getElem_cons_succ, List.getElem_cons_zero, List.setIfInBounds_toArray, List.set_cons_succ, List.set_cons_zero]
    refine wpAnyH_ready (rs := [7]) (by as_aux_lemma => kernel_rfl) (by simp) ?_
    refine (AllReadyH.cons (i := 7) rfl (fun K hK => ?_) AllReadyH.nil)
    go_simp
    refine (HFB.out _ hHeld).mono ?_
    rintro e w7 ⟨rfl, hb5⟩
    have hWn := And.intro (HW.out.1.under hb5) HW.out.2
    clear HW
    have HW := Lib.hid hWn
    clear hWn
    have hbn := HKB.out _ _ hHeld hb5
    refine hK.out _ _ hbn (fun hHeld' => ?_)
    clear hb5 hbn
    clear hK K hHeld
    have hHeld := hHeld'
    clear hHeld'
    try simp only [Act.put]
    refine wpAnyH_take (i := 8) (v := _) rfl (by as_aux_lemma => kernel_rfl) (by as_aux_lemma => kernel_rfl) (by as_aux_lemma => kernel_rfl) (fun _ _ _ h => h) (Or.inl ⟨by rfl, fun w h => by have e0 := HG0.out w h; have e1 := HG1.out w h; clear h; go_simp; (try with_reducible rfl)⟩) (by assumption) ?_
    simp only [Act.put, List.getElem_toArray, List.getElem_cons_succ, List.getElem_cons_zero, List.setIfInBounds_toArray, List.set_cons_succ, List.set_cons_zero]
    refine wpAnyH_take (i := 9) (v := _) rfl (by as_aux_lemma => kernel_rfl) (by as_aux_lemma => kernel_rfl) (by as_aux_lemma => kernel_rfl) (fun _ _ _ h => h) (Or.inl ⟨by rfl, fun w h => by have e0 := HG0.out w h; have e1 := HG1.out w h; clear h; go_simp; (try with_reducible rfl)⟩) (by assumption) ?_
    simp only [Act.put, List.getElem_toArray, List.getElem_cons_succ, List.getElem_cons_zero, List.setIfInBounds_toArray, List.set_cons_succ, List.set_cons_zero]
    refine wpAnyH_take (i := 10) (v := _) rfl (by as_aux_lemma => kernel_rfl) (by as_aux_lemma => kernel_rfl) (by as_aux_lemma => kernel_rfl) (fun _ _ _ h => h) (Or.inl ⟨by rfl, fun w h => by have e0 := HG0.out w h; have e1 := HG1.out w h; clear h; go_simp; (try with_reducible rfl)⟩) (by assumption) ?_
    simp only [Act.put, List.getElem_toArray, List.getElem_cons_succ, List.getElem_cons_zero, List.setIfInBounds_toArray, List.set_cons_succ, List.set_cons_zero]
    refine wpAnyH_ready (rs := [12]) (by as_aux_lemma => kernel_rfl) (by simp) ?_
    refine (AllReadyH.cons (i := 12) rfl (fun K hK => ?_) AllReadyH.nil)
    refine step_storeS #[.string ((((⟨#[45, 32]⟩ ++ dI) ++ ⟨#[32]⟩) ++ dV) ++ ⟨#[32, 73, 78, 32, 73, 80, 52, 32, 49, 50, 55, 46, 48, 46, 48, 46, 49]⟩), .string ⟨#[45]⟩, .string ⟨#[48, 32, 48]⟩, .slice none 0 0, .slice none 0 0] rfl 113 (.tmp 3) (.tmp 14) rfl rfl rfl HW.out.1 Tryz.sizeSSes rfl rfl rfl ?_
    have hbn := below_row hHeld HW.out.2 #[.string ((((⟨#[45, 32]⟩ ++ dI) ++ ⟨#[32]⟩) ++ dV) ++ ⟨#[32, 73, 78, 32, 73, 80, 52, 32, 49, 50, 55, 46, 48, 46, 48, 46, 49]⟩), .string ⟨#[45]⟩, .string ⟨#[48, 32, 48]⟩, .slice none 0 0, .slice none 0 0]
    have hWn := HW.out.1.row #[.string ((((⟨#[45, 32]⟩ ++ dI) ++ ⟨#[32]⟩) ++ dV) ++ ⟨#[32, 73, 78, 32, 73, 80, 52, 32, 49, 50, 55, 46, 48, 46, 48, 46, 49]⟩), .string ⟨#[45]⟩, .string ⟨#[48, 32, 48]⟩, .slice none 0 0, .slice none 0 0]
    have HX := Lib.hid (And.intro hWn hbn)
    refine hK.out _ _ hbn (fun hHeld' => ?_)
    clear hbn hWn
    clear hK K hHeld
    have hHeld := hHeld'
    clear hHeld'
    try simp only [Act.put]
    refine wpAnyH_done (by as_aux_lemma => kernel_rfl) ?_ _
    clear hHeld
    go_wp2
    go_meet
    exact ⟨_, _, rfl, HTX.out, HX.out.1, HW.out.2, HX.out.2⟩
 case rest =>
  obtain ⟨g, O, rfl, hO, hw, hgB, hb⟩ := hcut
  have HO := Lib.hid hO
  have HGB := Lib.hid hgB
  have HWC := Lib.hid (And.intro hw hb)
  have HTVC := Lib.hid HTV.out
  have HNW : Hid (∀ W, Below B0 w0 W → N ≤ W.heap.size) := Lib.hid fun W hW => Nat.le_trans HNB0.out (HSZ.out W hW)
  have HJZ : Hid (∀ s : ByteArray, (32 :: tx s = d.bundle.flatMap fun b => 32 :: tx b) → s.size ≤ 1000000000) := Lib.hid fun s hs => by
   have := congrArg List.length hs
   rw [List.length_cons, tx_length] at this
   have := HFM.out
   omega
  obtain ⟨pre, hpre⟩ : ∃ L : List AttrS, (if d.bundle.isEmpty then [] else [(⟨bs nGroup, bs (groupT d.bundle)⟩ : AttrS)]) = L := ⟨_, rfl⟩
  have HPA : Hid (headA d = pre ++ [⟨bs nUfrag, d.name⟩, ⟨bs nPwd, d.pass⟩]) := Lib.hid (by unfold headA; rw [hpre])
  have HP0 : Hid (n = 0 → pre = []) := Lib.hid fun e => by
   rw [← hpre, if_pos (by rw [List.isEmpty_iff]; exact List.eq_nil_of_length_eq_zero (by rw [HNB.out]; exact e))]
  have HP1 : Hid (n ≠ 0 → pre = [⟨bs nGroup, bs (groupT d.bundle)⟩]) := Lib.hid fun e => by
   rw [← hpre, if_neg (by rw [List.isEmpty_iff]; intro e2; apply e; rw [← HNB.out, e2]; rfl)]
  have HPL : Hid (pre.length ≤ 1) := Lib.hid (by
   rw [← hpre]
   split <;> simp)
  have p2 : wc.cell? ⟨N, 2, none⟩ = some (.slice AB n cB) := (HX.out _ hb).1.cell 2
  clear hO hw hgB hb hpre q1 q2 q3 q4 hdi hdv HG0 HG1 HFA HFB HR0 HTX HIV
  go_upto_if 18 with fail
  clear p2
  go_cut [] from 18 to 29 (fun wd => ∃ vA : Value, Whole wd g 113 #[.string O, .string ⟨#[45]⟩, .string ⟨#[48, 32, 48]⟩, vA, .slice none 0 0] ∧ AtO wd N vA pre ∧ Below B0 w0 wd)
  case first =>
   by_cases h0 : n = 0
   · have HF : Hid (Whole wc g 113 #[.string O, .string ⟨#[45]⟩, .string ⟨#[48, 32, 48]⟩, .slice none 0 0, .slice none 0 0] ∧ AtO wc N (.slice none 0 0) pre ∧ Below B0 w0 wc) := Lib.hid ⟨HWC.out.1, by rw [HP0.out h0]; exact AtO.nil _ _, HWC.out.2⟩
     have hd : decide (0 < (n : Int)) = false := by simp; omega
     have hd2 : ¬ (0 : Int) < (n : Int) := by omega
     clear h0
     go_wp2
     go_meet
     exact ⟨_, HF.out⟩
   · have hd : decide (0 < (n : Int)) = true := by simp; omega
     have hd2 : (0 : Int) < (n : Int) := by omega
     have HJ : Hid (∀ W, Below B0 w0 W → Calls Tryz.prog 107 #[.slice AB n cB, .string ⟨#[32]⟩] W fun e w' => ∃ s : ByteArray, e = .returned (.string s) ∧ (32 :: tx s = d.bundle.flatMap fun b => 32 :: tx b) ∧ Below W.heap.size W w') := Lib.hid fun W hW => joinB_any d.bundle _ W ((HTV.out.below (HUP.out W hW)).more (HNW.out W hW)) (by rw [HNB.out]; omega) (by rw [HNB.out]; exact hn6) HFM.out
     have HP := Lib.hid (HP1.out h0)
     have HGW := Lib.hid HWC.out.1
     have HR1 : Hid (Below B0 w0 wc.drew) := Lib.hid HWC.out.2.drew
     have HS0 : Hid (∀ L, (TillOne (fun W => Below B0 w0 W) (fun W => W.cell? ⟨g, 3, none⟩ = some (.slice none 0 0)) 10) L wc.drew) := Lib.hid fun L => TillOne.mk HR1.out (HGW.out.drew.cell 3)
     have HQ0 : Hid (∀ W, Ahead (TillOne (fun W => Below B0 w0 W) (fun W => W.cell? ⟨g, 3, none⟩ = some (.slice none 0 0)) 10) 10 W → W.cell? ⟨g, 3, none⟩ = some (.slice none 0 0)) := Lib.hid fun W h => (TillOne.get h).2
     have HQ1 : Hid (∀ W, Ahead (TillOne (fun W => Below B0 w0 W) (fun W => W.cell? ⟨g, 3, none⟩ = some (.slice none 0 0)) 10) 10 W → W.cell? ⟨N, 2, none⟩ = some (.slice AB n cB)) := Lib.hid fun W h => (HX.out _ (TillOne.get h).1).1.cell 2
     clear h0
     go_upto_region 3 with fail
     clear hd hd2
     refine wp_region_late (TillOne (fun W => Below B0 w0 W) (fun W => W.cell? ⟨g, 3, none⟩ = some (.slice none 0 0)) 10) (by as_aux_lemma => kernel_rfl) ?_
     change wpLate Tryz.prog .any _ _ _ 11 #[false, false, false, false, false, false, false, false, false, false, false] _ _
     refine wpLate.take (i := 0) (q := 10) (oi := _) (v := ?_) rfl (by as_aux_lemma => kernel_rfl) (by as_aux_lemma => kernel_rfl) (by as_aux_lemma => kernel_rfl) (by as_aux_lemma => kernel_rfl) (by rfl) (fun _ _ _ h => h) (TillOne.set (by decide)) (HS0.out _) (Or.inl ⟨by rfl, ?_⟩) ?_
     case refine_2 => intro W hw; have e0 := HQ0.out W hw; have e1 := HQ1.out W hw; clear hw; go_simp; (try with_reducible rfl)
     simp only [Act.put, List.setIfInBounds_toArray, List.set_cons_succ, List.set_cons_zero]
     refine wpLate.take (i := 1) (q := 10) (oi := _) (v := ?_) rfl (by as_aux_lemma => kernel_rfl) (by as_aux_lemma => kernel_rfl) (by as_aux_lemma => kernel_rfl) (by as_aux_lemma => kernel_rfl) (by rfl) (fun _ _ _ h => h) (TillOne.set (by decide)) (HS0.out _) (Or.inl ⟨by rfl, ?_⟩) ?_
     case refine_2 => intro W hw; have e0 := HQ0.out W hw; have e1 := HQ1.out W hw; clear hw; go_simp; (try with_reducible rfl)
     simp only [Act.put, List.setIfInBounds_toArray, List.set_cons_succ, List.set_cons_zero]
     refine wpLate.take (i := 2) (q := 10) (oi := _) (v := ?_) rfl (by as_aux_lemma => kernel_rfl) (by as_aux_lemma => kernel_rfl) (by as_aux_lemma => kernel_rfl) (by as_aux_lemma => kernel_rfl) (by rfl) (fun _ _ _ h => h) (TillOne.set (by decide)) (HS0.out _) (Or.inl ⟨by rfl, ?_⟩) ?_
     case refine_2 => intro W hw; have e0 := HQ0.out W hw; have e1 := HQ1.out W hw; clear hw; go_simp; (try with_reducible rfl)
     simp only [Act.put, List.setIfInBounds_toArray, List.set_cons_succ, List.set_cons_zero]
     refine wpLate.take (i := 3) (q := 10) (oi := _) (v := ?_) rfl (by as_aux_lemma => kernel_rfl) (by as_aux_lemma => kernel_rfl) (by as_aux_lemma => kernel_rfl) (by as_aux_lemma => kernel_rfl) (by rfl) (fun _ _ _ h => h) (TillOne.set (by decide)) (HS0.out _) (Or.inl ⟨by rfl, ?_⟩) ?_
     case refine_2 => intro W hw; have e0 := HQ0.out W hw; have e1 := HQ1.out W hw; clear hw; go_simp; (try with_reducible rfl)
     simp only [Act.put, List.setIfInBounds_toArray, List.set_cons_succ, List.set_cons_zero]
     refine wpLate.ready (rs := [4]) (by as_aux_lemma => kernel_rfl) (by simp) (eachLate.cons rfl (fun K hK => ?_) eachLate.nil)
     go_simp
     refine (HJ.out _ HR1.out).mono ?_
     rintro e w4 ⟨sj, rfl, hsj, hb4⟩
     have hsz := HJZ.out sj hsj
     have q7 : ¬ 9223372036854775807 < 7 + sj.size := by omega
     have q7' : ¬ 9223372036854775807 < sj.size + 7 := by omega
     have HGT : Hid (tx (⟨#[66, 85, 78, 68, 76, 69, 32]⟩ ++ sj) = groupT d.bundle) := Lib.hid (by rw [tx_append]; show [66, 85, 78, 68, 76, 69] ++ (32 :: tx sj) = _; rw [hsj]; rfl)
     have H4 : Hid (Below B0 w0 w4 ∧ Whole w4 g 113 #[.string O, .string ⟨#[45]⟩, .string ⟨#[48, 32, 48]⟩, .slice none 0 0, .slice none 0 0]) := Lib.hid ⟨HKB.out _ _ HR1.out hb4, (HGW.out.drew).under hb4⟩
     have HT4 : Hid (∀ L, (TillOne (fun W => Below B0 w0 W) (fun W => W.cell? ⟨g, 3, none⟩ = some (.slice none 0 0)) 10) L w4) := Lib.hid fun L => TillOne.mk H4.out.1 (H4.out.2.cell 3)
     refine hK.out _ _ (HT4.out _) ?_
     clear hK K hb4 hsj hsz
     try simp only [Act.put]
     refine wpLate.take (i := 5) (q := 10) (oi := _) (v := ?_) rfl (by as_aux_lemma => kernel_rfl) (by as_aux_lemma => kernel_rfl) (by as_aux_lemma => kernel_rfl) (by as_aux_lemma => kernel_rfl) (by rfl) (fun _ _ _ h => h) (TillOne.set (by decide)) (HT4.out _) (Or.inl ⟨by rfl, ?_⟩) ?_
     case refine_2 => intro W hw; have e0 := HQ0.out W hw; have e1 := HQ1.out W hw; clear hw; go_simp; (try with_reducible rfl)
     simp only [Act.put, List.setIfInBounds_toArray, List.set_cons_succ, List.set_cons_zero]
     refine wpLate.take (i := 6) (q := 10) (oi := _) (v := ?_) rfl (by as_aux_lemma => kernel_rfl) (by as_aux_lemma => kernel_rfl) (by as_aux_lemma => kernel_rfl) (by as_aux_lemma => kernel_rfl) (by rfl) (fun _ _ _ h => h) (TillOne.set (by decide)) (HT4.out _) (Or.inl ⟨by rfl, ?_⟩) ?_
     case refine_2 => intro W hw; have e0 := HQ0.out W hw; have e1 := HQ1.out W hw; clear hw; go_simp; (try with_reducible rfl)
     simp only [Act.put, List.setIfInBounds_toArray, List.set_cons_succ, List.set_cons_zero]
     refine wpLate.ready (rs := [7]) (by as_aux_lemma => kernel_rfl) (by simp) (eachLate.cons rfl (fun K hK => ?_) eachLate.nil)
     have HT5 : Hid (∀ L, (TillOne (fun W => Below B0 w0 W) (fun W => W.cell? ⟨g, 3, none⟩ = some (.slice none 0 0)) 10) L (w4.alloc (.cells #[.string ⟨#[103, 114, 111, 117, 112]⟩, .string (⟨#[66, 85, 78, 68, 76, 69, 32]⟩ ++ sj)] 53))) := Lib.hid fun L => TillOne.mk (H4.out.1.alloc (HSZ.out _ H4.out.1) _) ((H4.out.2.alloc _).cell 3)
     go_simp
     refine hK.out _ _ (HT5.out _) ?_
     clear hK K
     try simp only [Act.put]
     refine wpLate.ready (rs := [8]) (by as_aux_lemma => kernel_rfl) (by simp) (eachLate.cons rfl (fun K hK => ?_) eachLate.nil)
     refine step_of rfl (wp_addA (L := []) (base := N) (.tmp 20) (.tmp 26) rfl rfl rfl (AtO.nil _ _) (by decide) (HNW.out _ H4.out.1) ?_)
     intro v8 w8 ho8 hg8
     have hx8 : Whole w8 g 113 #[.string O, .string ⟨#[45]⟩, .string ⟨#[48, 32, 48]⟩, .slice none 0 0, .slice none 0 0] := hg8.whole H4.out.2 (fun e => by cases e)
     have hbl8 : Below B0 w0 w8 := hg8.belowNone H4.out.1 (HSZ.out _ H4.out.1)
     obtain ⟨A8, k8, hv8, -⟩ := Own.form ho8
     simp only [List.nil_append, List.length_map, List.length_cons, List.length_nil] at hv8
     subst hv8
     have HFIN : Hid (Whole (w8.setCell ⟨g, 3, none⟩ (.slice A8 1 k8)) g 113 #[.string O, .string ⟨#[45]⟩, .string ⟨#[48, 32, 48]⟩, .slice A8 1 k8, .slice none 0 0] ∧ AtO (w8.setCell ⟨g, 3, none⟩ (.slice A8 1 k8)) N (.slice A8 1 k8) [⟨bs nGroup, bs (groupT d.bundle)⟩] ∧ Below B0 w0 (w8.setCell ⟨g, 3, none⟩ (.slice A8 1 k8))) := Lib.hid ⟨hx8.set 3 _, by
      have e : (⟨bs nGroup, bs (groupT d.bundle)⟩ : AttrS) = ⟨⟨#[103, 114, 111, 117, 112]⟩, ⟨#[66, 85, 78, 68, 76, 69, 32]⟩ ++ sj⟩ := by
       rw [← HGT.out, bs_tx]
       rfl
      rw [e]
      exact Own.far (p := ⟨g, 3, none⟩) ho8 (Own.apart ho8 hx8 (by decide)) _, hbl8.setCell (p := ⟨g, 3, none⟩) HGB.out _⟩
     have c8 : w8.cell? ⟨g, 3, none⟩ = some (.slice none 0 0) := hx8.cell 3
     have f8 := hx8.frz 3
     have HT8 : Hid (∀ L, (TillOne (fun W => Below B0 w0 W) (fun W => W.cell? ⟨g, 3, none⟩ = some (.slice none 0 0)) 10) L w8) := Lib.hid fun L => TillOne.mk hbl8 c8
     have HS9 : Hid (∀ L, L.getD 10 true = true → (TillOne (fun W => Below B0 w0 W) (fun W => W.cell? ⟨g, 3, none⟩ = some (.slice none 0 0)) 10) L (w8.setCell ⟨g, 3, none⟩ (.slice A8 1 k8))) := Lib.hid fun L hL => TillOne.past HFIN.out.2.2 hL
     clear ho8 hg8 hx8 hbl8
     refine hK.out _ _ (HT8.out _) ?_
     clear hK K
     try simp only [Act.put]
     refine wpLate.take (i := 9) (q := 10) (oi := _) (v := ?_) rfl (by as_aux_lemma => kernel_rfl) (by as_aux_lemma => kernel_rfl) (by as_aux_lemma => kernel_rfl) (by as_aux_lemma => kernel_rfl) (by rfl) (fun _ _ _ h => h) (TillOne.set (by decide)) (HT8.out _) (Or.inl ⟨by rfl, ?_⟩) ?_
     case refine_2 => intro W hw; have e0 := HQ0.out W hw; have e1 := HQ1.out W hw; clear hw; go_simp; (try with_reducible rfl)
     simp only [Act.put, List.setIfInBounds_toArray, List.set_cons_succ, List.set_cons_zero]
     refine wpLate.ready (rs := [10]) (by as_aux_lemma => kernel_rfl) (by simp) (eachLate.cons rfl (fun K hK => ?_) eachLate.nil)
     go_simp
     refine hK.out _ _ (HS9.out _ rfl) ?_
     clear hK K
     try simp only [Act.put]
     refine wpLate.done (by as_aux_lemma => kernel_rfl) ?_ _
     go_wp2
     go_meet
     exact ⟨_, HFIN.out.1, by rw [HP.out]; exact HFIN.out.2.1, HFIN.out.2.2⟩
  case rest =>
   obtain ⟨vA, hw, ha, hb⟩ := hcut
   obtain ⟨AA, cA, hvA, -⟩ := Own.form ha
   generalize (pre.map acell).length = lA at hvA
   subst hvA
   have H5 := Lib.hid (And.intro hw (And.intro ha (And.intro (HUP.out _ hb) (And.intro (HX.out _ hb) (HNW.out _ hb)))))
   have HNE : Hid (g ≠ N + 1) := Lib.hid (by have := H0.out.2.2.lt; rw [HB0.out] at this; have := HGB.out; omega)
   have c0 : wc.cell? ⟨g, 3, none⟩ = some (.slice AA lA cA) := hw.cell 3
   have c3 : wc.cell? ⟨N, 3, none⟩ = some (.string d.name) := (HX.out _ hb).1.cell 3
   have c4 : wc.cell? ⟨N, 4, none⟩ = some (.string d.pass) := (HX.out _ hb).1.cell 4
   have HTW : Hid (∀ (i : Nat) (x : AttrS), ([⟨⟨#[105, 99, 101, 45, 117, 102, 114, 97, 103]⟩, d.name⟩, ⟨⟨#[105, 99, 101, 45, 112, 119, 100]⟩, d.pass⟩] : List AttrS)[i]? = some x → (wc.alloc (.cells #[.string ⟨#[105, 99, 101, 45, 117, 102, 114, 97, 103]⟩, .string d.name, .string ⟨#[105, 99, 101, 45, 112, 119, 100]⟩, .string d.pass] 53)).cell? ((⟨wc.heap.size, 0, none⟩ : Addr).add (i * 2)) = some (.string x.name) ∧ (wc.alloc (.cells #[.string ⟨#[105, 99, 101, 45, 117, 102, 114, 97, 103]⟩, .string d.name, .string ⟨#[105, 99, 101, 45, 112, 119, 100]⟩, .string d.pass] 53)).cell? ((⟨wc.heap.size, 0, none⟩ : Addr).add (i * 2 + 1)) = some (.string x.value)) := Lib.hid (two_attrs (Whole.new _ _ _))
   have HNA : Hid (N ≤ (wc.alloc (.cells #[.string ⟨#[105, 99, 101, 45, 117, 102, 114, 97, 103]⟩, .string d.name, .string ⟨#[105, 99, 101, 45, 112, 119, 100]⟩, .string d.pass] 53)).heap.size) := Lib.hid (by rw [World.size_alloc]; have := H5.out.2.2.2.2; omega)
   clear hw ha hb
   go_upto_region 5 with (at_builtin; refine wpList_appendLL (K := pre) (L := [⟨⟨#[105, 99, 101, 45, 117, 102, 114, 97, 103]⟩, d.name⟩, ⟨⟨#[105, 99, 101, 45, 112, 119, 100]⟩, d.pass⟩]) (ad := ⟨wc.heap.size, 0, none⟩) (base := N) rfl (.tmp 30) (.tmp 37) rfl rfl (Own.alloc H5.out.2.1 _) rfl rfl HTW.out (by have := HPL.out; simp; omega) HNA.out ?_; intro v9 w9 ho9 hg9 hn9; have H9 : Hid (Own w9 N 53 2 v9 ((headA d).map acell) ∧ Whole w9 g 113 #[.string O, .string ⟨#[45]⟩, .string ⟨#[48, 32, 48]⟩, .slice AA lA cA, .slice none 0 0] ∧ Whole w9 (N + 1) 113 #[.string ⟨#[]⟩, .string ⟨#[]⟩, .string ⟨#[]⟩, .slice none 0 0, .slice none 0 0] ∧ Below N w w9) := Lib.hid (head_step HPA.out ho9 hg9 H5.out.1 H5.out.2.1 H5.out.2.2.2.1.2 H5.out.2.2.1 H5.out.2.2.2.2); obtain ⟨A9, k9, hv9, -⟩ := Own.form H9.out.1; generalize ((headA d).map acell).length = l9 at hv9; subst hv9; have x9 : w9.cell? ⟨g, 3, none⟩ = some (.slice AA lA cA) := H9.out.2.1.cell 3; have y9 := H9.out.2.1.frz 3; clear ho9 hg9 hn9)
   have H10 : Hid (Whole (w9.setCell ⟨g, 3, none⟩ (.slice A9 l9 k9)) g 113 #[.string O, .string ⟨#[45]⟩, .string ⟨#[48, 32, 48]⟩, .slice A9 l9 k9, .slice none 0 0] ∧ Whole (w9.setCell ⟨g, 3, none⟩ (.slice A9 l9 k9)) (N + 1) 113 #[.string ⟨#[]⟩, .string ⟨#[]⟩, .string ⟨#[]⟩, .slice none 0 0, .slice none 0 0] ∧ AtO (w9.setCell ⟨g, 3, none⟩ (.slice A9 l9 k9)) N (.slice A9 l9 k9) (headA d) ∧ Below N w (w9.setCell ⟨g, 3, none⟩ (.slice A9 l9 k9))) := Lib.hid
    ⟨H9.out.2.1.set 3 _, H9.out.2.2.1.far (p := ⟨g, 3, none⟩) (Ne.symm HNE.out) _, H9.out.1.far (p := ⟨g, 3, none⟩) (H9.out.1.apart H9.out.2.1 (by decide)) _, H9.out.2.2.2.setCell (p := ⟨g, 3, none⟩) (Nat.le_trans HNB0.out HGB.out) _⟩
   clear x9 y9 c0 c3 c4 HTW HNA H9 H5
   generalize w9.setCell ⟨g, 3, none⟩ (.slice A9 l9 k9) = w10 at *
   have HFIN : Hid (DHeadO w d (.returned (.agg #[.string O, .string ⟨#[45]⟩, .string ⟨#[48, 32, 48]⟩, .slice A9 l9 k9, .slice none 0 0])) (w10.setRow (N + 1) #[.string O, .string ⟨#[45]⟩, .string ⟨#[48, 32, 48]⟩, .slice A9 l9 k9, .slice none 0 0])) := Lib.hid (by
    rw [HHO.out]
    exact ⟨_, by rw [← HO.out]; rfl, Own.farRow H10.out.2.2.1 (Own.apart H10.out.2.2.1 H10.out.2.1 (by decide)) _, below_row H10.out.2.2.2 (Nat.le_succ N) _⟩)
   go_wp2_with (first
    | ((with_reducible refine wpList_load_all ?_ 113 (.tmp 3) ?_ H10.out.1 ?_ Tryz.sizeSSes ?_ Tryz.underlying113 ?_ ?_); (with_reducible rfl); (with_reducible rfl); rfl; rfl; rfl)
    | ((with_reducible refine wpList_storeS #[.string O, .string ⟨#[45]⟩, .string ⟨#[48, 32, 48]⟩, .slice A9 l9 k9, .slice none 0 0] ?_ 113 (.tmp 2) (.tmp 40) ?_ ?_ ?_ H10.out.2.1 Tryz.sizeSSes ?_ ?_ ?_ ?_); (with_reducible rfl); (with_reducible rfl); rfl; rfl; rfl; rfl; rfl)
    | ((with_reducible show bodyPost _ _ _ _ _ _); exact bodyPost_ret (ret_struct rfl rfl (H10.out.2.1.row _) Tryz.underlying113 rfl Tryz.sizeSSes rfl) rfl HFIN.out))
end Go.Proofs.YtbbedhecfipdjaaGreatDoor
