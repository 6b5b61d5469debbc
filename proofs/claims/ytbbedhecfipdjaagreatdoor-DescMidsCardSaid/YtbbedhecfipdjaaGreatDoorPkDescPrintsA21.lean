import Derived.Test.YtbbedhecfipdjaaGreatDoorPkDescPrintsA04
import Derived.Test.YtbbedhecfipdjaaGreatDoorPkDescPrintsA05
import Derived.Test.YtbbedhecfipdjaaGreatDoorPkDescPrintsA17
import Derived.Test.YtbbedhecfipdjaaGreatDoorPkDescPrintsA10
import Derived.Test.YtbbedhecfipdjaaGreatDoorPkDescPrintsA18
import Derived.Test.YtbbedhecfipdjaaGreatDoorPkDescPrintsA20
import Derived.Test.YtbbedhecfipdjaaGreatDoorPkDescPrintsA12
import Derived.Test.YtbbedhecfipdjaaGreatDoorPkDescPrintsA16
namespace Go.Proofs.YtbbedhecfipdjaaGreatDoor
open Go.RowKit
set_option linter.unusedVariables false
set_option linter.unusedSimpArgs false
def SesO (w : World) (d : DescS) (e : Ending) (w' : World) : Prop := ∃ (Y : Array Value) (vA vP : Value) (b : Bool), e = .returned (.tuple #[.agg Y, .bool b]) ∧ Below w.heap.size w w' ∧
 ((b = true ∧ (∀ m ∈ d.media, mayM m = true) ∧ SesV w' w'.heap.size Y (sesD d) vA vP) ∨ (b = false ∧ (∃ m ∈ d.media, mayM m = false) ∧ Y = #[.string ⟨#[]⟩, .string ⟨#[]⟩, .string ⟨#[]⟩, .slice none 0 0, .slice none 0 0]))
theorem two_attrsR {W : World} {g : Nat} {a b c d : ByteArray} (h : Whole W g 55 #[.string a, .string b, .string c, .string d]) : ∀ (i : Nat) (x : AttrS), ([⟨a, b⟩, ⟨c, d⟩] : List AttrS)[i]? = some x → W.cell? ((⟨g, 0, none⟩ : Addr).add (i * 2)) = some (.string x.name) ∧ W.cell? ((⟨g, 0, none⟩ : Addr).add (i * 2 + 1)) = some (.string x.value) := fun i x hx => by
 rw [Addr.add_lit, Addr.add_lit, Nat.zero_add, Nat.zero_add]
 match i, hx with
 | 0, hx =>
   obtain rfl := Option.some.inj hx
   exact ⟨h.cell 0, h.cell 1⟩
 | 1, hx =>
   obtain rfl := Option.some.inj hx
   exact ⟨h.cell 2, h.cell 3⟩
def AtS (w : World) (base : Nat) (v : Value) (L : List AttrS) : Prop := Own w base 55 2 v (L.map acell)
theorem head_stepR {W w9 w : World} {N g : Nat} {d : DescS} {pre : List AttrS} {AA : Option Addr} {lA cA : Nat} {v9 : Value} {o : Obj} {zs : Array Value} (hp : headA d = pre ++ ([⟨bs nUfrag, d.name⟩, ⟨bs nPwd, d.pass⟩] : List AttrS))
 (ho : Own w9 N 55 2 v9 ((pre ++ ([⟨⟨#[105, 99, 101, 45, 117, 102, 114, 97, 103]⟩, d.name⟩, ⟨⟨#[105, 99, 101, 45, 112, 119, 100]⟩, d.pass⟩] : List AttrS)).map acell)) (hg : (W.alloc o).grownBy w9 (Value.slice AA lA cA).ownBlock) (hw : Whole W g 107 zs) (ha : AtS W N (.slice AA lA cA) pre) {ys us : Array Value} (hz : Whole W (N + 1) 107 ys) (hD : Whole W N 62 us) (hb : Below N w W) (hN : N ≤ W.heap.size) :
 Own w9 N 55 2 v9 ((headA d).map acell) ∧ Whole w9 g 107 zs ∧ Whole w9 (N + 1) 107 ys ∧ Whole w9 N 62 us ∧ Below N w w9 := by
 refine ⟨by rw [hp]; exact ho, (hw.alloc o).grown hg (fun e => (Own.apart ha hw (by decide)) e.symm), (hz.alloc o).grown hg (fun e => (Own.apart ha hz (by decide)) e.symm), (hD.alloc o).grown hg (fun e => (Own.apart ha hD (by decide)) e.symm), ?_⟩
 exact (hb.alloc hN o).grown hg (by rw [World.size_alloc]; omega) (fun j hj => (Own.lt ha hj).1)
theorem part_stepR {W w8 w : World} {N go k : Nat} {d : DescS} {vA vP v8 v : Value} {us : List Value} {p : PartS} {D ys : Array Value} (h : CK TR N go (sesD d) k vA vP us W) (hp : (sesD d).parts[k]? = some p) (hv : Own W N 55 2 v (p.attrs.map acell))
 (ho : Own w8 N 32 3 v8 (List.zipWith pcell ((sesD d).parts.take k) us ++ [[.string p.line, .string p.conn, v]])) (hg : W.grownBy w8 vP.ownBlock) (hb : Below N w W) (hD : Whole W N 62 D) (hz : Whole W (N + 1) 107 ys) (hN : N ≤ W.heap.size) (hgo : N + 1 < go) :
 Whole w8 go 107 #[.string (sesD d).origin, .string (sesD d).name, .string (sesD d).time, vA, vP] ∧ ∀ u, u = v8 → CK TR N go (sesD d) (k + 1) vA u (us ++ [v]) (w8.setCell ⟨go, 4, none⟩ u) ∧ Below N w (w8.setCell ⟨go, 4, none⟩ u) ∧ Whole (w8.setCell ⟨go, 4, none⟩ u) N 62 D ∧ Whole (w8.setCell ⟨go, 4, none⟩ u) (N + 1) 107 ys := by
 refine ⟨h.box.grown hg (fun e => (h.par.apart h.box TR.ok.1.symm) e.symm), fun u hu => ?_⟩
 subst hu
 exact ⟨h.next TR.ok hp hv ho hg ho.one, (hb.grown hg hN (fun j hj => (h.par.lt hj).1)).setCell (p := ⟨go, 4, none⟩) (by show N ≤ go; omega) _, (hD.grown hg (fun e => (h.par.apart hD (by decide)) e.symm)).far (p := ⟨go, 4, none⟩) (by show N ≠ go; omega) _, (hz.grown hg (fun e => (h.par.apart hz (by decide)) e.symm)).far (p := ⟨go, 4, none⟩) (by show N + 1 ≠ go; omega) _⟩
theorem words_next {B : List ByteArray} {k : Nat} {b : ByteArray} (h : B[k]? = some b) : (B.take (k + 1)).flatMap (fun b => 32 :: tx b) = (B.take k).flatMap (fun b => 32 :: tx b) ++ 32 :: tx b := by
 rw [List.take_add_one, h, List.flatMap_append]
 simp
theorem words_le (B : List ByteArray) (k : Nat) : ((B.take k).flatMap (fun b => 32 :: tx b)).length ≤ (B.flatMap (fun b => 32 :: tx b)).length := by
 have e : B.flatMap (fun b => 32 :: tx b) = (B.take k).flatMap (fun b => 32 :: tx b) ++ (B.drop k).flatMap (fun b => 32 :: tx b) := by rw [← List.flatMap_append, List.take_append_drop]
 rw [e, List.length_append]
 omega
theorem words_at {B : List ByteArray} {k : Nat} {b : ByteArray} (h : B[k]? = some b) : ((B.take k).flatMap (fun b => 32 :: tx b)).length + 1 + b.size ≤ (B.flatMap (fun b => 32 :: tx b)).length := by
 have := words_le B (k + 1)
 rw [words_next h, List.length_append, List.length_cons, tx_length] at this
 omega
theorem group_own {w8 : World} {N g : Nat} {A8 : Option Addr} {k8 : Nat} {s : ByteArray} {B : List ByteArray} {zs : Array Value} (ho : Own w8 N 55 2 (.slice A8 1 k8) [[.string ⟨#[103, 114, 111, 117, 112]⟩, .string s]]) (hx : Whole w8 g 107 zs) (hs : tx s = groupT B) : AtS (w8.setCell ⟨g, 3, none⟩ (.slice A8 1 k8)) N (.slice A8 1 k8) [⟨bs nGroup, bs (groupT B)⟩] := by
 rw [← hs, bs_tx]
 exact Own.far (p := ⟨g, 3, none⟩) ho (Own.apart ho hx (by decide)) _
set_option maxHeartbeats 12800000 in
set_option maxRecDepth 100000 in
theorem session_any (D : Array Value) (d : DescS) (vB vM : Value) (w : World) (h : DescV w w.heap.size D d vB vM) (hz : ∀ m ∈ d.media, SizM m) (hi : d.id < 18446744073709551616) (hv : d.ver < 18446744073709551616) (hl : d.bundle.length ≤ 1000000) (hj : (d.bundle.flatMap fun b => 32 :: tx b).length ≤ 1000000000) (hm8 : d.media.length ≤ 100000) :
 Calls Tryz.prog 57 #[.agg D] w (SesO w d) := by
 obtain ⟨AB, cB, hvB, -⟩ := Rows.form h.bundle
 obtain ⟨AM, cM, hvM, hcM, hmM, -⟩ := Rows.form h.media
 unfold maxLen at hmM
 have HMV := Lib.hid h.media
 have HWR : Hid (∀ (W : World) (M : Array Value) (m : MediaS) (C E R S Y : Value), Below w.heap.size w W → MediaV w w.heap.size M m C E R S Y → SizM m → Calls Tryz.prog 15 #[.agg M] W (WriteO 55 W m)) := Lib.hid fun W M m C E R S Y hW hM hs => rWrite_any M m C E R S Y W (hM.under hW) hs (fun W2 h2 => rgood_any M m C E R S Y W2 ((hM.under hW).under h2) hs) (fun hg W2 h2 => rwrite1_any M m C E R S Y W2 ((hM.under hW).under h2) hs hg)
 obtain rfl := h.form
 have hb0 : Below w.heap.size w (w.alloc (.cells #[.int .u64 d.id, .int .u64 d.ver, vB, .string d.name, .string d.pass, vM] 62)) := (Below.refl _ w).alloc (Nat.le_refl _) _
 have HTV := Lib.hid h.bundle
 obtain ⟨n, hn⟩ : ∃ n, d.bundle.length = n := ⟨_, rfl⟩
 obtain ⟨nM, hnM⟩ : ∃ n, d.media.length = n := ⟨_, rfl⟩
 rw [hn] at hvB
 rw [hnM] at hvM hcM
 subst hvB hvM
 have HNB := Lib.hid hn
 have HNL := Lib.hid hnM
 have hn6 : n ≤ 1000000 := by omega
 have HFM := Lib.hid hj
 have HIV := Lib.hid (And.intro hi hv)
 have HSM := Lib.hid hz
 have HN8 := Lib.hid hm8
 have hdi : (bs (dec d.id)).size ≤ 20 := by rw [bs_size]; exact dec_len 19 _ (by rw [show (10 : Nat) ^ (19 + 1) = 100000000000000000000 by decide]; omega)
 have hdv : (bs (dec d.ver)).size ≤ 20 := by rw [bs_size]; exact dec_len 19 _ (by rw [show (10 : Nat) ^ (19 + 1) = 100000000000000000000 by decide]; omega)
 have HFI : Hid (∀ W, Below w.heap.size w W → Calls Tryz.prog 76 #[.int .u64 d.id] W fun e w' => e = .returned (.string (bs (dec d.id))) ∧ Below W.heap.size W w') := Lib.hid fun W hW => rDigits_any d.id W HIV.out.1
 have HFV : Hid (∀ W, Below w.heap.size w W → Calls Tryz.prog 76 #[.int .u64 d.ver] W fun e w' => e = .returned (.string (bs (dec d.ver))) ∧ Below W.heap.size W w') := Lib.hid fun W hW => rDigits_any d.ver W HIV.out.2
 obtain ⟨dI, hdI⟩ : ∃ s, bs (dec d.id) = s := ⟨_, rfl⟩
 obtain ⟨dV, hdV⟩ : ∃ s, bs (dec d.ver) = s := ⟨_, rfl⟩
 rw [hdI] at hdi HFI
 rw [hdV] at hdv HFV
 have HTX : Hid (((((⟨#[45, 32]⟩ ++ dI) ++ ⟨#[32]⟩) ++ dV) ++ ⟨#[32, 73, 78, 32, 73, 80, 52, 32, 49, 50, 55, 46, 48, 46, 48, 46, 49]⟩) = bs (originT d.id d.ver)) := Lib.hid (by
  rw [← hdI, ← hdV]
  refine tx_inj ?_
  simp only [tx_append, tx_bs]
  simp [originT, tx])
 have q1 : ¬ 9223372036854775807 < 2 + dI.size := by omega
 have q2 : ¬ 9223372036854775807 < 2 + dI.size + 1 := by omega
 have q3 : ¬ 9223372036854775807 < 2 + dI.size + 1 + dV.size := by omega
 have q4 : ¬ 9223372036854775807 < 2 + dI.size + 1 + dV.size + 17 := by omega
 have hb0 := two_new (w := w) 62 107 #[.int .u64 d.id, .int .u64 d.ver, .slice AB n cB, .string d.name, .string d.pass, .slice AM nM cM] #[.string ⟨#[]⟩, .string ⟨#[]⟩, .string ⟨#[]⟩, .slice none 0 0, .slice none 0 0]
 have H0 := Lib.hid (And.intro hb0 (And.intro ((Whole.new w 62 #[.int .u64 d.id, .int .u64 d.ver, .slice AB n cB, .string d.name, .string d.pass, .slice AM nM cM]).alloc (.cells #[.string ⟨#[]⟩, .string ⟨#[]⟩, .string ⟨#[]⟩, .slice none 0 0, .slice none 0 0] 107)) (Whole.new2 w (.cells #[.int .u64 d.id, .int .u64 d.ver, .slice AB n cB, .string d.name, .string d.pass, .slice AM nM cM] 62) 107 #[.string ⟨#[]⟩, .string ⟨#[]⟩, .string ⟨#[]⟩, .slice none 0 0, .slice none 0 0])))
 obtain ⟨N, hN⟩ : ∃ N, w.heap.size = N := ⟨_, rfl⟩
 have HN := Lib.hid hN
 rw [hN] at H0 HFI HFV HTV
 have HNN : Hid (N ≤ w.heap.size) := Lib.hid (by omega)
 clear hb0 h hz hm8 hi hv hl hj hn hnM hdI hdV hN
 go_enter Tryz.func57, Tryz.ntmps57
 go_upto_region 1 with fail
 simp only [HN.out]
 generalize ((w.alloc (.cells #[.int .u64 d.id, .int .u64 d.ver, .slice AB n cB, .string d.name, .string d.pass, .slice AM nM cM] 62)).alloc (.cells #[.string ⟨#[]⟩, .string ⟨#[]⟩, .string ⟨#[]⟩, .slice none 0 0, .slice none 0 0] 107)) = w0 at *
 obtain ⟨B0, hB0⟩ : ∃ B, w0.heap.size = B := ⟨_, rfl⟩
 have HB0 := Lib.hid hB0
 clear hB0
 have HNB0 : Hid (N ≤ B0) := Lib.hid (by have := H0.out.1.size; rw [HN.out, HB0.out] at this; exact this)
 have HKB : Hid (∀ W W', Below B0 w0 W → Below W.heap.size W W' → Below B0 w0 W') := Lib.hid fun W W' h1 h2 => h1.trans (h2.mono (by have := h1.size; rw [HB0.out] at this; exact this))
 have HUP : Hid (∀ W, Below B0 w0 W → Below N w W) := Lib.hid fun W hW => H0.out.1.trans (hW.mono HNB0.out)
 have HSZ : Hid (∀ W, Below B0 w0 W → B0 ≤ W.heap.size) := Lib.hid fun W hW => by have := hW.size; rw [HB0.out] at this; exact this
 have HX : Hid (∀ W, Below B0 w0 W → Whole W N 62 #[.int .u64 d.id, .int .u64 d.ver, .slice AB n cB, .string d.name, .string d.pass, .slice AM nM cM] ∧ Whole W (N + 1) 107 #[.string ⟨#[]⟩, .string ⟨#[]⟩, .string ⟨#[]⟩, .slice none 0 0, .slice none 0 0]) := Lib.hid fun W hW => ⟨H0.out.2.1.below hW (by have := H0.out.2.1.lt; rw [HB0.out] at this; exact this), H0.out.2.2.below hW (by have := H0.out.2.2.lt; rw [HB0.out] at this; exact this)⟩
 have HG0 : Hid (∀ W, Below B0 w0 W → W.cell? ⟨N, 0, none⟩ = some (.int .u64 d.id)) := Lib.hid fun W hW => (HX.out W hW).1.cell 0
 have HG1 : Hid (∀ W, Below B0 w0 W → W.cell? ⟨N, 1, none⟩ = some (.int .u64 d.ver)) := Lib.hid fun W hW => (HX.out W hW).1.cell 1
 have HFA : Hid (∀ W, Below B0 w0 W → Calls Tryz.prog 76 #[.int .u64 d.id] W fun e w' => e = .returned (.string dI) ∧ Below W.heap.size W w') := Lib.hid fun W hW => HFI.out W (HUP.out W hW)
 have HFB : Hid (∀ W, Below B0 w0 W → Calls Tryz.prog 76 #[.int .u64 d.ver] W fun e w' => e = .returned (.string dV) ∧ Below W.heap.size W w') := Lib.hid fun W hW => HFV.out W (HUP.out W hW)
 have HR0 : Hid (Below B0 w0 w0.drew) := Lib.hid (Below.refl _ _).drew
 clear HFI HFV
 go_cut [4] from 4 to 21 (fun s4 wc => ∃ (g : Nat) (O : ByteArray), s4 = .pointer (some ⟨g, 0, none⟩) ∧ O = bs (originT d.id d.ver) ∧ Whole wc g 107 #[.string O, .string ⟨#[45]⟩, .string ⟨#[48, 32, 48]⟩, .slice none 0 0, .slice none 0 0] ∧ B0 ≤ g ∧ Below B0 w0 wc)
 case first =>
  refine wp_region_held_drew (S := fun W => Below B0 w0 W) (by kernel_rfl) HR0.out (fun hHeld => ?_)
  generalize w0.drew = w1 at hHeld ⊢
  refine wpAnyH_take (i := 0) (v := _) rfl (by as_aux_lemma => kernel_rfl) (by as_aux_lemma => kernel_rfl) (by as_aux_lemma => kernel_rfl) (fun _ _ _ h => h) (Or.inl ⟨by rfl, fun w h => by have e0 := HG0.out w h; have e1 := HG1.out w h; clear h; go_simp; (try with_reducible rfl)⟩) (by assumption) ?_
  simp only [Act.put, List.getElem_toArray, List.getElem_cons_succ, List.getElem_cons_zero, List.setIfInBounds_toArray, List.set_cons_succ, List.set_cons_zero]
  refine wpAnyH_take (i := 1) (v := _) rfl (by as_aux_lemma => kernel_rfl) (by as_aux_lemma => kernel_rfl) (by as_aux_lemma => kernel_rfl) (fun _ _ _ h => h) (Or.inl ⟨by rfl, fun w h => by have e0 := HG0.out w h; have e1 := HG1.out w h; clear h; go_simp; (try with_reducible rfl)⟩) (by assumption) ?_
  simp only [Act.put, List.getElem_toArray, List.getElem_cons_succ, List.getElem_cons_zero, List.setIfInBounds_toArray, List.set_cons_succ, List.set_cons_zero]
  refine wpAnyH_take (i := 5) (v := _) rfl (by as_aux_lemma => kernel_rfl) (by as_aux_lemma => kernel_rfl) (by as_aux_lemma => kernel_rfl) (fun _ _ _ h => h) (Or.inl ⟨by rfl, fun w h => by have e0 := HG0.out w h; have e1 := HG1.out w h; clear h; go_simp; (try with_reducible rfl)⟩) (by assumption) ?_
  simp only [Act.put, List.getElem_toArray, List.getElem_cons_succ, List.getElem_cons_zero, List.setIfInBounds_toArray, List.set_cons_succ, List.set_cons_zero]
  refine wpAnyH_take (i := 6) (v := _) rfl (by as_aux_lemma => kernel_rfl) (by as_aux_lemma => kernel_rfl) (by as_aux_lemma => kernel_rfl) (fun _ _ _ h => h) (Or.inl ⟨by rfl, fun w h => by have e0 := HG0.out w h; have e1 := HG1.out w h; clear h; go_simp; (try with_reducible rfl)⟩) (by assumption) ?_
  simp only [Act.put, List.getElem_toArray, List.getElem_cons_succ, List.getElem_cons_zero, List.setIfInBounds_toArray, List.set_cons_succ, List.set_cons_zero]
  refine wpAnyH_ready (rs := [2, 11]) (by as_aux_lemma => kernel_rfl) (by simp) ?_
  refine (AllReadyH.cons (i := 2) rfl (fun K hK => ?_) (AllReadyH.cons (i := 11) rfl (fun K hK => ?_) AllReadyH.nil))
  · go_simp
    refine (HFA.out _ hHeld).mono ?_
    rintro e w2 ⟨rfl, hb5⟩
    have hbn := HKB.out _ _ hHeld hb5
    refine hK.out _ _ hbn (fun hHeld' => ?_)
    clear hb5 hbn
    clear hK K hHeld
    have hHeld := hHeld'
    clear hHeld'
    try simp only [Act.put]
    refine wpAnyH_take (i := 3) (v := _) rfl (by as_aux_lemma => kernel_rfl) (by as_aux_lemma => kernel_rfl) (by as_aux_lemma => kernel_rfl) (fun _ _ _ h => h) (Or.inl ⟨by rfl, fun w h => by have e0 := HG0.out w h; have e1 := HG1.out w h; clear h; go_simp; (try with_reducible rfl)⟩) (by assumption) ?_
    simp only [Act.put, List.getElem_toArray, List.getElem_cons_succ, List.getElem_cons_zero, List.setIfInBounds_toArray, List.set_cons_succ, List.set_cons_zero]
    refine wpAnyH_take (i := 4) (v := _) rfl (by as_aux_lemma => kernel_rfl) (by as_aux_lemma => kernel_rfl) (by as_aux_lemma => kernel_rfl) (fun _ _ _ h => h) (Or.inl ⟨by rfl, fun w h => by have e0 := HG0.out w h; have e1 := HG1.out w h; clear h; go_simp; (try with_reducible rfl)⟩) (by assumption) ?_
    simp only [Act.put, List.getElem_toArray, List.getElem_cons_succ, List.getElem_cons_zero, List.setIfInBounds_toArray, List.set_cons_succ, List.set_cons_zero]
    refine wpAnyH_ready (rs := [7, 11]) (by as_aux_lemma => kernel_rfl) (by simp) ?_
    refine (AllReadyH.cons (i := 7) rfl (fun K hK => ?_) (AllReadyH.cons (i := 11) rfl (fun K hK => ?_) AllReadyH.nil))
    · go_simp
      refine (HFB.out _ hHeld).mono ?_
      rintro e w7 ⟨rfl, hb5⟩
      have hbn := HKB.out _ _ hHeld hb5
      refine hK.out _ _ hbn (fun hHeld' => ?_)
      clear hb5 hbn
      clear hK K hHeld
      have hHeld := hHeld'
      clear hHeld'
      try simp only [Act.put]
      refine wpAnyH_take (i := 8) (v := _) rfl (by as_aux_lemma => kernel_rfl) (by as_aux_lemma => kernel_rfl) (by as_aux_lemma => kernel_rfl) (fun _ _ _ h => h) (Or.inl ⟨by rfl, fun w h => by have e0 := HG0.out w h; have e1 := HG1.out w h; clear h; go_simp; (try with_reducible rfl)⟩) (by assumption) ?_
      simp only [Act.put, List.getElem_toArray, List.getElem_cons_succ, List.getElem_cons_zero, List.setIfInBounds_toArray, List.set_cons_succ, List.set_cons_zero]
      refine wpAnyH_take (i := 9) (v := _) rfl (by as_aux_lemma => kernel_rfl) (by as_aux_lemma => kernel_rfl) (by as_aux_lemma => kernel_rfl) (fun _ _ _ h => h) (Or.inl ⟨by rfl, fun w h => by have e0 := HG0.out w h; have e1 := HG1.out w h; clear h; go_simp; (try with_reducible rfl)⟩) (by assumption) ?_
      simp only [Act.put, List.getElem_toArray, List.getElem_cons_succ, List.getElem_cons_zero, List.setIfInBounds_toArray, List.set_cons_succ, List.set_cons_zero]
      refine wpAnyH_take (i := 10) (v := _) rfl (by as_aux_lemma => kernel_rfl) (by as_aux_lemma => kernel_rfl) (by as_aux_lemma => kernel_rfl) (fun _ _ _ h => h) (Or.inl ⟨by rfl, fun w h => by have e0 := HG0.out w h; have e1 := HG1.out w h; clear h; go_simp; (try with_reducible rfl)⟩) (by assumption) ?_
      simp only [Act.put, List.getElem_toArray, List.getElem_cons_succ, List.getElem_cons_zero, List.setIfInBounds_toArray, List.set_cons_succ, List.set_cons_zero]
      refine wpAnyH_ready (rs := [11]) (by as_aux_lemma => kernel_rfl) (by simp) ?_
      refine (AllReadyH.cons (i := 11) rfl (fun K hK => ?_) AllReadyH.nil)
      go_simp
      have HW := Lib.hid (And.intro (Whole.new w7 107 #[.string ⟨#[]⟩, .string ⟨#[]⟩, .string ⟨#[]⟩, .slice none 0 0, .slice none 0 0]) (HSZ.out _ hHeld))
      have hbn := hHeld.alloc (HSZ.out _ hHeld) (.cells #[.string ⟨#[]⟩, .string ⟨#[]⟩, .string ⟨#[]⟩, .slice none 0 0, .slice none 0 0] 107)
      refine hK.out _ _ hbn (fun hHeld' => ?_)
      clear hbn
      clear hK K hHeld
      have hHeld := hHeld'
      clear hHeld'
      try simp only [Act.put]
      refine wpAnyH_ready (rs := [12]) (by as_aux_lemma => kernel_rfl) (by simp) ?_
      refine (AllReadyH.cons (i := 12) rfl (fun K hK => ?_) AllReadyH.nil)
      refine step_storeS #[.string ((((⟨#[45, 32]⟩ ++ dI) ++ ⟨#[32]⟩) ++ dV) ++ ⟨#[32, 73, 78, 32, 73, 80, 52, 32, 49, 50, 55, 46, 48, 46, 48, 46, 49]⟩), .string ⟨#[45]⟩, .string ⟨#[48, 32, 48]⟩, .slice none 0 0, .slice none 0 0] rfl 107 (.tmp 4) (.tmp 20) rfl rfl rfl HW.out.1 Tryz.sizeRsSes rfl rfl rfl ?_
      have hbn := below_row hHeld HW.out.2 #[.string ((((⟨#[45, 32]⟩ ++ dI) ++ ⟨#[32]⟩) ++ dV) ++ ⟨#[32, 73, 78, 32, 73, 80, 52, 32, 49, 50, 55, 46, 48, 46, 48, 46, 49]⟩), .string ⟨#[45]⟩, .string ⟨#[48, 32, 48]⟩, .slice none 0 0, .slice none 0 0]
      have hWn := HW.out.1.row #[.string ((((⟨#[45, 32]⟩ ++ dI) ++ ⟨#[32]⟩) ++ dV) ++ ⟨#[32, 73, 78, 32, 73, 80, 52, 32, 49, 50, 55, 46, 48, 46, 48, 46, 49]⟩), .string ⟨#[45]⟩, .string ⟨#[48, 32, 48]⟩, .slice none 0 0, .slice none 0 0]
      have HX := Lib.hid (And.intro hWn hbn)
      refine hK.out _ _ hbn (fun hHeld' => ?_)
      clear hbn hWn
      clear hK K hHeld
      have hHeld := hHeld'
      clear hHeld'
      try simp only [Act.put]
      refine wpAnyH_done (by as_aux_lemma => kernel_rfl) ?_ _
      clear hHeld
      go_wp2
      go_meet
      exact ⟨_, _, rfl, HTX.out, HX.out.1, HW.out.2, HX.out.2⟩
    · go_simp
      have HW := Lib.hid (And.intro (Whole.new w2 107 #[.string ⟨#[]⟩, .string ⟨#[]⟩, .string ⟨#[]⟩, .slice none 0 0, .slice none 0 0]) (HSZ.out _ hHeld))
      have hbn := hHeld.alloc (HSZ.out _ hHeld) (.cells #[.string ⟨#[]⟩, .string ⟨#[]⟩, .string ⟨#[]⟩, .slice none 0 0, .slice none 0 0] 107)
      refine hK.out _ _ hbn (fun hHeld' => ?_)
      clear hbn
      clear hK K hHeld
      have hHeld := hHeld'
      clear hHeld'
      try simp only [Act.put]
      refine wpAnyH_ready (rs := [7]) (by as_aux_lemma => kernel_rfl) (by simp) ?_
      refine (AllReadyH.cons (i := 7) rfl (fun K hK => ?_) AllReadyH.nil)
      go_simp
      refine (HFB.out _ hHeld).mono ?_
      rintro e w7 ⟨rfl, hb5⟩
      have hWn := And.intro (HW.out.1.under hb5) HW.out.2
      clear HW
      have HW := Lib.hid hWn
      clear hWn
      have hbn := HKB.out _ _ hHeld hb5
      refine hK.out _ _ hbn (fun hHeld' => ?_)
      clear hb5 hbn
      clear hK K hHeld
      have hHeld := hHeld'
      clear hHeld'
      try simp only [Act.put]
      refine wpAnyH_take (i := 8) (v := _) rfl (by as_aux_lemma => kernel_rfl) (by as_aux_lemma => kernel_rfl) (by as_aux_lemma => kernel_rfl) (fun _ _ _ h => h) (Or.inl ⟨by rfl, fun w h => by have e0 := HG0.out w h; have e1 := HG1.out w h; clear h; go_simp; (try with_reducible rfl)⟩) (by assumption) ?_
      simp only [Act.put, List.getElem_toArray, List.getElem_cons_succ, List.getElem_cons_zero, List.setIfInBounds_toArray, List.set_cons_succ, List.set_cons_zero]
      refine wpAnyH_take (i := 9) (v := _) rfl (by as_aux_lemma => kernel_rfl) (by as_aux_lemma => kernel_rfl) (by as_aux_lemma => kernel_rfl) (fun _ _ _ h => h) (Or.inl ⟨by rfl, fun w h => by have e0 := HG0.out w h; have e1 := HG1.out w h; clear h; go_simp; (try with_reducible rfl)⟩) (by assumption) ?_
      simp only [Act.put, List.getElem_toArray, List.getElem_cons_succ, List.getElem_cons_zero, List.setIfInBounds_toArray, List.set_cons_succ, List.set_cons_zero]
      refine wpAnyH_take (i := 10) (v := _) rfl (by as_aux_lemma => kernel_rfl) (by as_aux_lemma => kernel_rfl) (by as_aux_lemma => kernel_rfl) (fun _ _ _ h => h) (Or.inl ⟨by rfl, fun w h => by have e0 := HG0.out w h; have e1 := HG1.out w h; clear h; go_simp; (try with_reducible rfl)⟩) (by assumption) ?_
      simp only [Act.put, List.getElem_toArray, List.getElem_cons_succ, List.getElem_cons_zero, List.setIfInBounds_toArray, List.set_cons_succ, List.set_cons_zero]
      refine wpAnyH_ready (rs := [12]) (by as_aux_lemma => kernel_rfl) (by simp) ?_
      refine (AllReadyH.cons (i := 12) rfl (fun K hK => ?_) AllReadyH.nil)
      refine step_storeS #[.string ((((⟨#[45, 32]⟩ ++ dI) ++ ⟨#[32]⟩) ++ dV) ++ ⟨#[32, 73, 78, 32, 73, 80, 52, 32, 49, 50, 55, 46, 48, 46, 48, 46, 49]⟩), .string ⟨#[45]⟩, .string ⟨#[48, 32, 48]⟩, .slice none 0 0, .slice none 0 0] rfl 107 (.tmp 4) (.tmp 20) rfl rfl rfl HW.out.1 Tryz.sizeRsSes rfl rfl rfl ?_
      have hbn := below_row hHeld HW.out.2 #[.string ((((⟨#[45, 32]⟩ ++ dI) ++ ⟨#[32]⟩) ++ dV) ++ ⟨#[32, 73, 78, 32, 73, 80, 52, 32, 49, 50, 55, 46, 48, 46, 48, 46, 49]⟩), .string ⟨#[45]⟩, .string ⟨#[48, 32, 48]⟩, .slice none 0 0, .slice none 0 0]
      have hWn := HW.out.1.row #[.string ((((⟨#[45, 32]⟩ ++ dI) ++ ⟨#[32]⟩) ++ dV) ++ ⟨#[32, 73, 78, 32, 73, 80, 52, 32, 49, 50, 55, 46, 48, 46, 48, 46, 49]⟩), .string ⟨#[45]⟩, .string ⟨#[48, 32, 48]⟩, .slice none 0 0, .slice none 0 0]
      have HX := Lib.hid (And.intro hWn hbn)
      refine hK.out _ _ hbn (fun hHeld' => ?_)
      clear hbn hWn
      clear hK K hHeld
      have hHeld := hHeld'
      clear hHeld'
      try simp only [Act.put]
      refine wpAnyH_done (by as_aux_lemma => kernel_rfl) ?_ _
      clear hHeld
      go_wp2
      go_meet
      exact ⟨_, _, rfl, HTX.out, HX.out.1, HW.out.2, HX.out.2⟩
  · go_simp
    have HW := Lib.hid (And.intro (Whole.new w1 107 #[.string ⟨#[]⟩, .string ⟨#[]⟩, .string ⟨#[]⟩, .slice none 0 0, .slice none 0 0]) (HSZ.out _ hHeld))
    have hbn := hHeld.alloc (HSZ.out _ hHeld) (.cells #[.string ⟨#[]⟩, .string ⟨#[]⟩, .string ⟨#[]⟩, .slice none 0 0, .slice none 0 0] 107)
    refine hK.out _ _ hbn (fun hHeld' => ?_)
    clear hbn
    clear hK K hHeld
    have hHeld := hHeld'
    clear hHeld'
    try simp only [Act.put]
    refine wpAnyH_ready (rs := [2]) (by as_aux_lemma => kernel_rfl) (by simp) ?_
    refine (AllReadyH.cons (i := 2) rfl (fun K hK => ?_) AllReadyH.nil)
    go_simp
    refine (HFA.out _ hHeld).mono ?_
    rintro e w2 ⟨rfl, hb5⟩
    have hWn := And.intro (HW.out.1.under hb5) HW.out.2
    clear HW
    have HW := Lib.hid hWn
    clear hWn
    have hbn := HKB.out _ _ hHeld hb5
    refine hK.out _ _ hbn (fun hHeld' => ?_)
    clear hb5 hbn
    clear hK K hHeld
    have hHeld := hHeld'
    clear hHeld'
    try simp only [Act.put]
    refine wpAnyH_take (i := 3) (v := _) rfl (by as_aux_lemma => kernel_rfl) (by as_aux_lemma => kernel_rfl) (by as_aux_lemma => kernel_rfl) (fun _ _ _ h => h) (Or.inl ⟨by rfl, fun w h => by have e0 := HG0.out w h; have e1 := HG1.out w h; clear h; go_simp; (try with_reducible rfl)⟩) (by assumption) ?_
    simp only [Act.put, List.getElem_toArray, List.getElem_cons_succ, List.getElem_cons_zero, List.setIfInBounds_toArray, List.set_cons_succ, List.set_cons_zero]
    refine wpAnyH_take (i := 4) (v := _) rfl (by as_aux_lemma => kernel_rfl) (by as_aux_lemma => kernel_rfl) (by as_aux_lemma => kernel_rfl) (fun _ _ _ h => h) (Or.inl ⟨by rfl, fun w h => by have e0 := HG0.out w h; have e1 := HG1.out w h; clear h; go_simp; (try with_reducible rfl)⟩) (by assumption) ?_
    simp only [Act.put, List.getElem_toArray, List.getElem_cons_succ, List.getElem_cons_zero, List.setIfInBounds_toArray, List.set_cons_succ, List.set_cons_zero]
    refine wpAnyH_ready (rs := [7]) (by as_aux_lemma => kernel_rfl) (by simp) ?_
    refine (AllReadyH.cons (i := 7) rfl (fun K hK => ?_) AllReadyH.nil)
    go_simp
    refine (HFB.out _ hHeld).mono ?_
    rintro e w7 ⟨rfl, hb5⟩
    have hWn := And.intro (HW.out.1.under hb5) HW.out.2
    clear HW
    have HW := Lib.hid hWn
    clear hWn
    have hbn := HKB.out _ _ hHeld hb5
    refine hK.out _ _ hbn (fun hHeld' => ?_)
    clear hb5 hbn
    clear hK K hHeld
    have hHeld := hHeld'
    clear hHeld'
    try simp only [Act.put]
    refine wpAnyH_take (i := 8) (v := _) rfl (by as_aux_lemma => kernel_rfl) (by as_aux_lemma => kernel_rfl) (by as_aux_lemma => kernel_rfl) (fun _ _ _ h => h) (Or.inl ⟨by rfl, fun w h => by have e0 := HG0.out w h; have e1 := HG1.out w h; clear h; go_simp; (try with_reducible rfl)⟩) (by assumption) ?_
    simp only [Act.put, List.getElem_toArray, List.getElem_cons_succ, List.getElem_cons_zero, List.setIfInBounds_toArray, List.set_cons_succ, List.set_cons_zero]
    refine wpAnyH_take (i := 9) (v := _) rfl (by as_aux_lemma => kernel_rfl) (by as_aux_lemma => kernel_rfl) (by as_aux_lemma => kernel_rfl) (fun _ _ _ h => h) (Or.inl ⟨by rfl, fun w h => by have e0 := HG0.out w h; have e1 := HG1.out w h; clear h; go_simp; (try with_reducible rfl)⟩) (by assumption) ?_
    simp only [Act.put, List.getElem_toArray, List.getElem_cons_succ, List.getElem_cons_zero, List.setIfInBounds_toArray, List.set_cons_succ, List.set_cons_zero]
    refine wpAnyH_take (i := 10) (v := _) rfl (by as_aux_lemma => kernel_rfl) (by as_aux_lemma => kernel_rfl) (by as_aux_lemma => kernel_rfl) (fun _ _ _ h => h) (Or.inl ⟨by rfl, fun w h => by have e0 := HG0.out w h; have e1 := HG1.out w h; clear h; go_simp; (try with_reducible rfl)⟩) (by assumption) ?_
    simp only [Act.put, List.getElem_toArray, List.getElem_cons_succ, List.getElem_cons_zero, List.setIfInBounds_toArray, List.set_cons_succ, List.set_cons_zero]
    refine wpAnyH_ready (rs := [12]) (by as_aux_lemma => kernel_rfl) (by simp) ?_
    refine (AllReadyH.cons (i := 12) rfl (fun K hK => ?_) AllReadyH.nil)
    refine step_storeS #[.string ((((⟨#[45, 32]⟩ ++ dI) ++ ⟨#[32]⟩) ++ dV) ++ ⟨#[32, 73, 78, 32, 73, 80, 52, 32, 49, 50, 55, 46, 48, 46, 48, 46, 49]⟩), .string ⟨#[45]⟩, .string ⟨#[48, 32, 48]⟩, .slice none 0 0, .slice none 0 0] rfl 107 (.tmp 4) (.tmp 20) rfl rfl rfl HW.out.1 Tryz.sizeRsSes rfl rfl rfl ?_
    have hbn := below_row hHeld HW.out.2 #[.string ((((⟨#[45, 32]⟩ ++ dI) ++ ⟨#[32]⟩) ++ dV) ++ ⟨#[32, 73, 78, 32, 73, 80, 52, 32, 49, 50, 55, 46, 48, 46, 48, 46, 49]⟩), .string ⟨#[45]⟩, .string ⟨#[48, 32, 48]⟩, .slice none 0 0, .slice none 0 0]
    have hWn := HW.out.1.row #[.string ((((⟨#[45, 32]⟩ ++ dI) ++ ⟨#[32]⟩) ++ dV) ++ ⟨#[32, 73, 78, 32, 73, 80, 52, 32, 49, 50, 55, 46, 48, 46, 48, 46, 49]⟩), .string ⟨#[45]⟩, .string ⟨#[48, 32, 48]⟩, .slice none 0 0, .slice none 0 0]
    have HX := Lib.hid (And.intro hWn hbn)
    refine hK.out _ _ hbn (fun hHeld' => ?_)
    clear hbn hWn
    clear hK K hHeld
    have hHeld := hHeld'
    clear hHeld'
    try simp only [Act.put]
    refine wpAnyH_done (by as_aux_lemma => kernel_rfl) ?_ _
    clear hHeld
    go_wp2
    go_meet
    exact ⟨_, _, rfl, HTX.out, HX.out.1, HW.out.2, HX.out.2⟩
 case rest =>
  obtain ⟨g, O, rfl, hO, hw, hgB, hb⟩ := hcut
  have HO := Lib.hid hO
  have HGB := Lib.hid hgB
  have HWC := Lib.hid (And.intro hw hb)
  have HNW : Hid (∀ W, Below B0 w0 W → N ≤ W.heap.size) := Lib.hid fun W hW => Nat.le_trans HNB0.out (HSZ.out W hW)
  obtain ⟨pre, hpre⟩ : ∃ L : List AttrS, (if d.bundle.isEmpty then [] else [(⟨bs nGroup, bs (groupT d.bundle)⟩ : AttrS)]) = L := ⟨_, rfl⟩
  have HPA : Hid (headA d = pre ++ [⟨bs nUfrag, d.name⟩, ⟨bs nPwd, d.pass⟩]) := Lib.hid (by unfold headA; rw [hpre])
  have HP0 : Hid (n = 0 → pre = []) := Lib.hid fun e => by
   rw [← hpre, if_pos (by rw [List.isEmpty_iff]; exact List.eq_nil_of_length_eq_zero (by rw [HNB.out]; exact e))]
  have HP1 : Hid (n ≠ 0 → pre = [⟨bs nGroup, bs (groupT d.bundle)⟩]) := Lib.hid fun e => by
   rw [← hpre, if_neg (by rw [List.isEmpty_iff]; intro e2; apply e; rw [← HNB.out, e2]; rfl)]
  have HPL : Hid (pre.length ≤ 1) := Lib.hid (by
   rw [← hpre]
   split <;> simp)
  have p2 : wc.cell? ⟨N, 2, none⟩ = some (.slice AB n cB) := (HX.out _ hb).1.cell 2
  clear hO hw hgB hb hpre q1 q2 q3 q4 hdi hdv HG0 HG1 HFA HFB HR0 HTX HIV
  go_upto_if 24 with fail
  go_cut [] from 5 to 47 (fun wd => ∃ vA : Value, Whole wd g 107 #[.string O, .string ⟨#[45]⟩, .string ⟨#[48, 32, 48]⟩, vA, .slice none 0 0] ∧ AtS wd N vA pre ∧ Below B0 w0 wd)
  case first =>
   by_cases h0 : n = 0
   · have HF : Hid (Whole wc g 107 #[.string O, .string ⟨#[45]⟩, .string ⟨#[48, 32, 48]⟩, .slice none 0 0, .slice none 0 0] ∧ AtS wc N (.slice none 0 0) pre ∧ Below B0 w0 wc) := Lib.hid ⟨HWC.out.1, by rw [HP0.out h0]; exact Own.nil _ _ _ _, HWC.out.2⟩
     have hd : decide (0 < (n : Int)) = false := by simp; omega
     have hd2 : ¬ (0 : Int) < (n : Int) := by omega
     clear h0 p2
     go_wp2
     go_meet
     exact ⟨_, HF.out⟩
   · have hd : decide (0 < (n : Int)) = true := by simp; omega
     have hd2 : (0 : Int) < (n : Int) := by omega
     have HP := Lib.hid (HP1.out h0)
     clear h0
     go_wp2
     clear hd hd2
     go_loop [28, 5] (fun s28 s5 => ∃ (k : Nat) (s : ByteArray), k ≤ n ∧ s28 = .int .i64 k ∧ s5 = .string s ∧ tx s = wBundle ++ (d.bundle.take k).flatMap fun b => 32 :: tx b) (fun s28 _ => n - (intOf s28).toNat)
     case atStart => exact ⟨0, _, Nat.zero_le _, rfl, rfl, rfl⟩
     case round =>
      obtain ⟨k, s, hk, rfl, rfl, hs⟩ := hrel
      have HS := Lib.hid hs
      have hss : s.size ≤ 6 + 1000000000 := by
       rw [← tx_length, hs, List.length_append]
       have := words_le d.bundle k
       have := HFM.out
       have : wBundle.length = 6 := rfl
       omega
      clear hs
      by_cases hlt : k < n
      · obtain ⟨ad, c', e1, had, d0⟩ := (HTV.out.below (HUP.out _ HWC.out.2)).at_ (i := k) (by rw [HNB.out]; exact hlt)
        injection e1 with e1 e1n e1c
        clear e1n e1c
        subst e1
        have gb := getD_of (L := d.bundle) (i := k) (by rw [HNB.out]; exact hlt)
        obtain ⟨b, hb⟩ : ∃ b, d.bundle.getD k default = b := ⟨_, rfl⟩
        rw [hb] at d0 gb
        have hbl := words_at gb
        have hbf := HFM.out
        have hbz : b.size ≤ 1000000000 := by omega
        have HWN := Lib.hid (words_next gb)
        have hk0 : (0 : Int) ≤ (k : Int) := by omega
        have hk1 : (k : Int) < (n : Int) := by omega
        have q1 : ¬ 9223372036854775807 < s.size + 1 := by omega
        have q2 : ¬ 9223372036854775807 < s.size + 1 + b.size := by omega
        clear hb gb had hbl hbf
        go_wp2
        go_round
        case rel => exact ⟨k + 1, _, by omega, by go_num, rfl, by rw [tx_append, tx_append, HS.out, HWN.out]; simp [tx]⟩
        case measure => simp [intOf]; omega
      · obtain rfl : k = n := by omega
        have HGS : Hid (tx s = groupT d.bundle) := Lib.hid (by
         have := HS.out
         rw [List.take_of_length_le (by rw [HNB.out]; exact Nat.le_refl _)] at this
         exact this)
        have c3 : wc.cell? ⟨g, 3, none⟩ = some (.slice none 0 0) := HWC.out.1.cell 3
        have HNC : Hid (N ≤ (wc.alloc (.cells #[.string ⟨#[103, 114, 111, 117, 112]⟩, .string s] 55)).heap.size) := Lib.hid (by rw [World.size_alloc]; have := HNW.out _ HWC.out.2; omega)
        clear p2 HS hss
        go_wp2_with (at_builtin; refine wpList_appendE (rs := []) (base := N) (r := [.string ⟨#[103, 114, 111, 117, 112]⟩, .string s]) rfl (.tmp 41) (.tmp 44) rfl Tryz.underlying30 Tryz.infoRSAttr rfl (Nat.zero_lt_succ _) rfl (Own.nil _ _ _ _) rfl (Whole.new _ _ _) rfl (fun u hu => by simp at hu; rcases hu with rfl | rfl <;> rfl) (by decide) (by decide) HNC.out ?_; intro v8 w8 ho8 hg8 hn8; have hx8 : Whole w8 g 107 #[.string O, .string ⟨#[45]⟩, .string ⟨#[48, 32, 48]⟩, .slice none 0 0, .slice none 0 0] := (HWC.out.1.alloc _).grown hg8 (fun e => by cases e); have hb8 : Below B0 w0 w8 := (HWC.out.2.alloc (HSZ.out _ HWC.out.2) _).grown hg8 (by rw [World.size_alloc]; have := HSZ.out _ HWC.out.2; omega) (fun j hj => by cases hj); have x8 : w8.cell? ⟨g, 3, none⟩ = some (.slice none 0 0) := hx8.cell 3; have y8 := hx8.frz 3; obtain ⟨A8, k8, hv8, -⟩ := Own.form ho8; simp only [List.nil_append, List.length_cons, List.length_nil] at hv8; subst hv8; have HFIN : Hid (Whole (w8.setCell ⟨g, 3, none⟩ (.slice A8 1 k8)) g 107 #[.string O, .string ⟨#[45]⟩, .string ⟨#[48, 32, 48]⟩, .slice A8 1 k8, .slice none 0 0] ∧ AtS (w8.setCell ⟨g, 3, none⟩ (.slice A8 1 k8)) N (.slice A8 1 k8) pre ∧ Below B0 w0 (w8.setCell ⟨g, 3, none⟩ (.slice A8 1 k8))) := Lib.hid ⟨hx8.set 3 _, by rw [HP.out]; exact group_own ho8 hx8 HGS.out, hb8.setCell (p := ⟨g, 3, none⟩) HGB.out _⟩; clear ho8 hg8 hn8 hx8 hb8)
        go_meet
        exact ⟨_, HFIN.out⟩
  case rest =>
   obtain ⟨vA, hw, ha, hb⟩ := hcut
   obtain ⟨AA, cA, hvA, -⟩ := Own.form ha
   generalize (pre.map acell).length = lA at hvA
   subst hvA
   have H5 := Lib.hid (And.intro hw (And.intro ha (And.intro (HUP.out _ hb) (And.intro (HX.out _ hb) (HNW.out _ hb)))))
   have HGN : Hid (N + 1 < g) := Lib.hid (by have := H0.out.2.2.lt; rw [HB0.out] at this; have := HGB.out; omega)
   have c0 : wc.cell? ⟨g, 3, none⟩ = some (.slice AA lA cA) := hw.cell 3
   have c3 : wc.cell? ⟨N, 3, none⟩ = some (.string d.name) := (HX.out _ hb).1.cell 3
   have c4 : wc.cell? ⟨N, 4, none⟩ = some (.string d.pass) := (HX.out _ hb).1.cell 4
   have HTW : Hid (∀ (i : Nat) (x : AttrS), ([⟨⟨#[105, 99, 101, 45, 117, 102, 114, 97, 103]⟩, d.name⟩, ⟨⟨#[105, 99, 101, 45, 112, 119, 100]⟩, d.pass⟩] : List AttrS)[i]? = some x → (wc.alloc (.cells #[.string ⟨#[105, 99, 101, 45, 117, 102, 114, 97, 103]⟩, .string d.name, .string ⟨#[105, 99, 101, 45, 112, 119, 100]⟩, .string d.pass] 55)).cell? ((⟨wc.heap.size, 0, none⟩ : Addr).add (i * 2)) = some (.string x.name) ∧ (wc.alloc (.cells #[.string ⟨#[105, 99, 101, 45, 117, 102, 114, 97, 103]⟩, .string d.name, .string ⟨#[105, 99, 101, 45, 112, 119, 100]⟩, .string d.pass] 55)).cell? ((⟨wc.heap.size, 0, none⟩ : Addr).add (i * 2 + 1)) = some (.string x.value)) := Lib.hid (two_attrsR (Whole.new _ _ _))
   have HNA : Hid (N ≤ (wc.alloc (.cells #[.string ⟨#[105, 99, 101, 45, 117, 102, 114, 97, 103]⟩, .string d.name, .string ⟨#[105, 99, 101, 45, 112, 119, 100]⟩, .string d.pass] 55)).heap.size) := Lib.hid (by rw [World.size_alloc]; have := H5.out.2.2.2.2; omega)
   clear hw ha hb
   go_upto_region 11 with (at_builtin; refine wpList_appendLR (K := pre) (L := [⟨⟨#[105, 99, 101, 45, 117, 102, 114, 97, 103]⟩, d.name⟩, ⟨⟨#[105, 99, 101, 45, 112, 119, 100]⟩, d.pass⟩]) (ad := ⟨wc.heap.size, 0, none⟩) (base := N) rfl (.tmp 48) (.tmp 55) rfl rfl (Own.alloc H5.out.2.1 _) rfl rfl HTW.out (by have := HPL.out; simp; omega) HNA.out ?_; intro v9 w9 ho9 hg9 hn9; have H9 := Lib.hid (head_stepR HPA.out ho9 hg9 H5.out.1 H5.out.2.1 H5.out.2.2.2.1.2 H5.out.2.2.2.1.1 H5.out.2.2.1 H5.out.2.2.2.2); obtain ⟨A9, k9, hv9, -⟩ := Own.form H9.out.1; generalize ((headA d).map acell).length = l9 at hv9; subst hv9; have x9 : w9.cell? ⟨g, 3, none⟩ = some (.slice AA lA cA) := H9.out.2.1.cell 3; have y9 := H9.out.2.1.frz 3; clear ho9 hg9 hn9)
   have H10 : Hid (CK TR N g (sesD d) 0 (.slice A9 l9 k9) (.slice none 0 0) [] (w9.setCell ⟨g, 3, none⟩ (.slice A9 l9 k9)) ∧ Below N w (w9.setCell ⟨g, 3, none⟩ (.slice A9 l9 k9)) ∧ Whole (w9.setCell ⟨g, 3, none⟩ (.slice A9 l9 k9)) N 62 #[.int .u64 d.id, .int .u64 d.ver, .slice AB n cB, .string d.name, .string d.pass, .slice AM nM cM] ∧ Whole (w9.setCell ⟨g, 3, none⟩ (.slice A9 l9 k9)) (N + 1) 107 #[.string ⟨#[]⟩, .string ⟨#[]⟩, .string ⟨#[]⟩, .slice none 0 0, .slice none 0 0]) := Lib.hid
    ⟨CK.start TR.ok (by have := HGN.out; omega) (by rw [HO.out] at H9; exact H9.out.2.1.set 3 _) (H9.out.1.far (p := ⟨g, 3, none⟩) (H9.out.1.apart H9.out.2.1 (by decide)) _), H9.out.2.2.2.2.setCell (p := ⟨g, 3, none⟩) (Nat.le_trans HNB0.out HGB.out) _, H9.out.2.2.2.1.far (p := ⟨g, 3, none⟩) (by have := HGN.out; show N ≠ g; omega) _, H9.out.2.2.1.far (p := ⟨g, 3, none⟩) (by have := HGN.out; show N + 1 ≠ g; omega) _⟩
   clear x9 y9 c0 c3 c4 HTW HNA H9 H5 HWC
   generalize w9.setCell ⟨g, 3, none⟩ (.slice A9 l9 k9) = w10 at *
   have c5 : w10.cell? ⟨N, 5, none⟩ = some (.slice AM nM cM) := H10.out.2.2.1.cell 5
   go_wp2
   clear c5
   go_loopw [61] (fun s61 wr => ∃ (k : Nat) (vP : Value) (us : List Value), k ≤ nM ∧ s61 = .int .i64 k ∧ CK TR N g (sesD d) k (.slice A9 l9 k9) vP us wr ∧ Below N w wr ∧ Whole wr N 62 #[.int .u64 d.id, .int .u64 d.ver, .slice AB n cB, .string d.name, .string d.pass, .slice AM nM cM] ∧ Whole wr (N + 1) 107 #[.string ⟨#[]⟩, .string ⟨#[]⟩, .string ⟨#[]⟩, .slice none 0 0, .slice none 0 0] ∧ ∀ m ∈ d.media.take k, mayM m = true) (fun s61 _ => nM - (intOf s61).toNat)
   case atStart => exact ⟨0, _, _, Nat.zero_le _, rfl, H10.out.1, H10.out.2.1, H10.out.2.2.1, H10.out.2.2.2, fun m hm => (by simp at hm)⟩
   case round =>
    obtain ⟨k, vP, us, hk, rfl, hck, hbl, hwh, hwz, hall⟩ := hrel
    have HK := Lib.hid (And.intro hck (And.intro hbl (And.intro hwh (And.intro hwz hall))))
    clear hck hbl hwh hwz hall H10
    by_cases hlt : k < nM
    · obtain ⟨ad, c1', X, vC, vE, vR, vS, vY, e1, b1, hx, xs⟩ := MediasV.at_ HMV.out (i := k) (by rw [HNL.out]; exact hlt)
      injection e1 with e1 e1n e1c
      clear e1n e1c
      subst e1
      have gm := getD_of (L := d.media) (i := k) (by rw [HNL.out]; exact hlt)
      obtain ⟨m, hm⟩ : ∃ m, d.media.getD k default = m := ⟨_, rfl⟩
      rw [hm] at hx gm
      have HGM := Lib.hid gm
      have hk0 : (0 : Int) ≤ (k : Int) := by omega
      have hk1 : (k : Int) < (nM : Int) := by omega
      have HLD : Hid (∀ (ops : Array Oper) (rest : List Oper) (op : Oper) (act : Act) (Q : Exit → Act → World → Prop), op.guard = none → op.op = .load 28 (.tmp 68) → act.eval (.tmp 68) = .pointer (some (ad.add (k * 11))) → wpList Tryz.prog ops Q rest (act.put op.dst (.agg X)) wr → wpList Tryz.prog ops Q (op :: rest) act wr) :=
       Lib.hid fun ops rest op act Q h1 h2 h3 h4 => wpList_load_at h1 28 (.tmp 68) h2 _ h3 X.toList _ (fun j u hu => (HK.out.2.1.cell (p := (ad.add (k * 11)).add j) (by rw [add_block, add_block, ← HN.out]; exact b1)).trans (xs j u hu)) Tryz.underlying28 rfl (by rw [Array.length_toList, hx.size]; exact Tryz.sizeMedia) (by rw [Array.toArray_toList]; exact h4)
      have HSMM : Hid (SizM m) := Lib.hid (HSM.out m (List.mem_of_getElem? gm))
      have c5 : wr.cell? ⟨N, 5, none⟩ = some (.slice (some ad) nM cM) := HK.out.2.2.1.cell 5
      have HALL : Hid (∀ m ∈ d.media.take k, mayM m = true) := Lib.hid HK.out.2.2.2.2
      have HWM : Hid (Calls Tryz.prog 15 #[.agg X] wr (WriteO 55 wr m)) := Lib.hid (HWR.out wr X m vC vE vR vS vY (by rw [HN.out]; exact HK.out.2.1) hx HSMM.out)
      clear gm hm xs hx b1
      by_cases hmm : mayM m = true
      · have hp : partW m = partM m := by unfold partW; rw [if_pos hmm]
        have he : errW m = 0 := by unfold errW; rw [if_pos hmm]
        have HMM := Lib.hid hmm
        have HPE := Lib.hid (And.intro hp he)
        clear hmm hp he
        obtain ⟨p, hpp⟩ : ∃ p, partM m = p := ⟨_, rfl⟩
        have HPP := Lib.hid hpp
        clear hpp
        go_upto_if 74 with (first
         | ((with_reducible refine HLD.out _ _ _ _ _ ?_ ?_ ?_ ?_); (with_reducible rfl); (with_reducible rfl); rfl)
         | (go_at_call 15; (with_reducible refine HWM.out.mono ?_); rintro e w5 hw5; obtain ⟨v5, rfl, ho5, hb5⟩ := hw5.part; rw [HPE.out.1, HPE.out.2, HPP.out]; rw [HPE.out.1, HPP.out] at ho5; obtain ⟨A5, c5', hv5, -⟩ := Own.form ho5; generalize (p.attrs.map acell).length = l5 at hv5; subst hv5; have H5 : Hid (CK TR N g (sesD d) k (.slice A9 l9 k9) vP us (w5.alloc (.cells #[.string p.line, .string p.conn, .slice A5 l5 c5'] 32)) ∧ Below N w (w5.alloc (.cells #[.string p.line, .string p.conn, .slice A5 l5 c5'] 32)) ∧ Whole (w5.alloc (.cells #[.string p.line, .string p.conn, .slice A5 l5 c5'] 32)) N 62 #[.int .u64 d.id, .int .u64 d.ver, .slice AB n cB, .string d.name, .string d.pass, .slice (some ad) nM cM] ∧ Own (w5.alloc (.cells #[.string p.line, .string p.conn, .slice A5 l5 c5'] 32)) N 55 2 (.slice A5 l5 c5') (p.attrs.map acell) ∧ Whole (w5.alloc (.cells #[.string p.line, .string p.conn, .slice A5 l5 c5'] 32)) w5.heap.size 32 #[.string p.line, .string p.conn, .slice A5 l5 c5'] ∧ Whole (w5.alloc (.cells #[.string p.line, .string p.conn, .slice A5 l5 c5'] 32)) (N + 1) 107 #[.string ⟨#[]⟩, .string ⟨#[]⟩, .string ⟨#[]⟩, .slice none 0 0, .slice none 0 0]) := Lib.hid (by have hbb := hb5.alloc hb5.size (.cells #[.string p.line, .string p.conn, .slice A5 l5 c5'] 32); exact ⟨HK.out.1.under hbb, below_chain HNN.out HK.out.2.1 hbb, HK.out.2.2.1.under hbb, Own.base_le (Own.alloc ho5 _) (Nat.le_of_lt HK.out.2.2.1.lt), Whole.new _ _ _, HK.out.2.2.2.1.under hbb⟩); clear ho5 hb5 hw5; dsimp only))
        generalize w5.alloc (.cells #[.string p.line, .string p.conn, .slice A5 l5 c5'] 32) = w7 at *
        generalize w5.heap.size = g7 at *
        clear HWM HK c5 HLD
        have HFU : Hid ((List.zipWith pcell ((sesD d).parts.take k) us).length = k) := Lib.hid H5.out.1.len
        obtain ⟨AP, cP, hvP, -⟩ := Own.form H5.out.1.par
        rw [HFU.out] at hvP
        subst hvP
        have q4 : w7.cell? ⟨g, 4, none⟩ = some (.slice AP k cP) := H5.out.1.box.cell 4
        have p70 : w7.cell? ⟨g7, 0, none⟩ = some (.string p.line) := H5.out.2.2.2.2.1.cell 0
        have p71 : w7.cell? ⟨g7, 1, none⟩ = some (.string p.conn) := H5.out.2.2.2.2.1.cell 1
        have p72 : w7.cell? ⟨g7, 2, none⟩ = some (.slice A5 l5 c5') := H5.out.2.2.2.2.1.cell 2
        have HNW7 : Hid (N ≤ w7.heap.size) := Lib.hid (Nat.le_of_lt H5.out.2.2.1.lt)
        have HAL : Hid (CK TR N g (sesD d) k (.slice A9 l9 k9) (.slice AP k cP) us (w7.alloc (.cells #[.string p.line, .string p.conn, .slice A5 l5 c5'] 32)) ∧ Whole (w7.alloc (.cells #[.string p.line, .string p.conn, .slice A5 l5 c5'] 32)) w7.heap.size 32 #[.string p.line, .string p.conn, .slice A5 l5 c5'] ∧ N ≤ (w7.alloc (.cells #[.string p.line, .string p.conn, .slice A5 l5 c5'] 32)).heap.size) := Lib.hid ⟨H5.out.1.under ((Below.refl _ _).alloc (Nat.le_refl _) _), Whole.new _ _ _, by rw [World.size_alloc]; have := HNW7.out; omega⟩
        have HKP : Hid ((sesD d).parts[k]? = some p) := Lib.hid (by show (d.media.map partM)[k]? = _; rw [List.getElem?_map, HGM.out, ← HPP.out]; rfl)
        have hk8 : k ≤ 100000 := by
         have := HN8.out
         have := HNL.out
         omega
        go_upto_region 18 with (at_builtin; refine wpList_appendE (r := [.string p.line, .string p.conn, .slice A5 l5 c5']) rfl (.tmp 77) (.tmp 79) rfl Tryz.underlying105 Tryz.infoRSPart rfl (Nat.zero_lt_succ _) rfl HAL.out.1.par rfl HAL.out.2.1 rfl (fun u hu => by simp at hu; rcases hu with rfl | rfl | rfl <;> rfl) (by rw [HFU.out]; omega) (by rw [HFU.out]; omega) HAL.out.2.2 ?_; intro v8 w8 ho8 hg8 hn8; have H8 := Lib.hid (part_stepR HAL.out.1 HKP.out (Own.alloc H5.out.2.2.2.1 _) ho8 hg8 (H5.out.2.1.alloc HNW7.out _) (H5.out.2.2.1.alloc _) (H5.out.2.2.2.2.2.alloc _) HAL.out.2.2 HGN.out); have x8 : w8.cell? ⟨g, 4, none⟩ = some (.slice AP k cP) := H8.out.1.cell 4; have y8 := H8.out.1.frz 4; obtain ⟨A8, c8, hv8, -⟩ := Own.form ho8; generalize (List.zipWith pcell ((sesD d).parts.take k) us ++ [[Value.string p.line, Value.string p.conn, Value.slice A5 l5 c5']]).length = l8 at hv8; subst hv8; clear ho8 hg8 hn8)
        have HFN : Hid (∀ m ∈ d.media.take (k + 1), mayM m = true) := Lib.hid fun m' hm' => by
         rw [List.take_add_one, HGM.out, List.mem_append] at hm'
         rcases hm' with hm' | hm'
         · exact HALL.out m' hm'
         · have : m' = m := by simpa using hm'
           rw [this]
           exact HMM.out
        have H9 := Lib.hid (H8.out.2 _ rfl)
        clear x8 y8 q4 p70 p71 p72 HAL H8 H5
        go_wp2
        go_roundw
        case rel => exact ⟨k + 1, _, _, by omega, by go_num, H9.out.1, H9.out.2.1, H9.out.2.2.1, H9.out.2.2.2, HFN.out⟩
        case measure => simp [intOf]; omega
      · have he : errW m = 1 := by unfold errW; rw [if_neg hmm]
        have HEX : Hid (∃ m ∈ d.media, mayM m = false) := Lib.hid ⟨m, List.mem_of_getElem? HGM.out, by simpa using hmm⟩
        have HPE := Lib.hid he
        clear hmm he
        go_wp2_with (first
         | ((with_reducible refine HLD.out _ _ _ _ _ ?_ ?_ ?_ ?_); (with_reducible rfl); (with_reducible rfl); rfl)
         | (go_at_call 15; (with_reducible refine HWM.out.mono ?_); rintro e w5 hw5; obtain ⟨v5, rfl, ho5, hb5⟩ := hw5.part; rw [HPE.out]; obtain ⟨A5, c5', hv5, -⟩ := Own.form ho5; generalize ((partW m).attrs.map acell).length = l5 at hv5; subst hv5; have hbb := hb5.alloc hb5.size (.cells #[.string (partW m).line, .string (partW m).conn, .slice A5 l5 c5'] 32); have H5 : Hid (Below N w (w5.alloc (.cells #[.string (partW m).line, .string (partW m).conn, .slice A5 l5 c5'] 32)) ∧ Whole (w5.alloc (.cells #[.string (partW m).line, .string (partW m).conn, .slice A5 l5 c5'] 32)) (N + 1) 107 #[.string ⟨#[]⟩, .string ⟨#[]⟩, .string ⟨#[]⟩, .slice none 0 0, .slice none 0 0]) := Lib.hid ⟨below_chain HNN.out HK.out.2.1 hbb, HK.out.2.2.2.1.under hbb⟩; clear ho5 hb5 hw5 hbb; dsimp only)
         | ((with_reducible refine wpList_storeS #[.string ⟨#[]⟩, .string ⟨#[]⟩, .string ⟨#[]⟩, .slice none 0 0, .slice none 0 0] ?_ 107 (.tmp 2) (.tmp 75) ?_ ?_ ?_ H5.out.2 Tryz.sizeRsSes ?_ ?_ ?_ ?_); (with_reducible rfl); (with_reducible rfl); rfl; rfl; rfl; rfl; rfl)
         | ((with_reducible show bodyPost _ _ _ _ _ _); exact bodyPost_ret (ret_struct2 rfl rfl (H5.out.2.row _) Tryz.underlying107 rfl Tryz.sizeRsSes rfl) rfl ⟨_, .slice none 0 0, .slice none 0 0, false, rfl, by rw [HN.out]; exact below_row H5.out.1 (Nat.le_succ N) _, .inr ⟨rfl, HEX.out, rfl⟩⟩))
    · obtain rfl : k = nM := by omega
      have HALL : Hid (∀ m ∈ d.media, mayM m = true) := Lib.hid (by
       have := HK.out.2.2.2.2
       rwa [List.take_of_length_le (by rw [HNL.out]; exact Nat.le_refl _)] at this)
      have HRD := Lib.hid (((HK.out.1.farRow TR.ok HK.out.2.2.2.1 (by have := HGN.out; omega) #[.string (bs (originT d.id d.ver)), .string (bs [45]), .string (bs [48, 32, 48]), .slice A9 l9 k9, vP])).read (by show k = (d.media.map partM).length; rw [List.length_map, HNL.out]))
      have HBX : Hid (Whole wr g 107 #[.string (bs (originT d.id d.ver)), .string (bs [45]), .string (bs [48, 32, 48]), .slice A9 l9 k9, vP]) := Lib.hid HK.out.1.box
      have HONE : Hid ((#[.string (bs (originT d.id d.ver)), .string (bs [45]), .string (bs [48, 32, 48]), .slice A9 l9 k9, vP] : Array Value).toList.all (·.oneCell') = true) := Lib.hid (by simp only [List.all_cons, List.all_nil, HK.out.1.att.one, HK.out.1.par.one]; rfl)
      go_wp2_with (first
       | ((with_reducible refine wpList_load_all ?_ 107 (.tmp 4) ?_ HBX.out ?_ Tryz.sizeRsSes ?_ Tryz.underlying107 ?_ ?_); (with_reducible rfl); (with_reducible rfl); rfl; rfl; rfl)
       | ((with_reducible refine wpList_storeS #[.string (bs (originT d.id d.ver)), .string (bs [45]), .string (bs [48, 32, 48]), .slice A9 l9 k9, vP] ?_ 107 (.tmp 2) (.tmp 83) ?_ ?_ ?_ HK.out.2.2.2.1 Tryz.sizeRsSes ?_ ?_ HONE.out ?_); (with_reducible rfl); (with_reducible rfl); rfl; rfl; rfl; rfl)
       | ((with_reducible show bodyPost _ _ _ _ _ _); exact bodyPost_ret (ret_struct2 rfl rfl (HK.out.2.2.2.1.row _) Tryz.underlying107 rfl Tryz.sizeRsSes rfl) rfl ⟨_, _, _, true, rfl, by rw [HN.out]; exact below_row HK.out.2.1 (Nat.le_succ N) _, .inl ⟨rfl, HALL.out, rfl, HRD.out.1, HRD.out.2⟩⟩))
end Go.Proofs.YtbbedhecfipdjaaGreatDoor
