import Derived.Test.YtbbedhecfipdjaaGreatDoorPkDescPrintsA09
namespace Go.Proofs.YtbbedhecfipdjaaGreatDoor
open Go.RowKit
set_option linter.unusedVariables false
set_option linter.unusedSimpArgs false
def WriteO (E : TypeId) (w : World) (m : MediaS) (e : Ending) (w' : World) : Prop :=
 ∃ P : Array Value, e = .returned (.tuple #[.agg P, .int .i64 (if mayM m = true then 0 else 1)]) ∧ Below w.heap.size w w' ∧
   (mayM m = true → ∃ v, P = #[.string (bs (lineM m)), .string (bs wConn), v] ∧ Own w' w.heap.size E 2 v ((attrsM m).map acell)) ∧ (mayM m = false → P = #[.string ⟨#[]⟩, .string ⟨#[]⟩, .slice none 0 0])
theorem WriteO.no {E : TypeId} {w w' : World} {m : MediaS} (h : mayM m = false) (hb : Below w.heap.size w w') : WriteO E w m (.returned (.tuple #[.agg #[.string ⟨#[]⟩, .string ⟨#[]⟩, .slice none 0 0], .int .i64 1])) w' :=
 ⟨_, by rw [if_neg (by rw [h]; decide)], hb, fun e => (by rw [h] at e; cases e), fun _ => rfl⟩
theorem WriteO.yes {E : TypeId} {w w' : World} {m : MediaS} {v : Value} {s : ByteArray} (h : mayM m = true) (hb : Below w.heap.size w w') (hs : s = bs (lineM m)) (ho : Own w' w.heap.size E 2 v ((attrsM m).map acell)) :
 WriteO E w m (.returned (.tuple #[.agg #[.string s, .string (bs wConn), v], .int .i64 0])) w' :=
 ⟨_, by rw [if_pos h], hb, fun _ => ⟨v, by rw [hs], ho⟩, fun e => (by rw [h] at e; cases e)⟩
theorem mayM_no {m : MediaS} (h : goodM m = false) : mayM m = false := by unfold mayM; rw [h]; rfl
set_option maxHeartbeats 6400000 in
set_option maxRecDepth 100000 in
theorem write_any (M : Array Value) (m : MediaS) (vC vE vR vS vY : Value) (w : World) (h : MediaV w w.heap.size M m vC vE vR vS vY) (hz : SizM m) (hE : Env w) (h7 : 7 ≤ w.heap.size) :
 Calls Tryz.prog 16 #[.agg M] w (WriteO 53 w m) := by
 have hb0 : Below w.heap.size w ((w.alloc (.cells M 28)).alloc (.cells #[.string ⟨#[]⟩, .string ⟨#[]⟩, .slice none 0 0] 38)) := two_new _ _ _ _
 have hw := (Whole.new w 28 M).alloc (.cells #[.string ⟨#[]⟩, .string ⟨#[]⟩, .slice none 0 0] 38)
 have hr := Whole.new2 w (.cells M 28) 38 #[.string ⟨#[]⟩, .string ⟨#[]⟩, .slice none 0 0]
 have HSZ := Lib.hid h.size
 have H0 := Lib.hid (And.intro hb0 (And.intro hw hr))
 have HM := Lib.hid h
 have HZ := Lib.hid hz
 have HEN := Lib.hid hE
 clear h hz hE hb0 hw hr
 obtain ⟨N, hN⟩ : ∃ N, w.heap.size = N := ⟨_, rfl⟩
 have HNW : Hid (w.heap.size = N) := Lib.hid hN
 have H7 : Hid (7 ≤ N) := Lib.hid (by omega)
 rw [hN] at H0
 clear hN h7
 go_enter Tryz.func16, Tryz.ntmps16
 go_upto_region 1 with fail
 simp only [HNW.out]
 generalize (w.alloc (.cells M 28)).alloc (.cells #[.string ⟨#[]⟩, .string ⟨#[]⟩, .slice none 0 0] 38) = W0 at *
 have HU : Hid (∀ W, Below N w W → MediaV W W.heap.size M m vC vE vR vS vY ∧ Env W ∧ 7 ≤ W.heap.size) := Lib.hid fun W hW => by
  rw [← HNW.out] at hW
  have h1 := hW.size
  exact ⟨HM.out.under hW, HEN.out.under hW, by have := H7.out; rw [← HNW.out] at this; omega⟩
 have HGO : Hid (Calls Tryz.prog 19 #[.agg M] W0 fun e w' => e = .returned (.bool (goodM m)) ∧ Below W0.heap.size W0 w') := Lib.hid (good_any M m vC vE vR vS vY W0 (HU.out _ H0.out.1).1 HZ.out)
 have HST : Hid (∀ W W', Below N w W ∧ Whole W N 28 M ∧ Whole W (N + 1) 38 #[.string ⟨#[]⟩, .string ⟨#[]⟩, .slice none 0 0] → Below W.heap.size W W' → Below N w W' ∧ Whole W' N 28 M ∧ Whole W' (N + 1) 38 #[.string ⟨#[]⟩, .string ⟨#[]⟩, .slice none 0 0]) := Lib.hid fun W W' h hb => ⟨h.1.trans (hb.mono (by rw [← HNW.out]; have := h.1.size; rw [HNW.out] at this ⊢; exact this)), h.2.1.under hb, h.2.2.under hb⟩
 cases hg : goodM m with
 | false =>
   have HNO := Lib.hid (mayM_no hg)
   rw [hg] at HGO
   clear hg
   go_wp2_with (first
    | ((with_reducible refine wpList_load_all ?_ 28 (.tmp 1) ?_ H0.out.2.1 ?_ Tryz.sizeMedia HSZ.out Tryz.underlying28 ?_ ?_); (with_reducible rfl); (with_reducible rfl); rfl; rfl)
    | (go_at_call 19; (with_reducible refine HGO.out.mono ?_); rintro e w1 ⟨rfl, hb1⟩; have H1 := Lib.hid (HST.out _ _ H0.out hb1); clear hb1)
    | ((with_reducible refine wpList_storeS #[.string ⟨#[]⟩, .string ⟨#[]⟩, .slice none 0 0] ?_ 38 (.tmp 2) (.tmp 8) ?_ ?_ ?_ H1.out.2.2 Tryz.sizeSPart ?_ ?_ ?_ ?_); (with_reducible rfl); (with_reducible rfl); rfl; rfl; rfl; rfl; rfl))
   refine bodyPost_ret (v := .tuple #[.agg #[.string ⟨#[]⟩, .string ⟨#[]⟩, .slice none 0 0], .int .i64 1]) ?_ rfl ?_
   · exact ret_struct2 (p := 2) (s := 3) rfl rfl (H1.out.2.2.row _) Tryz.underlying38 rfl Tryz.sizeSPart rfl
   · exact WriteO.no HNO.out (by rw [HNW.out]; exact below_row H1.out.1 (by omega) _)
 | true =>
   obtain ⟨hp, hmd, ⟨hd0, hd3⟩, hk, hs⟩ := goodM_parts hg
   have HK : Hid ((1 ≤ m.kind ∧ m.kind ≤ 3) ∧ (0 ≤ m.port ∧ m.port ≤ 9) ∧ ∀ c ∈ m.codecs, 0 ≤ c.type ∧ c.type ≤ 127) := Lib.hid ⟨by omega, by omega, fun c hc => (goodC_parts (hs.codecs c hc)).1⟩
   have HG := Lib.hid hg
   have HAT : Hid (∀ W, Below N w W → Calls Tryz.prog 38 #[.agg M] W fun e w' => ∃ v, e = .returned v ∧ AtO w' W.heap.size v (attrsM m) ∧ Below W.heap.size W w') := Lib.hid fun W hW => attributes_any M m vC vE vR vS vY W (HU.out W hW).1 HZ.out (HU.out W hW).2.1 (HU.out W hW).2.2 HG.out
   have HLI : Hid (∀ W, Below N w W → Calls Tryz.prog 39 #[.agg M] W fun e w' => e = .returned (.string (bs (lineM m))) ∧ Below W.heap.size W w') := Lib.hid fun W hW => line_any M m vC vE vR vS vY W (HU.out W hW).1 HZ.out (HU.out W hW).2.1 HK.out.1 HK.out.2.1 HK.out.2.2
   rw [hg] at HGO
   clear hg hp hmd hd0 hd3 hk hs HK
   go_upto_region 3 with (first
    | ((with_reducible refine wpList_load_all ?_ 28 (.tmp 1) ?_ H0.out.2.1 ?_ Tryz.sizeMedia HSZ.out Tryz.underlying28 ?_ ?_); (with_reducible rfl); (with_reducible rfl); rfl; rfl)
    | (go_at_call 19; (with_reducible refine HGO.out.mono ?_); rintro e w1 ⟨rfl, hb1⟩; have H1 := Lib.hid (HST.out _ _ H0.out hb1); clear hb1))
   go_upto_region 4 with (first
    | ((with_reducible refine wpList_load_all ?_ 28 (.tmp 1) ?_ H1.out.2.1 ?_ Tryz.sizeMedia HSZ.out Tryz.underlying28 ?_ ?_); (with_reducible rfl); (with_reducible rfl); rfl; rfl)
    | (go_at_call 38; (with_reducible refine (HAT.out _ H1.out.1).mono ?_); rintro e w2 ⟨v2, rfl, ho2, hb2⟩; have H2 := Lib.hid (HST.out _ _ H1.out hb2); have HO2 : Hid (AtO w2 N v2 (attrsM m)) := Lib.hid (Own.base_le ho2 (by have := H1.out.1.size; rw [HNW.out] at this; exact this)); clear hb2 ho2))
   obtain ⟨A2, c2, hv2, -⟩ := Own.form HO2.out
   rw [List.length_map] at hv2
   obtain ⟨n, hn⟩ : ∃ n, (attrsM m).length = n := ⟨_, rfl⟩
   rw [hn] at hv2
   subst hv2
   by_cases h64 : 64 < n
   · have HNO : Hid (mayM m = false) := Lib.hid (by unfold mayM; rw [HG.out, hn]; simp; omega)
     have h64 : (64 : Int) < (n : Int) := by omega
     clear hn
     go_wp2_with ((with_reducible refine wpList_storeS #[.string ⟨#[]⟩, .string ⟨#[]⟩, .slice none 0 0] ?_ 38 (.tmp 2) (.tmp 14) ?_ ?_ ?_ H2.out.2.2 Tryz.sizeSPart ?_ ?_ ?_ ?_); (with_reducible rfl); (with_reducible rfl); rfl; rfl; rfl; rfl; rfl)
     refine bodyPost_ret (v := .tuple #[.agg #[.string ⟨#[]⟩, .string ⟨#[]⟩, .slice none 0 0], .int .i64 1]) ?_ rfl ?_
     · exact ret_struct2 (p := 2) (s := 3) rfl rfl (H2.out.2.2.row _) Tryz.underlying38 rfl Tryz.sizeSPart rfl
     · exact WriteO.no HNO.out (by rw [HNW.out]; exact below_row H2.out.1 (by omega) _)
   · have HYE : Hid (mayM m = true) := Lib.hid (by unfold mayM; rw [HG.out, hn]; simp; omega)
     have h64 : (n : Int) ≤ (64 : Int) := by omega
     obtain ⟨sl, hsl⟩ : ∃ s, bs (lineM m) = s := ⟨_, rfl⟩
     have HSL := Lib.hid hsl
     rw [hsl] at HLI
     clear hn hsl
     go_wp2_with (first
      | ((with_reducible refine wpList_load_all ?_ 28 (.tmp 1) ?_ H2.out.2.1 ?_ Tryz.sizeMedia HSZ.out Tryz.underlying28 ?_ ?_); (with_reducible rfl); (with_reducible rfl); rfl; rfl)
      | (go_at_call 39; (with_reducible refine (HLI.out _ H2.out.1).mono ?_); rintro e w3 ⟨rfl, hb3⟩; have H3 := Lib.hid (HST.out _ _ H2.out hb3); have HO3 := Lib.hid (HO2.out.under hb3); clear hb3)
      | ((with_reducible refine wpList_storeS #[.string sl, .string ⟨#[73, 78, 32, 73, 80, 52, 32, 48, 46, 48, 46, 48, 46, 48]⟩, .slice A2 n c2] ?_ 38 (.tmp 2) (.tmp 18) ?_ ?_ ?_ H3.out.2.2 Tryz.sizeSPart ?_ ?_ ?_ ?_); (with_reducible rfl); (with_reducible rfl); rfl; rfl; rfl; rfl; rfl))
     refine bodyPost_ret (v := .tuple #[.agg #[.string sl, .string ⟨#[73, 78, 32, 73, 80, 52, 32, 48, 46, 48, 46, 48, 46, 48]⟩, .slice A2 n c2], .int .i64 0]) ?_ rfl ?_
     · exact ret_struct2 (p := 2) (s := 3) rfl rfl (H3.out.2.2.row _) Tryz.underlying38 rfl Tryz.sizeSPart rfl
     · exact WriteO.yes HYE.out (by rw [HNW.out]; exact below_row H3.out.1 (by omega) _) HSL.out.symm (by rw [HNW.out]; exact Own.farRow HO3.out (Own.apart HO3.out H3.out.2.2 (by decide)) _)
end Go.Proofs.YtbbedhecfipdjaaGreatDoor
namespace Go.Proofs.YtbbedhecfipdjaaGreatDoor
open Go.RowKit Go.Shelf
set_option linter.unusedVariables false
set_option linter.unusedSimpArgs false
theorem Tryz.infoU8 : (Tryz.prog.info? 5).map (fun i => (i.zero, i.size, i.bytes)) = some (some (.int .u8 0), 1, 1) := by kernel_rfl
def Bs (w : World) (B : Nat) (A : Option Addr) (n : Nat) (xs : List Int) : Prop :=
 xs.length = n ∧ (0 < n → ∃ ad, A = some ad ∧ ad.block < B ∧ ∀ i, i < n → w.cell? (ad.add i) = some (.int .u8 (xs.getD i 0)))
section
variable {w w' : World} {B : Nat} {A : Option Addr} {n : Nat} {xs : List Int}
theorem Bs.below (h : Bs w B A n xs) (hb : Below B w w') : Bs w' B A n xs :=
 ⟨h.1, fun hn => by
  obtain ⟨ad, h1, h2, h3⟩ := h.2 hn
  exact ⟨ad, h1, h2, fun i hi => (hb.cell (p := ad.add i) (by rw [add_block]; exact h2)).trans (h3 i hi)⟩⟩
theorem Bs.more {B' : Nat} (h : Bs w B A n xs) (hB : B ≤ B') : Bs w B' A n xs :=
 ⟨h.1, fun hn => by
  obtain ⟨ad, h1, h2, h3⟩ := h.2 hn
  exact ⟨ad, h1, by omega, h3⟩⟩
end
def u8s (xs : List Int) : List Value := xs.map (Value.int .u8)
@[simp] theorem u8s_length (xs : List Int) : (u8s xs).length = xs.length := by simp [u8s]
theorem u8s_append (xs ys : List Int) : u8s (xs ++ ys) = u8s xs ++ u8s ys := by simp [u8s]
def Own8 (w : World) (base : Nat) (v : Value) (xs : List Int) : Prop := w.ownsRow base 5 1 v xs.length (u8s xs)
section
variable {w w' : World} {base : Nat} {v : Value} {xs : List Int}
theorem Own8.nil (w : World) (base : Nat) : Own8 w base (.slice none 0 0) [] := World.ownsRow_nil w base 5 1
theorem Own8.lt (h : Own8 w base v xs) {k : Nat} (hk : v.ownBlock = some k) : base ≤ k ∧ k < w.heap.size := World.ownsRow.lt h k hk
theorem Own8.grown {row : Option Nat} (h : Own8 w base v xs) (hg : w.grownBy w' row) (hne : v.ownBlock = none ∨ v.ownBlock ≠ row) : Own8 w' base v xs := World.ownsRow.kept h hg hne
theorem Own8.alloc (h : Own8 w base v xs) (o : Obj) : Own8 (w.alloc o) base v xs := World.ownsRow.alloc h o
theorem Own8.under (h : Own8 w base v xs) (hb : Below w.heap.size w w') : Own8 w' base v xs := by
 refine ⟨h.1, ?_⟩
 rcases h.2 with h0 | ⟨g, cap, cur, h1, h2, h3, h4⟩
 · exact .inl h0
 · exact .inr ⟨g, cap, cur, h1, h2, (hb.block g (Array.getElem?_eq_some_iff.1 h3).1).trans h3, h4⟩
theorem Own8.drewN (h : Own8 w base v xs) (n : Nat) : Own8 (w.drewN n) base v xs := h
theorem Own8.drew (h : Own8 w base v xs) : Own8 w.drew base v xs := h
theorem Own8.form (h : Own8 w base v xs) : ∃ A c, v = .slice A xs.length c ∧ xs.length ≤ c ∧ c ≤ maxLen ∧ (A = none → c = 0) ∧ Bs w w.heap.size A xs.length xs := by
 rcases h.2 with ⟨rfl, h0⟩ | ⟨g, cap, cur, rfl, h2, h3, h4, h5, h6, h7⟩
 · exact ⟨none, 0, by rw [h0], by omega, Nat.zero_le _, fun _ => rfl, rfl, fun hn => by omega⟩
 · refine ⟨_, cap, rfl, h4, h5, (fun e => by cases e), rfl, fun hn => ⟨_, rfl, (Array.getElem?_eq_some_iff.1 h3).1, fun i hi => ?_⟩⟩
   have := World.ownsRow.cells (g := g) h rfl i (.int .u8 (xs.getD i 0)) (by simp [u8s, List.getD, hi])
   exact this
theorem Own8.bs {A : Option Addr} {c : Nat} (h : Own8 w base (.slice A xs.length c) xs) : Bs w w.heap.size A xs.length xs := by
 obtain ⟨A', c', hv, _, _, _, hb⟩ := h.form
 cases hv
 exact hb
theorem Own8.at_ (h : Own8 w base v xs) {i : Nat} (hi : i < xs.length) : ∃ g c, v = .slice (some ⟨g, 0, none⟩) xs.length c ∧ base ≤ g ∧ g < w.heap.size ∧ w.cell? ⟨g, i, none⟩ = some (.int .u8 (xs.getD i 0)) ∧ w.frozen? ⟨g, i, none⟩ = false := by
 obtain ⟨A, c, rfl, _, _, _, hb⟩ := h.form
 rcases h.2 with ⟨hv, h0⟩ | ⟨g, cap, cur, hv, h2, h3, h4⟩
 · omega
 · cases hv
   refine ⟨g, c, rfl, h2, (Array.getElem?_eq_some_iff.1 h3).1, ?_, ?_⟩
   · obtain ⟨ad, e, _, hc⟩ := hb.2 (by omega)
     cases e
     have := hc i hi
     rwa [Addr.add_lit, Nat.zero_add] at this
   · simp [World.frozen?, h3]
end
theorem run_append8 {w : World} (ty : TypeId) {base : Nat} {v : Value} {xs : List Int} (hown : Own8 w base v xs) {B : Nat} {A : Option Addr} {m c : Nat} {ys : List Int} (hr : Bs w B A m ys) (hA : A = none → c = 0) (h63 : xs.length + m ≤ 140737488355328) (hbase : base ≤ w.heap.size) :
 ∃ v' w', (Builtin.append_ #[69, 69] ty #[v, .slice A m c]).run Tryz.prog w = .ok v' w' ∧ Own8 w' base v' (xs ++ ys) ∧ w.grownBy w' v.ownBlock ∧ (v'.ownBlock = v.ownBlock ∨ v'.ownBlock = some w.heap.size) := by
 obtain ⟨i0, hi, hz0, hz1, hz2⟩ := info_parts Tryz.infoU8
 rcases A with _ | ad
 · have hm : m = 0 := by
    rcases Nat.eq_zero_or_pos m with h0 | h0
    · exact h0
    · obtain ⟨_, h, _⟩ := hr.2 h0
      cases h
   subst hm
   obtain rfl := hA rfl
   have hy : ys = [] := List.eq_nil_of_length_eq_zero hr.1
   subst hy
   exact ⟨v, w, run_append_owned_none (P := Tryz.prog) (w := w) base 69 ty 5 i0 1 Tryz.underlying69 hi v xs.length (u8s xs) hown, by simpa using hown, ⟨rfl, rfl, rfl, Nat.le_refl _, fun _ _ _ => rfl⟩, .inl rfl⟩
 · have hcells : ∀ j u, (u8s ys)[j]? = some u → w.cell? (ad.add j) = some u := by
    intro j u hu
    have hj : j < ys.length := by have := (List.getElem?_eq_some_iff.1 hu).1; simpa using this
    obtain ⟨ad', e, _, hc⟩ := hr.2 (by have := hr.1; omega)
    cases e
    rw [hc j (by have := hr.1; omega), ← hu]
    simp [u8s, List.getD, hj]
   obtain ⟨v', w', hrun, h2, h3, _, h5⟩ := run_append_own_at (P := Tryz.prog) w base 69 ty 5 i0 (.int .u8 0) 1 1 Tryz.underlying69 hi hz0 hz1 hz2 rfl (by decide) v xs.length (u8s xs) hown ad m c (u8s ys) (by simpa using hr.1) hcells (fun u hu => by obtain ⟨x, _, rfl⟩ := List.mem_map.1 hu; rfl) (by unfold maxLen; omega) (by omega) hbase
   refine ⟨v', w', hrun, ?_, h3, h5⟩
   unfold Own8
   rw [u8s_append, List.length_append, hr.1]
   exact h2
theorem conv_text {w : World} {B : Nat} {A : Option Addr} {n c : Nat} {xs : List Int} (h : Bs w B A n xs) (hA : A = none → c = 0) : (convert 69 9 (.slice A n c)).run Tryz.prog w = .ok (.string (strOfNums xs)) w := by
 rcases A with _ | ad
 · have hn : n = 0 := by
    rcases Nat.eq_zero_or_pos n with h0 | h0
    · exact h0
    · obtain ⟨_, h, _⟩ := h.2 h0
      cases h
   subst hn
   obtain rfl := hA rfl
   have hy : xs = [] := List.eq_nil_of_length_eq_zero h.1
   subst hy
   exact run_convert_bytes_nil w 69 5 Tryz.underlying69 Tryz.underlying5 0 0 9 Tryz.underlying9
 · have hl : (loadCells ad n).run Tryz.prog w = .ok (xs.map (Value.int .u8)).toArray w := by
    have := run_loadCells_list (P := Tryz.prog) w ad (xs.map (Value.int .u8)) (fun j v hj => by
     have hjl : j < xs.length := by
      have := (List.getElem?_eq_some_iff.1 hj).1
      simpa using this
     obtain ⟨ad', e, _, hc⟩ := h.2 (by have := h.1; omega)
     cases e
     rw [hc j (by have := h.1; omega), ← hj]
     simp [List.getD, hjl])
    simpa [h.1] using this
   rw [run_convert_bytes_string w 69 9 5 _ n c Tryz.underlying69 Tryz.underlying5 Tryz.underlying9, run_bytesToString w _ n c xs hl, foldl_push_bytes]
   simp [strOfNums, ByteArray.empty, ByteArray.emptyWithCapacity]
   rfl
def ni (l : Tx) : List Int := l.map fun c => (c.toNat : Int)
theorem ni_len (l : Tx) : (ni l).length = l.length := by simp [ni]
theorem ni_append (a b : Tx) : ni (a ++ b) = ni a ++ ni b := by simp [ni]
theorem str_ni (l : Tx) : strOfNums (ni l) = bs l := by
 unfold strOfNums ni bs
 congr 1
 rw [List.map_map]
 congr 1
 conv => rhs; rw [← List.map_id l]
 apply List.map_congr_left
 intro c _
 simp
theorem Bs.laid (w : World) (xs : List Int) (t : TypeId) : Bs (w.alloc (.cells (u8s xs).toArray t)) (w.heap.size + 1) (some ⟨w.heap.size, 0, none⟩) xs.length xs :=
 ⟨rfl, fun hn => ⟨_, rfl, Nat.lt_succ_self _, fun i hi => by
  rw [Addr.add_lit, (Whole.new w t _).cell]
  simp [u8s, List.getD, hi]⟩⟩
def dz (n : Nat) : Tx := if n = 0 then [] else dec n
theorem dz_step (n : Nat) : dz (n / 10) ++ [UInt8.ofNat (48 + n % 10)] = dec n := by
 unfold dz
 by_cases h : n < 10
 · rw [if_pos (by omega)]
   conv => rhs; unfold dec
   rw [dif_pos h, Nat.mod_eq_of_lt h]
   rfl
 · rw [if_neg (by omega)]
   conv => rhs; unfold dec
   rw [dif_neg h]
def sizOf : Value → Nat
 | .string s => s.size
 | _ => 0
set_option maxRecDepth 100000 in
set_option maxHeartbeats 3200000 in
theorem rDigits_any (n0 : Nat) (w : World) (hn : n0 < 18446744073709551616) : Calls Tryz.prog 76 #[.int .u64 n0] w fun e w' => e = .returned (.string (bs (dec n0))) ∧ Below w.heap.size w w' := by
 go_enter Tryz.func76, Tryz.ntmps76
 go_wp2
 go_loopw [0, 3] (fun s0 s3 wr => ∃ (n : Nat) (s : ByteArray), s0 = .int .u64 n ∧ s3 = .string s ∧ (Below w.heap.size w wr ∧ n < 18446744073709551616 ∧ ((tx s = [] ∧ n = n0) ∨ (tx s ≠ [] ∧ dz n ++ tx s = dec n0)))) (fun s0 s3 _ => (intOf s0).toNat + (1 - sizOf s3))
 case atStart => exact ⟨n0, _, rfl, rfl, Below.refl _ _, hn, .inl ⟨rfl, rfl⟩⟩
 case round =>
  obtain ⟨n, s, rfl, rfl, hst⟩ := hrel
  have HS := Lib.hid hst
  clear hst
  have hn1 : (n : Int) < 18446744073709551616 := by have := HS.out.2.1; omega
  have hw0 : w.heap.size ≤ wr.heap.size := HS.out.1.size
  have HBN : Hid (∀ o, Below w.heap.size w (wr.alloc o)) := Lib.hid fun o => HS.out.1.alloc hw0 o
  have hc : ∀ x : Nat, (convert 69 9 (.slice (some ⟨wr.heap.size, 0, none⟩) 1 1)).run Tryz.prog (wr.alloc (.cells #[.int .u8 (48 + (x : Int) % 10)] 5)) = .ok (.string (bs [UInt8.ofNat (48 + x % 10)])) (wr.alloc (.cells #[.int .u8 (48 + (x : Int) % 10)] 5)) := fun x => by
   have h := conv_text (A := some ⟨wr.heap.size, 0, none⟩) (n := 1) (c := 1) (Bs.laid wr [48 + (x : Int) % 10] 5) (fun e => by cases e)
   rw [show strOfNums [48 + (x : Int) % 10] = bs [UInt8.ofNat (48 + x % 10)] by
    unfold strOfNums bs
    rw [List.map_cons, List.map_nil, show (48 + (x : Int) % 10).toNat = 48 + x % 10 by omega]] at h
   exact h
  have hd1 : ∀ x : Nat, (bs [UInt8.ofNat (48 + x % 10)]).size = 1 := fun x => by rw [bs_size]; rfl
  have HD : Hid (∀ x : Nat, tx (bs [UInt8.ofNat (48 + x % 10)]) = [UInt8.ofNat (48 + x % 10)]) := Lib.hid fun x => tx_bs _
  by_cases h0 : n = 0
  · subst h0
    have hc0 := hc 0
    simp only [show (48 : Int) + ((0 : Nat) : Int) % 10 = 48 from rfl] at hc0
    have hd0 := hd1 0
    have HD0 := Lib.hid (HD.out 0)
    obtain ⟨dg, hdg⟩ : ∃ dg, bs [UInt8.ofNat (48 + 0 % 10)] = dg := ⟨_, rfl⟩
    rw [hdg] at hc0 hd0 HD0
    clear hdg hc hd1 HD
    by_cases hs : tx s = []
    · have e : s = ⟨#[]⟩ := tx_inj hs
      subst e
      have q : ¬ 9223372036854775807 < dg.size := by omega
      have q2 : ¬ 9223372036854775807 < dg.size + 0 := by omega
      have HX : Hid (n0 = 0) := Lib.hid (by
       rcases HS.out.2.2 with h | h
       · exact h.2.symm
       · exact (h.1 rfl).elim)
      go_wp2
      go_roundw
      case rel =>
       refine ⟨0, _, rfl, rfl, HBN.out _, by decide, .inr ⟨?_, ?_⟩⟩
       · rw [tx_append, HD0.out]; simp
       · rw [tx_append, HD0.out, HX.out]
         unfold dz dec
         rfl
      case measure =>
       have e : (dg ++ (⟨#[]⟩ : ByteArray)).size = 1 := by rw [← tx_length, tx_append, HD0.out]; rfl
       show 0 + (1 - (dg ++ (⟨#[]⟩ : ByteArray)).size) < 0 + (1 - 0)
       omega
    · have hse : s.toList.isEmpty = false := by
       rw [toList_tx]
       cases h : tx s with
       | nil => exact (hs h).elim
       | cons a l => rfl
      have HX : Hid (tx s = dec n0) := Lib.hid (by
       rcases HS.out.2.2 with h | h
       · exact (hs h.1).elim
       · have := h.2
         unfold dz at this
         simpa using this)
      clear hc0
      go_wp2
      go_ret
      exact ⟨show Ending.returned (.string s) = _ by rw [← bs_tx s, HX.out], HS.out.1⟩
  · have h0i : 0 < (n : Int) := by omega
    have h0n : 0 < n := by omega
    have hcn := hc n
    have hdn := hd1 n
    have HDN := Lib.hid (HD.out n)
    have HST := Lib.hid (dz_step n)
    have hsz : s.size ≤ 20 := by
     rcases HS.out.2.2 with h | h
     · rw [← tx_length, h.1]; simp
     · have := congrArg List.length h.2
       rw [List.length_append, tx_length] at this
       have h2 := dec_len 19 n0 (by rw [show (10 : Nat) ^ (19 + 1) = 100000000000000000000 by decide]; omega)
       omega
    have HZ : Hid (dz n = dec n) := Lib.hid (by unfold dz; rw [if_neg h0])
    obtain ⟨dg, hdg⟩ : ∃ dg, bs [UInt8.ofNat (48 + n % 10)] = dg := ⟨_, rfl⟩
    rw [hdg] at hcn hdn HDN
    clear hdg hc hd1 HD
    have q : ¬ 9223372036854775807 < dg.size + s.size := by omega
    go_wp2
    go_roundw
    case rel =>
     refine ⟨n / 10, _, by go_num, rfl, HBN.out _, by omega, .inr ⟨?_, ?_⟩⟩
     · rw [tx_append, HDN.out]; simp
     · rw [tx_append, HDN.out, ← List.append_assoc, HST.out]
       rcases HS.out.2.2 with h | h
       · rw [h.1, List.append_nil, h.2]
       · rw [← HZ.out]; exact h.2
    case measure => simp [intOf, sizOf]; omega
set_option maxHeartbeats 800000 in
theorem rdigits_any (n : Int) (w : World) (h0 : 0 ≤ n) (h1 : n ≤ 9223372036854775807) : Calls Tryz.prog 73 #[.int .i64 n] w fun e w' => e = .returned (.string (bs (decI n))) ∧ Below w.heap.size w w' := by
 obtain ⟨k, rfl⟩ : ∃ k : Nat, n = k := ⟨n.toNat, by omega⟩
 have HC := Lib.hid (rDigits_any k w (by omega))
 have HE : Hid (decI (k : Int) = dec k) := Lib.hid (by unfold decI; rfl)
 have hk1 : (k : Int) < 18446744073709551616 := by omega
 rw [HE.out]
 go_enter Tryz.func73, Tryz.ntmps73
 go_wp2_with (go_at_call 76; (with_reducible refine HC.out.mono ?_); rintro e w1 ⟨rfl, hb1⟩)
 go_ret
 exact ⟨rfl, hb1⟩
set_option maxHeartbeats 800000 in
theorem rdirection_any (d : Int) (w : World) (h0 : 0 ≤ d) (h3 : d ≤ 3) : Calls Tryz.prog 74 #[.int .i64 d] w fun e w' => e = .returned (.string (bs (dirW d))) ∧ w = w' := by
 have : d = 0 ∨ d = 1 ∨ d = 2 ∨ d = 3 := by omega
 rcases this with rfl | rfl | rfl | rfl
 · go_enter Tryz.func74, Tryz.ntmps74
   go_wp2
   go_ret
   exact ⟨rfl, rfl⟩
 · go_enter Tryz.func74, Tryz.ntmps74
   go_wp2
   go_ret
   exact ⟨rfl, rfl⟩
 · go_enter Tryz.func74, Tryz.ntmps74
   go_wp2
   go_ret
   exact ⟨rfl, rfl⟩
 · go_enter Tryz.func74, Tryz.ntmps74
   go_wp2
   go_ret
   exact ⟨rfl, rfl⟩
set_option maxHeartbeats 800000 in
theorem rway_any (b : Bool) (w : World) : Calls Tryz.prog 75 #[.bool b] w fun e w' => e = .returned (.string (bs (wayW b))) ∧ w = w' := by
 cases b
 · go_enter Tryz.func75, Tryz.ntmps75
   go_wp2
   go_ret
   exact ⟨rfl, rfl⟩
 · go_enter Tryz.func75, Tryz.ntmps75
   go_wp2
   go_ret
   exact ⟨rfl, rfl⟩
theorem and63_i64 (x y : Nat) (hx : x < 9223372036854775808) (hy : y = x % 64) : bits BinOp.and IntKind.i64 (x : Int) 63 = (y : Int) := by
 have := i64_and_nat x 63 hx (by decide)
 rw [and63] at this
 rw [hy]
 exact this
theorem w64 {x : Int} (h0 : 0 ≤ x) (h1 : x < 9223372036854775808) : wrap64 x = x := by unfold wrap64; omega
theorem or3_w64 (a b c : UInt8) : bits BinOp.or IntKind.i64 (bits BinOp.or IntKind.i64 (wrap64 (wrap64 (a.toNat : Int) * 65536)) (wrap64 (wrap64 (b.toNat : Int) * 256))) (wrap64 (c.toNat : Int)) = ((num3 a b c : Nat) : Int) := by
 have h1 := a.toNat_lt
 have h2 := b.toNat_lt
 have h3 := c.toNat_lt
 rw [w64 (x := (a.toNat : Int)) (by omega) (by omega), w64 (x := (b.toNat : Int)) (by omega) (by omega), w64 (x := (c.toNat : Int)) (by omega) (by omega), w64 (x := (a.toNat : Int) * 65536) (by omega) (by omega), w64 (x := (b.toNat : Int) * 256) (by omega) (by omega)]
 have := or3_i64 a b c
 rw [show ((a.toNat * 65536 : Nat) : Int) = (a.toNat : Int) * 65536 by omega, show ((b.toNat * 256 : Nat) : Int) = (b.toNat : Int) * 256 by omega] at this
 exact this
theorem wp_append8 {w : World} {o : Oper} {a : Act} {K : Act → World → Prop} {Q : Exit → Act → World → Prop} (s x : Operand)
 (ho : o.op = .call { callee := .builtin .append, args := #[s, x], argTypes := #[69, 69] }) {base : Nat} {v : Value} {xs : List Int} (hs : a.eval s = v) (hown : Own8 w base v xs) {B : Nat} {A : Option Addr} {m c : Nat} {ys : List Int} (hx : a.eval x = .slice A m c) (hr : Bs w B A m ys) (hA : A = none → c = 0)
 (h63 : xs.length + m ≤ 140737488355328) (hbase : base ≤ w.heap.size)
 (h : ∀ v' w', Own8 w' base v' (xs ++ ys) → w.grownBy w' v.ownBlock → (v'.ownBlock = v.ownBlock ∨ v'.ownBlock = some w.heap.size) → K (a.put o.dst v') w') : o.wp Tryz.prog a w K Q := by
 obtain ⟨v', w', hrun, h2, h3, h4⟩ := run_append8 o.type hown hr hA h63 hbase
 unfold Oper.wp execOp
 simp only [ho, resolve, invoke, builtin, Sem.run_bind, Sem.run_pure, Result.andThen_ok, List.map_toArray, List.map_cons, List.map_nil, hs, hx, hrun]
 exact h v' w' h2 h3 h4
theorem Own8.apart {w : World} {base : Nat} {v : Value} {xs : List Int} (h : Own8 w base v xs) {g : Nat} {t : TypeId} {cs : Array Value} (hg : Whole w g t cs) (he : 5 ≠ t) : v.ownBlock ≠ some g := fun e2 => by
 rcases h.2 with ⟨rfl, _⟩ | ⟨g', cap, cur, rfl, _, h3, _⟩
 · cases e2
 · have e3 : g' = g := by simpa [Value.ownBlock] using e2
   subst e3
   have e4 : some (Obj.cells cur 5 (0, 0)) = some (Obj.cells cs t (0, 0)) := Eq.trans (Eq.symm h3) hg
   injection e4 with e5
   injection e5 with _ e6
   exact he e6
theorem Own8.below {w w' : World} {base : Nat} {v : Value} {xs : List Int} (h : Own8 w base v xs) {w0 : World} (hb : Below base w0 w) (hB : base ≤ w.heap.size) (hg : w.grownBy w' v.ownBlock) : Below base w0 w' :=
 hb.grown hg hB (fun j hj => (h.lt hj).1)
set_option maxHeartbeats 6400000 in
set_option maxRecDepth 100000 in
theorem rbase64_any (k : Tx) (w : World) (hk : k.length = 30) :
 Calls Tryz.prog 77 #[.agg (keyC k).toArray] w fun e w' => e = .returned (.string (bs (encK k))) ∧ Below w.heap.size w w' := by
 obtain ⟨N, hN⟩ : ∃ N, w.heap.size = N := ⟨_, rfl⟩
 have HKX : Hid (Whole (w.alloc (.cells (keyC k).toArray 86)) N 86 (keyC k).toArray) := Lib.hid (by rw [← hN]; exact (Whole.new w _ _))
 have HB : Hid (Below N w (w.alloc (.cells (keyC k).toArray 86))) := Lib.hid (by rw [← hN]; exact (Below.refl _ w).alloc (Nat.le_refl _) _)
 have HNW : Hid (w.heap.size = N) := Lib.hid hN
 rw [hN]
 go_enter Tryz.func77, Tryz.ntmps77
 go_upto_region 1 with fail
 generalize (w.alloc (.cells (keyC k).toArray 86)) = W0 at *
 clear hN
 go_wp2
 go_loopw [4, 3] (fun s4 s3 wr => ∃ t : Nat, t ≤ 10 ∧ s4 = .int .i64 ((3 * t : Nat) : Int) ∧ (Own8 wr N s3 (ni (encK (k.take (3 * t)))) ∧ Whole wr N 86 (keyC k).toArray ∧ Below N w wr)) (fun s4 _ _ => 30 - (intOf s4).toNat)
 case atStart => exact ⟨0, by omega, rfl, Own8.nil _ _, HKX.out, HB.out⟩
 case round =>
  obtain ⟨t, ht, rfl, hst⟩ := hrel
  have HS := Lib.hid hst
  clear hst
  obtain ⟨A3, c3, hv3, -⟩ := HS.out.1.form
  obtain ⟨n3, hn3⟩ : ∃ n, (ni (encK (k.take (3 * t)))).length = n := ⟨_, rfl⟩
  rw [hn3] at hv3
  subst hv3
  clear hn3
  by_cases hlt : t < 10
  · obtain ⟨a, b, c, hA, hBB, hC, hTK⟩ : ∃ a b c : UInt8, k[3 * t]? = some a ∧ k[3 * t + 1]? = some b ∧ k[3 * t + 2]? = some c ∧ encK (k.take (3 * (t + 1))) = encK (k.take (3 * t)) ++ enc3 a b c := encK_step hk hlt
    obtain ⟨i, hi⟩ : ∃ i, 3 * t = i := ⟨_, rfl⟩
    have HTI := Lib.hid hi
    have HSZ : Hid ((encK (k.take (3 * t))).length = 4 * t) := Lib.hid (encK_len t _ (by rw [List.length_take]; omega))
    rw [hi] at hA hBB hC
    simp only [hi]
    have hi1 : (i : Int) < 30 := by omega
    have hi0 : (0 : Int) ≤ (i : Int) := by omega
    have e1 : IntKind.i64.wrap ((i : Int) + 1) = ((i + 1 : Nat) : Int) := (IntWalk.i64_in _ (by omega)).trans (by omega)
    have e2 : IntKind.i64.wrap ((i : Int) + 2) = ((i + 2 : Nat) : Int) := (IntWalk.i64_in _ (by omega)).trans (by omega)
    have b1 : ((i + 1 : Nat) : Int) < 30 := by omega
    have b2 : ((i + 2 : Nat) : Int) < 30 := by omega
    have b3 : (0 : Int) ≤ ((i + 1 : Nat) : Int) := by omega
    have b4 : (0 : Int) ≤ ((i + 2 : Nat) : Int) := by omega
    have d0 : wr.cell? ⟨N, i, none⟩ = some (.int .u8 (a.toNat : Int)) := (HS.out.2.1.cell _).trans (by simp [keyC, hA])
    have d1 : wr.cell? ⟨N, i + 1, none⟩ = some (.int .u8 (b.toNat : Int)) := (HS.out.2.1.cell _).trans (by simp [keyC, hBB])
    have d2 : wr.cell? ⟨N, i + 2, none⟩ = some (.int .u8 (c.toNat : Int)) := (HS.out.2.1.cell _).trans (by simp [keyC, hC])
    clear hi
    go_upto_region 5 with fail
    go_quiet (fail)
    rw [or3_w64 a b c]
    have HNL : Hid (num3 a b c < 16777216) := Lib.hid (num3_lt a b c)
    have HEN : Hid (enc3 a b c = [letter (num3 a b c / 262144), letter (num3 a b c / 4096 % 64), letter (num3 a b c / 64 % 64), letter (num3 a b c % 64)]) := Lib.hid rfl
    have HBS : Hid (Own8 (wr.drewN nq) N (.slice A3 n3 c3) (ni (encK (k.take (3 * t)))) ∧ Whole (wr.drewN nq) N 86 (keyC k).toArray ∧ Below N w (wr.drewN nq)) := Lib.hid ⟨HS.out.1, HS.out.2.1, below_drewN' HS.out.2.2 _⟩
    obtain ⟨E, hE⟩ : ∃ E, encK (k.take (3 * t)) = E := ⟨_, rfl⟩
    rw [hE] at HBS HSZ hTK
    have HTK := Lib.hid hTK
    clear hTK hE d0 d1 d2 hA hBB hC e1 e2 b1 b2 b3 b4
    generalize wr.drewN nq = wx at *
    generalize num3 a b c = n at *
    have hn := HNL.out
    have g1 : ((n : Int) / 262144) = ((n / 262144 : Nat) : Int) := by omega
    have g2 : bits BinOp.and IntKind.i64 ((n : Int) / 4096) 63 = ((n / 4096 % 64 : Nat) : Int) := and63_i64 (n / 4096) _ (by omega) rfl
    have g3 : bits BinOp.and IntKind.i64 ((n : Int) / 64) 63 = ((n / 64 % 64 : Nat) : Int) := and63_i64 (n / 64) _ (by omega) rfl
    have g4 : bits BinOp.and IntKind.i64 (n : Int) 63 = ((n % 64 : Nat) : Int) := and63_i64 n _ (by omega) rfl
    have l1 : n / 262144 < 64 := by omega
    have l2 : n / 4096 % 64 < 64 := by omega
    have l3 : n / 64 % 64 < 64 := by omega
    have l4 : n % 64 < 64 := by omega
    obtain ⟨v1, x1⟩ : ∃ v : Nat, n / 262144 = v := ⟨_, rfl⟩
    obtain ⟨v2, x2⟩ : ∃ v : Nat, n / 4096 % 64 = v := ⟨_, rfl⟩
    obtain ⟨v3, x3⟩ : ∃ v : Nat, n / 64 % 64 = v := ⟨_, rfl⟩
    obtain ⟨v4, x4⟩ : ∃ v : Nat, n % 64 = v := ⟨_, rfl⟩
    rw [x1] at g1 l1 HEN
    rw [x2] at g2 l2 HEN
    rw [x3] at g3 l3 HEN
    rw [x4] at g4 l4 HEN
    clear x1 x2 x3 x4 hn
    have hv1 : v1 < letS.size := by rw [letS_size]; exact l1
    have hv2 : v2 < letS.size := by rw [letS_size]; exact l2
    have hv3 : v3 < letS.size := by rw [letS_size]; exact l3
    have hv4 : v4 < letS.size := by rw [letS_size]; exact l4
    have y1 : (v1 : Int) < 64 := by omega
    have y2 : (v2 : Int) < 64 := by omega
    have y3 : (v3 : Int) < 64 := by omega
    have y4 : (v4 : Int) < 64 := by omega
    have z1 : (0 : Int) ≤ (v1 : Int) := by omega
    have z2 : (0 : Int) ≤ (v2 : Int) := by omega
    have z3 : (0 : Int) ≤ (v3 : Int) := by omega
    have z4 : (0 : Int) ≤ (v4 : Int) := by omega
    have HBN : Hid (N ≤ wx.heap.size) := Lib.hid (by have := HBS.out.2.2.size; rw [HNW.out] at this; exact this)
    have HSA : Hid (∀ (W : World) (o : Obj), Below N w W ∧ Whole W N 86 (keyC k).toArray → Below N w (W.alloc o) ∧ Whole (W.alloc o) N 86 (keyC k).toArray) := Lib.hid fun W o h => ⟨h.1.alloc (by have := h.1.size; rw [HNW.out] at this; exact this) o, h.2.alloc o⟩
    have HAG : Hid (∀ (W : World) (v : Value) (xs : List Int) (W' : World), Below N w W ∧ Whole W N 86 (keyC k).toArray → Own8 W N v xs → W.grownBy W' v.ownBlock → Below N w W' ∧ Whole W' N 86 (keyC k).toArray) := Lib.hid fun W v xs W' h ho hg => ⟨ho.below h.1 (by have := h.1.size; rw [HNW.out] at this; exact this) hg, h.2.grown hg (fun e => ho.apart h.2 (by decide) e.symm)⟩
    have HO : Hid (Own8 wx.drew N (.slice A3 n3 c3) (ni E)) := Lib.hid HBS.out.1
    have HR0 : Hid (Below N w wx.drew ∧ Whole wx.drew N 86 (keyC k).toArray) := Lib.hid ⟨HBS.out.2.2.drew, HBS.out.2.1⟩
    go_upto_region 6 with fail
    refine wp_region_held_drew (S := fun W => Below N w W ∧ Whole W N 86 (keyC k).toArray) (by kernel_rfl) HR0.out (fun hHeld => ?_)
    refine wpAnyH_take (i := 0) (v := _) rfl (by as_aux_lemma => kernel_rfl) (by as_aux_lemma => kernel_rfl) (by as_aux_lemma => kernel_rfl) (fun _ _ _ h => h) (Or.inl ⟨by rfl, fun w h => by clear h; go_simp; (try with_reducible rfl)⟩) (by assumption) ?_
    simp only [Act.put, List.getElem_toArray, List.getElem_cons_succ, List.getElem_cons_zero, List.setIfInBounds_toArray, List.set_cons_succ, List.set_cons_zero]
    refine wpAnyH_take (i := 1) (v := _) rfl (by as_aux_lemma => kernel_rfl) (by as_aux_lemma => kernel_rfl) (by as_aux_lemma => kernel_rfl) (fun _ _ _ h => h) (Or.inl ⟨by rfl, fun w h => by clear h; go_simp; (try with_reducible rfl)⟩) (by assumption) ?_
    simp only [Act.put, List.getElem_toArray, List.getElem_cons_succ, List.getElem_cons_zero, List.setIfInBounds_toArray, List.set_cons_succ, List.set_cons_zero]
    refine wpAnyH_take (i := 2) (v := _) rfl (by as_aux_lemma => kernel_rfl) (by as_aux_lemma => kernel_rfl) (by as_aux_lemma => kernel_rfl) (fun _ _ _ h => h) (Or.inl ⟨by rfl, fun w h => by clear h; go_simp; (try with_reducible rfl)⟩) (by assumption) ?_
    simp only [Act.put, List.getElem_toArray, List.getElem_cons_succ, List.getElem_cons_zero, List.setIfInBounds_toArray, List.set_cons_succ, List.set_cons_zero]
    refine wpAnyH_take (i := 3) (v := _) rfl (by as_aux_lemma => kernel_rfl) (by as_aux_lemma => kernel_rfl) (by as_aux_lemma => kernel_rfl) (fun _ _ _ h => h) (Or.inl ⟨by rfl, fun w h => by clear h; go_simp; (try with_reducible rfl)⟩) (by assumption) ?_
    simp only [Act.put, List.getElem_toArray, List.getElem_cons_succ, List.getElem_cons_zero, List.setIfInBounds_toArray, List.set_cons_succ, List.set_cons_zero]
    refine wpAnyH_take (i := 4) (v := _) rfl (by as_aux_lemma => kernel_rfl) (by as_aux_lemma => kernel_rfl) (by as_aux_lemma => kernel_rfl) (fun _ _ _ h => h) (Or.inl ⟨by rfl, fun w h => by clear h; go_simp; (try with_reducible rfl)⟩) (by assumption) ?_
    simp only [Act.put, List.getElem_toArray, List.getElem_cons_succ, List.getElem_cons_zero, List.setIfInBounds_toArray, List.set_cons_succ, List.set_cons_zero]
    refine wpAnyH_take (i := 5) (v := _) rfl (by as_aux_lemma => kernel_rfl) (by as_aux_lemma => kernel_rfl) (by as_aux_lemma => kernel_rfl) (fun _ _ _ h => h) (Or.inl ⟨by rfl, fun w h => by clear h; go_simp; (try with_reducible rfl)⟩) (by assumption) ?_
    simp only [Act.put, List.getElem_toArray, List.getElem_cons_succ, List.getElem_cons_zero, List.setIfInBounds_toArray, List.set_cons_succ, List.set_cons_zero]
    refine wpAnyH_take (i := 6) (v := _) rfl (by as_aux_lemma => kernel_rfl) (by as_aux_lemma => kernel_rfl) (by as_aux_lemma => kernel_rfl) (fun _ _ _ h => h) (Or.inl ⟨by rfl, fun w h => by clear h; go_simp; (try with_reducible rfl)⟩) (by assumption) ?_
    simp only [Act.put, List.getElem_toArray, List.getElem_cons_succ, List.getElem_cons_zero, List.setIfInBounds_toArray, List.set_cons_succ, List.set_cons_zero]
    refine wpAnyH_take (i := 7) (v := _) rfl (by as_aux_lemma => kernel_rfl) (by as_aux_lemma => kernel_rfl) (by as_aux_lemma => kernel_rfl) (fun _ _ _ h => h) (Or.inl ⟨by rfl, fun w h => by clear h; go_simp; (try with_reducible rfl)⟩) (by assumption) ?_
    simp only [Act.put, List.getElem_toArray, List.getElem_cons_succ, List.getElem_cons_zero, List.setIfInBounds_toArray, List.set_cons_succ, List.set_cons_zero]
    refine wpAnyH_take (i := 8) (v := _) rfl (by as_aux_lemma => kernel_rfl) (by as_aux_lemma => kernel_rfl) (by as_aux_lemma => kernel_rfl) (fun _ _ _ h => h) (Or.inl ⟨by rfl, fun w h => by clear h; go_simp; (try with_reducible rfl)⟩) (by assumption) ?_
    simp only [Act.put, List.getElem_toArray, List.getElem_cons_succ, List.getElem_cons_zero, List.setIfInBounds_toArray, List.set_cons_succ, List.set_cons_zero]
    refine wpAnyH_take (i := 9) (v := _) rfl (by as_aux_lemma => kernel_rfl) (by as_aux_lemma => kernel_rfl) (by as_aux_lemma => kernel_rfl) (fun _ _ _ h => h) (Or.inl ⟨by rfl, fun w h => by clear h; go_simp; (try with_reducible rfl)⟩) (by assumption) ?_
    simp only [Act.put, List.getElem_toArray, List.getElem_cons_succ, List.getElem_cons_zero, List.setIfInBounds_toArray, List.set_cons_succ, List.set_cons_zero]
    refine wpAnyH_take (i := 10) (v := _) rfl (by as_aux_lemma => kernel_rfl) (by as_aux_lemma => kernel_rfl) (by as_aux_lemma => kernel_rfl) (fun _ _ _ h => h) (Or.inl ⟨by rfl, fun w h => by clear h; go_simp; (try with_reducible rfl)⟩) (by assumption) ?_
    simp only [Act.put, List.getElem_toArray, List.getElem_cons_succ, List.getElem_cons_zero, List.setIfInBounds_toArray, List.set_cons_succ, List.set_cons_zero]
    refine wpAnyH_take (i := 11) (v := _) rfl (by as_aux_lemma => kernel_rfl) (by as_aux_lemma => kernel_rfl) (by as_aux_lemma => kernel_rfl) (fun _ _ _ h => h) (Or.inl ⟨by rfl, fun w h => by clear h; go_simp; (try with_reducible rfl)⟩) (by assumption) ?_
    simp only [Act.put, List.getElem_toArray, List.getElem_cons_succ, List.getElem_cons_zero, List.setIfInBounds_toArray, List.set_cons_succ, List.set_cons_zero]
    refine wpAnyH_take (i := 12) (v := _) rfl (by as_aux_lemma => kernel_rfl) (by as_aux_lemma => kernel_rfl) (by as_aux_lemma => kernel_rfl) (fun _ _ _ h => h) (Or.inl ⟨by rfl, fun w h => by clear h; go_simp; (try with_reducible rfl)⟩) (by assumption) ?_
    simp only [Act.put, List.getElem_toArray, List.getElem_cons_succ, List.getElem_cons_zero, List.setIfInBounds_toArray, List.set_cons_succ, List.set_cons_zero]
    refine wpAnyH_take (i := 13) (v := _) rfl (by as_aux_lemma => kernel_rfl) (by as_aux_lemma => kernel_rfl) (by as_aux_lemma => kernel_rfl) (fun _ _ _ h => h) (Or.inl ⟨by rfl, fun w h => by clear h; go_simp; (try with_reducible rfl)⟩) (by assumption) ?_
    simp only [Act.put, List.getElem_toArray, List.getElem_cons_succ, List.getElem_cons_zero, List.setIfInBounds_toArray, List.set_cons_succ, List.set_cons_zero]
    refine wpAnyH_take (i := 14) (v := _) rfl (by as_aux_lemma => kernel_rfl) (by as_aux_lemma => kernel_rfl) (by as_aux_lemma => kernel_rfl) (fun _ _ _ h => h) (Or.inl ⟨by rfl, fun w h => by clear h; go_simp; (try with_reducible rfl)⟩) (by assumption) ?_
    simp only [Act.put, List.getElem_toArray, List.getElem_cons_succ, List.getElem_cons_zero, List.setIfInBounds_toArray, List.set_cons_succ, List.set_cons_zero]
    refine wpAnyH_ready (rs := [15]) (by as_aux_lemma => kernel_rfl) (by simp) ?_
    refine AllReadyH.cons (i := 15) rfl (fun K hK => ?_) AllReadyH.nil
    go_simp
    have HOA := Lib.hid (HO.out.alloc (.cells (u8s [((letS[v1]'hv1).toNat : Int), ((letS[v2]'hv2).toNat : Int), ((letS[v3]'hv3).toNat : Int), ((letS[v4]'hv4).toNat : Int)]).toArray 5))
    have HLA := Lib.hid (Bs.laid wx.drew [((letS[v1]'hv1).toNat : Int), ((letS[v2]'hv2).toNat : Int), ((letS[v3]'hv3).toNat : Int), ((letS[v4]'hv4).toNat : Int)] 5)
    refine hK.out _ _ (HSA.out _ _ hHeld) (fun hHeld4 => ?_)
    clear hK K hHeld
    have hHeld := hHeld4
    clear hHeld4
    refine wpAnyH_ready (rs := [16]) (by as_aux_lemma => kernel_rfl) (by simp) ?_
    refine AllReadyH.cons (i := 16) rfl (fun K hK => ?_) AllReadyH.nil
    refine step_of rfl (wp_append8 (.tmp 28) (.tmp 43) rfl rfl HOA.out rfl HLA.out (fun e => by cases e) (by rw [ni_len, HSZ.out]; omega) (Nat.le_trans HBN.out (by show _ ≤ (World.alloc _ _).heap.size; rw [World.size_alloc]; omega)) ?_)
    intro v9 w9 ho9 hg9 hn9
    have HB9 := Lib.hid (HAG.out _ _ _ _ hHeld HOA.out hg9)
    refine hK.out _ _ HB9.out (fun hHeld4 => ?_)
    have HO9 : Hid (Own8 w9 N v9 (ni (encK (k.take (3 * (t + 1)))))) := Lib.hid (by
     rw [HTK.out, ni_append, HEN.out]
     show Own8 _ _ _ (ni E ++ [((letter v1).toNat : Int), ((letter v2).toNat : Int), ((letter v3).toNat : Int), ((letter v4).toNat : Int)])
     rw [← letS_at v1 hv1, ← letS_at v2 hv2, ← letS_at v3 hv3, ← letS_at v4 hv4]
     exact ho9)
    clear ho9 hg9 hn9
    clear hK K hHeld
    have hHeld := hHeld4
    clear hHeld4
    refine wpAnyH_take (i := 17) (v := _) rfl (by as_aux_lemma => kernel_rfl) (by as_aux_lemma => kernel_rfl) (by as_aux_lemma => kernel_rfl) (fun _ _ _ h => h) (Or.inl ⟨by rfl, fun w h => by clear h; go_simp; (try with_reducible rfl)⟩) (by assumption) ?_
    simp only [Act.put, List.getElem_toArray, List.getElem_cons_succ, List.getElem_cons_zero, List.setIfInBounds_toArray, List.set_cons_succ, List.set_cons_zero]
    refine wpAnyH_done (by as_aux_lemma => kernel_rfl) ?_ _
    clear hHeld
    go_wp2
    go_roundw
    case rel =>
     have hti := HTI.out
     exact ⟨t + 1, by omega, by go_num, HO9.out, HB9.out.2, HB9.out.1⟩
    case measure => simp [intOf]; omega
  · have e : t = 10 := by omega
    subst e
    have HFE : Hid (encK (k.take (3 * 10)) = encK k) := Lib.hid (by rw [List.take_of_length_le (by omega)])
    obtain ⟨A', c', hv', hcc, _, hA', hBs⟩ := HS.out.1.form
    injection hv' with e1 e2 e3
    subst e1
    subst e3
    have hcv := conv_text hBs hA'
    rw [← e2, HFE.out, str_ni] at hcv
    clear hBs hA' e2
    go_wp2
    go_ret
    exact ⟨rfl, HS.out.2.2⟩
end Go.Proofs.YtbbedhecfipdjaaGreatDoor
namespace Go.Proofs.YtbbedhecfipdjaaGreatDoor
open Go.RowKit
set_option linter.unusedVariables false
set_option linter.unusedSimpArgs false
def AtR (w : World) (base : Nat) (v : Value) (L : List AttrS) : Prop := Own w base 55 2 v (L.map acell)
theorem AtR.under {w w' : World} {base : Nat} {v : Value} {L : List AttrS} (h : AtR w base v L) (hb : Below w.heap.size w w') : AtR w' base v L := Own.under h hb
theorem AtR.base {w : World} {base : Nat} {v : Value} {L : List AttrS} (h : AtR w base v L) : ∀ k, v.ownBlock = some k → base ≤ k := fun k hk => (Own.lt h hk).1
theorem AtR.form {w : World} {base : Nat} {v : Value} {L : List AttrS} (h : AtR w base v L) : ∃ A n c, v = .slice A n c := by
 obtain ⟨A, c, e, -⟩ := Own.form h
 exact ⟨A, _, c, e⟩
section
variable {ops : Array Oper} {rest : List Oper} {o : Oper} {a : Act} {Q : Exit → Act → World → Prop} {K : Act → World → Prop} {w : World} {base : Nat} {v : Value} {L : List AttrS} {n val : ByteArray} {c : Nat}
theorem addR (hown : AtR w base v L) (hl : L.length ≤ 1000000) (hb : base ≤ w.heap.size) {v' : Value} {w' : World} (h1 : Own w' base 55 2 v' (L.map acell ++ [[.string n, .string val]])) (h2 : (w.alloc (.cells #[.string n, .string val] 55)).grownBy w' v.ownBlock) (h3 : v'.ownBlock = v.ownBlock ∨ v'.ownBlock = some (w.alloc (.cells #[.string n, .string val] 55)).heap.size) :
 AtR w' base v' (L ++ [⟨n, val⟩]) ∧ Grew w v w' v' := by
 refine ⟨?_, ((Only.refl _ _).alloc _).grown h2 (fun k hk => .inl hk), fun k hk => ?_⟩
 · show Own _ _ _ _ _ _
   rw [List.map_append]
   exact h1
 · rcases h3 with h3 | h3
   · exact .inl (by rw [← h3]; exact hk)
   · rw [h3] at hk
     injection hk with hk
     right
     rw [← hk, World.size_alloc]
     omega
theorem wpList_addR (hgd : o.guard = none) (s y : Operand) (ho : o.op = .call { callee := .builtin .append, args := #[s, y], argTypes := #[30, 30] }) (hs : a.eval s = v) (hy : a.eval y = .slice (some ⟨w.heap.size, 0, none⟩) 1 c) (hown : AtR w base v L) (hl : L.length ≤ 1000000) (hb : base ≤ w.heap.size)
 (h : ∀ v' w', AtR w' base v' (L ++ [⟨n, val⟩]) → Grew w v w' v' → wpList Tryz.prog ops Q rest (a.put o.dst v') w') : wpList Tryz.prog ops Q (o :: rest) a (w.alloc (.cells #[.string n, .string val] 55)) :=
 wpList_appendE (r := [.string n, .string val]) hgd s y ho Tryz.underlying30 Tryz.infoRSAttr rfl (Nat.zero_lt_succ _) hs (Own.alloc hown _) hy (Whole.new w 55 _) rfl (fun u hu => by simp at hu; rcases hu with rfl | rfl <;> rfl) (by rw [List.length_map]; omega) (by rw [List.length_map]; omega) (by rw [World.size_alloc]; omega)
  fun v' w' h1 h2 h3 => by
   obtain ⟨g1, g2⟩ := addR hown hl hb h1 h2 h3
   exact h v' w' g1 g2
theorem wp_addR (s y : Operand) (ho : o.op = .call { callee := .builtin .append, args := #[s, y], argTypes := #[30, 30] }) (hs : a.eval s = v) (hy : a.eval y = .slice (some ⟨w.heap.size, 0, none⟩) 1 c) (hown : AtR w base v L) (hl : L.length ≤ 1000000) (hb : base ≤ w.heap.size)
 (h : ∀ v' w', AtR w' base v' (L ++ [⟨n, val⟩]) → Grew w v w' v' → K (a.put o.dst v') w') : o.wp Tryz.prog a (w.alloc (.cells #[.string n, .string val] 55)) K Q :=
 wp_appendE (r := [.string n, .string val]) s y ho Tryz.underlying30 Tryz.infoRSAttr rfl (Nat.zero_lt_succ _) hs (Own.alloc hown _) hy (Whole.new w 55 _) rfl (fun u hu => by simp at hu; rcases hu with rfl | rfl <;> rfl) (by rw [List.length_map]; omega) (by rw [List.length_map]; omega) (by rw [World.size_alloc]; omega)
  fun v' w' h1 h2 h3 => by
   obtain ⟨g1, g2⟩ := addR hown hl hb h1 h2 h3
   exact h v' w' g1 g2
end
theorem AtR.two {w : World} {base : Nat} (hb : base ≤ w.heap.size) (a b c d : ByteArray) : AtR (w.alloc (.cells #[.string a, .string b, .string c, .string d] 55)) base (.slice (some ⟨w.heap.size, 0, none⟩) 2 2) [⟨a, b⟩, ⟨c, d⟩] :=
 ⟨World.ownsRow_lit w _ 2 hb (by decide) rfl, fun r hr => by simp [acell] at hr; rcases hr with rfl | rfl <;> rfl⟩
abbrev zPart : Array Value := #[.string ⟨#[]⟩, .string ⟨#[]⟩, .slice none 0 0]
abbrev connB : ByteArray := ⟨#[73, 78, 32, 73, 80, 52, 32, 48, 46, 48, 46, 48, 46, 48]⟩
structure WB (w0 : World) (M : Array Value) (pb : Nat) (ln : ByteArray) (w : World) : Prop where
 low : Below w0.heap.size w0 w
 box : Whole w w0.heap.size 28 M
 res : Whole w (w0.heap.size + 1) 32 zPart
 prt : Whole w pb 32 #[.string ln, .string connB, .slice none 0 0]
 hpb : w0.heap.size ≤ pb
 hne : w0.heap.size + 1 ≠ pb
section
variable {w0 w w' : World} {M : Array Value} {pb : Nat} {ln : ByteArray}
theorem WB.under (h : WB w0 M pb ln w) (hb : Below w.heap.size w w') : WB w0 M pb ln w' := ⟨h.low.trans (hb.mono h.low.size), h.box.under hb, h.res.under hb, h.prt.under hb, h.hpb, h.hne⟩
theorem WB.drew (h : WB w0 M pb ln w) : WB w0 M pb ln w.drew := ⟨h.low.drew, h.box, h.res, h.prt, h.hpb, h.hne⟩
theorem WB.alloc (h : WB w0 M pb ln w) (o : Obj) : WB w0 M pb ln (w.alloc o) := h.under ((Below.refl _ w).alloc (Nat.le_refl _) o)
theorem WB.add {v v' : Value} {L : List AttrS} (h : WB w0 M pb ln w) (ho : AtR w w0.heap.size v L) (hg : Grew w v w' v') : WB w0 M pb ln w' :=
 ⟨h.low.trans (hg.below ho.base h.low.size), hg.whole h.box (Own.apart ho h.box (by decide)), hg.whole h.res (Own.apart ho h.res (by decide)), hg.whole h.prt (Own.apart ho h.prt (by decide)), h.hpb, h.hne⟩
theorem WB.line (h : WB w0 M pb ln w) (s : ByteArray) : WB w0 M pb s (w.setCell ⟨pb, 0, none⟩ (.string s)) :=
 ⟨h.low.setCell (p := ⟨pb, 0, none⟩) h.hpb _, h.box.far (p := ⟨pb, 0, none⟩) (h.box.ne h.prt (by decide)) _, h.res.far (p := ⟨pb, 0, none⟩) h.hne _, h.prt.set 0 _, h.hpb, h.hne⟩
theorem AtR.line {v : Value} {L : List AttrS} (h : WB w0 M pb ln w) (ho : AtR w w0.heap.size v L) (u : Value) (i : Nat) : AtR (w.setCell ⟨pb, i, none⟩ u) w0.heap.size v L := Own.far (p := ⟨pb, i, none⟩) ho (Own.apart ho h.prt (by decide)) u
end
def ItR (w0 : World) (M : Array Value) (pb : Nat) (ln : ByteArray) (g : Nat) (T : TypeId) (X : Array Value) (w : World) : Prop := WB w0 M pb ln w ∧ Whole w g T X
section
variable {w0 w w' : World} {M X : Array Value} {pb g : Nat} {ln : ByteArray} {T : TypeId}
theorem ItR.under (h : ItR w0 M pb ln g T X w) (hb : Below w.heap.size w w') : ItR w0 M pb ln g T X w' := ⟨h.1.under hb, h.2.under hb⟩
theorem ItR.drew (h : ItR w0 M pb ln g T X w) : ItR w0 M pb ln g T X w.drew := ⟨h.1.drew, h.2⟩
theorem ItR.alloc (h : ItR w0 M pb ln g T X w) (o : Obj) : ItR w0 M pb ln g T X (w.alloc o) := ⟨h.1.alloc o, h.2.alloc o⟩
theorem ItR.add {v v' : Value} {L : List AttrS} (h : ItR w0 M pb ln g T X w) (ho : AtR w w0.heap.size v L) (hT : 55 ≠ T) (hg : Grew w v w' v') : ItR w0 M pb ln g T X w' := ⟨h.1.add ho hg, hg.whole h.2 (Own.apart ho h.2 hT)⟩
theorem ItR.line (h : ItR w0 M pb ln g T X w) (hT : T ≠ 32) (s : ByteArray) : ItR w0 M pb s g T X (w.setCell ⟨pb, 0, none⟩ (.string s)) := ⟨h.1.line s, h.2.far (p := ⟨pb, 0, none⟩) (h.2.ne h.1.prt hT) _⟩
end
theorem semi_snoc : ∀ (L : List ByteArray) (r : ByteArray), semi (L ++ [r]) = if L = [] then tx r else semi L ++ 59 :: tx r
 | [], r => rfl
 | [a], r => by simp [semi]
 | a :: b :: l, r => by
   have := semi_snoc (b :: l) r
   rw [if_neg (by simp)] at this
   rw [if_neg (by simp)]
   show tx a ++ 59 :: semi (b :: l ++ [r]) = (tx a ++ 59 :: semi (b :: l)) ++ 59 :: tx r
   rw [this]
   simp
end Go.Proofs.YtbbedhecfipdjaaGreatDoor
