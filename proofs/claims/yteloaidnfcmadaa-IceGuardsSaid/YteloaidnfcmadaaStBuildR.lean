/- The document's Build. -/
import Derived.Test.YteloaidnfcmadaaStJoin
namespace Go.Proofs.Yteloaidnfcmadaa
open Go.RowKit
set_option linter.unusedVariables false

/-- What is known while the document's Build goes on: the box in block N, the body so far. -/
structure Br (N : Nat) (M : Array Value) (w wr : World) (v : Value) (xs : List Int) : Prop where
  own : Own8 wr (N + 1) v xs
  box : Whole wr N 40 M
  below : Below N w wr
section
variable {N : Nat} {M : Array Value} {w wr w' : World} {v v' : Value} {xs xs' : List Int}
theorem Br.size (h : Br N M w wr v xs) : N + 1 ≤ wr.heap.size := h.box.lt
theorem Br.grew (h : Br N M w wr v xs) (g : Grew (N + 1) wr w' v v' xs') : Br N M w w' v' xs' :=
  ⟨g.own, g.keep h.own h.box (by decide), h.below.trans ((g.below h.own h.size).mono (Nat.le_succ _))⟩
theorem Br.alloc (h : Br N M w wr v xs) (o : Obj) : Br N M w (wr.alloc o) v xs :=
  ⟨h.own.alloc o, h.box.alloc o, h.below.alloc (Nat.le_of_succ_le h.size) o⟩
theorem Br.under (h : Br N M w wr v xs) (hb : Below wr.heap.size wr w') : Br N M w w' v xs :=
  ⟨h.own.under hb, h.box.under hb, h.below.trans (hb.mono (Nat.le_of_succ_le h.size))⟩
theorem Br.new (h : Br N M w wr v xs) (ho : Own8 w' wr.heap.size v' xs') (hb : Below wr.heap.size wr w') : Br N M w w' v' xs' :=
  ⟨ho.low h.size, h.box.under hb, h.below.trans (hb.mono (Nat.le_of_succ_le h.size))⟩
theorem Br.cong (h : Br N M w wr v xs) (e : xs = xs') : Br N M w wr v xs' := e ▸ h
end

theorem New8.v8' {w w' : World} {g n : Nat} {xs : List Int} (h : New8 w w' g xs) (hm : xs.length ≤ 1000) (hn : xs.length = n) : V8 w' w'.heap.size (.slice (some ⟨g, 0, none⟩) n n) xs := by
  subst hn
  exact h.v8 (by unfold maxLen; omega)
/-- Behind the two numbers, ahead of Join. -/
theorem br_parts {N : Nat} {M : Array Value} {w wr w1 w2 : World} {v t : Value} {xs y : List Int} {g1 g2 : Nat} {x1 x2 : Int} (h : Br N M w wr v xs) (h1 : New8 wr w1 g1 (be2 x1)) (h2 : New8 w1 w2 g2 (be2 x2)) (h3 : V8 w N t y) :
    ∃ W3 sb, W3 = w2.alloc (.cells #[v, .slice (some ⟨g1, 0, none⟩) 2 2, .slice (some ⟨g2, 0, none⟩) 2 2, t] 22) ∧ sb = w2.heap.size ∧
    Whole W3 sb 22 [v, .slice (some ⟨g1, 0, none⟩) 2 2, .slice (some ⟨g2, 0, none⟩) 2 2, t].toArray ∧
    Pieces W3 W3.heap.size [v, .slice (some ⟨g1, 0, none⟩) 2 2, .slice (some ⟨g2, 0, none⟩) 2 2, t] [xs, be2 x1, be2 x2, y] ∧ Br N M w W3 v xs := by
  have a1 := h.under h1.below
  have a2 := a1.under h2.below
  have a3 := a2.alloc (.cells #[v, .slice (some ⟨g1, 0, none⟩) 2 2, .slice (some ⟨g2, 0, none⟩) 2 2, t] 22)
  have b3 : Below w2.heap.size w2 (w2.alloc (.cells #[v, .slice (some ⟨g1, 0, none⟩) 2 2, .slice (some ⟨g2, 0, none⟩) 2 2, t] 22)) := (Below.refl _ _).alloc (Nat.le_refl _) _
  refine ⟨_, _, rfl, rfl, Whole.new _ _ _, ?_, a3⟩
  refine Pieces.cons a3.own.v8 (Pieces.cons ?_ (Pieces.cons ?_ (Pieces.cons ?_ (Pieces.nil _ _))))
  · have := ((h1.v8' (n := 2) (by simp) (by simp)).below h2.below).below (b3.mono h2.below.size)
    exact this.more (Nat.le_trans h2.below.size b3.size)
  · exact ((h2.v8' (n := 2) (by simp) (by simp)).below b3).more b3.size
  · exact (h3.below a3.below).more (Nat.le_of_succ_le a3.size)
theorem br_join {N : Nat} {M : Array Value} {w wr w1 w2 : World} {v t : Value} {xs y : List Int} {g1 g2 : Nat} {x1 x2 : Int} (h : Br N M w wr v xs) (h1 : New8 wr w1 g1 (be2 x1)) (h2 : New8 w1 w2 g2 (be2 x2)) (h3 : V8 w N t y) (hl : xs.length ≤ 20000 ∧ y.length ≤ 20000) :
    Calls Try.prog 35 #[.slice (some ⟨w2.heap.size, 0, none⟩) 4 4] (w2.alloc (.cells #[v, .slice (some ⟨g1, 0, none⟩) 2 2, .slice (some ⟨g2, 0, none⟩) 2 2, t] 22)) fun e w' => ∃ v', e = .returned v' ∧ Br N M w w' v' (xs ++ (be2 x1 ++ (be2 x2 ++ y))) := by
  obtain ⟨W3, sb, hW3, hsb, hwh, hpc, hbr⟩ := br_parts h h1 h2 h3
  rw [← hW3, ← hsb]
  have := join_any sb 4 _ _ W3 hwh hpc (by simp; omega) (by simp)
  refine this.mono fun e w' ⟨v', he, ho, hb⟩ => ⟨v', he, hbr.new ?_ hb⟩
  simpa using ho
theorem Br.drew {N : Nat} {M : Array Value} {w wr : World} {v : Value} {xs : List Int} (h : Br N M w wr v xs) : Br N M w wr.drew v xs := ⟨h.own.drew, h.box.drew, h.below.drew⟩
/-- The whole message's pieces are joined. -/
theorem br_last {N : Nat} {M : Array Value} {m : Msg} {A : Option Addr} {c : Nat} {w wr w1 w2 w3 : World} {v : Value} {xs : List Int} {g1 g2 g3 : Nat} {x1 x2 x3 : Int} (h : Br N M w wr v xs) (hm : MsgV w N M m A c) (h1 : New8 wr w1 g1 (be2 x1)) (h2 : New8 w1 w2 g2 (be2 x2)) (h3 : New8 w2 w3 g3 (be4 x3)) (hl : xs.length ≤ 20000) :
    Calls Try.prog 35 #[.slice (some ⟨w3.heap.size, 0, none⟩) 5 5] (w3.alloc (.cells #[.slice (some ⟨g1, 0, none⟩) 2 2, .slice (some ⟨g2, 0, none⟩) 2 2, .slice (some ⟨g3, 0, none⟩) 4 4, .slice (some ⟨N, 2, none⟩) 12 12, v] 22)) fun e w' => ∃ v', e = .returned v' ∧ Br N M w w' v' (be2 x1 ++ (be2 x2 ++ (be4 x3 ++ (m.id ++ xs)))) := by
  have a1 := h.under h1.below
  have a2 := a1.under h2.below
  have a3 := a2.under h3.below
  have a4 := a3.alloc (.cells #[.slice (some ⟨g1, 0, none⟩) 2 2, .slice (some ⟨g2, 0, none⟩) 2 2, .slice (some ⟨g3, 0, none⟩) 4 4, .slice (some ⟨N, 2, none⟩) 12 12, v] 22)
  have b4 : Below w3.heap.size w3 (w3.alloc (.cells #[.slice (some ⟨g1, 0, none⟩) 2 2, .slice (some ⟨g2, 0, none⟩) 2 2, .slice (some ⟨g3, 0, none⟩) 4 4, .slice (some ⟨N, 2, none⟩) 12 12, v] 22)) := (Below.refl _ _).alloc (Nat.le_refl _) _
  have hid : V8 (w3.alloc (.cells #[.slice (some ⟨g1, 0, none⟩) 2 2, .slice (some ⟨g2, 0, none⟩) 2 2, .slice (some ⟨g3, 0, none⟩) 4 4, .slice (some ⟨N, 2, none⟩) 12 12, v] 22)) (N + 1) (.slice (some ⟨N, 2, none⟩) 12 12) m.id := by
    have e := hm.id12
    refine ⟨some ⟨N, 2, none⟩, 12, by rw [e], by rw [e]; exact Nat.le_refl _, by unfold maxLen; omega, (fun e => by cases e), ?_⟩
    rw [e]
    refine ⟨hm.id12, fun _ => ⟨_, rfl, Nat.lt_succ_self _, fun i hi => ?_⟩⟩
    have := hm.id a4.box i (.int .u8 (m.id.getD i 0)) (by simp [List.getD, show i < m.id.length by omega])
    rw [Addr.add_lit]
    exact this
  have s1 := h1.below.size
  have s2 := h2.below.size
  have s3 := h3.below.size
  have hz := a4.size
  have := join_any w3.heap.size 5 [.slice (some ⟨g1, 0, none⟩) 2 2, .slice (some ⟨g2, 0, none⟩) 2 2, .slice (some ⟨g3, 0, none⟩) 4 4, .slice (some ⟨N, 2, none⟩) 12 12, v] [be2 x1, be2 x2, be4 x3, m.id, xs] _ (Whole.new w3 22 _)
    (Pieces.cons ((((h1.v8' (n := 2) (by simp) (by simp)).below h2.below).below (h3.below.mono s2)).below (b4.mono (by omega)) |>.more (by simp; omega)) (Pieces.cons (((h2.v8' (n := 2) (by simp) (by simp)).below h3.below).below (b4.mono (by omega)) |>.more (by simp; omega))
      (Pieces.cons ((h3.v8' (n := 4) (by simp) (by simp)).below b4 |>.more (by simp)) (Pieces.cons (hid.more hz) (Pieces.cons a4.own.v8 (Pieces.nil _ _)))))) (by have := hm.id12; simp; omega) (by simp)
  refine this.mono fun e w' ⟨v', he, ho, hb⟩ => ⟨v', he, a4.new ?_ hb⟩
  simpa using ho
def lenOf : Value → Nat
  | .slice _ L _ => L
  | _ => 0

set_option maxHeartbeats 3200000 in
set_option maxRecDepth 100000 in
theorem rbuild_any (M : Array Value) (m : Msg) (A : Option Addr) (c : Nat) (w : World) (h : MsgV w w.heap.size M m A c) (hf : Fine m) :
    Calls Try.prog 18 #[.agg M] w fun e w' => ((Valid m ∧ ∃ v, e = .returned (.tuple #[v, .int .i64 0]) ∧ Own8 w' w.heap.size v (msgBytes m)) ∨ (¬ Valid m ∧ e = .returned (.tuple #[.slice none 0 0, .int .i64 1]))) ∧ Below w.heap.size w w' := by
  have hg := Whole.new w 40 M
  have h0 := h.cl hg
  have h1 := h.me hg
  have h14 := h.sl hg
  have hb0 : Below w.heap.size w (w.alloc (.cells M 40)) := (Below.refl _ w).alloc (Nat.le_refl _) _
  have hml : m.at_.length ≤ maxLen := Nat.le_trans h.fits h.most
  have HM := Lib.hid (And.intro h (And.intro hg hb0))
  have HF := Lib.hid (@valid_cl m)
  have HFI := Lib.hid hf
  have HTWO : Hid (∀ W x, Calls Try.prog 36 #[.int .i64 x] W fun e w' => ∃ g, e = .returned (.slice (some ⟨g, 0, none⟩) 2 2) ∧ New8 W w' g (be2 x)) := Lib.hid fun W x => two_any x W
  clear h hg hb0 hf
  obtain ⟨cl, hcl⟩ : ∃ x, m.cl = x := ⟨_, rfl⟩
  obtain ⟨me, hme⟩ : ∃ x, m.me = x := ⟨_, rfl⟩
  obtain ⟨n, hn⟩ : ∃ x, m.at_.length = x := ⟨_, rfl⟩
  rw [hcl] at h0 HF
  rw [hme] at h1 HF
  rw [hn] at h14 HF hml
  have HE := Lib.hid (And.intro hcl (And.intro hme hn))
  clear hcl hme hn
  have HNV : Hid (valid? m = false → ¬ Valid m) := Lib.hid fun h hv => by rw [(valid_iff m).2 hv] at h; cases h
  obtain ⟨N, hN⟩ : ∃ N, w.heap.size = N := ⟨_, rfl⟩
  have HN := Lib.hid hN
  rw [hN] at h0 h1 h14 HM
  unfold maxLen at hml
  go_enter Try.func18, Try.ntmps18
  go_upto_region 1 with fail
  generalize w.alloc (.cells M 40) = W at *
  clear hN
  by_cases a0 : cl < 0
  · have hv := Lib.hid (HNV.out (HF.out (.inl a0)))
    go_wp2
    go_ret2
    exact ⟨.inr ⟨hv.out, rfl⟩, by rw [HN.out]; exact HM.out.2.2⟩
  by_cases a1 : cl > 3
  · have hv := Lib.hid (HNV.out (HF.out (.inr (.inl a1))))
    go_wp2
    go_ret2
    exact ⟨.inr ⟨hv.out, rfl⟩, by rw [HN.out]; exact HM.out.2.2⟩
  by_cases a2 : me < 0
  · have hv := Lib.hid (HNV.out (HF.out (.inr (.inr (.inl a2)))))
    go_wp2
    go_ret2
    exact ⟨.inr ⟨hv.out, rfl⟩, by rw [HN.out]; exact HM.out.2.2⟩
  by_cases a3 : me > 4095
  · have hv := Lib.hid (HNV.out (HF.out (.inr (.inr (.inr (.inl a3))))))
    go_wp2
    go_ret2
    exact ⟨.inr ⟨hv.out, rfl⟩, by rw [HN.out]; exact HM.out.2.2⟩
  by_cases a4 : 16 < n
  · have hv := Lib.hid (HNV.out (HF.out (.inr (.inr (.inr (.inr a4))))))
    have a5 : (n : Int) > 16 := by omega
    go_wp2
    go_ret2
    exact ⟨.inr ⟨hv.out, rfl⟩, by rw [HN.out]; exact HM.out.2.2⟩
  have a5 : ¬ (n : Int) > 16 := by omega
  have hw0 : Br N M w W (.slice none 0 0) [] := ⟨Own8.nil W _, HM.out.2.1, HM.out.2.2⟩
  have H0 := Lib.hid hw0
  clear hw0
  go_wp2
  go_loopw [4, 36] (fun s4 s36 wr => ∃ k : Nat, k ≤ n ∧ s36 = .int .i64 k ∧ (∀ j, j < k → (m.at_.getD j default).val.length ≤ 512) ∧ Br N M w wr s4 (body (m.at_.take k))) (fun _ s36 _ => n - (intOf s36).toNat)
  case atStart => exact ⟨0, by omega, rfl, fun j hj => by omega, H0.out.cong rfl⟩
  case round =>
    obtain ⟨k, hk, rfl, hv, hw⟩ := hrel
    by_cases hlt : k < n
    · have hlt' : k < m.at_.length := by rw [HE.out.2.2]; exact hlt
      obtain ⟨ad, A', c', rfl, had, x0, x1, y0, y1, hnil, hbs⟩ := HM.out.1.ats.at_ hlt'
      have c0 := (hw.below.cell (p := ad.add (k * 2)) (by rw [add_block]; exact had)).trans x0
      have c1 := (hw.below.cell (p := ⟨(ad.add (k * 2)).block, (ad.add (k * 2)).off + 1, none⟩) (by show (ad.add (k * 2)).block < N; rw [add_block]; exact had)).trans x1
      have c14 : wr.cell? ⟨N, 14, none⟩ = some (.slice (some ad) n c) := by have := HM.out.1.sl hw.box; rw [HE.out.2.2] at this; exact this
      have hbg : 512 < (m.at_.getD k default).val.length → valid? m = false := valid_big hlt'
      have hty := HFI.out.tys _ (getD_mem hlt')
      have hbt := body_take m.at_ k hlt'
      obtain ⟨a, ha⟩ : ∃ a, m.at_.getD k default = a := ⟨_, rfl⟩
      rw [ha] at c0 c1 hbg hbt hbs hty y0
      have hbt2 : atBytes a = be2 a.ty ++ (be2 a.val.length ++ (a.val ++ List.replicate (padN a.val.length) 0)) := rfl
      rw [hbt2] at hbt
      have HA := Lib.hid ha
      obtain ⟨l, hl⟩ : ∃ l, a.val.length = l := ⟨_, rfl⟩
      rw [hl] at c1 hbg hbt hbs y0
      have HLL := Lib.hid hl
      obtain ⟨ty, hty2⟩ : ∃ x, a.ty = x := ⟨_, rfl⟩
      rw [hty2] at c0 hbt hty
      have hbl := bodySize_le (m.at_.take k) (all_of_get fun j hj => by
        rw [List.length_take] at hj
        have := hv j (by omega)
        simpa [List.getD, List.getElem?_take, show j < k by omega] using this)
      rw [← body_length, List.length_take] at hbl
      have hbm := bodySize_mod (m.at_.take k)
      rw [← body_length] at hbm
      obtain ⟨bs, hbse⟩ : ∃ bs, body (m.at_.take k) = bs := ⟨_, rfl⟩
      rw [hbse] at hbt hw hbl hbm
      have hV : V8 w N (.slice A' l c') a.val := by subst hl; exact ⟨_, _, rfl, y0, y1, hnil, hbs⟩
      obtain ⟨A4, c4, hv4, -⟩ := hw.own.form
      subst hv4
      obtain ⟨L4, hL4⟩ : ∃ x, bs.length = x := ⟨_, rfl⟩
      rw [hL4] at hw hbl hbm ⊢
      have HL4 := Lib.hid hL4
      have HR := Lib.hid (And.intro hw (And.intro hbt (And.intro hV (And.intro hbl (And.intro hbm hv)))))
      clear h14 h0 h1 hw hbt hbt2 hnil hbs hV hbl hbm hv ha hl x0 x1 hbse y0 y1 hL4
      by_cases hbig : 512 < l
      · have hnv := Lib.hid (HNV.out (hbg hbig))
        have hbig' : (l : Int) > 512 := by omega
        go_wp2
        go_ret2
        exact ⟨.inr ⟨hnv.out, rfl⟩, by rw [HN.out]; exact HR.out.1.below⟩
      · have hbig' : ¬ (l : Int) > 512 := by omega
        have HT1 := Lib.hid (HTWO.out wr ty)
        go_upto_region 10 with fail
        go_upto_region 11 with (first
          | (go_at_call 36; (with_reducible refine HT1.out.mono ?_); rintro e w1 ⟨g1, rfl, hn1⟩)
          | (go_at_call 36; (with_reducible refine (HTWO.out _ _).mono ?_); rintro e w2 ⟨g2, rfl, hn2⟩)
          | (go_at_call 35; (with_reducible refine (br_join HR.out.1 hn1 hn2 HR.out.2.2.1 (by have := HL4.out; have := HLL.out; have := HR.out.2.2.2.1; omega)).mono ?_); rintro e w4 ⟨v4, rfl, hw4⟩))
        have hcat : bs ++ (be2 ty ++ (be2 (l : Int) ++ a.val)) ++ List.replicate (padN l) 0 = body (m.at_.take (k + 1)) := by
          rw [HR.out.2.1]
          simp only [List.append_assoc]
        obtain ⟨cs, hcs⟩ : ∃ cs, bs ++ (be2 ty ++ (be2 (l : Int) ++ a.val)) = cs := ⟨_, rfl⟩
        rw [hcs] at hw4 hcat
        have hcl : cs.length = L4 + 4 + l := by rw [← hcs]; simp [HL4.out, HLL.out]; omega
        obtain ⟨C, hC⟩ : ∃ x, cs.length = x := ⟨_, rfl⟩
        have hpad : padN l = padN C := by
          have := HR.out.2.2.2.2.1
          rw [← hC, hcl]
          unfold padN
          omega
        rw [hpad] at hcat
        have hCb : C ≤ 20000 := by have := HR.out.2.2.2.1; omega
        have H4 := Lib.hid (And.intro hw4 (And.intro hcat (And.intro hC hcl)))
        obtain ⟨A5, c5, hv5, -⟩ := hw4.own.form
        rw [hC] at hv5
        subst hv5
        have hp4 := padN_lt C
        have hpm := padN_mod C
        obtain ⟨p, hp⟩ : ∃ p, padN C = p := ⟨_, rfl⟩
        rw [hp] at hp4 hpm H4
        clear hw4 hcat hC hcl hcs hpad hp hn1 hn2
        go_wp2_with fail
        go_loopw [4] (fun s4 wq => ∃ j A6 c6, j ≤ p ∧ s4 = .slice A6 (C + j) c6 ∧ Br N M w wq s4 (cs ++ List.replicate j 0)) (fun s4 _ => C + p - lenOf s4)
        case atStart => exact ⟨0, A5, c5, by omega, rfl, H4.out.1.cong (by simp)⟩
        case round =>
          obtain ⟨j, A6, c6, hj, rfl, hq⟩ := hrel
          have HQ := Lib.hid hq
          clear hq
          by_cases hjp : j < p
          · have hz : (((C + j : Nat) : Int) % 4 != 0) = true := by
              rw [bne_iff_ne]
              omega
            go_wp2_with (at_builtin; go_must (refine wpList_append8 rfl (.tmp 67) (.tmp 68) rfl rfl (HQ.out.own.alloc _) rfl (Bs.one wr 0) (fun e => by cases e) (by have := H4.out.2.2.1; simp; omega) (by have := HQ.out.size; simp; omega) ?_); intro v2 w2 h2 hg2 hh2)
            have hw2 := (HQ.out.grew (Grew.of h2 hg2 (by first | exact hh2 | (rw [World.size_alloc]; exact hh2)))).cong (show cs ++ List.replicate j 0 ++ [0] = cs ++ List.replicate (j + 1) 0 by rw [List.append_assoc, List.replicate_succ'])
            obtain ⟨A7, c7, hv7, -⟩ := hw2.own.form
            have hl7 : (cs ++ List.replicate (j + 1) 0).length = C + (j + 1) := by simp [H4.out.2.2.1]
            rw [hl7] at hv7
            subst hv7
            have H7 := Lib.hid hw2
            clear hw2 h2 hg2 hh2 hl7 hz
            go_roundw
            case rel => exact ⟨j + 1, A7, c7, by omega, rfl, H7.out⟩
            case measure => show C + p - (C + (j + 1)) < C + p - (C + j); omega
          · obtain rfl : j = p := by omega
            have hz : (((C + j : Nat) : Int) % 4 != 0) = false := by
              rw [bne_eq_false_iff_eq]
              omega
            go_wp2
            go_roundw
            case rel =>
              refine ⟨k + 1, by omega, by go_num, fun i hi => ?_, HQ.out.cong H4.out.2.1⟩
              by_cases hik : i < k
              · exact HR.out.2.2.2.2.2 i hik
              · obtain rfl : i = k := by omega
                rw [HA.out, HLL.out]
                omega
            case measure => simp [intOf]; omega
    · have hall := all_of_get (P := fun a => a.val.length ≤ 512) (L := m.at_) (by rw [HE.out.2.2]; intro j hj; exact hv j (by omega))
      have hsz := valid_size (m := m) (by rw [HE.out.1]; omega) (by rw [HE.out.1]; omega) (by rw [HE.out.2.1]; omega) (by rw [HE.out.2.1]; omega) (by rw [HE.out.2.2]; omega) hall
      have e : body (m.at_.take k) = body m.at_ := by rw [List.take_of_length_le (by rw [HE.out.2.2]; omega)]
      rw [e] at hw
      have hbl := bodySize_le m.at_ hall
      have hszb : szN m = 20 + (body m.at_).length := by rw [body_length]; rfl
      rw [← body_length, HE.out.2.2] at hbl
      have c0 : wr.cell? ⟨N, 0, none⟩ = some (.int .i64 cl) := by have := HM.out.1.cl hw.box; rw [HE.out.1] at this; exact this
      have c1 : wr.cell? ⟨N, 1, none⟩ = some (.int .i64 me) := by have := HM.out.1.me hw.box; rw [HE.out.2.1] at this; exact this
      obtain ⟨A4, c4, hv4, -⟩ := hw.own.form
      subst hv4
      obtain ⟨bl, hbl2⟩ : ∃ x, (body m.at_).length = x := ⟨_, rfl⟩
      rw [hbl2] at hw hbl hszb ⊢
      have HR := Lib.hid (And.intro hw (And.intro hsz (And.intro hszb hbl2)))
      obtain rfl : k = n := by omega
      clear hw hsz hszb hbl2 hall e hv h0 h1 h14
      obtain ⟨cn, hcn⟩ := Int.eq_ofNat_of_zero_le (show 0 ≤ cl by omega)
      obtain ⟨mn, hmn⟩ := Int.eq_ofNat_of_zero_le (show 0 ≤ me by omega)
      subst hcn hmn
      go_upto_region 15 with fail
      obtain ⟨kd, hkd⟩ : ∃ x : Int, ((mn : Nat) : Int) % 16 + ((cn : Nat) : Int) % 2 * 16 + ((mn : Nat) : Int) / 16 % 8 * 32 + ((cn : Nat) : Int) / 2 * 256 + ((mn : Nat) : Int) / 128 * 512 = x := ⟨_, rfl⟩
      have HKD : Hid (kd = kindOf m.cl m.me) := Lib.hid (by rw [HE.out.1, HE.out.2.1, ← hkd]; rfl)
      rw [hkd]
      clear hkd
      have HT1 := Lib.hid (HTWO.out wr.drew kd)
      have HFOUR : Hid (∀ W x, Calls Try.prog 34 #[.int .u32 x] W fun e w' => ∃ g, e = .returned (.slice (some ⟨g, 0, none⟩) 4 4) ∧ New8 W w' g (be4 x)) := Lib.hid fun W x => four_any x W
      go_region_held3 (fun _ => True) (trivial) (first
        | (go_at_call 36; (with_reducible refine HT1.out.mono ?_); rintro e w1 ⟨g1, rfl, hn1⟩)
        | (go_at_call 36; (with_reducible refine (HTWO.out _ _).mono ?_); rintro e w2 ⟨g2, rfl, hn2⟩)
        | (go_at_call 34; (with_reducible refine (HFOUR.out _ _).mono ?_); rintro e w3 ⟨g3, rfl, hn3⟩)
        | (go_at_call 35; (with_reducible refine (br_last HR.out.1.drew HM.out.1 hn1 hn2 hn3 (by have := HR.out.2.2.2; omega)).mono ?_); rintro e w4 ⟨v4, rfl, hw4⟩))
      have hfin : be2 kd ++ (be2 (bl : Int) ++ (be4 554869826 ++ (m.id ++ body m.at_))) = msgBytes m := by
        unfold msgBytes
        rw [HKD.out, HR.out.2.2.2]
      rw [hfin] at hw4
      obtain ⟨A5, c5, hv5, -⟩ := hw4.own.form
      rw [msgBytes_length m HFI.out.id12] at hv5
      obtain ⟨sz, hsz⟩ : ∃ x, szN m = x := ⟨_, rfl⟩
      have hval := HR.out.2.1
      rw [hsz] at hv5 hval
      subst hv5
      have H5 := Lib.hid (And.intro hw4 hval)
      clear hfin hw4 hval hsz hn1 hn2 hn3
      by_cases hbig : 1500 < sz
      · have hbig' : (sz : Int) > 1500 := by omega
        have hnv := Lib.hid (HNV.out (by rw [H5.out.2]; exact decide_eq_false (by omega)))
        go_wp2_with fail
        go_ret2
        exact ⟨.inr ⟨hnv.out, rfl⟩, by rw [HN.out]; exact H5.out.1.below⟩
      · have hbig' : ¬ (sz : Int) > 1500 := by omega
        have hv := Lib.hid ((valid_iff m).1 (by rw [H5.out.2]; exact decide_eq_true (by omega)))
        go_wp2_with fail
        go_ret2
        exact ⟨.inl ⟨hv.out, _, rfl, H5.out.1.own.low (by rw [HN.out]; omega)⟩, by rw [HN.out]; exact H5.out.1.below⟩
end Go.Proofs.Yteloaidnfcmadaa
