import Derived.Test.YtbbedhecfipdjaaGreatDoorPkAttrOrderA14
import Derived.Test.YtbbedhecfipdjaaGreatDoorPkAttrOrderA15
import Derived.Test.YtbbedhecfipdjaaGreatDoorPkAttrOrderA16
import Derived.Test.YtbbedhecfipdjaaGreatDoorPkAttrOrderA17
import Derived.Test.YtbbedhecfipdjaaGreatDoorPkAttrOrderA18
import Derived.Test.YtbbedhecfipdjaaGreatDoorPkAttrOrderA19
import Derived.Test.YtbbedhecfipdjaaGreatDoorPkAttrOrderA08
namespace Go.Proofs.YtbbedhecfipdjaaGreatDoor
open Go.RowKit
set_option linter.unusedVariables false
set_option linter.unusedSimpArgs false
set_option maxRecDepth 100000 in
theorem sw_any : SwCase fun _ => True := by
 intro w w10 P ln cn nm vl hS tS fS m0 L T g13 cs vC vE vR vS vY hT hvl hL64 hHT h10 hn J K' Q' hK hP
 intros
 by_cases n99 : tx nm = nMid
 · apply sw_nMid w w10 P ln cn nm vl hS tS fS m0 L T g13 cs vC vE vR vS vY hT hvl hL64 hHT h10 n99 J K' Q' hK hP
   assumption
 by_cases n104 : tx nm = nSendonly
 · apply sw_nSendonly w w10 P ln cn nm vl hS tS fS m0 L T g13 cs vC vE vR vS vY hT hvl hL64 hHT h10 n104 J K' Q' hK hP
   assumption
 by_cases n107 : tx nm = nRecvonly
 · apply sw_nRecvonly w w10 P ln cn nm vl hS tS fS m0 L T g13 cs vC vE vR vS vY hT hvl hL64 hHT h10 n107 J K' Q' hK hP
   assumption
 by_cases n110 : tx nm = nSendrecv
 · apply sw_nSendrecv w w10 P ln cn nm vl hS tS fS m0 L T g13 cs vC vE vR vS vY hT hvl hL64 hHT h10 n110 J K' Q' hK hP
   assumption
 by_cases n113 : tx nm = nCodec
 · apply sw_nCodec w w10 P ln cn nm vl hS tS fS m0 L T g13 cs vC vE vR vS vY hT hvl hL64 hHT h10 n113 J K' Q' hK hP
   assumption
 by_cases n145 : tx nm = nFormat
 · apply sw_nFormat w w10 P ln cn nm vl hS tS fS m0 L T g13 cs vC vE vR vS vY hT hvl hL64 hHT h10 n145 J K' Q' hK hP
   assumption
 by_cases n160 : tx nm = nFeedback
 · apply sw_nFeedback w w10 P ln cn nm vl hS tS fS m0 L T g13 cs vC vE vR vS vY hT hvl hL64 hHT h10 n160 J K' Q' hK hP
   assumption
 by_cases n183 : tx nm = nExt
 · apply sw_nExt w w10 P ln cn nm vl hS tS fS m0 L T g13 cs vC vE vR vS vY hT hvl hL64 hHT h10 n183 J K' Q' hK hP
   assumption
 by_cases n194 : tx nm = nRid
 · apply sw_nRid w w10 P ln cn nm vl hS tS fS m0 L T g13 cs vC vE vR vS vY hT hvl hL64 hHT h10 n194 J K' Q' hK hP
   assumption
 by_cases n205 : tx nm = nSource
 · apply sw_nSource w w10 P ln cn nm vl hS tS fS m0 L T g13 cs vC vE vR vS vY hT hvl hL64 hHT h10 n205 J K' Q' hK hP
   assumption
 by_cases n220 : tx nm = nCrypto
 · apply sw_nCrypto w w10 P ln cn nm vl hS tS fS m0 L T g13 cs vC vE vR vS vY hT hvl hL64 hHT h10 n220 J K' Q' hK hP
   assumption
 by_cases n243 : tx nm = nSctp
 · apply sw_nSctp w w10 P ln cn nm vl hS tS fS m0 L T g13 cs vC vE vR vS vY hT hvl hL64 hHT h10 n243 J K' Q' hK hP
   assumption
 apply sw_else w w10 P ln cn nm vl hS tS fS m0 L T g13 cs vC vE vR vS vY hT hvl hL64 hHT h10 ⟨n99, n104, n107, n110, n113, n145, n160, n183, n194, n205, n220, n243⟩ J K' Q' hK hP
 assumption
set_option maxHeartbeats 6400000 in
set_option maxRecDepth 100000 in
theorem rWrite_any (M : Array Value) (m : MediaS) (vC vE vR vS vY : Value) (w : World) (h : MediaV w w.heap.size M m vC vE vR vS vY) (hz : SizM m)
 (hgood : ∀ W, Below w.heap.size w W → Calls Tryz.prog 20 #[.agg M] W fun e w' => e = .returned (.bool (goodM m)) ∧ Below W.heap.size W w')
 (hwrite : goodM m = true → ∀ W, Below w.heap.size w W → Calls Tryz.prog 37 #[.agg M] W fun e w' => ∃ s v, e = .returned (.agg #[.string s, .string connB, v]) ∧ s = bs (lineM m) ∧ AtR w' W.heap.size v (attrsM m) ∧ Below W.heap.size W w') :
 Calls Tryz.prog 15 #[.agg M] w (WriteO 55 w m) := by
 have hb0 : Below w.heap.size w ((w.alloc (.cells M 28)).alloc (.cells zPart 32)) := two_new _ _ _ _
 have hw := (Whole.new w 28 M).alloc (.cells zPart 32)
 have hr := Whole.new2 w (.cells M 28) 32 zPart
 have HSZ := Lib.hid h.size
 have H0 := Lib.hid (And.intro hb0 (And.intro hw hr))
 have HWR := Lib.hid hwrite
 clear h hz hb0 hw hr hwrite
 obtain ⟨N, hN⟩ : ∃ N, w.heap.size = N := ⟨_, rfl⟩
 have HNW : Hid (w.heap.size = N) := Lib.hid hN
 rw [hN] at H0
 clear hN
 go_enter Tryz.func15, Tryz.ntmps15
 go_upto_region 1 with fail
 simp only [HNW.out]
 generalize (w.alloc (.cells M 28)).alloc (.cells #[.string ⟨#[]⟩, .string ⟨#[]⟩, .slice none 0 0] 32) = W0 at *
 have HGO : Hid (Calls Tryz.prog 20 #[.agg M] W0 fun e w' => e = .returned (.bool (goodM m)) ∧ Below W0.heap.size W0 w') := Lib.hid (hgood W0 (by rw [HNW.out]; exact H0.out.1))
 have HST : Hid (∀ W W', Below N w W ∧ Whole W N 28 M ∧ Whole W (N + 1) 32 zPart → Below W.heap.size W W' → Below N w W' ∧ Whole W' N 28 M ∧ Whole W' (N + 1) 32 zPart) := Lib.hid fun W W' h hb => ⟨h.1.trans (hb.mono (by rw [← HNW.out]; have := h.1.size; rw [HNW.out] at this ⊢; exact this)), h.2.1.under hb, h.2.2.under hb⟩
 clear hgood
 cases hg : goodM m with
 | false =>
   have HNO := Lib.hid (mayM_no hg)
   rw [hg] at HGO
   clear hg
   go_wp2_with (first
    | ((with_reducible refine wpList_load_all ?_ 28 (.tmp 1) ?_ H0.out.2.1 ?_ Tryz.sizeMedia HSZ.out Tryz.underlying28 ?_ ?_); (with_reducible rfl); (with_reducible rfl); rfl; rfl)
    | (go_at_call 20; (with_reducible refine HGO.out.mono ?_); rintro e w1 ⟨rfl, hb1⟩; have H1 := Lib.hid (HST.out _ _ H0.out hb1); clear hb1)
    | ((with_reducible refine wpList_storeS #[.string ⟨#[]⟩, .string ⟨#[]⟩, .slice none 0 0] ?_ 32 (.tmp 2) (.tmp 8) ?_ ?_ ?_ H1.out.2.2 Tryz.sizeRsPart ?_ ?_ ?_ ?_); (with_reducible rfl); (with_reducible rfl); rfl; rfl; rfl; rfl; rfl)
    | ((with_reducible show bodyPost _ _ _ _ _ _); refine bodyPost_ret (v := .tuple #[.agg #[.string ⟨#[]⟩, .string ⟨#[]⟩, .slice none 0 0], .int .i64 1]) (ret_struct2 (p := 2) (s := 3) rfl rfl (H1.out.2.2.row _) Tryz.underlying32 rfl Tryz.sizeRsPart rfl) rfl (WriteO.no HNO.out (by rw [HNW.out]; exact below_row H1.out.1 (by omega) _))))
 | true =>
   have HG := Lib.hid hg
   have HAT : Hid (∀ W, Below N w W → Calls Tryz.prog 37 #[.agg M] W fun e w' => ∃ s v, e = .returned (.agg #[.string s, .string connB, v]) ∧ s = bs (lineM m) ∧ AtR w' W.heap.size v (attrsM m) ∧ Below W.heap.size W w') := Lib.hid fun W hW => HWR.out hg W (by rw [HNW.out]; exact hW)
   rw [hg] at HGO
   clear hg HWR
   go_upto_region 3 with (first
    | ((with_reducible refine wpList_load_all ?_ 28 (.tmp 1) ?_ H0.out.2.1 ?_ Tryz.sizeMedia HSZ.out Tryz.underlying28 ?_ ?_); (with_reducible rfl); (with_reducible rfl); rfl; rfl)
    | (go_at_call 20; (with_reducible refine HGO.out.mono ?_); rintro e w1 ⟨rfl, hb1⟩; have H1 := Lib.hid (HST.out _ _ H0.out hb1); clear hb1))
   have HAT1 := Lib.hid (HAT.out w1 H1.out.1)
   go_upto_region 4 with (first
    | ((with_reducible refine wpList_load_all ?_ 28 (.tmp 1) ?_ H1.out.2.1 ?_ Tryz.sizeMedia HSZ.out Tryz.underlying28 ?_ ?_); (with_reducible rfl); (with_reducible rfl); rfl; rfl)
    | (go_at_call 37; (with_reducible refine HAT1.out.mono ?_); rintro e w2 ⟨s2, v2, rfl, hs2, ho2, hb2⟩; have H2 := Lib.hid (HST.out _ _ H1.out hb2); have HO2 : Hid (AtR w2 N v2 (attrsM m)) := Lib.hid (Own.base_le ho2 (by have := H1.out.1.size; rw [HNW.out] at this; exact this)); have HS2 := Lib.hid hs2; clear hb2 ho2 hs2; obtain ⟨A2, c2, hv2, -⟩ := Own.form HO2.out; rw [List.length_map] at hv2; obtain ⟨n, hn⟩ : ∃ n, (attrsM m).length = n := ⟨_, rfl⟩; rw [hn] at hv2; subst hv2; have HNEW : Hid (Whole (w2.alloc (.cells zPart 32)) w2.heap.size 32 zPart) := Lib.hid (Whole.new _ _ _); dsimp only)
    | ((with_reducible refine wpList_storeS #[.string s2, .string connB, .slice A2 n c2] ?_ 32 (.tmp 4) (.tmp 10) ?_ ?_ ?_ HNEW.out Tryz.sizeRsPart ?_ ?_ ?_ ?_); (with_reducible rfl); (with_reducible rfl); rfl; rfl; rfl; rfl; rfl))
   have HBB : Hid (Below w2.heap.size w2 ((w2.alloc (.cells zPart 32)).setRow w2.heap.size #[.string s2, .string connB, .slice A2 n c2])) := Lib.hid (below_row ((Below.refl _ w2).alloc (Nat.le_refl _) _) (Nat.le_refl _) _)
   have H3 := Lib.hid (HST.out _ _ H2.out HBB.out)
   have HO3 := Lib.hid (AtR.under HO2.out HBB.out)
   have HP3 : Hid (Whole ((w2.alloc (.cells zPart 32)).setRow w2.heap.size #[.string s2, .string connB, .slice A2 n c2]) w2.heap.size 32 #[.string s2, .string connB, .slice A2 n c2]) := Lib.hid (HNEW.out.row _)
   generalize ((w2.alloc (.cells zPart 32)).setRow w2.heap.size #[.string s2, .string connB, .slice A2 n c2]) = w3 at *
   generalize w2.heap.size = pb at *
   clear HNEW HBB
   have k2 : w3.cell? ⟨pb, 2, none⟩ = some (.slice A2 n c2) := HP3.out.cell 2
   by_cases h64 : 64 < n
   · have HNO : Hid (mayM m = false) := Lib.hid (by unfold mayM; rw [HG.out, hn]; simp; omega)
     have h64 : (64 : Int) < (n : Int) := by omega
     clear hn
     go_wp2_with (first
      | ((with_reducible refine wpList_storeS #[.string ⟨#[]⟩, .string ⟨#[]⟩, .slice none 0 0] ?_ 32 (.tmp 2) (.tmp 15) ?_ ?_ ?_ H3.out.2.2 Tryz.sizeRsPart ?_ ?_ ?_ ?_); (with_reducible rfl); (with_reducible rfl); rfl; rfl; rfl; rfl; rfl)
      | ((with_reducible show bodyPost _ _ _ _ _ _); refine bodyPost_ret (v := .tuple #[.agg #[.string ⟨#[]⟩, .string ⟨#[]⟩, .slice none 0 0], .int .i64 1]) (ret_struct2 (p := 2) (s := 3) rfl rfl (H3.out.2.2.row _) Tryz.underlying32 rfl Tryz.sizeRsPart rfl) rfl (WriteO.no HNO.out (by rw [HNW.out]; exact below_row H3.out.1 (by omega) _))))
   · have HYE : Hid (mayM m = true) := Lib.hid (by unfold mayM; rw [HG.out, hn]; simp; omega)
     have h64 : (n : Int) ≤ (64 : Int) := by omega
     clear hn
     go_wp2_with (first
      | ((with_reducible refine wpList_load_all ?_ 32 (.tmp 4) ?_ HP3.out ?_ Tryz.sizeRsPart ?_ Tryz.underlying32 ?_ ?_); (with_reducible rfl); (with_reducible rfl); rfl; rfl; rfl)
      | ((with_reducible refine wpList_storeS #[.string s2, .string connB, .slice A2 n c2] ?_ 32 (.tmp 2) (.tmp 16) ?_ ?_ ?_ H3.out.2.2 Tryz.sizeRsPart ?_ ?_ ?_ ?_); (with_reducible rfl); (with_reducible rfl); rfl; rfl; rfl; rfl; rfl)
      | ((with_reducible show bodyPost _ _ _ _ _ _); refine bodyPost_ret (v := .tuple #[.agg #[.string s2, .string connB, .slice A2 n c2], .int .i64 0]) (ret_struct2 (p := 2) (s := 3) rfl rfl (H3.out.2.2.row _) Tryz.underlying32 rfl Tryz.sizeRsPart rfl) rfl (WriteO.yes HYE.out (by rw [HNW.out]; exact below_row H3.out.1 (by omega) _) HS2.out (by rw [HNW.out]; exact Own.farRow HO3.out (Own.apart HO3.out H3.out.2.2 (by decide)) _))))
end Go.Proofs.YtbbedhecfipdjaaGreatDoor
