import Derived.Test.YtbbedhecfipdjaaGreatDoorPkDescPrintsA03
import Derived.Test.YtbbedhecfipdjaaGreatDoorPkDescPrintsA02
import Derived.Test.YtbbedhecfipdjaaGreatDoorPkDescPrintsA00
namespace Go.Proofs.YtbbedhecfipdjaaGreatDoor
open Go.RowKit
set_option linter.unusedVariables false
set_option linter.unusedSimpArgs false
def OkO (w : World) (x : SesS) (e : Ending) (w' : World) : Prop := ∃ (A P : Option Addr) (ca cp : Nat), e = .returned (.tuple #[.agg #[.string x.origin, .string x.name, .string x.time, .slice A x.attrs.length ca, .slice P x.parts.length cp], .int .i64 0, .int .i64 0]) ∧
 AttrsV w' w'.heap.size (.slice A x.attrs.length ca) x.attrs ∧ PartsV w' w'.heap.size (.slice P x.parts.length cp) x.parts ∧ Below w.heap.size w w'
def ErrO (w : World) (k : Nat) (er : Int) (e : Ending) (w' : World) : Prop := ∃ (A P : Option Addr) (ca cp : Nat), e = .returned (.tuple #[.agg #[.string (bs []), .string (bs []), .string (bs []), .slice A 0 ca, .slice P 0 cp], .int .i64 k, .int .i64 er]) ∧
 AttrsV w' w'.heap.size (.slice A 0 ca) [] ∧ PartsV w' w'.heap.size (.slice P 0 cp) [] ∧ (er = 2 ∨ er = 3) ∧ Below w.heap.size w w'
theorem ParseO.ok {w w' : World} {l : Tx} {e : Ending} {x : SesS} (h : ParseO w l e w') (hx : Parsed l (.ok x)) : OkO w x e w' := by
 obtain ⟨M, y, vA, vP, k, er, rfl, ⟨rfl, hA, hP⟩, hr, hb⟩ := h
 rcases hr with ⟨rfl, rfl, hy⟩ | ⟨_, _, hy⟩
 · have e := hx.one hy
   injection e with e
   subst e
   obtain ⟨A, ca, rfl, -⟩ := hA.form
   obtain ⟨P, cp, rfl, -⟩ := hP.form
   exact ⟨A, P, ca, cp, rfl, hA, hP, hb⟩
 · have e := hx.one hy
   cases e
theorem ParseO.err {w w' : World} {l : Tx} {e : Ending} {k : Nat} {er : Int} (h : ParseO w l e w') (hx : Parsed l (.err k er)) : ErrO w k er e w' := by
 obtain ⟨M, y, vA, vP, k', er', rfl, ⟨rfl, hA, hP⟩, hr, hb⟩ := h
 rcases hr with ⟨rfl, rfl, hy⟩ | ⟨he, rfl, hy⟩
 · have e := hx.one hy
   cases e
 · have e := hx.one hy
   injection e with e1 e2
   subst e1 e2
   obtain ⟨A, ca, rfl, -⟩ := hA.form
   obtain ⟨P, cp, rfl, -⟩ := hP.form
   exact ⟨A, P, ca, cp, rfl, hA, hP, he, hb⟩
set_option maxHeartbeats 400000 in
theorem perhaps_any (s : ByteArray) (w : World) (hs : s.size ≤ maxLen) : Calls Tryz.prog 164 #[.string s] w fun e w' => e = .returned (.bool (maybeP (tx s))) ∧ w = w' := by
 have HV := Lib.hid (value_any s w hs)
 clear hs
 have HE : Hid (maybeP (tx s) = (s.toList.isEmpty || valP (tx s))) := Lib.hid (by rw [toList_tx]; rfl)
 generalize maybeP (tx s) = r at *
 generalize valP (tx s) = y at *
 cases hq : s.toList.isEmpty with
 | true =>
   have HR : Hid (true = r) := Lib.hid (by rw [HE.out, hq]; rfl)
   clear HE
   go_enter Tryz.func164, Tryz.ntmps164
   go_wp2
   go_ret
   exact ⟨ret_bool HR.out, rfl⟩
 | false =>
   have HR : Hid (y = r) := Lib.hid (by rw [HE.out, hq]; rfl)
   clear HE
   go_enter Tryz.func164, Tryz.ntmps164
   go_wp2_with (go_at_call 117; (with_reducible refine HV.out.mono ?_); rintro e w' ⟨rfl, rfl⟩)
   go_ret
   exact ⟨ret_bool HR.out, rfl⟩
theorem okA_bad {L : List AttrS} {k : Nat} {a : AttrS} (h : L[k]? = some a) (ha : okAt a = false) : okA L = false := by
 unfold okA
 rw [Bool.and_eq_false_iff]
 right
 rw [List.all_eq_false]
 exact ⟨a, List.mem_of_getElem? h, by rw [ha]; decide⟩
theorem okA_many {L : List AttrS} (h : 64 < L.length) : okA L = false := by
 unfold okA
 rw [Bool.and_eq_false_iff]
 left
 exact decide_eq_false (by omega)
theorem okA_yes {L : List AttrS} (h : L.length ≤ 64) (ha : ∀ (j : Nat) (a : AttrS), L[j]? = some a → okAt a = true) : okA L = true := by
 unfold okA
 rw [Bool.and_eq_true, List.all_eq_true]
 refine ⟨decide_eq_true h, fun a hm => ?_⟩
 obtain ⟨j, hj⟩ := List.getElem?_of_mem hm
 exact ha j a hj
set_option maxHeartbeats 1600000 in
set_option maxRecDepth 100000 in
theorem validAttrs_any (v : Value) (L : List AttrS) (w : World) (h : AttrsV w w.heap.size v L) (hz : SizA L) : Calls Tryz.prog 163 #[v] w fun e w' => e = .returned (.bool (okA L)) ∧ Below w.heap.size w w' := by
 obtain ⟨A, c, rfl, hc, hm, -⟩ := h.form
 obtain ⟨N, hN⟩ : ∃ N, w.heap.size = N := ⟨_, rfl⟩
 have HN := Lib.hid hN
 have H := Lib.hid h
 have HZ := Lib.hid hz
 obtain ⟨n, hn⟩ : ∃ n, L.length = n := ⟨_, rfl⟩
 have HNN := Lib.hid hn
 rw [hn] at hc ⊢
 clear h hn hN hz
 unfold maxLen at hm
 by_cases h64 : 64 < n
 · have h64' : (64 : Int) < (n : Int) := by omega
   have HR : Hid (false = okA L) := Lib.hid (okA_many (by rw [HNN.out]; exact h64)).symm
   generalize okA L = r at *
   go_enter Tryz.func163, Tryz.ntmps163
   go_wp2
   go_ret
   exact ⟨ret_bool HR.out, Below.refl _ _⟩
 have h64' : ¬ (64 : Int) < (n : Int) := by omega
 go_enter Tryz.func163, Tryz.ntmps163
 go_wp2
 go_loopw [10] (fun s10 wr => ∃ k : Nat, k ≤ n ∧ s10 = .int .i64 k ∧ (∀ (j : Nat) (a : AttrS), j < k → L[j]? = some a → okAt a = true) ∧ Below N w wr) (fun s10 _ => n - (intOf s10).toNat)
 case atStart => exact ⟨0, Nat.zero_le _, rfl, fun j a hj => by omega, Below.refl _ w⟩
 case round =>
  obtain ⟨k, hk, rfl, hsame, hb⟩ := hrel
  have HS := Lib.hid (And.intro hsame hb)
  by_cases hlt : k < n
  · obtain ⟨ad, c', e1, b1, x0, x1⟩ := H.out.at_ (i := k) (by rw [HNN.out]; exact hlt)
    injection e1 with e1 e1n e1c
    clear e1n e1c
    subst e1
    have gL := getD_of (L := L) (i := k) (by rw [HNN.out]; exact hlt)
    obtain ⟨a, ha⟩ : ∃ a, L.getD k default = a := ⟨_, rfl⟩
    rw [ha] at x0 x1 gL
    rw [HN.out] at b1
    have x0' := (hb.cell (p := ad.add (k * 2)) (by rw [add_block]; exact b1)).trans x0
    have x1' := (hb.cell (p := ⟨(ad.add (k * 2)).block, (ad.add (k * 2)).off + 1, none⟩) (by show (ad.add (k * 2)).block < _; rw [add_block]; exact b1)).trans x1
    have HG := Lib.hid gL
    have hza := HZ.out k a gL
    have hNr : N ≤ wr.heap.size := by have := hb.size; rw [HN.out] at this; exact this
    have hal := (hb.alloc hNr (.cells #[.string ⟨#[]⟩, .string ⟨#[]⟩] 53))
    have HW1 : Hid (Whole (wr.alloc (.cells #[.string ⟨#[]⟩, .string ⟨#[]⟩] 53)) wr.heap.size 53 #[.string ⟨#[]⟩, .string ⟨#[]⟩]) := Lib.hid (Whole.new _ _ _)
    have HB1 := Lib.hid (And.intro hNr hal)
    have hk0 : (0 : Int) ≤ (k : Int) := by omega
    have hk1 : (k : Int) < (n : Int) := by omega
    have e1 : IntKind.i64.wrap ((k : Int) + 1) = (k : Int) + 1 := IntWalk.i64_in _ (by omega)
    clear x0 x1 gL ha b1 hb hsame hNr hal
    obtain ⟨nm, vl⟩ := a
    have HWD : Hid (∀ W, Calls Tryz.prog 83 #[.string nm] W fun e w' => e = .returned (.bool (wordP 1 32 (tx nm))) ∧ W = w') := Lib.hid fun W => word_any nm W (by have := hza.1; unfold maxLen; simp only at this; omega)
    have HMB : Hid (∀ W, Calls Tryz.prog 164 #[.string vl] W fun e w' => e = .returned (.bool (maybeP (tx vl))) ∧ W = w') := Lib.hid fun W => perhaps_any vl W (by have := hza.2; unfold maxLen; simp only at this; omega)
    have HO : Hid (okAt ⟨nm, vl⟩ = (wordP 1 32 (tx nm) && maybeP (tx vl))) := Lib.hid rfl
    generalize wordP 1 32 (tx nm) = x at *
    generalize maybeP (tx vl) = y at *
    clear hza
    go_upto_region 6 with ((with_reducible refine wpList_storeS #[.string nm, .string vl] ?_ 53 (.tmp 4) (.tmp 13) ?_ ?_ ?_ HW1.out Tryz.sizeSAttr ?_ ?_ ?_ ?_); (with_reducible rfl); (with_reducible rfl); rfl; rfl; rfl; rfl; rfl)
    have hr := HW1.out.row #[.string nm, .string vl]
    have hb2 := below_row HB1.out.2 HB1.out.1 #[.string nm, .string vl]
    generalize (wr.alloc (.cells #[.string ⟨#[]⟩, .string ⟨#[]⟩] 53)).setRow wr.heap.size #[.string nm, .string vl] = W2 at *
    generalize wr.heap.size = g at *
    have c0 := hr.cell 0
    have c1 := hr.cell 1
    simp only [List.getElem?_toArray, List.getElem?_cons_zero, List.getElem?_cons_succ] at c0 c1
    have HB2 := Lib.hid hb2
    clear hr hb2 HW1 HB1 x0' x1'
    cases x with
    | false =>
      have HR : Hid (false = okA L) := Lib.hid (okA_bad HG.out (by rw [HO.out]; rfl)).symm
      go_wp2_with (go_at_call 83; (with_reducible refine (HWD.out _).mono ?_); rintro e w' ⟨rfl, rfl⟩)
      go_ret
      exact ⟨ret_bool HR.out, by rw [HN.out]; exact HB2.out⟩
    | true =>
      cases y with
      | false =>
        have HR : Hid (false = okA L) := Lib.hid (okA_bad HG.out (by rw [HO.out]; rfl)).symm
        go_wp2_with (first
         | (go_at_call 83; (with_reducible refine (HWD.out _).mono ?_); rintro e w' ⟨rfl, rfl⟩)
         | (go_at_call 164; (with_reducible refine (HMB.out _).mono ?_); rintro e w' ⟨rfl, rfl⟩))
        go_ret
        exact ⟨ret_bool HR.out, by rw [HN.out]; exact HB2.out⟩
      | true =>
        have HR : Hid (∀ (j : Nat) (a : AttrS), j < k + 1 → L[j]? = some a → okAt a = true) := Lib.hid fun j a hj e => by
         by_cases e2 : j = k
         · subst e2
           rw [HG.out] at e
           injection e with e
           subst e
           rw [HO.out]
           rfl
         · exact HS.out.1 j a (by omega) e
        go_wp2_with (first
         | (go_at_call 83; (with_reducible refine (HWD.out _).mono ?_); rintro e w' ⟨rfl, rfl⟩)
         | (go_at_call 164; (with_reducible refine (HMB.out _).mono ?_); rintro e w' ⟨rfl, rfl⟩))
        go_roundw
        case rel => exact ⟨k + 1, by omega, by go_num, HR.out, HB2.out⟩
        case measure => simp [intOf]; omega
  · obtain rfl : k = n := by omega
    have HR : Hid (true = okA L) := Lib.hid (okA_yes (by rw [HNN.out]; omega) fun j a e => HS.out.1 j a (by have := (List.getElem?_eq_some_iff.1 e).1; rw [HNN.out] at this; exact this) e).symm
    clear hsame hb
    go_wp2
    go_ret
    exact ⟨ret_bool HR.out, by rw [HN.out]; exact HS.out.2⟩
theorem all_bad {L : List PartS} {k : Nat} {p : PartS} (h : L[k]? = some p) (ha : okP p = false) : L.all okP = false := by
 rw [List.all_eq_false]
 exact ⟨p, List.mem_of_getElem? h, by rw [ha]; decide⟩
theorem all_yes {L : List PartS} (ha : ∀ (j : Nat) (p : PartS), L[j]? = some p → okP p = true) : L.all okP = true := by
 rw [List.all_eq_true]
 intro p hm
 obtain ⟨j, hj⟩ := List.getElem?_of_mem hm
 exact ha j p hj
set_option maxHeartbeats 3200000 in
set_option maxRecDepth 100000 in
theorem valid_any (X : Array Value) (x : SesS) (a1 p1 : Value) (w : World) (h : SesV w w.heap.size X x a1 p1) (hz : SizS x) : Calls Tryz.prog 108 #[.agg X] w fun e w' => e = .returned (.bool (okS x)) ∧ Below w.heap.size w w' := by
 obtain ⟨e1, va1, vp1⟩ := h
 subst e1
 obtain ⟨A, k1, rfl, -⟩ := va1.form
 obtain ⟨P, j1, rfl, hj1, hm1, -⟩ := vp1.form
 obtain ⟨n1, hn1⟩ : ∃ n, x.attrs.length = n := ⟨_, rfl⟩
 obtain ⟨n, hn⟩ : ∃ n, x.parts.length = n := ⟨_, rfl⟩
 rw [hn1] at va1
 rw [hn] at vp1 hj1
 rw [hn1, hn]
 unfold maxLen at hm1
 have hb : Below w.heap.size w (w.alloc (.cells #[.string x.origin, .string x.name, .string x.time, .slice A n1 k1, .slice P n j1] 113)) := (Below.refl _ w).alloc (Nat.le_refl _) _
 have g1 := Whole.new w 113 #[.string x.origin, .string x.name, .string x.time, .slice A n1 k1, .slice P n j1]
 have va := (va1.below hb).more hb.size
 have vp := (vp1.below hb).more hb.size
 have HNN := Lib.hid hn
 have HZ := Lib.hid hz
 obtain ⟨b1, hb1⟩ : ∃ b, valP (tx x.origin) = b := ⟨_, rfl⟩
 obtain ⟨b2, hb2⟩ : ∃ b, valP (tx x.name) = b := ⟨_, rfl⟩
 obtain ⟨b3, hb3⟩ : ∃ b, valP (tx x.time) = b := ⟨_, rfl⟩
 obtain ⟨b4, hb4⟩ : ∃ b, okA x.attrs = b := ⟨_, rfl⟩
 have HOK : Hid (okS x = (b1 && b2 && b3 && b4 && decide (n ≤ 8) && x.parts.all okP)) := Lib.hid (by unfold okS; rw [hb1, hb2, hb3, hb4, hn])
 have HV1 : Hid (∀ W, Calls Tryz.prog 117 #[.string x.origin] W fun e w' => e = .returned (.bool b1) ∧ W = w') := Lib.hid fun W => by rw [← hb1]; exact value_any _ W (by have := hz.1.1; unfold maxLen; omega)
 have HV2 : Hid (∀ W, Calls Tryz.prog 117 #[.string x.name] W fun e w' => e = .returned (.bool b2) ∧ W = w') := Lib.hid fun W => by rw [← hb2]; exact value_any _ W (by have := hz.1.2.1; unfold maxLen; omega)
 have HV3 : Hid (∀ W, Calls Tryz.prog 117 #[.string x.time] W fun e w' => e = .returned (.bool b3) ∧ W = w') := Lib.hid fun W => by rw [← hb3]; exact value_any _ W (by have := hz.1.2.2; unfold maxLen; omega)
 clear hn1 hn va1 vp1 hz hb1 hb2 hb3
 obtain ⟨B, hB⟩ : ∃ B, w.heap.size = B := ⟨_, rfl⟩
 have HBE := Lib.hid hB
 go_enter Tryz.func108, Tryz.ntmps108
 go_upto_region 1 with fail
 rw [hB] at g1 hb
 generalize hw0 : w.alloc (.cells #[.string x.origin, .string x.name, .string x.time, .slice A n1 k1, .slice P n j1] 113) = w0 at *
 have HB0 := Lib.hid (And.intro (by rw [hB]; exact hb : Below w.heap.size w w0) True.intro)
 clear hw0 hB
 obtain ⟨N, hN⟩ : ∃ N, w0.heap.size = N := ⟨_, rfl⟩
 have HN := Lib.hid hN
 rw [hN] at va vp
 have hBN : B < N := by rw [← hN]; exact g1.lt
 have HBN := Lib.hid hBN
 have c0 := g1.cell 0
 have c1 := g1.cell 1
 have c2 := g1.cell 2
 have c3 := g1.cell 3
 have c4 := g1.cell 4
 simp only [List.getElem?_toArray, List.getElem?_cons_zero, List.getElem?_cons_succ] at c0 c1 c2 c3 c4
 have HVA : Hid (Calls Tryz.prog 163 #[.slice A n1 k1] w0 fun e w' => e = .returned (.bool b4) ∧ Below w0.heap.size w0 w') := Lib.hid (by rw [← hb4]; exact validAttrs_any _ x.attrs w0 (va.more (by rw [hN]; exact Nat.le_refl _)) HZ.out.2.1)
 have HVP := Lib.hid vp
 have HG1 := Lib.hid g1
 clear va vp hN hBN hb hb4 g1
 cases b1 with
 | false =>
   have HR : Hid (false = okS x) := Lib.hid (by rw [HOK.out]; simp)
   go_wp2_with (go_at_call 117; (with_reducible refine (HV1.out _).mono ?_); rintro e w' ⟨rfl, rfl⟩)
   go_ret
   exact ⟨ret_bool HR.out, HB0.out.1⟩
 | true =>
 cases b2 with
 | false =>
   have HR : Hid (false = okS x) := Lib.hid (by rw [HOK.out]; simp)
   go_wp2_with (first | (go_at_call 117; (with_reducible refine (HV1.out _).mono ?_); rintro e w' ⟨rfl, rfl⟩) | (go_at_call 117; (with_reducible refine (HV2.out _).mono ?_); rintro e w' ⟨rfl, rfl⟩))
   go_ret
   exact ⟨ret_bool HR.out, HB0.out.1⟩
 | true =>
 cases b3 with
 | false =>
   have HR : Hid (false = okS x) := Lib.hid (by rw [HOK.out]; simp)
   go_wp2_with (first | (go_at_call 117; (with_reducible refine (HV1.out _).mono ?_); rintro e w' ⟨rfl, rfl⟩) | (go_at_call 117; (with_reducible refine (HV2.out _).mono ?_); rintro e w' ⟨rfl, rfl⟩) | (go_at_call 117; (with_reducible refine (HV3.out _).mono ?_); rintro e w' ⟨rfl, rfl⟩))
   go_ret
   exact ⟨ret_bool HR.out, HB0.out.1⟩
 | true =>
 cases b4 with
 | false =>
   have HR : Hid (false = okS x) := Lib.hid (by rw [HOK.out]; simp)
   go_wp2_with (first | (go_at_call 117; (with_reducible refine (HV1.out _).mono ?_); rintro e w' ⟨rfl, rfl⟩) | (go_at_call 117; (with_reducible refine (HV2.out _).mono ?_); rintro e w' ⟨rfl, rfl⟩) | (go_at_call 117; (with_reducible refine (HV3.out _).mono ?_); rintro e w' ⟨rfl, rfl⟩) | (go_at_call 163; (with_reducible refine HVA.out.mono ?_); rintro e w5 ⟨rfl, hb5⟩))
   go_ret
   exact ⟨ret_bool HR.out, HB0.out.1.trans (hb5.mono HB0.out.1.size)⟩
 | true =>
 by_cases h8 : 8 < n
 · have h8' : (8 : Int) < (n : Int) := by omega
   have HR : Hid (false = okS x) := Lib.hid (by rw [HOK.out]; have : decide (n ≤ 8) = false := decide_eq_false (by omega); rw [this]; simp)
   clear h8
   go_wp2_with (first | (go_at_call 117; (with_reducible refine (HV1.out _).mono ?_); rintro e w' ⟨rfl, rfl⟩) | (go_at_call 117; (with_reducible refine (HV2.out _).mono ?_); rintro e w' ⟨rfl, rfl⟩) | (go_at_call 117; (with_reducible refine (HV3.out _).mono ?_); rintro e w' ⟨rfl, rfl⟩) | (go_at_call 163; (with_reducible refine HVA.out.mono ?_); rintro e w5 ⟨rfl, hb5⟩; have c4' := (hb5.cell (p := ⟨B, 4, none⟩) (by show B < _; rw [HN.out]; exact HBN.out)).trans c4))
   go_ret
   exact ⟨ret_bool HR.out, HB0.out.1.trans (hb5.mono HB0.out.1.size)⟩
 have h8' : ¬ (8 : Int) < (n : Int) := by omega
 have h8n : n ≤ 8 := by omega
 have HOK2 : Hid (okS x = x.parts.all okP) := Lib.hid (by rw [HOK.out, decide_eq_true h8n]; simp)
 clear h8 HOK
 go_wp2_with (first | (go_at_call 117; (with_reducible refine (HV1.out _).mono ?_); rintro e w' ⟨rfl, rfl⟩) | (go_at_call 117; (with_reducible refine (HV2.out _).mono ?_); rintro e w' ⟨rfl, rfl⟩) | (go_at_call 117; (with_reducible refine (HV3.out _).mono ?_); rintro e w' ⟨rfl, rfl⟩) | (go_at_call 163; (with_reducible refine HVA.out.mono ?_); rintro e w5 ⟨rfl, hb5⟩; have c4' := (hb5.cell (p := ⟨B, 4, none⟩) (by show B < _; rw [HN.out]; exact HBN.out)).trans c4; have HB5 : Hid (Below N w0 w5) := Lib.hid (by rw [← HN.out]; exact hb5); clear hb5))
 clear c4' c0 c1 c2 c3 c4
 go_loopw [34] (fun s34 wr => ∃ k : Nat, k ≤ n ∧ s34 = .int .i64 k ∧ (∀ (j : Nat) (p : PartS), j < k → x.parts[j]? = some p → okP p = true) ∧ Below N w0 wr) (fun s34 _ => n - (intOf s34).toNat)
 case atStart => exact ⟨0, Nat.zero_le _, rfl, fun j a hj => by omega, HB5.out⟩
 case round =>
  obtain ⟨k, hk, rfl, hsame, hbl⟩ := hrel
  have HS := Lib.hid (And.intro hsame hbl)
  have HFB : Hid (∀ W, Below N w0 W → Below w.heap.size w W) := Lib.hid fun W hW => HB0.out.1.trans (hW.mono (by rw [HBE.out]; have := HBN.out; omega))
  by_cases hlt : k < n
  · obtain ⟨ad, c1', va, e1, b1, x0, x1, xa, xr⟩ := HVP.out.at_ (i := k) (by rw [HNN.out]; exact hlt)
    injection e1 with e1 e1n e1c
    clear e1n e1c
    subst e1
    have gL := getD_of (L := x.parts) (i := k) (by rw [HNN.out]; exact hlt)
    obtain ⟨p, hp⟩ : ∃ p, x.parts.getD k default = p := ⟨_, rfl⟩
    rw [hp] at x0 x1 xr gL
    have x0' := (hbl.cell (p := ad.add (k * 3)) (by rw [add_block]; exact b1)).trans x0
    have x1' := (hbl.cell (p := ⟨(ad.add (k * 3)).block, (ad.add (k * 3)).off + 1, none⟩) (by show (ad.add (k * 3)).block < _; rw [add_block]; exact b1)).trans x1
    have x2' := (hbl.cell (p := ⟨(ad.add (k * 3)).block, (ad.add (k * 3)).off + 2, none⟩) (by show (ad.add (k * 3)).block < _; rw [add_block]; exact b1)).trans xa
    have HG := Lib.hid gL
    have hzp := HZ.out.2.2 k p gL
    have hNr : N ≤ wr.heap.size := by have := hbl.size; rw [HN.out] at this; exact this
    have hal := (hbl.alloc hNr (.cells #[.string ⟨#[]⟩, .string ⟨#[]⟩, .slice none 0 0] 38))
    have HW1 : Hid (Whole (wr.alloc (.cells #[.string ⟨#[]⟩, .string ⟨#[]⟩, .slice none 0 0] 38)) wr.heap.size 38 #[.string ⟨#[]⟩, .string ⟨#[]⟩, .slice none 0 0]) := Lib.hid (Whole.new _ _ _)
    have HB1 := Lib.hid (And.intro hNr hal)
    have hk0 : (0 : Int) ≤ (k : Int) := by omega
    have hk1 : (k : Int) < (n : Int) := by omega
    have e1 : IntKind.i64.wrap ((k : Int) + 1) = (k : Int) + 1 := IntWalk.i64_in _ (by omega)
    obtain ⟨Aq, lq, cq, rfl⟩ : ∃ A l c, va = .slice A l c := by
     obtain ⟨A, c, e, -⟩ := xr.form
     exact ⟨_, _, _, e⟩
    have HXR := Lib.hid xr
    have hone : (#[.string p.line, .string p.conn, .slice Aq lq cq] : Array Value).toList.all (·.oneCell') = true := rfl
    clear x0 x1 xa gL hp b1 hbl hsame hNr hal xr
    have HWD : Hid (∀ W, Calls Tryz.prog 117 #[.string p.line] W fun e w' => e = .returned (.bool (valP (tx p.line))) ∧ W = w') := Lib.hid fun W => value_any _ W (by have := hzp.1; unfold maxLen; omega)
    have HMB : Hid (∀ W, Calls Tryz.prog 164 #[.string p.conn] W fun e w' => e = .returned (.bool (maybeP (tx p.conn))) ∧ W = w') := Lib.hid fun W => perhaps_any _ W (by have := hzp.2.1; unfold maxLen; omega)
    have HVB : Hid (∀ W, Below N w0 W → Calls Tryz.prog 163 #[.slice Aq lq cq] W fun e w' => e = .returned (.bool (okA p.attrs)) ∧ Below W.heap.size W w') := Lib.hid fun W hW => validAttrs_any _ p.attrs W ((HXR.out.below hW).more (by have := hW.size; rw [HN.out] at this; exact this)) hzp.2.2.1
    have HO : Hid (okP p = (valP (tx p.line) && maybeP (tx p.conn) && okA p.attrs)) := Lib.hid rfl
    generalize valP (tx p.line) = y1 at *
    generalize maybeP (tx p.conn) = y2 at *
    generalize okA p.attrs = y3 at *
    clear hzp
    go_upto_region 8 with ((with_reducible refine wpList_storeS #[.string p.line, .string p.conn, .slice Aq lq cq] ?_ 38 (.tmp 4) (.tmp 37) ?_ ?_ ?_ HW1.out Tryz.sizeSPart ?_ ?_ ?_ ?_); (with_reducible rfl); (with_reducible rfl); rfl; rfl; rfl; rfl; rfl)
    have hr := HW1.out.row #[.string p.line, .string p.conn, .slice Aq lq cq]
    have hb2 := below_row HB1.out.2 HB1.out.1 #[.string p.line, .string p.conn, .slice Aq lq cq]
    generalize (wr.alloc (.cells #[.string ⟨#[]⟩, .string ⟨#[]⟩, .slice none 0 0] 38)).setRow wr.heap.size #[.string p.line, .string p.conn, .slice Aq lq cq] = W2 at *
    generalize wr.heap.size = g at *
    have d0 := hr.cell 0
    have d1 := hr.cell 1
    have d2 := hr.cell 2
    simp only [List.getElem?_toArray, List.getElem?_cons_zero, List.getElem?_cons_succ] at d0 d1 d2
    have HB2 := Lib.hid hb2
    clear hr hb2 HW1 HB1 x0' x1' x2' hone
    cases y1 with
    | false =>
      have HR : Hid (false = okS x) := Lib.hid (by rw [HOK2.out, all_bad HG.out (by rw [HO.out]; rfl)])
      go_wp2_with (go_at_call 117; (with_reducible refine (HWD.out _).mono ?_); rintro e w' ⟨rfl, rfl⟩)
      go_ret
      exact ⟨ret_bool HR.out, HFB.out _ HB2.out⟩
    | true =>
    cases y2 with
    | false =>
      have HR : Hid (false = okS x) := Lib.hid (by rw [HOK2.out, all_bad HG.out (by rw [HO.out]; rfl)])
      go_wp2_with (first | (go_at_call 117; (with_reducible refine (HWD.out _).mono ?_); rintro e w' ⟨rfl, rfl⟩) | (go_at_call 164; (with_reducible refine (HMB.out _).mono ?_); rintro e w' ⟨rfl, rfl⟩))
      go_ret
      exact ⟨ret_bool HR.out, HFB.out _ HB2.out⟩
    | true =>
    have HVC := Lib.hid (HVB.out _ HB2.out)
    cases y3 with
    | false =>
      have HR : Hid (false = okS x) := Lib.hid (by rw [HOK2.out, all_bad HG.out (by rw [HO.out]; rfl)])
      go_wp2_with (first | (go_at_call 117; (with_reducible refine (HWD.out _).mono ?_); rintro e w' ⟨rfl, rfl⟩) | (go_at_call 164; (with_reducible refine (HMB.out _).mono ?_); rintro e w' ⟨rfl, rfl⟩) | (go_at_call 163; (with_reducible refine HVC.out.mono ?_); rintro e w6 ⟨rfl, hb6⟩; have HB3 : Hid (Below N w0 w6) := Lib.hid (HB2.out.trans (hb6.mono (by have := HB2.out.size; rw [HN.out] at this; exact this))); clear hb6))
      go_ret
      exact ⟨ret_bool HR.out, HFB.out _ HB3.out⟩
    | true =>
      have HR : Hid (∀ (j : Nat) (a : PartS), j < k + 1 → x.parts[j]? = some a → okP a = true) := Lib.hid fun j a hj e => by
       by_cases e2 : j = k
       · subst e2
         rw [HG.out] at e
         injection e with e
         subst e
         rw [HO.out]
         rfl
       · exact HS.out.1 j a (by omega) e
      go_wp2_with (first | (go_at_call 117; (with_reducible refine (HWD.out _).mono ?_); rintro e w' ⟨rfl, rfl⟩) | (go_at_call 164; (with_reducible refine (HMB.out _).mono ?_); rintro e w' ⟨rfl, rfl⟩) | (go_at_call 163; (with_reducible refine HVC.out.mono ?_); rintro e w6 ⟨rfl, hb6⟩; have HB3 : Hid (Below N w0 w6) := Lib.hid (HB2.out.trans (hb6.mono (by have := HB2.out.size; rw [HN.out] at this; exact this))); clear hb6))
      go_roundw
      case rel => exact ⟨k + 1, by omega, by go_num, HR.out, HB3.out⟩
      case measure => simp [intOf]; omega
  · obtain rfl : k = n := by omega
    have HR : Hid (true = okS x) := Lib.hid (by rw [HOK2.out, all_yes fun j a e => HS.out.1 j a (by have := (List.getElem?_eq_some_iff.1 e).1; rw [HNN.out] at this; exact this) e])
    clear hsame hbl
    go_wp2
    go_ret
    exact ⟨ret_bool HR.out, HFB.out _ HS.out.2⟩
inductive Cuts : Tx → List Tx → Tx → Prop
 | nil {l : Tx} (h : (cutS crlf l).2.2 = false) : Cuts l [] l
 | cons {l a b : Tx} {ls : List Tx} {rem : Tx} (h : cutS crlf l = (a, b, true)) (hr : Cuts b ls rem) : Cuts l (a :: ls) rem
theorem Cuts.len {l : Tx} {ls : List Tx} {rem : Tx} (h : Cuts l ls rem) : 2 * ls.length + rem.length ≤ l.length := by
 induction h with
 | nil => simp
 | @cons l a b ls rem h hr ih =>
   have h1 := cutS_some crlf l (by rw [h])
   rw [h] at h1
   have := congrArg List.length h1
   simp at this
   simp
   omega
def NoEnd (l : Tx) (i : Nat) : Prop := ∀ j, j < i → (l.drop j).take 2 ≠ crlf
theorem cutS_at {l : Tx} {i : Nat} (h : NoEnd l i) (hi : (l.drop i).take 2 = crlf) : cutS crlf l = (l.take i, l.drop (i + 2), true) := by
 induction l generalizing i with
 | nil => simp at hi
 | cons c r ih =>
   cases i with
   | zero =>
     have hp : crlf.isPrefixOf (c :: r) = true := by
      rw [List.isPrefixOf_iff_prefix, List.prefix_iff_eq_take]
      exact hi.symm
     unfold cutS
     rw [if_pos hp]
     rfl
   | succ i =>
     have h0 := h 0 (by omega)
     have hp : ¬ crlf.isPrefixOf (c :: r) = true := fun e => h0 (by
      rw [List.isPrefixOf_iff_prefix, List.prefix_iff_eq_take] at e
      exact e.symm)
     have := ih (i := i) (fun j hj => h (j + 1) (by omega)) (by simpa using hi)
     unfold cutS
     rw [if_neg hp, this]
     simp [Nat.add_right_comm]
theorem cutS_not {l : Tx} {i : Nat} (h : NoEnd l i) (hi : l.length ≤ i + 1) : (cutS crlf l).2.2 = false := by
 induction l generalizing i with
 | nil => rfl
 | cons c r ih =>
   cases i with
   | zero =>
     have : r = [] := by simpa using hi
     subst this
     unfold cutS
     rw [if_neg (by intro e; simp [List.isPrefixOf] at e)]
     rfl
   | succ i =>
     have h0 := h 0 (by omega)
     have hp : ¬ crlf.isPrefixOf (c :: r) = true := fun e => h0 (by
      rw [List.isPrefixOf_iff_prefix, List.prefix_iff_eq_take] at e
      exact e.symm)
     have := ih (i := i) (fun j hj => h (j + 1) (by omega)) (by simp at hi; omega)
     unfold cutS
     rw [if_neg hp]
     exact this
def scell (s : ByteArray) : List Value := [.string s]
def strLenR : Value → Nat
 | .string s => s.size
 | _ => 0
structure LK (w : World) (N : Nat) (l : Tx) (rest : ByteArray) (v : Value) (ss : List ByteArray) (wr : World) : Prop where
 row : Own wr N 9 1 v (ss.map scell)
 most : 2 * ss.length + rest.size ≤ l.length
 cuts : ∀ ls rem, Cuts (tx rest) ls rem → Cuts l (ss.map tx ++ ls) rem
 below : Below N w wr
theorem LK.next {w : World} {N : Nat} {l : Tx} {rest : ByteArray} {v v6 : Value} {ss : List ByteArray} {wo w6 : World} (h : LK w N l rest v ss wo) {k : Nat} (hk : k + 1 < rest.size) (hno : NoEnd (tx rest) k) (hq : ((tx rest).drop k).take 2 = crlf)
 (ho : Own w6 N 9 1 v6 (ss.map scell ++ [[.string (rest.extract 0 k)]])) (hg : (wo.alloc (.cells #[.string (rest.extract 0 k)] 9)).grownBy w6 v.ownBlock) (hN : N ≤ wo.heap.size) :
 LK w N l (rest.extract (k + 2) rest.size) v6 (ss ++ [rest.extract 0 k]) w6 := by
 have hx : tx (rest.extract 0 k) = (tx rest).take k := by rw [tx_extract]; simp
 have hr : tx (rest.extract (k + 2) rest.size) = (tx rest).drop (k + 2) := by
  rw [tx_extract, List.take_of_length_le]
  rw [List.length_drop, tx_length]
  omega
 refine ⟨by simpa [scell] using ho, ?_, fun ls rem hc => ?_, (h.below.alloc hN _).grown hg (by rw [World.size_alloc]; omega) (fun j hj => (h.row.lt hj).1)⟩
 · have := h.most
   have hl := congrArg List.length hr
   rw [tx_length, List.length_drop, tx_length] at hl
   rw [List.length_append, hl]
   simp
   omega
 · have := h.cuts (tx (rest.extract 0 k) :: ls) rem (.cons (by rw [hx]; exact cutS_at hno hq) (by rw [← hr]; exact hc))
   simpa using this
def LinesO (w : World) (l : Tx) (e : Ending) (w' : World) : Prop := ∃ (v : Value) (ss : List ByteArray) (rem : Tx) (b : Bool), e = .returned (.tuple #[v, .bool b]) ∧ Own w' w.heap.size 9 1 v (ss.map scell) ∧ Cuts l (ss.map tx) rem ∧ (b = true ↔ rem ≠ []) ∧ Below w.heap.size w w'
set_option maxHeartbeats 3200000 in
set_option maxRecDepth 100000 in
theorem lines_any (s : ByteArray) (w : World) (hs : s.size ≤ 8192) : Calls Tryz.prog 112 #[.string s] w (LinesO w (tx s)) := by
 obtain ⟨N, hN⟩ : ∃ N, w.heap.size = N := ⟨_, rfl⟩
 have HN := Lib.hid hN
 have H0 : Hid (LK w N (tx s) s (.slice none 0 0) [] w) := Lib.hid ⟨Own.nil _ _ _ _, by rw [tx_length]; simp, fun ls rem h => by simpa using h, Below.refl _ w⟩
 have HS := Lib.hid hs
 clear hN
 go_enter Tryz.func112, Tryz.ntmps112
 go_wp2
 go_loopw [0, 4] (fun s0 s4 wr => ∃ (rest : ByteArray) (ss : List ByteArray), s0 = .string rest ∧ LK w N (tx s) rest s4 ss wr) (fun s0 _ _ => strLenR s0)
 case atStart => exact ⟨s, [], rfl, H0.out⟩
 case round =>
  clear H0
  obtain ⟨rest, ss, rfl, hlk⟩ := hrel
  obtain ⟨Av, lv, cv, hvv⟩ : ∃ A l c, u4 = .slice A l c := by
   obtain ⟨A, c, h, -⟩ := hlk.row.form
   exact ⟨_, _, _, h⟩
  subst hvv
  have HL := Lib.hid hlk
  have hsz : rest.size ≤ 8192 := by have := hlk.most; rw [tx_length] at this; omega
  clear hlk
  obtain ⟨wo, rfl⟩ : ∃ wo : World, wo = wr := ⟨_, rfl⟩
  go_wp2
  go_loop [5] (fun i => ∃ k : Nat, k ≤ rest.size ∧ i = .int .i64 k ∧ NoEnd (tx rest) k) (fun i => rest.size - (intOf i).toNat)
  case atStart => exact ⟨0, Nat.zero_le _, rfl, fun j hj => by omega⟩
  case round =>
   obtain ⟨k, hk, rfl, hno⟩ := hrel
   have HNO := Lib.hid hno
   clear hno
   by_cases hlt : k + 1 < rest.size
   · have hlt' : (k : Int) + 1 < (rest.size : Int) := by omega
     have e1 : IntKind.i64.wrap ((k : Int) + 1) = (k : Int) + 1 := IntWalk.i64_in _ (by omega)
     have HX : Hid (tx (rest.extract k (k + 2)) = ((tx rest).drop k).take 2) := Lib.hid (by rw [tx_extract]; congr 1; omega)
     obtain ⟨bq, hbq⟩ : ∃ b, ((rest.extract k (k + 2)).toList == [13, 10]) = b := ⟨_, rfl⟩
     have HQ : Hid (((tx rest).drop k).take 2 = crlf ↔ bq = true) := Lib.hid (by rw [← hbq, toList_tx, HX.out, beq_iff_eq])
     cases bq with
     | false =>
       go_wp2
       go_round
       case rel =>
        refine ⟨k + 1, by omega, by go_num, fun j hj => ?_⟩
        by_cases e : j = k
        · subst e
          intro he
          have := HQ.out.1 he
          cases this
        · exact HNO.out j (by omega)
       case measure => simp [intOf]; omega
     | true =>
       have hNo : N ≤ wo.heap.size := by have := HL.out.below.size; rw [HN.out] at this; exact this
       have HNO2 : Hid (N ≤ wo.heap.size) := Lib.hid hNo
       have HA : Hid (Own (wo.alloc (.cells #[.string (rest.extract 0 k)] 9)) N 9 1 (.slice Av lv cv) (ss.map scell) ∧ Whole (wo.alloc (.cells #[.string (rest.extract 0 k)] 9)) wo.heap.size 9 #[.string (rest.extract 0 k)]) := Lib.hid ⟨HL.out.row.alloc _, Whole.new _ _ _⟩
       have HLN : Hid ((ss.map scell).length ≤ 8192) := Lib.hid (by have := HL.out.most; rw [tx_length] at this; rw [List.length_map]; have := HS.out; omega)
       have HLT := Lib.hid hlt
       have HSL : Hid (rest.size - (k + 2) < rest.size) := Lib.hid (by omega)
       have HRZ : Hid ((rest.extract (k + 2) rest.size).size = rest.size - (k + 2)) := Lib.hid (by simp)
       clear hNo hlt
       go_wp2_with (at_builtin; refine wpList_appendE (r := [.string (rest.extract 0 k)]) rfl (.tmp 29) (.tmp 33) rfl Tryz.underlying24 Tryz.infoStr rfl (Nat.zero_lt_succ _) rfl HA.out.1 rfl HA.out.2 rfl (fun u hu => by simp at hu; subst hu; rfl) (by have := HLN.out; omega) (by have := HLN.out; omega) (by rw [World.size_alloc]; have := HNO2.out; omega) ?_; intro v6 w6 ho6 hg6 hn6; have HNX := Lib.hid (HL.out.next HLT.out HNO.out (HQ.out.2 rfl) ho6 hg6 HNO2.out); clear ho6 hg6 hn6)
       go_roundw
       case rel => exact ⟨_, _, rfl, HNX.out⟩
       case measure => have := HSL.out; have := HRZ.out; simp only [strLenR]; omega
   · have hle : (rest.size : Int) ≤ (k : Int) + 1 := by omega
     have e1 : IntKind.i64.wrap ((k : Int) + 1) = (k : Int) + 1 := IntWalk.i64_in _ (by omega)
     have HF := Lib.hid (cutS_not HNO.out (by rw [tx_length]; omega))
     have HB : Hid ((!rest.toList.isEmpty) = true ↔ tx rest ≠ []) := Lib.hid (by rw [toList_tx]; cases tx rest <;> simp)
     have HC : Hid (Cuts (tx s) (ss.map tx) (tx rest)) := Lib.hid (by have := HL.out.cuts [] _ (.nil HF.out); simpa using this)
     go_wp2
     (try rw [Exit.noGoto_ret])
     go_ret2
     exact ⟨_, ss, tx rest, _, rfl, by rw [HN.out]; exact HL.out.row, HC.out, HB.out, by rw [HN.out]; exact HL.out.below⟩
set_option maxHeartbeats 3200000 in
set_option maxRecDepth 100000 in
theorem addAttrs_any (N : Nat) (v0 va : Value) (ss : List ByteArray) (L : List AttrS) (w : World) (hN : N ≤ w.heap.size) (h0 : Own w N 9 1 v0 (ss.map scell)) (h : AttrsV w N va L) (hz : SizA L) (hl : L.length ≤ 64) (hs : ss.length ≤ 1000) :
 Calls Tryz.prog 165 #[v0, va] w fun e w' => ∃ (v : Value) (l : List ByteArray), e = .returned v ∧ Own w' N 9 1 v ((ss ++ l).map scell) ∧ l.map tx = linesA L ∧ Below N w w' := by
 obtain ⟨A, c, rfl, hc, hm, -⟩ := h.form
 have H := Lib.hid h
 have HZ := Lib.hid hz
 have H0 := Lib.hid h0
 have HW0 := Lib.hid hN
 obtain ⟨n, hn⟩ : ∃ n, L.length = n := ⟨_, rfl⟩
 have HNN := Lib.hid hn
 rw [hn] at hc hl ⊢
 clear h hn hz h0 hN
 unfold maxLen at hm
 go_enter Tryz.func165, Tryz.ntmps165
 go_wp2
 go_loopw [0, 10] (fun s0 s10 wr => ∃ (k : Nat) (lk : List ByteArray), k ≤ n ∧ s10 = .int .i64 k ∧ Own wr N 9 1 s0 ((ss ++ lk).map scell) ∧ lk.map tx = linesA (L.take k) ∧ lk.length = k ∧ Below N w wr) (fun _ s10 _ => n - (intOf s10).toNat)
 case atStart => exact ⟨0, [], Nat.zero_le _, rfl, by rw [List.append_nil]; exact H0.out, rfl, rfl, Below.refl _ w⟩
 case round =>
  obtain ⟨k, lk, hk, rfl, hown, hlt, hlk, hb⟩ := hrel
  have HS := Lib.hid (And.intro hown (And.intro hlt hb))
  have HLK := Lib.hid hlk
  have HLL : Hid (((ss ++ lk).map scell).length = ss.length + k) := Lib.hid (by rw [List.length_map, List.length_append, hlk])
  clear hown hlt hlk
  by_cases hlt : k < n
  · obtain ⟨ad, c', e1, b1, x0, x1⟩ := H.out.at_ (i := k) (by rw [HNN.out]; exact hlt)
    injection e1 with e1 e1n e1c
    clear e1n e1c
    subst e1
    have gL := getD_of (L := L) (i := k) (by rw [HNN.out]; exact hlt)
    obtain ⟨a, ha⟩ : ∃ a, L.getD k default = a := ⟨_, rfl⟩
    rw [ha] at x0 x1 gL
    have x0' := (hb.cell (p := ad.add (k * 2)) (by rw [add_block]; exact b1)).trans x0
    have x1' := (hb.cell (p := ⟨(ad.add (k * 2)).block, (ad.add (k * 2)).off + 1, none⟩) (by show (ad.add (k * 2)).block < _; rw [add_block]; exact b1)).trans x1
    have HG := Lib.hid gL
    have hza := HZ.out k a gL
    have hNr : N ≤ wr.heap.size := Nat.le_trans HW0.out hb.size
    have hal := (hb.alloc hNr (.cells #[.string ⟨#[]⟩, .string ⟨#[]⟩] 53))
    have hw1 : Whole (wr.alloc (.cells #[.string ⟨#[]⟩, .string ⟨#[]⟩] 53)) wr.heap.size 53 #[.string ⟨#[]⟩, .string ⟨#[]⟩] := Whole.new _ _ _
    have HW1 := Lib.hid hw1
    have HO1 := Lib.hid ((HS.out.1.alloc (.cells #[.string ⟨#[]⟩, .string ⟨#[]⟩] 53)).farRow ((HS.out.1.alloc _).apart hw1 (by decide)) #[.string a.name, .string a.value])
    have HB1 := Lib.hid (And.intro hNr hal)
    have hk0 : (0 : Int) ≤ (k : Int) := by omega
    have hk1 : (k : Int) < (n : Int) := by omega
    have e1 : IntKind.i64.wrap ((k : Int) + 1) = (k : Int) + 1 := IntWalk.i64_in _ (by omega)
    clear x0 x1 gL ha b1 hb hNr hal hw1
    obtain ⟨nm, vl⟩ := a
    simp only at x0' x1' hza HO1
    go_upto_region 4 with ((with_reducible refine wpList_storeS #[.string nm, .string vl] ?_ 53 (.tmp 6) (.tmp 13) ?_ ?_ ?_ HW1.out Tryz.sizeSAttr ?_ ?_ ?_ ?_); (with_reducible rfl); (with_reducible rfl); rfl; rfl; rfl; rfl; rfl)
    have hr := HW1.out.row #[.string nm, .string vl]
    have hb2 := below_row HB1.out.2 HB1.out.1 #[.string nm, .string vl]
    have hns : N ≤ ((wr.alloc (.cells #[.string ⟨#[]⟩, .string ⟨#[]⟩] 53)).setRow wr.heap.size #[.string nm, .string vl]).heap.size := Nat.le_trans HW0.out hb2.size
    have ho1 := HO1.out
    generalize (wr.alloc (.cells #[.string ⟨#[]⟩, .string ⟨#[]⟩] 53)).setRow wr.heap.size #[.string nm, .string vl] = W2 at *
    generalize wr.heap.size = g at *
    have c0 := hr.cell 0
    have c1 := hr.cell 1
    simp only [List.getElem?_toArray, List.getElem?_cons_zero, List.getElem?_cons_succ] at c0 c1
    have HB2 := Lib.hid (And.intro ho1 (And.intro hb2 hns))
    clear hr hb2 HW1 HB1 x0' x1' ho1 hns HO1
    have hz1 : ¬ (9223372036854775807 < 2 + nm.size) := by omega
    have hz2 : ¬ (9223372036854775807 < 1 + vl.size) := by omega
    have hz3 : ¬ (9223372036854775807 < 2 + nm.size + (1 + vl.size)) := by omega
    clear hza
    cases hq : vl.toList.isEmpty with
    | true =>
      have HLN : Hid (tx (⟨#[97, 61]⟩ ++ nm) = lineA ⟨nm, vl⟩) := Lib.hid (by
       rw [toList_tx] at hq
       unfold lineA valTail
       rw [if_pos hq, tx_append, List.append_nil]
       rfl)
      have HNX : Hid ((lk ++ [⟨#[97, 61]⟩ ++ nm]).map tx = linesA (L.take (k + 1))) := Lib.hid (by
       rw [List.map_append, HS.out.2.1, List.take_add_one, HG.out, linesA_append]
       congr 1
       show [tx (⟨#[97, 61]⟩ ++ nm)] = [lineA ⟨nm, vl⟩]
       rw [HLN.out])
      have HA : Hid (Own (W2.alloc (.cells #[.string (⟨#[97, 61]⟩ ++ nm)] 9)) N 9 1 u0 ((ss ++ lk).map scell) ∧ Whole (W2.alloc (.cells #[.string (⟨#[97, 61]⟩ ++ nm)] 9)) W2.heap.size 9 #[.string (⟨#[97, 61]⟩ ++ nm)] ∧ Below N w (W2.alloc (.cells #[.string (⟨#[97, 61]⟩ ++ nm)] 9)) ∧ N ≤ (W2.alloc (.cells #[.string (⟨#[97, 61]⟩ ++ nm)] 9)).heap.size) := Lib.hid ⟨HB2.out.1.alloc _, Whole.new _ _ _, HB2.out.2.1.alloc HB2.out.2.2 _, by rw [World.size_alloc]; have := HB2.out.2.2; omega⟩
      go_wp2_with (at_builtin; refine wpList_appendE (r := [.string (⟨#[97, 61]⟩ ++ nm)]) rfl (.tmp 25) (.tmp 27) rfl Tryz.underlying24 Tryz.infoStr rfl (Nat.zero_lt_succ _) rfl HA.out.1 rfl HA.out.2.1 rfl (fun u hu => by simp at hu; subst hu; rfl) (by rw [HLL.out]; omega) (by rw [HLL.out]; omega) HA.out.2.2.2 ?_; intro v6 w6 ho6 hg6 hn6; have HFIN : Hid (Own w6 N 9 1 v6 ((ss ++ (lk ++ [⟨#[97, 61]⟩ ++ nm])).map scell) ∧ Below N w w6) := Lib.hid ⟨by simpa [scell] using ho6, HA.out.2.2.1.grown hg6 HA.out.2.2.2 (fun j hj => (HA.out.1.lt hj).1)⟩; clear ho6 hg6 hn6)
      go_roundw
      case rel => exact ⟨k + 1, _, by omega, by go_num, HFIN.out.1, HNX.out, by rw [List.length_append, HLK.out]; rfl, HFIN.out.2⟩
      case measure => simp [intOf]; omega
    | false =>
      have HLN : Hid (tx (⟨#[97, 61]⟩ ++ nm ++ (⟨#[58]⟩ ++ vl)) = lineA ⟨nm, vl⟩) := Lib.hid (by
       rw [toList_tx] at hq
       unfold lineA valTail
       rw [if_neg (by rw [hq]; decide), tx_append, tx_append, tx_append]
       rfl)
      have HNX : Hid ((lk ++ [⟨#[97, 61]⟩ ++ nm ++ (⟨#[58]⟩ ++ vl)]).map tx = linesA (L.take (k + 1))) := Lib.hid (by
       rw [List.map_append, HS.out.2.1, List.take_add_one, HG.out, linesA_append]
       congr 1
       show [tx (⟨#[97, 61]⟩ ++ nm ++ (⟨#[58]⟩ ++ vl))] = [lineA ⟨nm, vl⟩]
       rw [HLN.out])
      have HA : Hid (Own (W2.alloc (.cells #[.string (⟨#[97, 61]⟩ ++ nm ++ (⟨#[58]⟩ ++ vl))] 9)) N 9 1 u0 ((ss ++ lk).map scell) ∧ Whole (W2.alloc (.cells #[.string (⟨#[97, 61]⟩ ++ nm ++ (⟨#[58]⟩ ++ vl))] 9)) W2.heap.size 9 #[.string (⟨#[97, 61]⟩ ++ nm ++ (⟨#[58]⟩ ++ vl))] ∧ Below N w (W2.alloc (.cells #[.string (⟨#[97, 61]⟩ ++ nm ++ (⟨#[58]⟩ ++ vl))] 9)) ∧ N ≤ (W2.alloc (.cells #[.string (⟨#[97, 61]⟩ ++ nm ++ (⟨#[58]⟩ ++ vl))] 9)).heap.size) := Lib.hid ⟨HB2.out.1.alloc _, Whole.new _ _ _, HB2.out.2.1.alloc HB2.out.2.2 _, by rw [World.size_alloc]; have := HB2.out.2.2; omega⟩
      go_wp2_with (at_builtin; refine wpList_appendE (r := [.string (⟨#[97, 61]⟩ ++ nm ++ (⟨#[58]⟩ ++ vl))]) rfl (.tmp 25) (.tmp 27) rfl Tryz.underlying24 Tryz.infoStr rfl (Nat.zero_lt_succ _) rfl HA.out.1 rfl HA.out.2.1 rfl (fun u hu => by simp at hu; subst hu; rfl) (by rw [HLL.out]; omega) (by rw [HLL.out]; omega) HA.out.2.2.2 ?_; intro v6 w6 ho6 hg6 hn6; have HFIN : Hid (Own w6 N 9 1 v6 ((ss ++ (lk ++ [⟨#[97, 61]⟩ ++ nm ++ (⟨#[58]⟩ ++ vl)])).map scell) ∧ Below N w w6) := Lib.hid ⟨by simpa [scell] using ho6, HA.out.2.2.1.grown hg6 HA.out.2.2.2 (fun j hj => (HA.out.1.lt hj).1)⟩; clear ho6 hg6 hn6)
      go_roundw
      case rel => exact ⟨k + 1, _, by omega, by go_num, HFIN.out.1, HNX.out, by rw [List.length_append, HLK.out]; rfl, HFIN.out.2⟩
      case measure => simp [intOf]; omega
  · obtain rfl : k = n := by omega
    have HF : Hid (lk.map tx = linesA L) := Lib.hid (by rw [HS.out.2.1, List.take_of_length_le (by rw [HNN.out]; exact Nat.le_refl _)])
    clear hb
    go_wp2
    go_ret
    exact ⟨_, lk, rfl, HS.out.1, HF.out, HS.out.2.2⟩
theorem val_size {s : ByteArray} (h : valP (tx s) = true) : s.size ≤ 200 := by have := (valP_len h).2; rwa [tx_length] at this
theorem maybe_size {s : ByteArray} (h : maybeP (tx s) = true) : s.size ≤ 200 := by
 unfold maybeP at h
 rw [Bool.or_eq_true, List.isEmpty_iff] at h
 rcases h with h | h
 · rw [← tx_length, h]; simp
 · exact val_size h
theorem okA_at {L : List AttrS} (h : okA L = true) {a : AttrS} (ha : a ∈ L) : okAt a = true := by
 unfold okA at h
 simp only [Bool.and_eq_true, decide_eq_true_eq, List.all_eq_true] at h
 exact h.2 a ha
theorem okAt_sizes {a : AttrS} (h : okAt a = true) : a.name.size ≤ 32 ∧ a.value.size ≤ 200 := by
 unfold okAt at h
 rw [Bool.and_eq_true] at h
 exact ⟨by have := (wordP_len h.1).2; rwa [tx_length] at this, maybe_size h.2⟩
theorem okA_siz {L : List AttrS} (h : okA L = true) : SizA L := fun i a e => by
 have := okAt_sizes (okA_at h (List.mem_of_getElem? e))
 omega
theorem okS_siz {x : SesS} (h : okS x = true) : SizS x := by
 obtain ⟨h1, h2, h3, h4, h5, h6⟩ := okS_parts h
 refine ⟨⟨by have := val_size h1; omega, by have := val_size h2; omega, by have := val_size h3; omega⟩, okA_siz h4, fun i p e => ?_⟩
 obtain ⟨q1, q2, q3⟩ := okP_parts (h6 p (List.mem_of_getElem? e))
 refine ⟨by have := val_size q1; omega, by have := maybe_size q2; omega, okA_siz q3, by have := okA_len q3; omega⟩
theorem own_four {w : World} {g N : Nat} {a b c d : ByteArray} (h : Whole w g 9 #[.string a, .string b, .string c, .string d]) (hg : N ≤ g) : Own w N 9 1 (.slice (some ⟨g, 0, none⟩) 4 4) ([a, b, c, d].map scell) :=
 ⟨⟨rfl, .inr ⟨g, 4, _, rfl, hg, h, Nat.le_refl _, by unfold maxLen; omega, rfl, rfl⟩⟩, fun r hr => by
   simp [scell] at hr
   rcases hr with rfl | rfl | rfl | rfl <;> rfl⟩
set_option maxHeartbeats 3200000 in
set_option maxRecDepth 100000 in
theorem plines_any (X : Array Value) (x : SesS) (a1 p1 : Value) (w : World) (h : SesV w w.heap.size X x a1 p1) (hok : okS x = true) :
 Calls Tryz.prog 109 #[.agg X] w fun e w' => ∃ (v : Value) (ls : List ByteArray), e = .returned v ∧ Own w' w.heap.size 9 1 v (ls.map scell) ∧ ls.map tx = linesS x ∧ Below w.heap.size w w' := by
 obtain ⟨e1, va1, vp1⟩ := h
 subst e1
 obtain ⟨A, k1, rfl, -⟩ := va1.form
 obtain ⟨P, j1, rfl, hj1, hm1, -⟩ := vp1.form
 obtain ⟨n1, hn1⟩ : ∃ n, x.attrs.length = n := ⟨_, rfl⟩
 obtain ⟨n, hn⟩ : ∃ n, x.parts.length = n := ⟨_, rfl⟩
 rw [hn1] at va1
 rw [hn] at vp1 hj1
 rw [hn1, hn]
 unfold maxLen at hm1
 have hb : Below w.heap.size w (w.alloc (.cells #[.string x.origin, .string x.name, .string x.time, .slice A n1 k1, .slice P n j1] 113)) := (Below.refl _ w).alloc (Nat.le_refl _) _
 have g1 := Whole.new w 113 #[.string x.origin, .string x.name, .string x.time, .slice A n1 k1, .slice P n j1]
 have va := (va1.below hb).more hb.size
 have vp := (vp1.below hb).more hb.size
 have HNN := Lib.hid hn
 have HN1 := Lib.hid hn1
 have HOK := Lib.hid (okS_parts hok)
 have hz := okS_siz hok
 have HZ := Lib.hid hz
 have hn8 : n ≤ 8 := by rw [← hn]; exact HOK.out.2.2.2.2.1
 have hq1 : ¬ (9223372036854775807 < 2 + x.origin.size) := by have := hz.1.1; omega
 have hq2 : ¬ (9223372036854775807 < 2 + x.name.size) := by have := hz.1.2.1; omega
 have hq3 : ¬ (9223372036854775807 < 2 + x.time.size) := by have := hz.1.2.2; omega
 clear hn1 hn va1 vp1 hz hok
 obtain ⟨B, hB⟩ : ∃ B, w.heap.size = B := ⟨_, rfl⟩
 have HBE := Lib.hid hB
 go_enter Tryz.func109, Tryz.ntmps109
 go_upto_region 1 with fail
 rw [hB] at g1
 generalize hw0 : w.alloc (.cells #[.string x.origin, .string x.name, .string x.time, .slice A n1 k1, .slice P n j1] 113) = w0 at *
 try rw [hB]
 have HB0 := Lib.hid hb
 clear hw0 hB
 obtain ⟨N, hN⟩ : ∃ N, w0.heap.size = N := ⟨_, rfl⟩
 have HN := Lib.hid hN
 rw [hN] at va vp
 have hBN : B < N := by rw [← hN]; exact g1.lt
 have HBN := Lib.hid hBN
 have c0 := g1.cell 0
 have c1 := g1.cell 1
 have c2 := g1.cell 2
 simp only [List.getElem?_toArray, List.getElem?_cons_zero, List.getElem?_cons_succ] at c0 c1 c2
 have HA1 : Hid (Own (w0.alloc (.cells #[.string ⟨#[118, 61, 48]⟩, .string (⟨#[111, 61]⟩ ++ x.origin), .string (⟨#[115, 61]⟩ ++ x.name), .string (⟨#[116, 61]⟩ ++ x.time)] 9)) N 9 1 (.slice (some ⟨N, 0, none⟩) 4 4) ([⟨#[118, 61, 48]⟩, ⟨#[111, 61]⟩ ++ x.origin, ⟨#[115, 61]⟩ ++ x.name, ⟨#[116, 61]⟩ ++ x.time].map scell) ∧ Below N w0 (w0.alloc (.cells #[.string ⟨#[118, 61, 48]⟩, .string (⟨#[111, 61]⟩ ++ x.origin), .string (⟨#[115, 61]⟩ ++ x.name), .string (⟨#[116, 61]⟩ ++ x.time)] 9)) ∧ (w0.alloc (.cells #[.string ⟨#[118, 61, 48]⟩, .string (⟨#[111, 61]⟩ ++ x.origin), .string (⟨#[115, 61]⟩ ++ x.name), .string (⟨#[116, 61]⟩ ++ x.time)] 9)).cell? ⟨B, 3, none⟩ = some (.slice A n1 k1) ∧ (w0.alloc (.cells #[.string ⟨#[118, 61, 48]⟩, .string (⟨#[111, 61]⟩ ++ x.origin), .string (⟨#[115, 61]⟩ ++ x.name), .string (⟨#[116, 61]⟩ ++ x.time)] 9)).cell? ⟨B, 4, none⟩ = some (.slice P n j1)) := Lib.hid (by
  have hw := Whole.new w0 9 #[.string ⟨#[118, 61, 48]⟩, .string (⟨#[111, 61]⟩ ++ x.origin), .string (⟨#[115, 61]⟩ ++ x.name), .string (⟨#[116, 61]⟩ ++ x.time)]
  rw [hN] at hw
  have hg := g1.alloc (.cells #[.string ⟨#[118, 61, 48]⟩, .string (⟨#[111, 61]⟩ ++ x.origin), .string (⟨#[115, 61]⟩ ++ x.name), .string (⟨#[116, 61]⟩ ++ x.time)] 9)
  exact ⟨own_four hw (Nat.le_refl _), (Below.refl _ _).alloc (by rw [hN]; exact Nat.le_refl _) _, hg.cell 3, hg.cell 4⟩)
 have HV := Lib.hid (And.intro va vp)
 have HG1 := Lib.hid g1
 go_upto_region 2 with fail
 try rw [hN]
 have c3 := HA1.out.2.2.1
 have c4 := HA1.out.2.2.2
 generalize (w0.alloc (.cells #[.string ⟨#[118, 61, 48]⟩, .string (⟨#[111, 61]⟩ ++ x.origin), .string (⟨#[115, 61]⟩ ++ x.name), .string (⟨#[116, 61]⟩ ++ x.time)] 9)) = w1 at *
 clear hN va vp hBN hb g1 c0 c1 c2 hq1 hq2 hq3
 have HC2 : Hid (Calls Tryz.prog 165 #[.slice (some ⟨N, 0, none⟩) 4 4, .slice A n1 k1] w1 fun e w' => ∃ (v : Value) (l : List ByteArray), e = .returned v ∧ Own w' N 9 1 v (([⟨#[118, 61, 48]⟩, ⟨#[111, 61]⟩ ++ x.origin, ⟨#[115, 61]⟩ ++ x.name, ⟨#[116, 61]⟩ ++ x.time] ++ l).map scell) ∧ l.map tx = linesA x.attrs ∧ Below N w1 w') := Lib.hid
  (addAttrs_any N _ _ _ x.attrs w1 (by have := HA1.out.2.1.size; rw [HN.out] at this; exact this) HA1.out.1 (HV.out.1.below HA1.out.2.1) HZ.out.2.1 (okA_len HOK.out.2.2.2.1) (by simp))
 go_wp2_with (go_at_call 165; (with_reducible refine HC2.out.mono ?_); rintro e w2 ⟨v2, l2, rfl, ho2, hl2, hb2⟩; have c4' := (hb2.cell (p := ⟨B, 4, none⟩) HBN.out).trans c4; have H2 : Hid (Own w2 N 9 1 v2 (([⟨#[118, 61, 48]⟩, ⟨#[111, 61]⟩ ++ x.origin, ⟨#[115, 61]⟩ ++ x.name, ⟨#[116, 61]⟩ ++ x.time] ++ l2).map scell) ∧ l2.map tx = linesA x.attrs ∧ Below N w0 w2) := Lib.hid ⟨ho2, hl2, HA1.out.2.1.trans hb2⟩; clear ho2 hl2 hb2)
 clear c4' c3 c4
 have HHD : Hid (([⟨#[118, 61, 48]⟩, ⟨#[111, 61]⟩ ++ x.origin, ⟨#[115, 61]⟩ ++ x.name, ⟨#[116, 61]⟩ ++ x.time] ++ l2).map tx = headL x.origin x.name x.time ++ linesA x.attrs ∧ ([⟨#[118, 61, 48]⟩, ⟨#[111, 61]⟩ ++ x.origin, ⟨#[115, 61]⟩ ++ x.name, ⟨#[116, 61]⟩ ++ x.time] ++ l2 : List ByteArray).length ≤ 4 + 64) := Lib.hid (by
  constructor
  · rw [List.map_append, H2.out.2.1]
    simp only [List.map_cons, List.map_nil, tx_append]
    rfl
  · have h1 := congrArg List.length H2.out.2.1
    rw [List.length_map] at h1
    simp only [linesA, List.length_map] at h1
    have := okA_len HOK.out.2.2.2.1
    simp
    omega)
 generalize hg0 : ([⟨#[118, 61, 48]⟩, ⟨#[111, 61]⟩ ++ x.origin, ⟨#[115, 61]⟩ ++ x.name, ⟨#[116, 61]⟩ ++ x.time] ++ l2 : List ByteArray) = l3 at *
 clear hg0
 go_loopw [3, 23] (fun s3 s23 wr => ∃ (k : Nat) (lk : List ByteArray), k ≤ n ∧ s23 = .int .i64 k ∧ Own wr N 9 1 s3 (lk.map scell) ∧ lk.map tx = headL x.origin x.name x.time ++ (linesA x.attrs ++ (x.parts.take k).flatMap linesP) ∧ lk.length ≤ 4 + 64 + k * 66 ∧ Below N w0 wr) (fun _ s23 _ => n - (intOf s23).toNat)
 case atStart => exact ⟨0, l3, Nat.zero_le _, rfl, H2.out.1, by rw [HHD.out.1]; simp, HHD.out.2, H2.out.2.2⟩
 case round =>
  obtain ⟨k, lk, hk, rfl, hown, hlt, hlk, hbl⟩ := hrel
  have HS := Lib.hid (And.intro hown (And.intro hlt hbl))
  have HLK := Lib.hid hlk
  clear hown hlt hlk
  by_cases hlt : k < n
  · obtain ⟨ad, c1', va, e1, b1, x0, x1, xa, xr⟩ := HV.out.2.at_ (i := k) (by rw [HNN.out]; exact hlt)
    injection e1 with e1 e1n e1c
    clear e1n e1c
    subst e1
    have gL := getD_of (L := x.parts) (i := k) (by rw [HNN.out]; exact hlt)
    obtain ⟨p, hp⟩ : ∃ p, x.parts.getD k default = p := ⟨_, rfl⟩
    rw [hp] at x0 x1 xr gL
    have x0' := (hbl.cell (p := ad.add (k * 3)) (by rw [add_block]; exact b1)).trans x0
    have x1' := (hbl.cell (p := ⟨(ad.add (k * 3)).block, (ad.add (k * 3)).off + 1, none⟩) (by show (ad.add (k * 3)).block < _; rw [add_block]; exact b1)).trans x1
    have x2' := (hbl.cell (p := ⟨(ad.add (k * 3)).block, (ad.add (k * 3)).off + 2, none⟩) (by show (ad.add (k * 3)).block < _; rw [add_block]; exact b1)).trans xa
    have HG := Lib.hid gL
    have hzp := HZ.out.2.2 k p gL
    have HPL : Hid (p.attrs.length ≤ 64) := Lib.hid (okA_len (okP_parts (HOK.out.2.2.2.2.2 p (List.mem_of_getElem? gL))).2.2)
    have hNr : N ≤ wr.heap.size := by have := hbl.size; rw [HN.out] at this; exact this
    have hal := (hbl.alloc hNr (.cells #[.string ⟨#[]⟩, .string ⟨#[]⟩, .slice none 0 0] 38))
    have hw1 : Whole (wr.alloc (.cells #[.string ⟨#[]⟩, .string ⟨#[]⟩, .slice none 0 0] 38)) wr.heap.size 38 #[.string ⟨#[]⟩, .string ⟨#[]⟩, .slice none 0 0] := Whole.new _ _ _
    have HW1 := Lib.hid hw1
    have hk0 : (0 : Int) ≤ (k : Int) := by omega
    have hk1 : (k : Int) < (n : Int) := by omega
    have e1 : IntKind.i64.wrap ((k : Int) + 1) = (k : Int) + 1 := IntWalk.i64_in _ (by omega)
    obtain ⟨Aq, lq, cq, rfl⟩ : ∃ A l c, va = .slice A l c := by
     obtain ⟨A, c, e, -⟩ := xr.form
     exact ⟨_, _, _, e⟩
    have HO1 := Lib.hid ((HS.out.1.alloc (.cells #[.string ⟨#[]⟩, .string ⟨#[]⟩, .slice none 0 0] 38)).farRow ((HS.out.1.alloc _).apart hw1 (by decide)) #[.string p.line, .string p.conn, .slice Aq lq cq])
    have HB1 := Lib.hid (And.intro hNr hal)
    have HADD : Hid (∀ (W : World) (v : Value) (ss : List ByteArray), Own W N 9 1 v (ss.map scell) → Below N w0 W → ss.length ≤ 1000 → Calls Tryz.prog 165 #[v, .slice Aq lq cq] W fun e w' => ∃ (u : Value) (l : List ByteArray), e = .returned u ∧ Own w' N 9 1 u ((ss ++ l).map scell) ∧ l.map tx = linesA p.attrs ∧ Below N W w') := Lib.hid fun W v ss ho hW hl =>
     addAttrs_any N v _ ss p.attrs W (by have := hW.size; rw [HN.out] at this; exact this) ho (xr.below hW) hzp.2.2.1 HPL.out hl
    have hq4 : ¬ (9223372036854775807 < 2 + p.line.size) := by have := hzp.1; omega
    have hq5 : ¬ (9223372036854775807 < 2 + p.conn.size) := by have := hzp.2.1; omega
    have HCN : Hid ((tx p.conn).isEmpty = p.conn.toList.isEmpty) := Lib.hid (by rw [toList_tx])
    clear x0 x1 xa gL hp b1 hbl hNr hal xr hw1 hzp
    go_upto_region 6 with ((with_reducible refine wpList_storeS #[.string p.line, .string p.conn, .slice Aq lq cq] ?_ 38 (.tmp 5) (.tmp 26) ?_ ?_ ?_ HW1.out Tryz.sizeSPart ?_ ?_ ?_ ?_); (with_reducible rfl); (with_reducible rfl); rfl; rfl; rfl; rfl; rfl)
    have hr := HW1.out.row #[.string p.line, .string p.conn, .slice Aq lq cq]
    have hb2 := below_row HB1.out.2 HB1.out.1 #[.string p.line, .string p.conn, .slice Aq lq cq]
    have ho1 := HO1.out
    generalize (wr.alloc (.cells #[.string ⟨#[]⟩, .string ⟨#[]⟩, .slice none 0 0] 38)).setRow wr.heap.size #[.string p.line, .string p.conn, .slice Aq lq cq] = W2 at *
    generalize wr.heap.size = g at *
    have d0 := hr.cell 0
    simp only [List.getElem?_toArray, List.getElem?_cons_zero, List.getElem?_cons_succ] at d0
    have HP2 : Hid (Own W2 N 9 1 u3 (lk.map scell) ∧ Below N w0 W2 ∧ Whole W2 g 38 #[.string p.line, .string p.conn, .slice Aq lq cq]) := Lib.hid ⟨ho1, hb2, hr⟩
    clear hr hb2 HW1 HB1 x0' x1' x2' ho1 HO1
    have HLN0 : Hid (lk.length ≤ 900) := Lib.hid (by have := HLK.out; omega)
    have HA2 : Hid (Own (W2.alloc (.cells #[.string (⟨#[109, 61]⟩ ++ p.line)] 9)) N 9 1 u3 ((lk).map scell) ∧ Whole (W2.alloc (.cells #[.string (⟨#[109, 61]⟩ ++ p.line)] 9)) W2.heap.size 9 #[.string (⟨#[109, 61]⟩ ++ p.line)] ∧ Below N w0 (W2.alloc (.cells #[.string (⟨#[109, 61]⟩ ++ p.line)] 9)) ∧ N ≤ (W2.alloc (.cells #[.string (⟨#[109, 61]⟩ ++ p.line)] 9)).heap.size ∧ Whole (W2.alloc (.cells #[.string (⟨#[109, 61]⟩ ++ p.line)] 9)) g 38 #[.string p.line, .string p.conn, .slice Aq lq cq]) := Lib.hid (by
     have hs := HP2.out.2.1.size
     rw [HN.out] at hs
     exact ⟨HP2.out.1.alloc _, Whole.new _ _ _, HP2.out.2.1.alloc hs _, by rw [World.size_alloc]; omega, HP2.out.2.2.alloc _⟩)
    go_upto_region 7 with (at_builtin; refine wpList_appendE (r := [.string (⟨#[109, 61]⟩ ++ p.line)]) rfl (.tmp 27) (.tmp 31) rfl Tryz.underlying24 Tryz.infoStr rfl (Nat.zero_lt_succ _) rfl HA2.out.1 rfl HA2.out.2.1 rfl (fun u hu => by simp at hu; subst hu; rfl) (by rw [List.length_map]; have := HLN0.out; omega) (by rw [List.length_map]; have := HLN0.out; omega) HA2.out.2.2.2.1 ?_; intro v6 w6 ho6 hg6 hn6; have HF6 : Hid (Own w6 N 9 1 v6 ((lk ++ [⟨#[109, 61]⟩ ++ p.line]).map scell) ∧ Below N w0 w6 ∧ Whole w6 g 38 #[.string p.line, .string p.conn, .slice Aq lq cq]) := Lib.hid ⟨by simpa [scell] using ho6, HA2.out.2.2.1.grown hg6 HA2.out.2.2.2.1 (fun j hj => (HA2.out.1.lt hj).1), HA2.out.2.2.2.2.grown hg6 (fun e => (HA2.out.1.apart HA2.out.2.2.2.2 (by decide)) e.symm)⟩; clear ho6 hg6 hn6)
    have d1 := HF6.out.2.2.cell 1
    have d2 := HF6.out.2.2.cell 2
    simp only [List.getElem?_toArray, List.getElem?_cons_zero, List.getElem?_cons_succ] at d1 d2
    have HLN1 : Hid ((lk ++ [⟨#[109, 61]⟩ ++ p.line]).length ≤ 1000) := Lib.hid (by rw [List.length_append]; have := HLN0.out; simp; omega)
    clear HP2 d0
    cases hq : p.conn.toList.isEmpty with
    | true =>
      have hqt : (p.conn.toList.isEmpty = true) = True := by simp [hq]
      go_wp2_with (go_at_call 165; (with_reducible refine (HADD.out _ _ _ HF6.out.1 HF6.out.2.1 HLN1.out).mono ?_); rintro e w9 ⟨v9, l9, rfl, ho9, hl9, hb9⟩; have HF9 : Hid (Own w9 N 9 1 v9 ((lk ++ [⟨#[109, 61]⟩ ++ p.line] ++ l9).map scell) ∧ l9.map tx = linesA p.attrs ∧ Below N w0 w9) := Lib.hid ⟨ho9, hl9, HF6.out.2.1.trans hb9⟩; clear ho9 hl9 hb9)
      have HNX : Hid ((lk ++ [⟨#[109, 61]⟩ ++ p.line] ++ l9).map tx = headL x.origin x.name x.time ++ (linesA x.attrs ++ (x.parts.take (k + 1)).flatMap linesP) ∧ (lk ++ [⟨#[109, 61]⟩ ++ p.line] ++ l9).length ≤ 4 + 64 + (k + 1) * 66) := Lib.hid (by
       constructor
       · rw [List.take_add_one, HG.out, List.flatMap_append]
         simp only [List.map_append, HS.out.2.1, HF9.out.2.1, Option.toList, List.flatMap_cons, List.flatMap_nil, List.append_nil, linesP, connL, HCN.out, hqt, List.map_cons, List.map_nil, tx_append, List.append_assoc, List.cons_append, List.nil_append, if_true, if_false]
         rfl
       · have h1 := congrArg List.length HF9.out.2.1
         rw [List.length_map] at h1
         simp only [linesA, List.length_map] at h1
         simp only [List.length_append, List.length_cons, List.length_nil, h1]
         have := HLK.out
         have := HPL.out
         omega)
      go_roundw
      case rel => exact ⟨k + 1, _, by omega, by go_num, HF9.out.1, HNX.out.1, HNX.out.2, HF9.out.2.2⟩
      case measure => simp [intOf]; omega
    | false =>
      have hqt : (p.conn.toList.isEmpty = true) = False := by rw [hq]; simp
      have HA3 : Hid (Own (w6.alloc (.cells #[.string (⟨#[99, 61]⟩ ++ p.conn)] 9)) N 9 1 v6 ((lk ++ [⟨#[109, 61]⟩ ++ p.line]).map scell) ∧ Whole (w6.alloc (.cells #[.string (⟨#[99, 61]⟩ ++ p.conn)] 9)) w6.heap.size 9 #[.string (⟨#[99, 61]⟩ ++ p.conn)] ∧ Below N w0 (w6.alloc (.cells #[.string (⟨#[99, 61]⟩ ++ p.conn)] 9)) ∧ N ≤ (w6.alloc (.cells #[.string (⟨#[99, 61]⟩ ++ p.conn)] 9)).heap.size ∧ Whole (w6.alloc (.cells #[.string (⟨#[99, 61]⟩ ++ p.conn)] 9)) g 38 #[.string p.line, .string p.conn, .slice Aq lq cq]) := Lib.hid (by
       have hs := HF6.out.2.1.size
       rw [HN.out] at hs
       exact ⟨HF6.out.1.alloc _, Whole.new _ _ _, HF6.out.2.1.alloc hs _, by rw [World.size_alloc]; omega, HF6.out.2.2.alloc _⟩)
      go_upto_region 9 with (at_builtin; refine wpList_appendE (r := [.string (⟨#[99, 61]⟩ ++ p.conn)]) rfl (.tmp 36) (.tmp 40) rfl Tryz.underlying24 Tryz.infoStr rfl (Nat.zero_lt_succ _) rfl HA3.out.1 rfl HA3.out.2.1 rfl (fun u hu => by simp at hu; subst hu; rfl) (by rw [List.length_map]; have := HLN1.out; omega) (by rw [List.length_map]; have := HLN1.out; omega) HA3.out.2.2.2.1 ?_; intro v7 w7 ho6 hg6 hn6; have HF7 : Hid (Own w7 N 9 1 v7 ((lk ++ [⟨#[109, 61]⟩ ++ p.line] ++ [⟨#[99, 61]⟩ ++ p.conn]).map scell) ∧ Below N w0 w7 ∧ Whole w7 g 38 #[.string p.line, .string p.conn, .slice Aq lq cq]) := Lib.hid ⟨by simpa [scell] using ho6, HA3.out.2.2.1.grown hg6 HA3.out.2.2.2.1 (fun j hj => (HA3.out.1.lt hj).1), HA3.out.2.2.2.2.grown hg6 (fun e => (HA3.out.1.apart HA3.out.2.2.2.2 (by decide)) e.symm)⟩; clear ho6 hg6 hn6)
      have d3 := HF7.out.2.2.cell 2
      simp only [List.getElem?_toArray, List.getElem?_cons_zero, List.getElem?_cons_succ] at d3
      have HLN2 : Hid ((lk ++ [⟨#[109, 61]⟩ ++ p.line] ++ [⟨#[99, 61]⟩ ++ p.conn]).length ≤ 1000) := Lib.hid (by simp only [List.length_append, List.length_cons, List.length_nil]; have := HLN0.out; omega)
      go_wp2_with (go_at_call 165; (with_reducible refine (HADD.out _ _ _ HF7.out.1 HF7.out.2.1 HLN2.out).mono ?_); rintro e w9 ⟨v9, l9, rfl, ho9, hl9, hb9⟩; have HF9 : Hid (Own w9 N 9 1 v9 ((lk ++ [⟨#[109, 61]⟩ ++ p.line] ++ [⟨#[99, 61]⟩ ++ p.conn] ++ l9).map scell) ∧ l9.map tx = linesA p.attrs ∧ Below N w0 w9) := Lib.hid ⟨ho9, hl9, HF7.out.2.1.trans hb9⟩; clear ho9 hl9 hb9)
      have HNX : Hid ((lk ++ [⟨#[109, 61]⟩ ++ p.line] ++ [⟨#[99, 61]⟩ ++ p.conn] ++ l9).map tx = headL x.origin x.name x.time ++ (linesA x.attrs ++ (x.parts.take (k + 1)).flatMap linesP) ∧ (lk ++ [⟨#[109, 61]⟩ ++ p.line] ++ [⟨#[99, 61]⟩ ++ p.conn] ++ l9).length ≤ 4 + 64 + (k + 1) * 66) := Lib.hid (by
       constructor
       · rw [List.take_add_one, HG.out, List.flatMap_append]
         simp only [List.map_append, HS.out.2.1, HF9.out.2.1, Option.toList, List.flatMap_cons, List.flatMap_nil, List.append_nil, linesP, connL, HCN.out, hqt, List.map_cons, List.map_nil, tx_append, List.append_assoc, List.cons_append, List.nil_append, if_true, if_false]
         rfl
       · have h1 := congrArg List.length HF9.out.2.1
         rw [List.length_map] at h1
         simp only [linesA, List.length_map] at h1
         simp only [List.length_append, List.length_cons, List.length_nil, h1]
         have := HLK.out
         have := HPL.out
         omega)
      go_roundw
      case rel => exact ⟨k + 1, _, by omega, by go_num, HF9.out.1, HNX.out.1, HNX.out.2, HF9.out.2.2⟩
      case measure => simp [intOf]; omega
  · obtain rfl : k = n := by omega
    have HF : Hid (lk.map tx = linesS x) := Lib.hid (by rw [HS.out.2.1, List.take_of_length_le (by rw [HNN.out]; exact Nat.le_refl _)]; rfl)
    have HBW : Hid (w.heap.size ≤ N ∧ Below w.heap.size w wr) := Lib.hid (by
     have h1 : w.heap.size ≤ N := by rw [HBE.out]; have := HBN.out; omega
     exact ⟨h1, HB0.out.trans (HS.out.2.2.mono h1)⟩)
    clear hbl
    go_wp2
    go_ret
    exact ⟨_, lk, rfl, HS.out.1.base_le HBW.out.1, HF.out, HBW.out.2⟩
theorem join_lines : ∀ (ls : List ByteArray), ls ≠ [] → Lib.join (ls.map (·.data.toList)) crlf ++ crlf = textL (ls.map tx)
 | [], h => (h rfl).elim
 | [a], _ => by
   rw [List.map_cons, List.map_nil, Lib.join_one, List.map_cons, List.map_nil, textL_cons, textL_nil, List.append_nil]
   rfl
 | a :: b :: r, _ => by
   have ih := join_lines (b :: r) (by simp)
   have e : Lib.join ((a :: b :: r).map (·.data.toList)) crlf = a.data.toList ++ crlf ++ Lib.join ((b :: r).map (·.data.toList)) crlf := by
    rw [List.map_cons, List.map_cons, Lib.join_cons, Lib.join_cons]
    simp [Lib.joinTail]
   rw [e, List.append_assoc, ih, List.map_cons (l := b :: r), textL_cons]
   rfl
theorem textL_le {m : Nat} : ∀ (ls : List Tx), (∀ a ∈ ls, a.length ≤ m) → (textL ls).length ≤ ls.length * (m + 2)
 | [], _ => by simp [textL]
 | a :: r, h => by
   have ih := textL_le r (fun b hb => h b (by simp [hb]))
   have ha := h a (by simp)
   have e := congrArg List.length (textL_cons a r)
   simp only [List.length_append, List.length_cons, List.length_nil] at e
   rw [e, List.length_cons, Nat.succ_mul]
   omega
theorem flat_le {α β : Type} {m : Nat} {f : α → List β} : ∀ (ls : List α), (∀ a ∈ ls, (f a).length ≤ m) → (ls.flatMap f).length ≤ ls.length * m
 | [], _ => by simp
 | a :: r, h => by
   have ih := flat_le r (fun b hb => h b (by simp [hb]))
   have ha := h a (by simp)
   rw [List.flatMap_cons, List.length_append, List.length_cons, Nat.succ_mul]
   omega
theorem lineA_len {a : AttrS} (h : okAt a = true) : (lineA a).length ≤ 235 := by
 have := okAt_sizes h
 unfold lineA valTail
 split
 · simp only [List.length_append, List.length_cons, List.length_nil, tx_length]; omega
 · simp only [List.length_append, List.length_cons, List.length_nil, tx_length]; omega
theorem linesP_len {p : PartS} (h : okP p = true) : (linesP p).length ≤ 66 ∧ ∀ a ∈ linesP p, a.length ≤ 235 := by
 obtain ⟨h1, h2, h3⟩ := okP_parts h
 have h64 := okA_len h3
 have hc : (connL p.conn).length ≤ 1 := by unfold connL; split <;> simp
 refine ⟨?_, fun a ha => ?_⟩
 · unfold linesP
   rw [List.length_cons, List.length_append]
   simp only [linesA, List.length_map]
   omega
 · unfold linesP connL at ha
   rw [List.mem_cons, List.mem_append] at ha
   rcases ha with rfl | ha | ha
   · have := val_size h1
     rw [List.length_append, tx_length]
     simp; omega
   · split at ha
     · cases ha
     · rw [List.mem_singleton] at ha
       subst ha
       have := maybe_size h2
       rw [List.length_append, tx_length]
       simp; omega
   · obtain ⟨b, hb, rfl⟩ := List.mem_map.1 ha
     exact lineA_len (okA_at h3 hb)
theorem linesS_few {x : SesS} (h : okS x = true) : (linesS x).length ≤ 596 ∧ (textS x).length ≤ 141252 := by
 obtain ⟨h1, h2, h3, h4, h5, h6⟩ := okS_parts h
 have h64 := okA_len h4
 have hf := flat_le (f := linesP) (m := 66) x.parts (fun p hp => (linesP_len (h6 p hp)).1)
 have hn : (linesS x).length ≤ 596 := by
  unfold linesS headL
  rw [List.length_append, List.length_append]
  simp only [linesA, List.length_map, List.length_cons, List.length_nil]
  omega
 refine ⟨hn, ?_⟩
 have := textL_le (m := 235) (linesS x) (fun a ha => by
  unfold linesS headL at ha
  simp only [List.mem_append, List.mem_cons, List.not_mem_nil, or_false, List.mem_flatMap] at ha
  have hs : ∀ {s : ByteArray} {u v : UInt8}, valP (tx s) = true → ([u, v] ++ tx s).length ≤ 235 := fun hv => by
   have := val_size hv
   rw [List.length_append, tx_length]
   simp; omega
  rcases ha with (rfl | rfl | rfl | rfl) | ha | ⟨p, hp, ha⟩
  · simp
  · exact hs h1
  · exact hs h2
  · exact hs h3
  · obtain ⟨b, hb, rfl⟩ := List.mem_map.1 ha
    exact lineA_len (okA_at h4 hb)
  · exact (linesP_len (h6 p hp)).2 a ha)
 show (textL (linesS x)).length ≤ _
 omega
def HasText (x : SesS) : Prop := okS x = true ∧ (textS x).length ≤ 8192
def PrO (x : SesS) (t : ByteArray) (er : Int) : Prop := (HasText x ∧ er = 0 ∧ tx t = textS x) ∨ (¬ HasText x ∧ er = 1 ∧ t = ⟨#[]⟩)
def PrintO (w : World) (x : SesS) (e : Ending) (w' : World) : Prop := ∃ (t : ByteArray) (er : Int), e = .returned (.tuple #[.string t, .int .i64 er]) ∧ PrO x t er ∧ Below w.heap.size w w'
theorem join_row (ls : List ByteArray) (v : Value) (N : Nat) (w : World) (ho : Own w N 9 1 v (ls.map scell)) (h0 : 0 < ls.length) (hl : ls.length ≤ 140737488355328) (hj : (Lib.join (ls.map (·.data.toList)) crlf).length ≤ 140737488355328) :
 Calls Tryz.prog 107 #[v, .string ⟨#[13, 10]⟩] w fun e w' => e = .returned (.string ⟨(Lib.join (ls.map (·.data.toList)) crlf).toArray⟩) ∧ Below w.heap.size w w' := by
 obtain ⟨g, c, hv, hg, _, hlt, hc, _, _, _⟩ := ho.at_ (i := 0) (r := scell ls[0]) (by rw [List.getElem?_map, List.getElem?_eq_getElem h0]; rfl)
 rw [List.length_map] at hv hc
 subst hv
 refine Tryz.strings_Join g 0 c ls ⟨#[13, 10]⟩ w (fun j s hs => ?_) hlt hl hc hj
 obtain ⟨g2, c2, hv2, hg2, _, _, _, _, hcell, _⟩ := ho.at_ (i := j) (r := scell s) (by rw [List.getElem?_map, hs]; rfl)
 have : g2 = g := by rw [hg] at hg2; exact (Option.some.inj hg2).symm
 subst this
 have := hcell 0 (by decide)
 rw [Nat.mul_one, Nat.add_zero] at this
 rw [Nat.zero_add, this]
 rfl
set_option maxHeartbeats 3200000 in
set_option maxRecDepth 100000 in
theorem print_any (X : Array Value) (x : SesS) (a1 p1 : Value) (w : World) (h : SesV w w.heap.size X x a1 p1) (hz : SizS x) : Calls Tryz.prog 60 #[.agg X] w (PrintO w x) := by
 obtain ⟨e1, va1, vp1⟩ := h
 subst e1
 obtain ⟨A, k1, rfl, -⟩ := va1.form
 obtain ⟨P, j1, rfl, hj1, hm1, -⟩ := vp1.form
 obtain ⟨n1, hn1⟩ : ∃ n, x.attrs.length = n := ⟨_, rfl⟩
 obtain ⟨n, hn⟩ : ∃ n, x.parts.length = n := ⟨_, rfl⟩
 rw [hn1] at va1
 rw [hn] at vp1 hj1
 rw [hn1, hn]
 have hb : Below w.heap.size w (w.alloc (.cells #[.string x.origin, .string x.name, .string x.time, .slice A n1 k1, .slice P n j1] 113)) := (Below.refl _ w).alloc (Nat.le_refl _) _
 have g1 := Whole.new w 113 #[.string x.origin, .string x.name, .string x.time, .slice A n1 k1, .slice P n j1]
 have va := (va1.below hb).more hb.size
 have vp := (vp1.below hb).more hb.size
 have HZ := Lib.hid hz
 clear hn1 hn va1 vp1 hz
 obtain ⟨B, hB⟩ : ∃ B, w.heap.size = B := ⟨_, rfl⟩
 have HBE := Lib.hid hB
 go_enter Tryz.func60, Tryz.ntmps60
 go_upto_region 1 with fail
 rw [hB] at g1
 generalize hw0 : w.alloc (.cells #[.string x.origin, .string x.name, .string x.time, .slice A n1 k1, .slice P n j1] 113) = w0 at *
 try rw [hB]
 clear hw0 hB
 have HB0 := Lib.hid (And.intro hb g1)
 have HVA : Hid (Calls Tryz.prog 108 #[.agg #[.string x.origin, .string x.name, .string x.time, .slice A n1 k1, .slice P n j1]] w0 fun e w' => e = .returned (.bool (okS x)) ∧ Below w0.heap.size w0 w') := Lib.hid (valid_any _ x _ _ w0 ⟨by rw [], va, vp⟩ HZ.out)
 have HV := Lib.hid (And.intro va vp)
 clear va vp hb g1
 obtain ⟨b, hbb⟩ : ∃ b, okS x = b := ⟨_, rfl⟩
 rw [hbb] at HVA
 cases b with
 | false =>
   have HR : Hid (∀ W, Below w.heap.size w W → PrintO w x (.returned (.tuple #[.string ⟨#[]⟩, .int .i64 1])) W) := Lib.hid fun W hW => ⟨_, _, rfl, .inr ⟨fun hh => (by rw [hh.1] at hbb; cases hbb), rfl, rfl⟩, hW⟩
   clear hbb
   go_wp2_with (first
    | ((with_reducible refine wpList_load_all ?_ 113 (.tmp 1) ?_ HB0.out.2 ?_ Tryz.sizeSSes ?_ Tryz.underlying113 ?_ ?_); (with_reducible rfl); (with_reducible rfl); rfl; rfl; rfl)
    | (go_at_call 108; (with_reducible refine HVA.out.mono ?_); rintro e w2 ⟨rfl, hb2⟩; have HF := Lib.hid (HR.out _ (HB0.out.1.trans (hb2.mono HB0.out.1.size))); clear hb2))
   go_ret2
   exact HF.out
 | true =>
   have HFW := Lib.hid (linesS_few hbb)
   have HL : Hid (∀ W, Below w0.heap.size w0 W → Calls Tryz.prog 109 #[.agg #[.string x.origin, .string x.name, .string x.time, .slice A n1 k1, .slice P n j1]] W fun e w' => ∃ (v : Value) (ls : List ByteArray), e = .returned v ∧ Own w' W.heap.size 9 1 v (ls.map scell) ∧ ls.map tx = linesS x ∧ Below W.heap.size W w') := Lib.hid fun W hW => plines_any _ x _ _ W ⟨by rw [], (HV.out.1.below hW).more hW.size, (HV.out.2.below hW).more hW.size⟩ hbb
   have HJ : Hid (∀ (ls : List ByteArray) (v : Value) (N : Nat) (W : World), Own W N 9 1 v (ls.map scell) → ls.map tx = linesS x → Calls Tryz.prog 107 #[v, .string ⟨#[13, 10]⟩] W fun e w' => ∃ t : ByteArray, e = .returned (.string t) ∧ tx t ++ crlf = textS x ∧ Below W.heap.size W w') := Lib.hid fun ls v N W ho hl => by
    have hlen : ls.length = (linesS x).length := by rw [← hl, List.length_map]
    have h4 := linesS_len x
    have hj := join_lines ls (fun e => by rw [e] at hlen; simp at hlen; omega)
    rw [hl] at hj
    have hjl := congrArg List.length hj
    rw [List.length_append] at hjl
    have hfew := HFW.out
    have hts : (textL (linesS x)).length ≤ 141252 := hfew.2
    refine (join_row ls v N W ho (by omega) (by omega) (by omega)).mono fun e w' ⟨h1, h2⟩ => ⟨_, h1, ?_, h2⟩
    show (Lib.join (ls.map (·.data.toList)) crlf).toArray.toList ++ crlf = _
    rw [List.toList_toArray]
    exact hj
   have HOK := Lib.hid hbb
   clear hbb
   by_cases hbig : 8192 < (textS x).length
   · have HR : Hid (∀ W, Below w.heap.size w W → PrintO w x (.returned (.tuple #[.string ⟨#[]⟩, .int .i64 1])) W) := Lib.hid fun W hW => ⟨_, _, rfl, .inr ⟨fun hh => (by have := hh.2; omega), rfl, rfl⟩, hW⟩
     go_wp2_with (first
      | ((with_reducible refine wpList_load_all ?_ 113 (.tmp 1) ?_ HB0.out.2 ?_ Tryz.sizeSSes ?_ Tryz.underlying113 ?_ ?_); (with_reducible rfl); (with_reducible rfl); rfl; rfl; rfl)
      | ((with_reducible refine wpList_load_all ?_ 113 (.tmp 1) ?_ HW2.out ?_ Tryz.sizeSSes ?_ Tryz.underlying113 ?_ ?_); (with_reducible rfl); (with_reducible rfl); rfl; rfl; rfl)
      | (go_at_call 108; (with_reducible refine HVA.out.mono ?_); rintro e w2 ⟨rfl, hb2⟩; have HB2 := Lib.hid hb2; have HW2 := Lib.hid (HB0.out.2.under hb2); clear hb2)
      | (go_at_call 109; (with_reducible refine (HL.out _ HB2.out).mono ?_); rintro e w3 ⟨v3, ls, rfl, ho3, hl3, hb3⟩; have H3 := Lib.hid (And.intro ho3 (And.intro hl3 hb3)); clear ho3 hl3 hb3)
      | (go_at_call 107; (with_reducible refine (HJ.out _ _ _ _ H3.out.1 H3.out.2.1).mono ?_); rintro e w4 ⟨t, rfl, ht, hb4⟩; have hzt : t.size + 2 = (textS x).length := (by rw [← ht, List.length_append, tx_length]; rfl); have hz2 : ¬ (9223372036854775807 < t.size + 2) := (by have := HFW.out.2; omega); have H4 : Hid (Below w.heap.size w w4 ∧ tx (t ++ ⟨#[13, 10]⟩) = textS x) := Lib.hid ⟨HB0.out.1.trans ((HB2.out.trans ((H3.out.2.2.trans (hb4.mono H3.out.2.2.size)).mono HB2.out.size)).mono HB0.out.1.size), by rw [tx_append, ← ht]; rfl⟩; have HZT := Lib.hid hzt; have hbg : (8192 : Int) < (t.size : Int) + 2 := (by omega); clear ht hb4 hzt))
     go_ret2
     exact HR.out _ H4.out.1
   · have HR : Hid (∀ W t, Below w.heap.size w W → tx t = textS x → PrintO w x (.returned (.tuple #[.string t, .int .i64 0])) W) := Lib.hid fun W t hW ht => ⟨_, _, rfl, .inl ⟨⟨HOK.out, by omega⟩, rfl, ht⟩, hW⟩
     go_wp2_with (first
      | ((with_reducible refine wpList_load_all ?_ 113 (.tmp 1) ?_ HB0.out.2 ?_ Tryz.sizeSSes ?_ Tryz.underlying113 ?_ ?_); (with_reducible rfl); (with_reducible rfl); rfl; rfl; rfl)
      | ((with_reducible refine wpList_load_all ?_ 113 (.tmp 1) ?_ HW2.out ?_ Tryz.sizeSSes ?_ Tryz.underlying113 ?_ ?_); (with_reducible rfl); (with_reducible rfl); rfl; rfl; rfl)
      | (go_at_call 108; (with_reducible refine HVA.out.mono ?_); rintro e w2 ⟨rfl, hb2⟩; have HB2 := Lib.hid hb2; have HW2 := Lib.hid (HB0.out.2.under hb2); clear hb2)
      | (go_at_call 109; (with_reducible refine (HL.out _ HB2.out).mono ?_); rintro e w3 ⟨v3, ls, rfl, ho3, hl3, hb3⟩; have H3 := Lib.hid (And.intro ho3 (And.intro hl3 hb3)); clear ho3 hl3 hb3)
      | (go_at_call 107; (with_reducible refine (HJ.out _ _ _ _ H3.out.1 H3.out.2.1).mono ?_); rintro e w4 ⟨t, rfl, ht, hb4⟩; have hzt : t.size + 2 = (textS x).length := (by rw [← ht, List.length_append, tx_length]; rfl); have hz2 : ¬ (9223372036854775807 < t.size + 2) := (by have := HFW.out.2; omega); have H4 : Hid (Below w.heap.size w w4 ∧ tx (t ++ ⟨#[13, 10]⟩) = textS x) := Lib.hid ⟨HB0.out.1.trans ((HB2.out.trans ((H3.out.2.2.trans (hb4.mono H3.out.2.2.size)).mono HB2.out.size)).mono HB0.out.1.size), by rw [tx_append, ← ht]; rfl⟩; have HZT := Lib.hid hzt; have hbg : ¬ (8192 : Int) < (t.size : Int) + 2 := (by omega); clear ht hb4 hzt))
     go_ret2
     exact HR.out _ _ H4.out.1 H4.out.2
theorem any_not {α : Type} (L : List α) (q : α → Bool) : (!(L.any fun x => !q x)) = L.all q := by
 induction L with
 | nil => rfl
 | cons a r ih => rw [List.any_cons, List.all_cons, ← ih]; cases q a <;> simp
set_option maxHeartbeats 6400000 in
set_option maxRecDepth 100000 in
theorem goodCodec_any (x : CodecS) (Af : Option Addr) (lf kf : Nat) (w : World) (h : TextsV w w.heap.size (.slice Af lf kf) x.feedback) (hs : x.name.size ≤ 140737488355328 ∧ x.format.size ≤ 140737488355328 ∧ ∀ f ∈ x.feedback, f.size ≤ 140737488355328) (hl : x.feedback.length ≤ 140737488355328) :
 Calls Tryz.prog 86 #[.agg #[.int .i64 x.type, .string x.name, .int .i64 x.clock, .int .i64 x.chans, .string x.format, .slice Af lf kf]] w fun e w' => e = .returned (.bool (goodC x)) ∧ Below w.heap.size w w' := by
 obtain ⟨ty, nm, ck, ch, fm, fb⟩ := x
 have hs : nm.size ≤ 140737488355328 ∧ fm.size ≤ 140737488355328 ∧ ∀ f ∈ fb, f.size ≤ 140737488355328 := hs
 have hl : fb.length ≤ 140737488355328 := hl
 have h : TextsV w w.heap.size (.slice Af lf kf) fb := h
 have hlf : lf = fb.length := by
  obtain ⟨_, _, e, -⟩ := Rows.form h
  injection e
 have hb0 : Below w.heap.size w (w.alloc (.cells #[.int .i64 ty, .string nm, .int .i64 ck, .int .i64 ch, .string fm, .slice Af lf kf] 58)) := (Below.refl _ w).alloc (Nat.le_refl _) _
 have hz := Whole.new w 58 #[.int .i64 ty, .string nm, .int .i64 ck, .int .i64 ch, .string fm, .slice Af lf kf]
 have c0 := hz.cell 0
 have c1 := hz.cell 1
 have c2 := hz.cell 2
 have c3 := hz.cell 3
 have c4 := hz.cell 4
 have c5 := hz.cell 5
 simp only [List.getElem?_toArray, List.getElem?_cons_zero, List.getElem?_cons_succ] at c0 c1 c2 c3 c4 c5
 have HB := Lib.hid (And.intro hb0 (h.below hb0))
 have hx : goodC ⟨ty, nm, ck, ch, fm, fb⟩ = ((decide (0 ≤ ty) && decide (ty ≤ 127)) && (wordP 1 32 (tx nm) && ((decide (1 ≤ ck) && decide (ck ≤ 1000000)) && ((decide (1 ≤ ch) && decide (ch ≤ 2)) && (((tx fm).isEmpty || plainP (tx fm)) && (decide (lf ≤ 8) && !(fb.any fun f => !plainP (tx f)))))))) := by
  rw [any_not, hlf]
  unfold goodC
  simp only [Bool.and_assoc]
 show Calls _ _ _ _ fun e w' => e = .returned (.bool (goodC ⟨ty, nm, ck, ch, fm, fb⟩)) ∧ _
 have hmt : fm.toList.isEmpty = (tx fm).isEmpty := by rw [toList_tx]
 have HWI : Hid (∀ n a b W, Calls Tryz.prog 42 #[.int .i64 n, .int .i64 a, .int .i64 b] W fun e w' => e = .returned (.bool (decide (a ≤ n) && decide (n ≤ b))) ∧ W = w') := Lib.hid fun n a b W => within_any n a b W
 have HWO := Lib.hid (word_any nm (w.alloc (.cells #[.int .i64 ty, .string nm, .int .i64 ck, .int .i64 ch, .string fm, .slice Af lf kf] 58)) (by unfold maxLen; omega))
 have HFO := Lib.hid (goodFormat_any fm (w.alloc (.cells #[.int .i64 ty, .string nm, .int .i64 ck, .int .i64 ch, .string fm, .slice Af lf kf] 58)) (by unfold maxLen; omega))
 have HCO : Hid (∀ W, Below w.heap.size w W → TextsV W w.heap.size (.slice Af lf kf) fb → Calls Tryz.prog 138 #[.slice Af lf kf, .func (.func 139) #[] #[]] W fun e w' => e = .returned (.bool (fb.any fun f => !plainP (tx f))) ∧ Below W.heap.size W w') := Lib.hid fun W hW hv =>
  containsB_any Af lf kf fb (fun f => !plainP (tx f)) W (hv.more hW.size) hlf.symm (by omega) fun W' f _ hf => (badFormat_any f W' (by have := hs.2.2 f hf; unfold maxLen; omega)).mono fun e w' ⟨h1, h2⟩ => ⟨h1, h2 ▸ Below.refl _ _⟩
 have HT1 := Lib.hid (HWI.out ty 0 127 (w.alloc (.cells #[.int .i64 ty, .string nm, .int .i64 ck, .int .i64 ch, .string fm, .slice Af lf kf] 58)))
 have HT2 := Lib.hid (HWI.out ck 1 1000000 (w.alloc (.cells #[.int .i64 ty, .string nm, .int .i64 ck, .int .i64 ch, .string fm, .slice Af lf kf] 58)))
 have HT3 := Lib.hid (HWI.out ch 1 2 (w.alloc (.cells #[.int .i64 ty, .string nm, .int .i64 ck, .int .i64 ch, .string fm, .slice Af lf kf] 58)))
 have HC1 := Lib.hid (HCO.out _ HB.out.1 HB.out.2)
 have HX := Lib.hid hx
 have hlm : lf ≤ 140737488355328 := by omega
 clear hb0 hz h HWI hx hs hl HCO hlf
 generalize goodC ⟨ty, nm, ck, ch, fm, fb⟩ = r at *
 generalize (decide ((0 : Int) ≤ ty) && decide (ty ≤ 127)) = t1 at *
 generalize (decide ((1 : Int) ≤ ck) && decide (ck ≤ 1000000)) = t2 at *
 generalize (decide ((1 : Int) ≤ ch) && decide (ch ≤ 2)) = t3 at *
 generalize (fb.any fun f => !plainP (tx f)) = t4 at *
 generalize wordP 1 32 (tx nm) = q1 at *
 generalize plainP (tx fm) = q2 at *
 generalize (tx fm).isEmpty = q3 at *
 obtain ⟨N, hN⟩ : ∃ N, w.heap.size = N := ⟨_, rfl⟩
 rw [hN] at c0 c1 c2 c3 c4 c5 HB ⊢
 go_enter Tryz.func86, Tryz.ntmps86
 go_upto_region 1 with fail
 generalize w.alloc (.cells #[.int .i64 ty, .string nm, .int .i64 ck, .int .i64 ch, .string fm, .slice Af lf kf] 58) = W at *
 have HSZ : Hid (N ≤ W.heap.size) := Lib.hid (by have := HB.out.1.size; omega)
 clear hN
 cases t1 with
 | false =>
   have HQ : Hid (r = false) := Lib.hid (by rw [HX.out]; simp)
   go_wp2_with (first
    | (go_at_call 42; (with_reducible refine HT1.out.mono ?_); rintro e w' ⟨rfl, rfl⟩))
   go_ret
   exact ⟨ret_bool HQ.out.symm, HB.out.1⟩
 | true =>
   cases q1 with
   | false =>
     have HQ : Hid (r = false) := Lib.hid (by rw [HX.out]; simp)
     go_wp2_with (first
      | (go_at_call 42; (with_reducible refine HT1.out.mono ?_); rintro e w' ⟨rfl, rfl⟩)
      | (go_at_call 83; (with_reducible refine HWO.out.mono ?_); rintro e w' ⟨rfl, rfl⟩))
     go_ret
     exact ⟨ret_bool HQ.out.symm, HB.out.1⟩
   | true =>
     cases t2 with
     | false =>
       have HQ : Hid (r = false) := Lib.hid (by rw [HX.out]; simp)
       go_wp2_with (first
        | (go_at_call 42; (with_reducible refine HT1.out.mono ?_); rintro e w' ⟨rfl, rfl⟩)
        | (go_at_call 83; (with_reducible refine HWO.out.mono ?_); rintro e w' ⟨rfl, rfl⟩)
        | (go_at_call 42; (with_reducible refine HT2.out.mono ?_); rintro e w' ⟨rfl, rfl⟩))
       go_ret
       exact ⟨ret_bool HQ.out.symm, HB.out.1⟩
     | true =>
       cases t3 with
       | false =>
         have HQ : Hid (r = false) := Lib.hid (by rw [HX.out]; simp)
         go_wp2_with (first
          | (go_at_call 42; (with_reducible refine HT1.out.mono ?_); rintro e w' ⟨rfl, rfl⟩)
          | (go_at_call 83; (with_reducible refine HWO.out.mono ?_); rintro e w' ⟨rfl, rfl⟩)
          | (go_at_call 42; (with_reducible refine HT2.out.mono ?_); rintro e w' ⟨rfl, rfl⟩)
          | (go_at_call 42; (with_reducible refine HT3.out.mono ?_); rintro e w' ⟨rfl, rfl⟩))
         go_ret
         exact ⟨ret_bool HQ.out.symm, HB.out.1⟩
       | true =>
         cases q3 with
         | true =>
           by_cases hlt : lf ≤ 8
           · have hl8 : (lf : Int) ≤ 8 := by omega
             have HQ : Hid ((!t4) = r) := Lib.hid (by rw [HX.out]; simp [hlt])
             go_wp2_with (first
              | (go_at_call 42; (with_reducible refine HT1.out.mono ?_); rintro e w' ⟨rfl, rfl⟩)
              | (go_at_call 83; (with_reducible refine HWO.out.mono ?_); rintro e w' ⟨rfl, rfl⟩)
              | (go_at_call 42; (with_reducible refine HT2.out.mono ?_); rintro e w' ⟨rfl, rfl⟩)
              | (go_at_call 42; (with_reducible refine HT3.out.mono ?_); rintro e w' ⟨rfl, rfl⟩)
              | (go_at_call 138; (with_reducible refine HC1.out.mono ?_); rintro e w' ⟨rfl, hb4⟩))
             go_ret
             exact ⟨ret_bool HQ.out, HB.out.1.trans (hb4.mono HSZ.out)⟩
           · have hl8 : 8 < (lf : Int) := by omega
             have HQ : Hid (r = false) := Lib.hid (by rw [HX.out]; simp [hlt])
             go_wp2_with (first
              | (go_at_call 42; (with_reducible refine HT1.out.mono ?_); rintro e w' ⟨rfl, rfl⟩)
              | (go_at_call 83; (with_reducible refine HWO.out.mono ?_); rintro e w' ⟨rfl, rfl⟩)
              | (go_at_call 42; (with_reducible refine HT2.out.mono ?_); rintro e w' ⟨rfl, rfl⟩)
              | (go_at_call 42; (with_reducible refine HT3.out.mono ?_); rintro e w' ⟨rfl, rfl⟩))
             go_ret
             exact ⟨ret_bool HQ.out.symm, HB.out.1⟩
         | false =>
           cases q2 with
           | false =>
             have HQ : Hid (r = false) := Lib.hid (by rw [HX.out]; simp)
             go_wp2_with (first
              | (go_at_call 42; (with_reducible refine HT1.out.mono ?_); rintro e w' ⟨rfl, rfl⟩)
              | (go_at_call 83; (with_reducible refine HWO.out.mono ?_); rintro e w' ⟨rfl, rfl⟩)
              | (go_at_call 42; (with_reducible refine HT2.out.mono ?_); rintro e w' ⟨rfl, rfl⟩)
              | (go_at_call 42; (with_reducible refine HT3.out.mono ?_); rintro e w' ⟨rfl, rfl⟩)
              | (go_at_call 137; (with_reducible refine HFO.out.mono ?_); rintro e w' ⟨rfl, rfl⟩))
             go_ret
             exact ⟨ret_bool HQ.out.symm, HB.out.1⟩
           | true =>
             by_cases hlt : lf ≤ 8
             · have hl8 : (lf : Int) ≤ 8 := by omega
               have HQ : Hid ((!t4) = r) := Lib.hid (by rw [HX.out]; simp [hlt])
               go_wp2_with (first
                | (go_at_call 42; (with_reducible refine HT1.out.mono ?_); rintro e w' ⟨rfl, rfl⟩)
                | (go_at_call 83; (with_reducible refine HWO.out.mono ?_); rintro e w' ⟨rfl, rfl⟩)
                | (go_at_call 42; (with_reducible refine HT2.out.mono ?_); rintro e w' ⟨rfl, rfl⟩)
                | (go_at_call 42; (with_reducible refine HT3.out.mono ?_); rintro e w' ⟨rfl, rfl⟩)
                | (go_at_call 137; (with_reducible refine HFO.out.mono ?_); rintro e w' ⟨rfl, rfl⟩)
                | (go_at_call 138; (with_reducible refine HC1.out.mono ?_); rintro e w' ⟨rfl, hb4⟩))
               go_ret
               exact ⟨ret_bool HQ.out, HB.out.1.trans (hb4.mono HSZ.out)⟩
             · have hl8 : 8 < (lf : Int) := by omega
               have HQ : Hid (r = false) := Lib.hid (by rw [HX.out]; simp [hlt])
               go_wp2_with (first
                | (go_at_call 42; (with_reducible refine HT1.out.mono ?_); rintro e w' ⟨rfl, rfl⟩)
                | (go_at_call 83; (with_reducible refine HWO.out.mono ?_); rintro e w' ⟨rfl, rfl⟩)
                | (go_at_call 42; (with_reducible refine HT2.out.mono ?_); rintro e w' ⟨rfl, rfl⟩)
                | (go_at_call 42; (with_reducible refine HT3.out.mono ?_); rintro e w' ⟨rfl, rfl⟩)
                | (go_at_call 137; (with_reducible refine HFO.out.mono ?_); rintro e w' ⟨rfl, rfl⟩))
               go_ret
               exact ⟨ret_bool HQ.out.symm, HB.out.1⟩
theorem MediaV.forms {w : World} {B : Nat} {M : Array Value} {m : MediaS} {vC vE vR vS vY : Value} (h : MediaV w B M m vC vE vR vS vY) :
 ∃ AC kC AE kE AR kR AS kS AY kY, vC = .slice AC m.codecs.length kC ∧ vE = .slice AE m.exts.length kE ∧ vR = .slice AR m.rids.length kR ∧ vS = .slice AS m.sources.length kS ∧ vY = .slice AY m.crypto.length kY := by
 obtain ⟨AC, kC, e1, -⟩ := Rows.form h.codecs
 obtain ⟨AE, kE, e2, -⟩ := Rows.form h.exts
 obtain ⟨AR, kR, e3, -⟩ := Rows.form h.rids
 obtain ⟨AS, kS, e4, -⟩ := Rows.form h.sources
 obtain ⟨AY, kY, e5, -⟩ := Rows.form h.crypto
 exact ⟨AC, kC, AE, kE, AR, kR, AS, kS, AY, kY, e1, e2, e3, e4, e5⟩
set_option maxHeartbeats 6400000 in
set_option maxRecDepth 100000 in
theorem goodStreams_any (M : Array Value) (m : MediaS) (vC vE vR vS vY : Value) (w : World) (h : MediaV w w.heap.size M m vC vE vR vS vY) (hz : SizM m) :
 Calls Tryz.prog 43 #[.agg M] w fun e w' => e = .returned (.bool (goodStreams m)) ∧ Below w.heap.size w w' := by
 obtain ⟨AC, kC, AE, kE, AR, kR, AS, kS, AY, kY, rfl, rfl, rfl, rfl, rfl⟩ := h.forms
 obtain ⟨hform, hvC, hvE, hvR, hvS, hvY⟩ := h
 subst hform
 obtain ⟨nC, hnC⟩ : ∃ n, m.codecs.length = n := ⟨_, rfl⟩
 obtain ⟨nE, hnE⟩ : ∃ n, m.exts.length = n := ⟨_, rfl⟩
 obtain ⟨nR, hnR⟩ : ∃ n, m.rids.length = n := ⟨_, rfl⟩
 obtain ⟨nS, hnS⟩ : ∃ n, m.sources.length = n := ⟨_, rfl⟩
 obtain ⟨nY, hnY⟩ : ∃ n, m.crypto.length = n := ⟨_, rfl⟩
 obtain ⟨hc1, hc2, hc3, hc4, hc5⟩ := hz.counts
 rw [hnC] at hvC hc1
 rw [hnE] at hvE hc2
 rw [hnR] at hvR hc3
 rw [hnS] at hvS hc4
 rw [hnY] at hvY hc5
 rw [hnC, hnE, hnR, hnS, hnY]
 have hb0 : Below w.heap.size w (w.alloc (.cells #[.int .i64 m.kind, .int .i64 m.port, .string m.mid, .int .i64 m.dir, .slice AC nC kC, .slice AE nE kE, .slice AR nR kR, .bool m.sending, .slice AS nS kS, .slice AY nY kY, .int .i64 m.sctp] 28)) := (Below.refl _ w).alloc (Nat.le_refl _) _
 have hw := Whole.new w 28 #[.int .i64 m.kind, .int .i64 m.port, .string m.mid, .int .i64 m.dir, .slice AC nC kC, .slice AE nE kE, .slice AR nR kR, .bool m.sending, .slice AS nS kS, .slice AY nY kY, .int .i64 m.sctp]
 have hx : goodStreams m = (decide (1 ≤ nC) && ((decide (nC ≤ 16) && m.codecs.all goodC && unlike CodecS.type m.codecs) && ((decide (nE ≤ 14) && m.exts.all goodE && unlike ExtS.id m.exts) && ((decide (nR ≤ 3) && m.rids.all goodR && unlike tx m.rids) && ((decide (1 ≤ nR) || !m.sending) && ((decide (nS ≤ 16) && m.sources.all (fun _ => true) && unlike id m.sources) && ((decide (nY ≤ 1) && m.crypto.all goodY) && decide (m.sctp = 0)))))))) := by
  unfold goodStreams
  rw [hnC, hnE, hnR, hnS, hnY, show (m.sources.all fun _ => true) = true from List.all_eq_true.2 (fun _ _ => rfl)]
  simp [Bool.and_assoc]
 have HLC : Hid (∀ W, Below w.heap.size w W → Calls Tryz.prog 84 #[.slice AC nC kC, .int .i64 16, .func (.func 85) #[] #[], .func (.func 86) #[] #[]] W fun e w' => e = .returned (.bool (decide (nC ≤ 16) && m.codecs.all goodC && unlike CodecS.type m.codecs)) ∧ Below W.heap.size W w') := Lib.hid fun W hW =>
  goodListC_any AC nC kC m.codecs goodC W ((hvC.below hW).more hW.size) hnC (by omega) fun W' x vf _ hx hv => by
   obtain ⟨Af, kf, rfl, -⟩ := Rows.form hv
   exact goodCodec_any x Af _ kf W' (hv.more (Nat.le_trans (by omega) (by assumption : Below W.heap.size W W').size)) (hz.names x hx) (hz.feeds x hx)
 have HLE : Hid (∀ W, Below w.heap.size w W → Calls Tryz.prog 87 #[.slice AE nE kE, .int .i64 14, .func (.func 88) #[] #[], .func (.func 89) #[] #[]] W fun e w' => e = .returned (.bool (decide (nE ≤ 14) && m.exts.all goodE && unlike ExtS.id m.exts)) ∧ Below W.heap.size W w') := Lib.hid fun W hW =>
  goodListE_any AE nE kE m.exts goodE W ((hvE.below hW).more hW.size) hnE (by omega) fun W' x _ hx => goodExt_any x W' (by have := hz.uris x hx; unfold maxLen; omega)
 have HLR : Hid (∀ W, Below w.heap.size w W → Calls Tryz.prog 90 #[.slice AR nR kR, .int .i64 3, .func (.func 91) #[] #[], .func (.func 92) #[] #[]] W fun e w' => e = .returned (.bool (decide (nR ≤ 3) && m.rids.all goodR && unlike tx m.rids)) ∧ Below W.heap.size W w') := Lib.hid fun W hW =>
  goodListS_any AR nR kR m.rids goodR W ((hvR.below hW).more hW.size) hnR (by omega) fun W' x _ hx => (goodRid_any x W' (by have := hz.rids x hx; unfold maxLen; omega)).mono fun e w' ⟨h1, h2⟩ => ⟨h1, h2 ▸ Below.refl _ _⟩
 have HLS : Hid (∀ W, Below w.heap.size w W → Calls Tryz.prog 93 #[.slice AS nS kS, .int .i64 16, .func (.func 94) #[] #[], .func (.func 95) #[] #[]] W fun e w' => e = .returned (.bool (decide (nS ≤ 16) && m.sources.all (fun _ => true) && unlike id m.sources)) ∧ Below W.heap.size W w') := Lib.hid fun W hW =>
  goodListU_any AS nS kS m.sources (fun _ => true) W ((hvS.below hW).more hW.size) hnS (by omega) fun W' x _ hx => (anySource_any _ W').mono fun e w' ⟨h1, h2⟩ => ⟨h1, h2 ▸ Below.refl _ _⟩
 have HLY : Hid (∀ W, Below w.heap.size w W → Calls Tryz.prog 96 #[.slice AY nY kY, .int .i64 1, .func (.func 97) #[] #[], .func (.func 98) #[] #[]] W fun e w' => e = .returned (.bool (decide (nY ≤ 1) && m.crypto.all goodY)) ∧ Below W.heap.size W w') := Lib.hid fun W hW =>
  goodListY_any AY nY kY m.crypto W ((hvY.below hW).more hW.size) hnY (by omega)
 have HX := Lib.hid hx
 generalize goodStreams m = r at *
 generalize (decide (nC ≤ 16) && m.codecs.all goodC && unlike CodecS.type m.codecs) = tC at *
 generalize (decide (nE ≤ 14) && m.exts.all goodE && unlike ExtS.id m.exts) = tE at *
 generalize (decide (nR ≤ 3) && m.rids.all goodR && unlike tx m.rids) = tR at *
 generalize (decide (nS ≤ 16) && m.sources.all (fun _ => true) && unlike id m.sources) = tS at *
 generalize (decide (nY ≤ 1) && m.crypto.all goodY) = tY at *
 obtain ⟨sd, hsd⟩ : ∃ b, m.sending = b := ⟨_, rfl⟩
 obtain ⟨sc, hsc⟩ : ∃ b, m.sctp = b := ⟨_, rfl⟩
 rw [hsd] at HX
 rw [hsc] at HX
 simp only [hsd, hsc] at hb0 hw ⊢
 clear hx hvC hvE hvR hvS hvY hz hnC hnE hnR hnS hnY hsd hsc
 obtain ⟨N, hN⟩ : ∃ N, w.heap.size = N := ⟨_, rfl⟩
 have HBX := Lib.hid hw
 have HB := Lib.hid hb0
 rw [hN] at HBX HB HLC HLE HLR HLS HLY ⊢
 clear hb0 hw
 go_enter Tryz.func43, Tryz.ntmps43
 go_upto_region 1 with fail
 generalize w.alloc (.cells #[.int .i64 m.kind, .int .i64 m.port, .string m.mid, .int .i64 m.dir, .slice AC nC kC, .slice AE nE kE, .slice AR nR kR, .bool sd, .slice AS nS kS, .slice AY nY kY, .int .i64 sc] 28) = W0 at *
 have HN : Hid (N ≤ W0.heap.size) := Lib.hid (Nat.le_of_lt HBX.out.lt)
 clear hN
 have H0 : Hid (Below W0.heap.size W0 W0) := Lib.hid (Below.refl _ _)
 have c4 : W0.cell? ⟨N, 4, none⟩ = some (.slice AC nC kC) := HBX.out.cell 4
 by_cases hl1 : 1 ≤ nC
 · have hl10 : (0 : Int) < (nC : Int) := by omega
   cases tC with
   | false =>
     have HQ : Hid (r = false) := Lib.hid (by rw [HX.out]; simp)
     go_wp2_with (first
      | (go_at_call 84; (with_reducible refine (HLC.out _ (HB.out.trans (H0.out.mono HN.out))).mono ?_); rintro e w1 ⟨rfl, hb1⟩; have H1 : Hid (Below W0.heap.size W0 w1) := Lib.hid (H0.out.trans (hb1.mono H0.out.size)); clear hb1; have d5 : w1.cell? ⟨N, 5, none⟩ = some (.slice AE nE kE) := (HBX.out.under H1.out).cell 5))
     go_ret
     exact ⟨ret_bool HQ.out.symm, HB.out.trans (H1.out.mono HN.out)⟩
   | true =>
     cases tE with
     | false =>
       have HQ : Hid (r = false) := Lib.hid (by rw [HX.out]; simp)
       go_wp2_with (first
        | (go_at_call 84; (with_reducible refine (HLC.out _ (HB.out.trans (H0.out.mono HN.out))).mono ?_); rintro e w1 ⟨rfl, hb1⟩; have H1 : Hid (Below W0.heap.size W0 w1) := Lib.hid (H0.out.trans (hb1.mono H0.out.size)); clear hb1; have d5 : w1.cell? ⟨N, 5, none⟩ = some (.slice AE nE kE) := (HBX.out.under H1.out).cell 5)
        | (go_at_call 87; (with_reducible refine (HLE.out _ (HB.out.trans (H1.out.mono HN.out))).mono ?_); rintro e w2 ⟨rfl, hb2⟩; have H2 : Hid (Below W0.heap.size W0 w2) := Lib.hid (H1.out.trans (hb2.mono H1.out.size)); clear hb2; have d6 : w2.cell? ⟨N, 6, none⟩ = some (.slice AR nR kR) := (HBX.out.under H2.out).cell 6))
       go_ret
       exact ⟨ret_bool HQ.out.symm, HB.out.trans (H2.out.mono HN.out)⟩
     | true =>
       cases tR with
       | false =>
         have HQ : Hid (r = false) := Lib.hid (by rw [HX.out]; simp)
         go_wp2_with (first
          | (go_at_call 84; (with_reducible refine (HLC.out _ (HB.out.trans (H0.out.mono HN.out))).mono ?_); rintro e w1 ⟨rfl, hb1⟩; have H1 : Hid (Below W0.heap.size W0 w1) := Lib.hid (H0.out.trans (hb1.mono H0.out.size)); clear hb1; have d5 : w1.cell? ⟨N, 5, none⟩ = some (.slice AE nE kE) := (HBX.out.under H1.out).cell 5)
          | (go_at_call 87; (with_reducible refine (HLE.out _ (HB.out.trans (H1.out.mono HN.out))).mono ?_); rintro e w2 ⟨rfl, hb2⟩; have H2 : Hid (Below W0.heap.size W0 w2) := Lib.hid (H1.out.trans (hb2.mono H1.out.size)); clear hb2; have d6 : w2.cell? ⟨N, 6, none⟩ = some (.slice AR nR kR) := (HBX.out.under H2.out).cell 6)
          | (go_at_call 90; (with_reducible refine (HLR.out _ (HB.out.trans (H2.out.mono HN.out))).mono ?_); rintro e w3 ⟨rfl, hb3⟩; have H3 : Hid (Below W0.heap.size W0 w3) := Lib.hid (H2.out.trans (hb3.mono H2.out.size)); clear hb3; have d6 : w3.cell? ⟨N, 6, none⟩ = some (.slice AR nR kR) := (HBX.out.under H3.out).cell 6; have d7 : w3.cell? ⟨N, 7, none⟩ = some (.bool sd) := (HBX.out.under H3.out).cell 7; have d8 : w3.cell? ⟨N, 8, none⟩ = some (.slice AS nS kS) := (HBX.out.under H3.out).cell 8))
         go_ret
         exact ⟨ret_bool HQ.out.symm, HB.out.trans (H3.out.mono HN.out)⟩
       | true =>
         by_cases hlr : 1 ≤ nR
         · have hlr0 : (0 : Int) < (nR : Int) := by omega
           have hsx : (1 ≤ nR ∨ sd = false) := .inl hlr
           cases tS with
           | false =>
             have HQ : Hid (r = false) := Lib.hid (by rw [HX.out]; simp)
             go_wp2_with (first
              | (go_at_call 84; (with_reducible refine (HLC.out _ (HB.out.trans (H0.out.mono HN.out))).mono ?_); rintro e w1 ⟨rfl, hb1⟩; have H1 : Hid (Below W0.heap.size W0 w1) := Lib.hid (H0.out.trans (hb1.mono H0.out.size)); clear hb1; have d5 : w1.cell? ⟨N, 5, none⟩ = some (.slice AE nE kE) := (HBX.out.under H1.out).cell 5)
              | (go_at_call 87; (with_reducible refine (HLE.out _ (HB.out.trans (H1.out.mono HN.out))).mono ?_); rintro e w2 ⟨rfl, hb2⟩; have H2 : Hid (Below W0.heap.size W0 w2) := Lib.hid (H1.out.trans (hb2.mono H1.out.size)); clear hb2; have d6 : w2.cell? ⟨N, 6, none⟩ = some (.slice AR nR kR) := (HBX.out.under H2.out).cell 6)
              | (go_at_call 90; (with_reducible refine (HLR.out _ (HB.out.trans (H2.out.mono HN.out))).mono ?_); rintro e w3 ⟨rfl, hb3⟩; have H3 : Hid (Below W0.heap.size W0 w3) := Lib.hid (H2.out.trans (hb3.mono H2.out.size)); clear hb3; have d6 : w3.cell? ⟨N, 6, none⟩ = some (.slice AR nR kR) := (HBX.out.under H3.out).cell 6; have d7 : w3.cell? ⟨N, 7, none⟩ = some (.bool sd) := (HBX.out.under H3.out).cell 7; have d8 : w3.cell? ⟨N, 8, none⟩ = some (.slice AS nS kS) := (HBX.out.under H3.out).cell 8)
              | (go_at_call 93; (with_reducible refine (HLS.out _ (HB.out.trans (H3.out.mono HN.out))).mono ?_); rintro e w4 ⟨rfl, hb4⟩; have H4 : Hid (Below W0.heap.size W0 w4) := Lib.hid (H3.out.trans (hb4.mono H3.out.size)); clear hb4; have d9 : w4.cell? ⟨N, 9, none⟩ = some (.slice AY nY kY) := (HBX.out.under H4.out).cell 9))
             go_ret
             exact ⟨ret_bool HQ.out.symm, HB.out.trans (H4.out.mono HN.out)⟩
           | true =>
             cases tY with
             | false =>
               have HQ : Hid (r = false) := Lib.hid (by rw [HX.out]; simp)
               go_wp2_with (first
                | (go_at_call 84; (with_reducible refine (HLC.out _ (HB.out.trans (H0.out.mono HN.out))).mono ?_); rintro e w1 ⟨rfl, hb1⟩; have H1 : Hid (Below W0.heap.size W0 w1) := Lib.hid (H0.out.trans (hb1.mono H0.out.size)); clear hb1; have d5 : w1.cell? ⟨N, 5, none⟩ = some (.slice AE nE kE) := (HBX.out.under H1.out).cell 5)
                | (go_at_call 87; (with_reducible refine (HLE.out _ (HB.out.trans (H1.out.mono HN.out))).mono ?_); rintro e w2 ⟨rfl, hb2⟩; have H2 : Hid (Below W0.heap.size W0 w2) := Lib.hid (H1.out.trans (hb2.mono H1.out.size)); clear hb2; have d6 : w2.cell? ⟨N, 6, none⟩ = some (.slice AR nR kR) := (HBX.out.under H2.out).cell 6)
                | (go_at_call 90; (with_reducible refine (HLR.out _ (HB.out.trans (H2.out.mono HN.out))).mono ?_); rintro e w3 ⟨rfl, hb3⟩; have H3 : Hid (Below W0.heap.size W0 w3) := Lib.hid (H2.out.trans (hb3.mono H2.out.size)); clear hb3; have d6 : w3.cell? ⟨N, 6, none⟩ = some (.slice AR nR kR) := (HBX.out.under H3.out).cell 6; have d7 : w3.cell? ⟨N, 7, none⟩ = some (.bool sd) := (HBX.out.under H3.out).cell 7; have d8 : w3.cell? ⟨N, 8, none⟩ = some (.slice AS nS kS) := (HBX.out.under H3.out).cell 8)
                | (go_at_call 93; (with_reducible refine (HLS.out _ (HB.out.trans (H3.out.mono HN.out))).mono ?_); rintro e w4 ⟨rfl, hb4⟩; have H4 : Hid (Below W0.heap.size W0 w4) := Lib.hid (H3.out.trans (hb4.mono H3.out.size)); clear hb4; have d9 : w4.cell? ⟨N, 9, none⟩ = some (.slice AY nY kY) := (HBX.out.under H4.out).cell 9)
                | (go_at_call 96; (with_reducible refine (HLY.out _ (HB.out.trans (H4.out.mono HN.out))).mono ?_); rintro e w5 ⟨rfl, hb5⟩; have H5 : Hid (Below W0.heap.size W0 w5) := Lib.hid (H4.out.trans (hb5.mono H4.out.size)); clear hb5; have d10 : w5.cell? ⟨N, 10, none⟩ = some (.int .i64 sc) := (HBX.out.under H5.out).cell 10))
               go_ret
               exact ⟨ret_bool HQ.out.symm, HB.out.trans (H5.out.mono HN.out)⟩
             | true =>
               have HQ : Hid ((sc == 0) = r) := Lib.hid (by rw [HX.out]; rw [Bool.eq_iff_iff]; simp [hl1, hsx])
               go_wp2_with (first
                | (go_at_call 84; (with_reducible refine (HLC.out _ (HB.out.trans (H0.out.mono HN.out))).mono ?_); rintro e w1 ⟨rfl, hb1⟩; have H1 : Hid (Below W0.heap.size W0 w1) := Lib.hid (H0.out.trans (hb1.mono H0.out.size)); clear hb1; have d5 : w1.cell? ⟨N, 5, none⟩ = some (.slice AE nE kE) := (HBX.out.under H1.out).cell 5)
                | (go_at_call 87; (with_reducible refine (HLE.out _ (HB.out.trans (H1.out.mono HN.out))).mono ?_); rintro e w2 ⟨rfl, hb2⟩; have H2 : Hid (Below W0.heap.size W0 w2) := Lib.hid (H1.out.trans (hb2.mono H1.out.size)); clear hb2; have d6 : w2.cell? ⟨N, 6, none⟩ = some (.slice AR nR kR) := (HBX.out.under H2.out).cell 6)
                | (go_at_call 90; (with_reducible refine (HLR.out _ (HB.out.trans (H2.out.mono HN.out))).mono ?_); rintro e w3 ⟨rfl, hb3⟩; have H3 : Hid (Below W0.heap.size W0 w3) := Lib.hid (H2.out.trans (hb3.mono H2.out.size)); clear hb3; have d6 : w3.cell? ⟨N, 6, none⟩ = some (.slice AR nR kR) := (HBX.out.under H3.out).cell 6; have d7 : w3.cell? ⟨N, 7, none⟩ = some (.bool sd) := (HBX.out.under H3.out).cell 7; have d8 : w3.cell? ⟨N, 8, none⟩ = some (.slice AS nS kS) := (HBX.out.under H3.out).cell 8)
                | (go_at_call 93; (with_reducible refine (HLS.out _ (HB.out.trans (H3.out.mono HN.out))).mono ?_); rintro e w4 ⟨rfl, hb4⟩; have H4 : Hid (Below W0.heap.size W0 w4) := Lib.hid (H3.out.trans (hb4.mono H3.out.size)); clear hb4; have d9 : w4.cell? ⟨N, 9, none⟩ = some (.slice AY nY kY) := (HBX.out.under H4.out).cell 9)
                | (go_at_call 96; (with_reducible refine (HLY.out _ (HB.out.trans (H4.out.mono HN.out))).mono ?_); rintro e w5 ⟨rfl, hb5⟩; have H5 : Hid (Below W0.heap.size W0 w5) := Lib.hid (H4.out.trans (hb5.mono H4.out.size)); clear hb5; have d10 : w5.cell? ⟨N, 10, none⟩ = some (.int .i64 sc) := (HBX.out.under H5.out).cell 10))
               go_ret
               exact ⟨ret_bool HQ.out, HB.out.trans (H5.out.mono HN.out)⟩
         · have hlr0 : (nR : Int) ≤ 0 := by omega
           cases sd with
           | true =>
             have HQ : Hid (r = false) := Lib.hid (by rw [HX.out]; simp [hlr])
             go_wp2_with (first
              | (go_at_call 84; (with_reducible refine (HLC.out _ (HB.out.trans (H0.out.mono HN.out))).mono ?_); rintro e w1 ⟨rfl, hb1⟩; have H1 : Hid (Below W0.heap.size W0 w1) := Lib.hid (H0.out.trans (hb1.mono H0.out.size)); clear hb1; have d5 : w1.cell? ⟨N, 5, none⟩ = some (.slice AE nE kE) := (HBX.out.under H1.out).cell 5)
              | (go_at_call 87; (with_reducible refine (HLE.out _ (HB.out.trans (H1.out.mono HN.out))).mono ?_); rintro e w2 ⟨rfl, hb2⟩; have H2 : Hid (Below W0.heap.size W0 w2) := Lib.hid (H1.out.trans (hb2.mono H1.out.size)); clear hb2; have d6 : w2.cell? ⟨N, 6, none⟩ = some (.slice AR nR kR) := (HBX.out.under H2.out).cell 6)
              | (go_at_call 90; (with_reducible refine (HLR.out _ (HB.out.trans (H2.out.mono HN.out))).mono ?_); rintro e w3 ⟨rfl, hb3⟩; have H3 : Hid (Below W0.heap.size W0 w3) := Lib.hid (H2.out.trans (hb3.mono H2.out.size)); clear hb3; have d6 : w3.cell? ⟨N, 6, none⟩ = some (.slice AR nR kR) := (HBX.out.under H3.out).cell 6; have d7 : w3.cell? ⟨N, 7, none⟩ = some (.bool true) := (HBX.out.under H3.out).cell 7; have d8 : w3.cell? ⟨N, 8, none⟩ = some (.slice AS nS kS) := (HBX.out.under H3.out).cell 8))
             go_ret
             exact ⟨ret_bool HQ.out.symm, HB.out.trans (H3.out.mono HN.out)⟩
           | false =>
             have hsx : (1 ≤ nR ∨ false = false) := .inr rfl
             cases tS with
             | false =>
               have HQ : Hid (r = false) := Lib.hid (by rw [HX.out]; simp)
               go_wp2_with (first
                | (go_at_call 84; (with_reducible refine (HLC.out _ (HB.out.trans (H0.out.mono HN.out))).mono ?_); rintro e w1 ⟨rfl, hb1⟩; have H1 : Hid (Below W0.heap.size W0 w1) := Lib.hid (H0.out.trans (hb1.mono H0.out.size)); clear hb1; have d5 : w1.cell? ⟨N, 5, none⟩ = some (.slice AE nE kE) := (HBX.out.under H1.out).cell 5)
                | (go_at_call 87; (with_reducible refine (HLE.out _ (HB.out.trans (H1.out.mono HN.out))).mono ?_); rintro e w2 ⟨rfl, hb2⟩; have H2 : Hid (Below W0.heap.size W0 w2) := Lib.hid (H1.out.trans (hb2.mono H1.out.size)); clear hb2; have d6 : w2.cell? ⟨N, 6, none⟩ = some (.slice AR nR kR) := (HBX.out.under H2.out).cell 6)
                | (go_at_call 90; (with_reducible refine (HLR.out _ (HB.out.trans (H2.out.mono HN.out))).mono ?_); rintro e w3 ⟨rfl, hb3⟩; have H3 : Hid (Below W0.heap.size W0 w3) := Lib.hid (H2.out.trans (hb3.mono H2.out.size)); clear hb3; have d6 : w3.cell? ⟨N, 6, none⟩ = some (.slice AR nR kR) := (HBX.out.under H3.out).cell 6; have d7 : w3.cell? ⟨N, 7, none⟩ = some (.bool false) := (HBX.out.under H3.out).cell 7; have d8 : w3.cell? ⟨N, 8, none⟩ = some (.slice AS nS kS) := (HBX.out.under H3.out).cell 8)
                | (go_at_call 93; (with_reducible refine (HLS.out _ (HB.out.trans (H3.out.mono HN.out))).mono ?_); rintro e w4 ⟨rfl, hb4⟩; have H4 : Hid (Below W0.heap.size W0 w4) := Lib.hid (H3.out.trans (hb4.mono H3.out.size)); clear hb4; have d9 : w4.cell? ⟨N, 9, none⟩ = some (.slice AY nY kY) := (HBX.out.under H4.out).cell 9))
               go_ret
               exact ⟨ret_bool HQ.out.symm, HB.out.trans (H4.out.mono HN.out)⟩
             | true =>
               cases tY with
               | false =>
                 have HQ : Hid (r = false) := Lib.hid (by rw [HX.out]; simp)
                 go_wp2_with (first
                  | (go_at_call 84; (with_reducible refine (HLC.out _ (HB.out.trans (H0.out.mono HN.out))).mono ?_); rintro e w1 ⟨rfl, hb1⟩; have H1 : Hid (Below W0.heap.size W0 w1) := Lib.hid (H0.out.trans (hb1.mono H0.out.size)); clear hb1; have d5 : w1.cell? ⟨N, 5, none⟩ = some (.slice AE nE kE) := (HBX.out.under H1.out).cell 5)
                  | (go_at_call 87; (with_reducible refine (HLE.out _ (HB.out.trans (H1.out.mono HN.out))).mono ?_); rintro e w2 ⟨rfl, hb2⟩; have H2 : Hid (Below W0.heap.size W0 w2) := Lib.hid (H1.out.trans (hb2.mono H1.out.size)); clear hb2; have d6 : w2.cell? ⟨N, 6, none⟩ = some (.slice AR nR kR) := (HBX.out.under H2.out).cell 6)
                  | (go_at_call 90; (with_reducible refine (HLR.out _ (HB.out.trans (H2.out.mono HN.out))).mono ?_); rintro e w3 ⟨rfl, hb3⟩; have H3 : Hid (Below W0.heap.size W0 w3) := Lib.hid (H2.out.trans (hb3.mono H2.out.size)); clear hb3; have d6 : w3.cell? ⟨N, 6, none⟩ = some (.slice AR nR kR) := (HBX.out.under H3.out).cell 6; have d7 : w3.cell? ⟨N, 7, none⟩ = some (.bool false) := (HBX.out.under H3.out).cell 7; have d8 : w3.cell? ⟨N, 8, none⟩ = some (.slice AS nS kS) := (HBX.out.under H3.out).cell 8)
                  | (go_at_call 93; (with_reducible refine (HLS.out _ (HB.out.trans (H3.out.mono HN.out))).mono ?_); rintro e w4 ⟨rfl, hb4⟩; have H4 : Hid (Below W0.heap.size W0 w4) := Lib.hid (H3.out.trans (hb4.mono H3.out.size)); clear hb4; have d9 : w4.cell? ⟨N, 9, none⟩ = some (.slice AY nY kY) := (HBX.out.under H4.out).cell 9)
                  | (go_at_call 96; (with_reducible refine (HLY.out _ (HB.out.trans (H4.out.mono HN.out))).mono ?_); rintro e w5 ⟨rfl, hb5⟩; have H5 : Hid (Below W0.heap.size W0 w5) := Lib.hid (H4.out.trans (hb5.mono H4.out.size)); clear hb5; have d10 : w5.cell? ⟨N, 10, none⟩ = some (.int .i64 sc) := (HBX.out.under H5.out).cell 10))
                 go_ret
                 exact ⟨ret_bool HQ.out.symm, HB.out.trans (H5.out.mono HN.out)⟩
               | true =>
                 have HQ : Hid ((sc == 0) = r) := Lib.hid (by rw [HX.out]; rw [Bool.eq_iff_iff]; simp [hl1, hsx])
                 go_wp2_with (first
                  | (go_at_call 84; (with_reducible refine (HLC.out _ (HB.out.trans (H0.out.mono HN.out))).mono ?_); rintro e w1 ⟨rfl, hb1⟩; have H1 : Hid (Below W0.heap.size W0 w1) := Lib.hid (H0.out.trans (hb1.mono H0.out.size)); clear hb1; have d5 : w1.cell? ⟨N, 5, none⟩ = some (.slice AE nE kE) := (HBX.out.under H1.out).cell 5)
                  | (go_at_call 87; (with_reducible refine (HLE.out _ (HB.out.trans (H1.out.mono HN.out))).mono ?_); rintro e w2 ⟨rfl, hb2⟩; have H2 : Hid (Below W0.heap.size W0 w2) := Lib.hid (H1.out.trans (hb2.mono H1.out.size)); clear hb2; have d6 : w2.cell? ⟨N, 6, none⟩ = some (.slice AR nR kR) := (HBX.out.under H2.out).cell 6)
                  | (go_at_call 90; (with_reducible refine (HLR.out _ (HB.out.trans (H2.out.mono HN.out))).mono ?_); rintro e w3 ⟨rfl, hb3⟩; have H3 : Hid (Below W0.heap.size W0 w3) := Lib.hid (H2.out.trans (hb3.mono H2.out.size)); clear hb3; have d6 : w3.cell? ⟨N, 6, none⟩ = some (.slice AR nR kR) := (HBX.out.under H3.out).cell 6; have d7 : w3.cell? ⟨N, 7, none⟩ = some (.bool false) := (HBX.out.under H3.out).cell 7; have d8 : w3.cell? ⟨N, 8, none⟩ = some (.slice AS nS kS) := (HBX.out.under H3.out).cell 8)
                  | (go_at_call 93; (with_reducible refine (HLS.out _ (HB.out.trans (H3.out.mono HN.out))).mono ?_); rintro e w4 ⟨rfl, hb4⟩; have H4 : Hid (Below W0.heap.size W0 w4) := Lib.hid (H3.out.trans (hb4.mono H3.out.size)); clear hb4; have d9 : w4.cell? ⟨N, 9, none⟩ = some (.slice AY nY kY) := (HBX.out.under H4.out).cell 9)
                  | (go_at_call 96; (with_reducible refine (HLY.out _ (HB.out.trans (H4.out.mono HN.out))).mono ?_); rintro e w5 ⟨rfl, hb5⟩; have H5 : Hid (Below W0.heap.size W0 w5) := Lib.hid (H4.out.trans (hb5.mono H4.out.size)); clear hb5; have d10 : w5.cell? ⟨N, 10, none⟩ = some (.int .i64 sc) := (HBX.out.under H5.out).cell 10))
                 go_ret
                 exact ⟨ret_bool HQ.out, HB.out.trans (H5.out.mono HN.out)⟩
 · have hl10 : (nC : Int) ≤ 0 := by omega
   have HQ : Hid (r = false) := Lib.hid (by rw [HX.out]; simp [hl1])
   go_wp2
   go_ret
   exact ⟨ret_bool HQ.out.symm, HB.out⟩
set_option maxHeartbeats 3200000 in
set_option maxRecDepth 100000 in
theorem goodChannel_any (M : Array Value) (m : MediaS) (vC vE vR vS vY : Value) (w : World) (h : MediaV w w.heap.size M m vC vE vR vS vY) (hz : SizM m) :
 Calls Tryz.prog 44 #[.agg M] w fun e w' => e = .returned (.bool (goodChannel m)) ∧ Below w.heap.size w w' := by
 obtain ⟨AC, kC, AE, kE, AR, kR, AS, kS, AY, kY, rfl, rfl, rfl, rfl, rfl⟩ := h.forms
 obtain ⟨hform, hvC, hvE, hvR, hvS, hvY⟩ := h
 subst hform
 obtain ⟨nC, hnC⟩ : ∃ n, m.codecs.length = n := ⟨_, rfl⟩
 obtain ⟨nE, hnE⟩ : ∃ n, m.exts.length = n := ⟨_, rfl⟩
 obtain ⟨nR, hnR⟩ : ∃ n, m.rids.length = n := ⟨_, rfl⟩
 obtain ⟨nS, hnS⟩ : ∃ n, m.sources.length = n := ⟨_, rfl⟩
 obtain ⟨nY, hnY⟩ : ∃ n, m.crypto.length = n := ⟨_, rfl⟩
 obtain ⟨hc1, hc2, hc3, hc4, hc5⟩ := hz.counts
 rw [hnC] at hvC hc1
 rw [hnE] at hvE hc2
 rw [hnR] at hvR hc3
 rw [hnS] at hvS hc4
 rw [hnY] at hvY hc5
 rw [hnC, hnE, hnR, hnS, hnY]
 have hb0 : Below w.heap.size w (w.alloc (.cells #[.int .i64 m.kind, .int .i64 m.port, .string m.mid, .int .i64 m.dir, .slice AC nC kC, .slice AE nE kE, .slice AR nR kR, .bool m.sending, .slice AS nS kS, .slice AY nY kY, .int .i64 m.sctp] 28)) := (Below.refl _ w).alloc (Nat.le_refl _) _
 have hw := Whole.new w 28 #[.int .i64 m.kind, .int .i64 m.port, .string m.mid, .int .i64 m.dir, .slice AC nC kC, .slice AE nE kE, .slice AR nR kR, .bool m.sending, .slice AS nS kS, .slice AY nY kY, .int .i64 m.sctp]
 have hx : goodChannel m = (decide (nC + nE + nR + nS + nY = 0) && (!m.sending && (decide (1 ≤ m.sctp) && decide (m.sctp ≤ 65535)))) := by
  unfold goodChannel
  rw [hnC, hnE, hnR, hnS, hnY]
  simp [Bool.and_assoc]
 have HX := Lib.hid hx
 have HB := Lib.hid hb0
 have HW := Lib.hid (within_any m.sctp 1 65535 (w.alloc (.cells #[.int .i64 m.kind, .int .i64 m.port, .string m.mid, .int .i64 m.dir, .slice AC nC kC, .slice AE nE kE, .slice AR nR kR, .bool m.sending, .slice AS nS kS, .slice AY nY kY, .int .i64 m.sctp] 28)))
 have c4 := hw.cell 4
 have c5 := hw.cell 5
 have c6 := hw.cell 6
 have c7 := hw.cell 7
 have c8 := hw.cell 8
 have c9 := hw.cell 9
 have c10 := hw.cell 10
 simp only [List.getElem?_toArray, List.getElem?_cons_zero, List.getElem?_cons_succ] at c4 c5 c6 c7 c8 c9 c10
 generalize goodChannel m = r at *
 generalize (decide (1 ≤ m.sctp) && decide (m.sctp ≤ 65535)) = t at *
 generalize m.sctp = sc at *
 generalize m.sending = sd at *
 clear hx hvC hvE hvR hvS hvY hz hnC hnE hnR hnS hnY hb0 hw
 have w1 : IntKind.i64.wrap ((nC : Int) + (nE : Int)) = (nC : Int) + (nE : Int) := IntWalk.i64_in _ (by omega)
 have w2 : IntKind.i64.wrap ((nC : Int) + (nE : Int) + (nR : Int)) = (nC : Int) + (nE : Int) + (nR : Int) := IntWalk.i64_in _ (by omega)
 have w3 : IntKind.i64.wrap ((nC : Int) + (nE : Int) + (nR : Int) + (nS : Int)) = (nC : Int) + (nE : Int) + (nR : Int) + (nS : Int) := IntWalk.i64_in _ (by omega)
 have w4 : IntKind.i64.wrap ((nC : Int) + (nE : Int) + (nR : Int) + (nS : Int) + (nY : Int)) = (nC : Int) + (nE : Int) + (nR : Int) + (nS : Int) + (nY : Int) := IntWalk.i64_in _ (by omega)
 obtain ⟨N, hN⟩ : ∃ N, w.heap.size = N := ⟨_, rfl⟩
 rw [hN] at HB c4 c5 c6 c7 c8 c9 c10 ⊢
 by_cases hs : nC + nE + nR + nS + nY = 0
 · have hz : ((nC : Int) + (nE : Int) + (nR : Int) + (nS : Int) + (nY : Int) == 0) = true := by rw [beq_iff_eq]; omega
   cases sd with
   | false =>
     have HQ : Hid (t = r) := Lib.hid (by rw [HX.out, decide_eq_true hs]; simp)
     clear hs
     go_enter Tryz.func44, Tryz.ntmps44
     go_wp2_with (go_at_call 42; (with_reducible refine HW.out.mono ?_); rintro e w' ⟨rfl, rfl⟩)
     go_ret
     exact ⟨ret_bool HQ.out, HB.out⟩
   | true =>
     have HQ : Hid (r = false) := Lib.hid (by rw [HX.out]; simp)
     clear hs
     go_enter Tryz.func44, Tryz.ntmps44
     go_wp2
     go_ret
     exact ⟨ret_bool HQ.out.symm, HB.out⟩
 · have hz : ((nC : Int) + (nE : Int) + (nR : Int) + (nS : Int) + (nY : Int) == 0) = false := by rw [beq_eq_false_iff_ne]; omega
   have HQ : Hid (r = false) := Lib.hid (by rw [HX.out, decide_eq_false hs]; rfl)
   clear hs
   go_enter Tryz.func44, Tryz.ntmps44
   go_wp2
   go_ret
   exact ⟨ret_bool HQ.out.symm, HB.out⟩
set_option maxHeartbeats 6400000 in
set_option maxRecDepth 100000 in
theorem good_any (M : Array Value) (m : MediaS) (vC vE vR vS vY : Value) (w : World) (h : MediaV w w.heap.size M m vC vE vR vS vY) (hz : SizM m) :
 Calls Tryz.prog 19 #[.agg M] w fun e w' => e = .returned (.bool (goodM m)) ∧ Below w.heap.size w w' := by
 have hb0 : Below w.heap.size w (w.alloc (.cells M 28)) := (Below.refl _ w).alloc (Nat.le_refl _) _
 have hw := Whole.new w 28 M
 have h0 := h.under hb0
 have hform := h.form
 have c0 : (w.alloc (.cells M 28)).cell? ⟨w.heap.size, 0, none⟩ = some (.int .i64 m.kind) := (hw.cell 0).trans (by rw [hform]; rfl)
 have c1 : (w.alloc (.cells M 28)).cell? ⟨w.heap.size, 1, none⟩ = some (.int .i64 m.port) := (hw.cell 1).trans (by rw [hform]; rfl)
 have c2 : (w.alloc (.cells M 28)).cell? ⟨w.heap.size, 2, none⟩ = some (.string m.mid) := (hw.cell 2).trans (by rw [hform]; rfl)
 have c3 : (w.alloc (.cells M 28)).cell? ⟨w.heap.size, 3, none⟩ = some (.int .i64 m.dir) := (hw.cell 3).trans (by rw [hform]; rfl)
 have HS := Lib.hid (goodStreams_any M m vC vE vR vS vY _ h0 hz)
 have HCH := Lib.hid (goodChannel_any M m vC vE vR vS vY _ h0 hz)
 have HWO : Hid (Calls Tryz.prog 41 #[.string m.mid, .int .i64 16] (w.alloc (.cells M 28)) fun e w' => e = .returned (.bool (wordP 1 16 (tx m.mid))) ∧ (w.alloc (.cells M 28)) = w') := Lib.hid (wordOf_any m.mid 16 _ (by have := hz.mid; unfold maxLen; omega) (by decide))
 have HWI := Lib.hid (within_any m.dir 0 3 (w.alloc (.cells M 28)))
 have hx : goodM m = (((decide (m.port = 0) || decide (m.port = 9)) && (wordP 1 16 (tx m.mid) && (decide (0 ≤ m.dir) && decide (m.dir ≤ 3)))) && ((decide (m.kind = 1) || decide (m.kind = 2)) && goodStreams m || decide (m.kind = 3) && goodChannel m)) := by
  unfold goodM goodHead
  simp only [Bool.and_assoc]
 have HX := Lib.hid hx
 have HB := Lib.hid (And.intro hb0 (And.intro hw h.size))
 generalize goodM m = r at *
 generalize goodStreams m = gs at *
 generalize goodChannel m = gc at *
 generalize (decide (0 ≤ m.dir) && decide (m.dir ≤ 3)) = td at *
 generalize wordP 1 16 (tx m.mid) = tw at *
 generalize m.port = p at *
 generalize m.kind = k at *
 generalize m.dir = d at *
 generalize m.mid = md at *
 clear h h0 hz hx hb0 hw hform
 obtain ⟨N, hN⟩ : ∃ N, w.heap.size = N := ⟨_, rfl⟩
 have HSZ : Hid (N ≤ (w.alloc (.cells M 28)).heap.size) := Lib.hid (by rw [← hN]; exact HB.out.1.size)
 rw [hN] at c0 c1 c2 c3 HB ⊢
 have hgen : ∃ W0, w.alloc (.cells M 28) = W0 := ⟨_, rfl⟩
 go_enter Tryz.func19, Tryz.ntmps19
 go_upto_region 1 with fail
 generalize w.alloc (.cells M 28) = W0 at *
 clear hN hgen
 by_cases hp0 : p = 0
 · subst hp0
   cases tw with
   | false =>
     have HQ : Hid (r = false) := Lib.hid (by rw [HX.out]; simp)
     go_wp2_with (first
      | (go_at_call 41; (with_reducible refine HWO.out.mono ?_); rintro e w' ⟨rfl, rfl⟩))
     go_ret
     exact ⟨ret_bool HQ.out.symm, HB.out.1⟩
   | true =>
     cases td with
     | false =>
       have HQ : Hid (r = false) := Lib.hid (by rw [HX.out]; simp)
       go_wp2_with (first
        | (go_at_call 41; (with_reducible refine HWO.out.mono ?_); rintro e w' ⟨rfl, rfl⟩)
        | (go_at_call 42; (with_reducible refine HWI.out.mono ?_); rintro e w' ⟨rfl, rfl⟩))
       go_ret
       exact ⟨ret_bool HQ.out.symm, HB.out.1⟩
     | true =>
       by_cases hk1 : k = 1
       · subst hk1
         have HQ : Hid (gs = r) := Lib.hid (by rw [HX.out]; simp)
         go_wp2_with (first
          | (go_at_call 41; (with_reducible refine HWO.out.mono ?_); rintro e w' ⟨rfl, rfl⟩)
          | (go_at_call 42; (with_reducible refine HWI.out.mono ?_); rintro e w' ⟨rfl, rfl⟩)
          | ((with_reducible refine wpList_load_all ?_ 28 (.tmp 1) ?_ HB.out.2.1 ?_ Tryz.sizeMedia HB.out.2.2 Tryz.underlying28 ?_ ?_); (with_reducible rfl); (with_reducible rfl); rfl; rfl)
          | (go_at_call 43; (with_reducible refine HS.out.mono ?_); rintro e w2 ⟨rfl, hb2⟩))
         go_ret
         exact ⟨ret_bool HQ.out, HB.out.1.trans (hb2.mono HSZ.out)⟩
       · by_cases hk2 : k = 2
         · subst hk2
           have HQ : Hid (gs = r) := Lib.hid (by rw [HX.out]; simp)
           go_wp2_with (first
            | (go_at_call 41; (with_reducible refine HWO.out.mono ?_); rintro e w' ⟨rfl, rfl⟩)
            | (go_at_call 42; (with_reducible refine HWI.out.mono ?_); rintro e w' ⟨rfl, rfl⟩)
            | ((with_reducible refine wpList_load_all ?_ 28 (.tmp 1) ?_ HB.out.2.1 ?_ Tryz.sizeMedia HB.out.2.2 Tryz.underlying28 ?_ ?_); (with_reducible rfl); (with_reducible rfl); rfl; rfl)
            | (go_at_call 43; (with_reducible refine HS.out.mono ?_); rintro e w2 ⟨rfl, hb2⟩))
           go_ret
           exact ⟨ret_bool HQ.out, HB.out.1.trans (hb2.mono HSZ.out)⟩
         · by_cases hk3 : k = 3
           · subst hk3
             have HQ : Hid (gc = r) := Lib.hid (by rw [HX.out]; simp)
             go_wp2_with (first
              | (go_at_call 41; (with_reducible refine HWO.out.mono ?_); rintro e w' ⟨rfl, rfl⟩)
              | (go_at_call 42; (with_reducible refine HWI.out.mono ?_); rintro e w' ⟨rfl, rfl⟩)
              | ((with_reducible refine wpList_load_all ?_ 28 (.tmp 1) ?_ HB.out.2.1 ?_ Tryz.sizeMedia HB.out.2.2 Tryz.underlying28 ?_ ?_); (with_reducible rfl); (with_reducible rfl); rfl; rfl)
              | (go_at_call 44; (with_reducible refine HCH.out.mono ?_); rintro e w2 ⟨rfl, hb2⟩))
             go_ret
             exact ⟨ret_bool HQ.out, HB.out.1.trans (hb2.mono HSZ.out)⟩
           · have q1 : (k == 1) = false := by simpa using hk1
             have q2 : (k == 2) = false := by simpa using hk2
             have q3 : (k == 3) = false := by simpa using hk3
             have HQ : Hid (r = false) := Lib.hid (by rw [HX.out]; simp [hk1, hk2, hk3])
             go_wp2_with (first
              | (go_at_call 41; (with_reducible refine HWO.out.mono ?_); rintro e w' ⟨rfl, rfl⟩)
              | (go_at_call 42; (with_reducible refine HWI.out.mono ?_); rintro e w' ⟨rfl, rfl⟩))
             go_ret
             exact ⟨ret_bool HQ.out.symm, HB.out.1⟩
 · have q0 : (p == 0) = false := by simpa using hp0
   by_cases hp9 : p = 9
   · subst hp9
     cases tw with
     | false =>
       have HQ : Hid (r = false) := Lib.hid (by rw [HX.out]; simp)
       go_wp2_with (first
        | (go_at_call 41; (with_reducible refine HWO.out.mono ?_); rintro e w' ⟨rfl, rfl⟩))
       go_ret
       exact ⟨ret_bool HQ.out.symm, HB.out.1⟩
     | true =>
       cases td with
       | false =>
         have HQ : Hid (r = false) := Lib.hid (by rw [HX.out]; simp)
         go_wp2_with (first
          | (go_at_call 41; (with_reducible refine HWO.out.mono ?_); rintro e w' ⟨rfl, rfl⟩)
          | (go_at_call 42; (with_reducible refine HWI.out.mono ?_); rintro e w' ⟨rfl, rfl⟩))
         go_ret
         exact ⟨ret_bool HQ.out.symm, HB.out.1⟩
       | true =>
         by_cases hk1 : k = 1
         · subst hk1
           have HQ : Hid (gs = r) := Lib.hid (by rw [HX.out]; simp)
           go_wp2_with (first
            | (go_at_call 41; (with_reducible refine HWO.out.mono ?_); rintro e w' ⟨rfl, rfl⟩)
            | (go_at_call 42; (with_reducible refine HWI.out.mono ?_); rintro e w' ⟨rfl, rfl⟩)
            | ((with_reducible refine wpList_load_all ?_ 28 (.tmp 1) ?_ HB.out.2.1 ?_ Tryz.sizeMedia HB.out.2.2 Tryz.underlying28 ?_ ?_); (with_reducible rfl); (with_reducible rfl); rfl; rfl)
            | (go_at_call 43; (with_reducible refine HS.out.mono ?_); rintro e w2 ⟨rfl, hb2⟩))
           go_ret
           exact ⟨ret_bool HQ.out, HB.out.1.trans (hb2.mono HSZ.out)⟩
         · by_cases hk2 : k = 2
           · subst hk2
             have HQ : Hid (gs = r) := Lib.hid (by rw [HX.out]; simp)
             go_wp2_with (first
              | (go_at_call 41; (with_reducible refine HWO.out.mono ?_); rintro e w' ⟨rfl, rfl⟩)
              | (go_at_call 42; (with_reducible refine HWI.out.mono ?_); rintro e w' ⟨rfl, rfl⟩)
              | ((with_reducible refine wpList_load_all ?_ 28 (.tmp 1) ?_ HB.out.2.1 ?_ Tryz.sizeMedia HB.out.2.2 Tryz.underlying28 ?_ ?_); (with_reducible rfl); (with_reducible rfl); rfl; rfl)
              | (go_at_call 43; (with_reducible refine HS.out.mono ?_); rintro e w2 ⟨rfl, hb2⟩))
             go_ret
             exact ⟨ret_bool HQ.out, HB.out.1.trans (hb2.mono HSZ.out)⟩
           · by_cases hk3 : k = 3
             · subst hk3
               have HQ : Hid (gc = r) := Lib.hid (by rw [HX.out]; simp)
               go_wp2_with (first
                | (go_at_call 41; (with_reducible refine HWO.out.mono ?_); rintro e w' ⟨rfl, rfl⟩)
                | (go_at_call 42; (with_reducible refine HWI.out.mono ?_); rintro e w' ⟨rfl, rfl⟩)
                | ((with_reducible refine wpList_load_all ?_ 28 (.tmp 1) ?_ HB.out.2.1 ?_ Tryz.sizeMedia HB.out.2.2 Tryz.underlying28 ?_ ?_); (with_reducible rfl); (with_reducible rfl); rfl; rfl)
                | (go_at_call 44; (with_reducible refine HCH.out.mono ?_); rintro e w2 ⟨rfl, hb2⟩))
               go_ret
               exact ⟨ret_bool HQ.out, HB.out.1.trans (hb2.mono HSZ.out)⟩
             · have q1 : (k == 1) = false := by simpa using hk1
               have q2 : (k == 2) = false := by simpa using hk2
               have q3 : (k == 3) = false := by simpa using hk3
               have HQ : Hid (r = false) := Lib.hid (by rw [HX.out]; simp [hk1, hk2, hk3])
               go_wp2_with (first
                | (go_at_call 41; (with_reducible refine HWO.out.mono ?_); rintro e w' ⟨rfl, rfl⟩)
                | (go_at_call 42; (with_reducible refine HWI.out.mono ?_); rintro e w' ⟨rfl, rfl⟩))
               go_ret
               exact ⟨ret_bool HQ.out.symm, HB.out.1⟩
   · have q9 : (p == 9) = false := by simpa using hp9
     have HQ : Hid (r = false) := Lib.hid (by rw [HX.out]; simp [hp0, hp9])
     go_wp2
     go_ret
     exact ⟨ret_bool HQ.out.symm, HB.out.1⟩
theorem value_most (l : Tx) (m : Nat) (hm : m ≤ 200) : (l.all inVal && (decide (1 ≤ l.length) && decide ((l.length : Int) ≤ (m : Int)))) = (valP l && decide (l.length ≤ m)) := by
 unfold valP
 rw [Bool.eq_iff_iff]
 simp only [Bool.and_eq_true, decide_eq_true_eq]
 constructor
 · rintro ⟨h1, h2, h3⟩
   exact ⟨⟨h1, h2, by omega⟩, by omega⟩
 · rintro ⟨⟨h1, h2, h3⟩, h4⟩
   exact ⟨h1, h2, by omega⟩
theorem head_at (s : ByteArray) (h : 0 < s.size) : ((tx s).head? == some 32) = (((s[0]'h).toNat : Int) == 32) := by
 have hl : 0 < (tx s).length := by rw [tx_length]; exact h
 have e : (tx s).head? = some (s[0]'h) := by
  rw [List.head?_eq_getElem?]
  exact List.getElem?_eq_getElem hl
 rw [e, Bool.eq_iff_iff]
 simp only [beq_iff_eq, Option.some.injEq, ← UInt8.toNat_inj]
 rw [show (32 : UInt8).toNat = 32 from rfl]
 omega
theorem last_at (s : ByteArray) (h : s.size - 1 < s.size) : ((tx s).getLast? == some 32) = (((s[s.size - 1]'h).toNat : Int) == 32) := by
 have hl : s.size - 1 < (tx s).length := by rw [tx_length]; exact h
 have e : (tx s).getLast? = some (s[s.size - 1]'h) := by
  rw [List.getLast?_eq_getElem?, tx_length]
  exact List.getElem?_eq_getElem hl
 rw [e, Bool.eq_iff_iff]
 simp only [beq_iff_eq, Option.some.injEq, ← UInt8.toNat_inj]
 rw [show (32 : UInt8).toNat = 32 from rfl]
 omega
set_option maxHeartbeats 1600000 in
theorem rplain_any (s : ByteArray) (w : World) (hs : s.size ≤ maxLen) : Calls Tryz.prog 99 #[.string s, .int .i64 100] w fun e w' => e = .returned (.bool (plainP (tx s))) ∧ w = w' := by
 have HV : Hid (Calls Tryz.prog 100 #[.string s, .int .i64 100] w fun e w' => e = .returned (.bool (valP (tx s) && decide ((tx s).length ≤ 100))) ∧ w = w') := Lib.hid (by
  have := r6Value_any s 100 w hs
  have e := value_most (tx s) 100 (by decide)
  rw [tx_length] at e
  rw [show ((100 : Nat) : Int) = 100 from rfl] at e
  rw [e, ← tx_length] at this
  exact this)
 unfold maxLen at hs
 have HE : Hid (plainP (tx s) = ((valP (tx s) && decide ((tx s).length ≤ 100)) && (!((tx s).head? == some 32) && !((tx s).getLast? == some 32)))) := Lib.hid (by
  unfold plainP
  simp only [Bool.and_assoc])
 have HP : Hid ((valP (tx s) && decide ((tx s).length ≤ 100)) = true → 1 ≤ s.size) := Lib.hid (fun h => by
  simp only [Bool.and_eq_true] at h
  have := (valP_len h.1).1
  rwa [tx_length] at this)
 generalize (valP (tx s) && decide ((tx s).length ≤ 100)) = v at *
 cases v with
 | false =>
   have HR : Hid (false = plainP (tx s)) := Lib.hid (by rw [HE.out]; rfl)
   generalize plainP (tx s) = r at *
   go_enter Tryz.func99, Tryz.ntmps99
   go_wp2_with (go_at_call 100; (with_reducible refine HV.out.mono ?_); rintro e w' ⟨rfl, rfl⟩)
   go_ret
   exact ⟨ret_bool HR.out, rfl⟩
 | true =>
   have h1 : 1 ≤ s.size := HP.out rfl
   have h0 : 0 < s.size := by omega
   have hl : s.size - 1 < s.size := by omega
   have e1 : IntKind.i64.wrap ((s.size : Int) - 1) = ((s.size - 1 : Nat) : Int) := (IntWalk.i64_in _ (by omega)).trans (by omega)
   have hi0 : ((s.size - 1 : Nat) : Int) < (s.size : Int) := by omega
   have hi1 : (0 : Int) ≤ ((s.size - 1 : Nat) : Int) := by omega
   have hi2 : (0 : Int) < (s.size : Int) := by omega
   have hE := HE.out
   rw [head_at s h0, last_at s hl] at hE
   have HZ : Hid ((((s[0]'h0).toNat : Int) != 32 && ((s[s.size - 1]'hl).toNat : Int) != 32) = plainP (tx s)) := Lib.hid (by rw [hE]; rfl)
   clear hE HE HP
   generalize plainP (tx s) = r at *
   go_enter Tryz.func99, Tryz.ntmps99
   go_wp2_with (go_at_call 100; (with_reducible refine HV.out.mono ?_); rintro e w' ⟨rfl, rfl⟩)
   all_goals first
    | (go_ret; exact ⟨ret_bool HZ.out, rfl⟩)
    | (have hz := HZ.out; go_ret; exact ⟨ret_bool (by simp_all), rfl⟩)
set_option maxHeartbeats 1600000 in
theorem ruri_any (s : ByteArray) (w : World) (hs : s.size ≤ maxLen) : Calls Tryz.prog 47 #[.string s] w fun e w' => e = .returned (.bool (uriP (tx s))) ∧ w = w' := by
 have HV : Hid (Calls Tryz.prog 100 #[.string s, .int .i64 100] w fun e w' => e = .returned (.bool (valP (tx s) && decide ((tx s).length ≤ 100))) ∧ w = w') := Lib.hid (by
  have := r6Value_any s 100 w hs
  have e := value_most (tx s) 100 (by decide)
  rw [tx_length] at e
  rw [show ((100 : Nat) : Int) = 100 from rfl] at e
  rw [e, ← tx_length] at this
  exact this)
 unfold maxLen at hs
 have HE : Hid (uriP (tx s) = ((valP (tx s) && decide ((tx s).length ≤ 100)) && (tx s).all (fun c => c != 32))) := Lib.hid rfl
 have HT : Hid (∀ k, s.size ≤ k → (tx s).take k = tx s) := Lib.hid fun k hk => List.take_of_length_le (by rw [tx_length]; exact hk)
 have HBD : Hid (∀ c ∈ tx s, c.toNat < 33 → uriP (tx s) = false) := Lib.hid (fun c hc h33 => by
  rw [HE.out, Bool.eq_false_iff]
  intro h
  simp only [Bool.and_eq_true, List.all_eq_true, bne_iff_ne, decide_eq_true_eq] at h
  have h1 := valP_in h.1.1 c hc
  have h2 := h.2 c hc
  unfold inVal at h1
  simp only [Bool.and_eq_true, decide_eq_true_eq] at h1
  apply h2
  rw [← UInt8.toNat_inj]
  show c.toNat = 32
  omega)
 generalize (valP (tx s) && decide ((tx s).length ≤ 100)) = v at *
 generalize uriP (tx s) = r at *
 go_enter Tryz.func47, Tryz.ntmps47
 go_wp2
 go_loop [3] (fun i => ∃ k : Nat, k ≤ s.size ∧ i = .int .i64 k ∧ ((tx s).take k).all (fun c => c != 32) = true) (fun i => s.size - (intOf i).toNat)
 case atStart => exact ⟨0, Nat.zero_le _, rfl, rfl⟩
 case round =>
  obtain ⟨k, hk, rfl, hall⟩ := hrel
  have HA := Lib.hid hall
  clear hall
  by_cases hlt : k < s.size
  · have HN : Hid ((tx s).take (k + 1) = (tx s).take k ++ [s[k]]) := Lib.hid (by
     have hk' : k < (tx s).length := by rw [tx_length]; exact hlt
     rw [List.take_succ_eq_append_getElem hk']
     rfl)
    have HM : Hid (s[k] ∈ tx s) := Lib.hid (by
     have hk' : k < (tx s).length := by rw [tx_length]; exact hlt
     exact List.getElem_mem (l := tx s) hk')
    have hb := (s[k]).toNat_lt
    by_cases h1 : ((s[k]).toNat : Int) < 33
    · have HQ : Hid (r = false) := Lib.hid (HBD.out _ HM.out (by omega))
      go_wp2
      go_ret
      exact ⟨ret_bool HQ.out.symm, rfl⟩
    · have HV2 : Hid ((s[k] != 32) = true) := Lib.hid (by
       rw [bne_iff_ne]
       intro e
       apply h1
       rw [e]
       decide)
      have h1 : (33 : Int) ≤ ((s[k]).toNat : Int) := by omega
      go_wp2
      go_round
      case rel => exact ⟨k + 1, by omega, by go_num, by rw [HN.out, List.all_append, HA.out]; simp; simpa using HV2.out⟩
      case measure => simp [intOf]; omega
  · have HQ : Hid (v = r) := Lib.hid (by
     have := HA.out
     rw [HT.out k (by omega)] at this
     rw [HE.out, this, Bool.and_true])
    go_wp2_with (go_at_call 100; (with_reducible refine HV.out.mono ?_); rintro e w' ⟨rfl, rfl⟩)
    go_ret
    exact ⟨ret_bool HQ.out, rfl⟩
theorem str_eq {a b : ByteArray} (h : tx a = tx b) : Ending.returned (.string a) = Ending.returned (.string b) := by rw [tx_inj h]
theorem typesT_snoc (L : List CodecS) (k : Nat) (hk : k < L.length) : typesT (L.take (k + 1)) = typesT (L.take k) ++ 32 :: decI (L.getD k default).type := by
 unfold typesT
 rw [List.take_add_one, getD_of hk]
 simp
theorem dec_len : ∀ (k n : Nat), n < 10 ^ (k + 1) → (dec n).length ≤ k + 1
 | 0, n, h => by
   unfold dec
   rw [dif_pos (by omega)]
   simp
 | k + 1, n, h => by
   unfold dec
   split
   · simp
   · rw [List.length_append, List.length_singleton]
     have := dec_len k (n / 10) (by rw [Nat.pow_succ] at h; omega)
     omega
theorem decI_len {n : Int} (h : n ≤ 9223372036854775807) : (bs (decI n)).size ≤ 19 := by
 rw [bs_size]
 exact dec_len 18 _ (by rw [show (10 : Nat) ^ (18 + 1) = 10000000000000000000 by decide]; omega)
theorem kindW_len (k : Int) : (bs (kindW k)).size ≤ 11 := by
 rw [bs_size]
 unfold kindW
 split
 · decide
 · split <;> decide
set_option maxHeartbeats 6400000 in
set_option maxRecDepth 100000 in
theorem line_any (M : Array Value) (m : MediaS) (vC vE vR vS vY : Value) (w : World) (h : MediaV w w.heap.size M m vC vE vR vS vY) (hz : SizM m) (hE : Env w) (hk : 1 ≤ m.kind ∧ m.kind ≤ 3) (hp : 0 ≤ m.port ∧ m.port ≤ 9) (ht : ∀ c ∈ m.codecs, 0 ≤ c.type ∧ c.type ≤ 127) :
 Calls Tryz.prog 39 #[.agg M] w fun e w' => e = .returned (.string (bs (lineM m))) ∧ Below w.heap.size w w' := by
 obtain ⟨AC, kC, AE, kE, AR, kR, AS, kS, AY, kY, rfl, rfl, rfl, rfl, rfl⟩ := h.forms
 obtain ⟨hform, hvC, hvE, hvR, hvS, hvY⟩ := h
 subst hform
 obtain ⟨nC, hnC⟩ : ∃ n, m.codecs.length = n := ⟨_, rfl⟩
 obtain ⟨nE, hnE⟩ : ∃ n, m.exts.length = n := ⟨_, rfl⟩
 obtain ⟨nR, hnR⟩ : ∃ n, m.rids.length = n := ⟨_, rfl⟩
 obtain ⟨nS, hnS⟩ : ∃ n, m.sources.length = n := ⟨_, rfl⟩
 obtain ⟨nY, hnY⟩ : ∃ n, m.crypto.length = n := ⟨_, rfl⟩
 obtain ⟨hc1, hc2, hc3, hc4, hc5⟩ := hz.counts
 rw [hnC] at hvC hc1
 rw [hnE] at hvE hc2
 rw [hnR] at hvR hc3
 rw [hnS] at hvS hc4
 rw [hnY] at hvY hc5
 rw [hnC, hnE, hnR, hnS, hnY]
 have hb0 : Below w.heap.size w (w.alloc (.cells #[.int .i64 m.kind, .int .i64 m.port, .string m.mid, .int .i64 m.dir, .slice AC nC kC, .slice AE nE kE, .slice AR nR kR, .bool m.sending, .slice AS nS kS, .slice AY nY kY, .int .i64 m.sctp] 28)) := (Below.refl _ w).alloc (Nat.le_refl _) _
 have hw := Whole.new w 28 #[.int .i64 m.kind, .int .i64 m.port, .string m.mid, .int .i64 m.dir, .slice AC nC kC, .slice AE nE kE, .slice AR nR kR, .bool m.sending, .slice AS nS kS, .slice AY nY kY, .int .i64 m.sctp]
 have HV := Lib.hid (And.intro (hvC.below hb0) hnC)
 have HEN := Lib.hid (hE.under hb0)
 have HB := Lib.hid hb0
 have HBX := Lib.hid hw
 have HT := Lib.hid ht
 have c0 := hw.cell 0
 have c4 := hw.cell 4
 simp only [List.getElem?_toArray, List.getElem?_cons_zero, List.getElem?_cons_succ] at c0 c4
 obtain ⟨j, hj⟩ : ∃ j : Nat, m.kind = j := ⟨m.kind.toNat, by omega⟩
 have HLN : Hid (lineM m = kindW (j : Int) ++ 32 :: (decI m.port ++ 32 :: (if j = 3 then wChannel else wStreams ++ typesT m.codecs))) := Lib.hid (by
  unfold lineM
  rw [hj]
  congr 4
  by_cases h3 : j = 3
  · subst h3; rfl
  · rw [if_neg h3, if_neg (by omega)])
 simp only [hj] at hk c0 c4 HV HEN HB HBX ⊢
 rw [HLN.out]
 clear HLN hj
 generalize m.codecs = LC at *
 generalize m.port = p at *
 generalize m.mid = md at *
 generalize m.dir = d at *
 generalize m.sctp = sc at *
 generalize m.sending = sd at *
 clear hz hE ht hb0 hw hvC hvE hvR hvS hvY hnC hnE hnR hnS hnY
 obtain ⟨N, hN⟩ : ∃ N, w.heap.size = N := ⟨_, rfl⟩
 rw [hN] at c0 c4 HB HBX HV ⊢
 go_enter Tryz.func39, Tryz.ntmps39
 go_upto_region 1 with fail
 generalize w.alloc (.cells #[.int .i64 (j : Int), .int .i64 p, .string md, .int .i64 d, .slice AC nC kC, .slice AE nE kE, .slice AR nR kR, .bool sd, .slice AS nS kS, .slice AY nY kY, .int .i64 sc] 28) = W0 at *
 have HN : Hid (N ≤ W0.heap.size) := Lib.hid (Nat.le_of_lt HBX.out.lt)
 clear hN
 have hj0 : (0 : Int) ≤ (j : Int) := by omega
 have hj1 : (j : Int) < 4 := by omega
 have HG0 : Hid (∀ W, Below W0.heap.size W0 W → W.cell? ⟨N, 0, none⟩ = some (.int .i64 (j : Int))) := Lib.hid fun W hW => (HBX.out.under hW).cell 0
 have HG1 : Hid (∀ W, Below W0.heap.size W0 W → W.cell? ⟨N, 1, none⟩ = some (.int .i64 p)) := Lib.hid fun W hW => (HBX.out.under hW).cell 1
 have HGK : Hid (∀ W, Below W0.heap.size W0 W → W.cell? ⟨1, j, none⟩ = some (.string (bs (kindW j)))) := Lib.hid fun W hW => (HEN.out.under hW).kinds j (by omega) (by omega)
 have HIT : Hid (∀ W, Below W0.heap.size W0 W → Calls Tryz.prog 78 #[.int .i64 p] W fun e w' => e = .returned (.string (bs (decI p))) ∧ Below W.heap.size W w') := Lib.hid fun W hW => itoa_any p W (HEN.out.under hW) hp.1 (by omega)
 have HKB : Hid (∀ W W', Below W0.heap.size W0 W → Below W.heap.size W W' → Below W0.heap.size W0 W') := Lib.hid fun W W' h1 h2 => below_chain (Nat.le_refl _) h1 h2
 have HR0 : Hid (Below W0.heap.size W0 W0.drew) := Lib.hid (Below.refl _ _).drew
 have HTT : Hid (∀ a : ByteArray, tx a = kindW j ++ [32] ++ decI p ++ [32] → tx a = kindW j ++ 32 :: (decI p ++ [32])) := Lib.hid (fun a e => by rw [e]; simp)
 have hkl := kindW_len j
 have hpl := decI_len (n := p) (by omega)
 obtain ⟨kw, hkw⟩ : ∃ a, bs (kindW j) = a := ⟨_, rfl⟩
 obtain ⟨dp, hdp⟩ : ∃ a, bs (decI p) = a := ⟨_, rfl⟩
 rw [hkw] at hkl HGK
 rw [hdp] at hpl HIT
 have HKW : Hid (tx kw = tx (bs (kindW j))) := Lib.hid (by rw [hkw])
 have HDP : Hid (tx dp = tx (bs (decI p))) := Lib.hid (by rw [hdp])
 clear hkw hdp
 have hs1 : ¬ 9223372036854775807 < kw.size + 1 := by omega
 have hs2 : ¬ 9223372036854775807 < kw.size + 1 + dp.size := by omega
 have hs3 : ¬ 9223372036854775807 < kw.size + 1 + dp.size + 1 := by omega
 refine wp_region_held_drew (S := fun W => Below W0.heap.size W0 W) (by kernel_rfl) HR0.out (fun hHeld => ?_)
 refine wpAnyH_take (i := 0) (v := _) rfl (by as_aux_lemma => kernel_rfl) (by as_aux_lemma => kernel_rfl) (by as_aux_lemma => kernel_rfl) (fun _ _ _ h => h) (Or.inl ⟨by rfl, fun w h => by have e0 := HG0.out w h; have e1 := HG1.out w h; have e2 := HGK.out w h; clear h; go_simp; (try with_reducible rfl)⟩) (by assumption) ?_
 simp only [Act.put, List.getElem_toArray, List.getElem_cons_succ, List.getElem_cons_zero, List.setIfInBounds_toArray, List.set_cons_succ, List.set_cons_zero]
 refine wpAnyH_take (i := 1) (v := _) rfl (by as_aux_lemma => kernel_rfl) (by as_aux_lemma => kernel_rfl) (by as_aux_lemma => kernel_rfl) (fun _ _ _ h => h) (Or.inl ⟨by rfl, fun w h => by have e0 := HG0.out w h; have e1 := HG1.out w h; have e2 := HGK.out w h; clear h; go_simp; (try with_reducible rfl)⟩) (by assumption) ?_
 simp only [Act.put, List.getElem_toArray, List.getElem_cons_succ, List.getElem_cons_zero, List.setIfInBounds_toArray, List.set_cons_succ, List.set_cons_zero]
 refine wpAnyH_take (i := 2) (v := _) rfl (by as_aux_lemma => kernel_rfl) (by as_aux_lemma => kernel_rfl) (by as_aux_lemma => kernel_rfl) (fun _ _ _ h => h) (Or.inl ⟨by rfl, fun w h => by have e0 := HG0.out w h; have e1 := HG1.out w h; have e2 := HGK.out w h; clear h; go_simp; (try with_reducible rfl)⟩) (by assumption) ?_
 simp only [Act.put, List.getElem_toArray, List.getElem_cons_succ, List.getElem_cons_zero, List.setIfInBounds_toArray, List.set_cons_succ, List.set_cons_zero]
 refine wpAnyH_take (i := 3) (v := _) rfl (by as_aux_lemma => kernel_rfl) (by as_aux_lemma => kernel_rfl) (by as_aux_lemma => kernel_rfl) (fun _ _ _ h => h) (Or.inl ⟨by rfl, fun w h => by have e0 := HG0.out w h; have e1 := HG1.out w h; have e2 := HGK.out w h; clear h; go_simp; (try with_reducible rfl)⟩) (by assumption) ?_
 simp only [Act.put, List.getElem_toArray, List.getElem_cons_succ, List.getElem_cons_zero, List.setIfInBounds_toArray, List.set_cons_succ, List.set_cons_zero]
 refine wpAnyH_take (i := 4) (v := _) rfl (by as_aux_lemma => kernel_rfl) (by as_aux_lemma => kernel_rfl) (by as_aux_lemma => kernel_rfl) (fun _ _ _ h => h) (Or.inl ⟨by rfl, fun w h => by have e0 := HG0.out w h; have e1 := HG1.out w h; have e2 := HGK.out w h; clear h; go_simp; (try with_reducible rfl)⟩) (by assumption) ?_
 simp only [Act.put, List.getElem_toArray, List.getElem_cons_succ, List.getElem_cons_zero, List.setIfInBounds_toArray, List.set_cons_succ, List.set_cons_zero]
 refine wpAnyH_take (i := 5) (v := _) rfl (by as_aux_lemma => kernel_rfl) (by as_aux_lemma => kernel_rfl) (by as_aux_lemma => kernel_rfl) (fun _ _ _ h => h) (Or.inl ⟨by rfl, fun w h => by have e0 := HG0.out w h; have e1 := HG1.out w h; have e2 := HGK.out w h; clear h; go_simp; (try with_reducible rfl)⟩) (by assumption) ?_
 simp only [Act.put, List.getElem_toArray, List.getElem_cons_succ, List.getElem_cons_zero, List.setIfInBounds_toArray, List.set_cons_succ, List.set_cons_zero]
 refine wpAnyH_take (i := 6) (v := _) rfl (by as_aux_lemma => kernel_rfl) (by as_aux_lemma => kernel_rfl) (by as_aux_lemma => kernel_rfl) (fun _ _ _ h => h) (Or.inl ⟨by rfl, fun w h => by have e0 := HG0.out w h; have e1 := HG1.out w h; have e2 := HGK.out w h; clear h; go_simp; (try with_reducible rfl)⟩) (by assumption) ?_
 simp only [Act.put, List.getElem_toArray, List.getElem_cons_succ, List.getElem_cons_zero, List.setIfInBounds_toArray, List.set_cons_succ, List.set_cons_zero]
 refine wpAnyH_ready (rs := [7]) (by as_aux_lemma => kernel_rfl) (by simp) ?_
 refine AllReadyH.cons (i := 7) rfl (fun K hK => ?_) AllReadyH.nil
 go_simp
 refine (HIT.out _ hHeld).mono ?_
 rintro e w4 ⟨rfl, hb4⟩
 refine hK.out _ _ (HKB.out _ _ hHeld hb4) (fun hHeld4 => ?_)
 clear hK K hHeld
 have hHeld := hHeld4
 clear hHeld4
 refine wpAnyH_take (i := 8) (v := _) rfl (by as_aux_lemma => kernel_rfl) (by as_aux_lemma => kernel_rfl) (by as_aux_lemma => kernel_rfl) (fun _ _ _ h => h) (Or.inl ⟨by rfl, fun w h => by have e0 := HG0.out w h; have e1 := HG1.out w h; have e2 := HGK.out w h; clear h; go_simp; (try with_reducible rfl)⟩) (by assumption) ?_
 simp only [Act.put, List.getElem_toArray, List.getElem_cons_succ, List.getElem_cons_zero, List.setIfInBounds_toArray, List.set_cons_succ, List.set_cons_zero]
 refine wpAnyH_take (i := 9) (v := _) rfl (by as_aux_lemma => kernel_rfl) (by as_aux_lemma => kernel_rfl) (by as_aux_lemma => kernel_rfl) (fun _ _ _ h => h) (Or.inl ⟨by rfl, fun w h => by have e0 := HG0.out w h; have e1 := HG1.out w h; have e2 := HGK.out w h; clear h; go_simp; (try with_reducible rfl)⟩) (by assumption) ?_
 simp only [Act.put, List.getElem_toArray, List.getElem_cons_succ, List.getElem_cons_zero, List.setIfInBounds_toArray, List.set_cons_succ, List.set_cons_zero]
 refine wpAnyH_take (i := 10) (v := _) rfl (by as_aux_lemma => kernel_rfl) (by as_aux_lemma => kernel_rfl) (by as_aux_lemma => kernel_rfl) (fun _ _ _ h => h) (Or.inl ⟨by rfl, fun w h => by have e0 := HG0.out w h; have e1 := HG1.out w h; have e2 := HGK.out w h; clear h; go_simp; (try with_reducible rfl)⟩) (by assumption) ?_
 simp only [Act.put, List.getElem_toArray, List.getElem_cons_succ, List.getElem_cons_zero, List.setIfInBounds_toArray, List.set_cons_succ, List.set_cons_zero]
 refine wpAnyH_done (by as_aux_lemma => kernel_rfl) ?_ _
 have HH := Lib.hid hHeld
 clear hHeld HG1 HGK HIT
 have HS0 : Hid (tx (kw ++ ⟨#[32]⟩ ++ dp ++ ⟨#[32]⟩) = kindW j ++ 32 :: (decI p ++ [32])) := Lib.hid (HTT.out _ (by rw [tx_append, tx_append, tx_append, HKW.out, HDP.out, tx_bs, tx_bs]; rfl))
 have hs0 : (kw ++ ⟨#[32]⟩ ++ dp ++ ⟨#[32]⟩ : ByteArray).size ≤ 40 := by
  rw [← tx_length, HS0.out, List.length_append, List.length_cons, List.length_append]
  have h1 := HKW.out
  have h2 := HDP.out
  have e1 : (kindW j).length = kw.size := by rw [← tx_length, h1, tx_bs]
  have e2 : (decI p).length = dp.size := by rw [← tx_length, h2, tx_bs]
  rw [e1, e2]
  simp
  omega
 generalize (kw ++ ⟨#[32]⟩ ++ dp ++ ⟨#[32]⟩ : ByteArray) = s0 at *
 generalize w4 = w5 at *
 have c0' : w5.cell? ⟨N, 0, none⟩ = some (.int .i64 (j : Int)) := (HBX.out.under HH.out).cell 0
 by_cases h3 : j = 3
 · subst h3
   have hs4 : ¬ 9223372036854775807 < s0.size + 27 := by omega
   go_wp2
   go_ret
   refine ⟨str_eq ?_, HB.out.trans (HH.out.mono HN.out)⟩
   rw [tx_append, HS0.out, tx_bs]
   simp [tx]
 · have h3' : ((j : Int) == 3) = false := by rw [beq_eq_false_iff_ne]; omega
   have hs4 : ¬ 9223372036854775807 < s0.size + 9 := by omega
   have c4' : w5.cell? ⟨N, 4, none⟩ = some (.slice AC nC kC) := (HBX.out.under HH.out).cell 4
   have HLC : Hid (LC.length = nC) := Lib.hid HV.out.2
   go_wp2
   go_loopw [26, 3] (fun s26 s3 wr => ∃ (k : Nat) (acc : ByteArray), k ≤ nC ∧ s26 = .int .i64 k ∧ s3 = .string acc ∧ (tx acc = tx s0 ++ (wStreams ++ typesT (LC.take k)) ∧ acc.size ≤ 60 + 20 * k ∧ Below W0.heap.size W0 wr)) (fun s26 _ _ => nC - (intOf s26).toNat)
   case atStart => exact ⟨0, _, Nat.zero_le _, rfl, rfl, by rw [tx_append]; simp [tx, typesT], by rw [← tx_length, tx_append, List.length_append, tx_length]; simp [tx]; omega, HH.out⟩
   case round =>
    obtain ⟨k, acc, hk', rfl, rfl, hst⟩ := hrel
    have HS := Lib.hid hst
    clear hst
    have hacc : acc.size ≤ 60 + 20 * k := HS.out.2.1
    by_cases hlt : k < nC
    · have hlt' : k < LC.length := by rw [HLC.out]; exact hlt
      obtain ⟨ad, c', vf, e1, had, d0, d1, d2, d3, d4, d5, cf⟩ := (HV.out.1.below (HS.out.2.2.mono HN.out)).at_ hlt'
      injection e1 with e1 e1n e1c
      clear e1n e1c
      subst e1
      obtain ⟨Af, kf, hvf, -⟩ := Rows.form cf
      obtain ⟨lf, hlf⟩ : ∃ lf, (LC.getD k default).feedback.length = lf := ⟨_, rfl⟩
      rw [hlf] at hvf
      subst hvf
      clear hlf cf
      have HTY := HT.out _ (getD_mem hlt')
      have HTS : Hid (typesT (LC.take (k + 1)) = typesT (LC.take k) ++ 32 :: decI (LC.getD k default).type) := Lib.hid (typesT_snoc LC k hlt')
      obtain ⟨x, hx⟩ : ∃ x, LC.getD k default = x := ⟨_, rfl⟩
      rw [hx] at d0 d1 d2 d3 d4 HTY HTS
      have hk0 : (0 : Int) ≤ (k : Int) := by omega
      have hk1 : (k : Int) < (nC : Int) := by omega
      have hN0 : W0.heap.size ≤ wr.heap.size := HS.out.2.2.size
      have HNEW : Hid (Whole (wr.alloc (.cells #[.int .i64 0, .string ⟨#[]⟩, .int .i64 0, .int .i64 0, .string ⟨#[]⟩, .slice none 0 0] 58)) wr.heap.size 58 #[.int .i64 0, .string ⟨#[]⟩, .int .i64 0, .int .i64 0, .string ⟨#[]⟩, .slice none 0 0]) := Lib.hid (Whole.new _ _ _)
      have HW : Hid (Below W0.heap.size W0 ((wr.alloc (.cells #[.int .i64 0, .string ⟨#[]⟩, .int .i64 0, .int .i64 0, .string ⟨#[]⟩, .slice none 0 0] 58)).setRow wr.heap.size #[.int .i64 x.type, .string x.name, .int .i64 x.clock, .int .i64 x.chans, .string x.format, .slice Af lf kf]) ∧ Whole ((wr.alloc (.cells #[.int .i64 0, .string ⟨#[]⟩, .int .i64 0, .int .i64 0, .string ⟨#[]⟩, .slice none 0 0] 58)).setRow wr.heap.size #[.int .i64 x.type, .string x.name, .int .i64 x.clock, .int .i64 x.chans, .string x.format, .slice Af lf kf]) wr.heap.size 58 #[.int .i64 x.type, .string x.name, .int .i64 x.clock, .int .i64 x.chans, .string x.format, .slice Af lf kf]) := Lib.hid ⟨below_row (HS.out.2.2.alloc hN0 _) hN0 _, (Whole.new wr 58 #[.int .i64 0, .string ⟨#[]⟩, .int .i64 0, .int .i64 0, .string ⟨#[]⟩, .slice none 0 0]).row #[.int .i64 x.type, .string x.name, .int .i64 x.clock, .int .i64 x.chans, .string x.format, .slice Af lf kf]⟩
      clear hx had hlt' hN0
      go_upto_region 8 with ((with_reducible refine wpList_storeS #[.int .i64 x.type, .string x.name, .int .i64 x.clock, .int .i64 x.chans, .string x.format, .slice Af lf kf] ?_ 58 (.tmp 5) (.tmp 29) ?_ ?_ ?_ HNEW.out Tryz.sizeCodec ?_ ?_ ?_ ?_); (with_reducible rfl); (with_reducible rfl); rfl; rfl; rfl; rfl; rfl)
      generalize ((wr.alloc (.cells #[.int .i64 0, .string ⟨#[]⟩, .int .i64 0, .int .i64 0, .string ⟨#[]⟩, .slice none 0 0] 58)).setRow wr.heap.size #[.int .i64 x.type, .string x.name, .int .i64 x.clock, .int .i64 x.chans, .string x.format, .slice Af lf kf]) = w2 at *
      generalize wr.heap.size = g at *
      clear d0 d1 d2 d3 d4 d5 HNEW
      have g0 : w2.cell? ⟨g, 0, none⟩ = some (.int .i64 x.type) := HW.out.2.cell 0
      have HIT : Hid (Calls Tryz.prog 78 #[.int .i64 x.type] w2 fun e w' => e = .returned (.string (bs (decI x.type))) ∧ Below w2.heap.size w2 w') := Lib.hid (itoa_any x.type w2 (HEN.out.under HW.out.1) HTY.1 (by omega))
      have hdl := decI_len (n := x.type) (by omega)
      obtain ⟨dt, hdt⟩ : ∃ dt, bs (decI x.type) = dt := ⟨_, rfl⟩
      rw [hdt] at HIT hdl
      have HDT := Lib.hid hdt
      clear hdt
      have q1 : ¬ 9223372036854775807 < 1 + dt.size := by omega
      have q2 : ¬ 9223372036854775807 < acc.size + (1 + dt.size) := by omega
      go_wp2_with (go_at_call 78; (with_reducible refine HIT.out.mono ?_); rintro e w3 ⟨rfl, hb3⟩)
      go_roundw
      case rel =>
       refine ⟨k + 1, _, by omega, by go_num, rfl, ?_, ?_, HW.out.1.trans (hb3.mono HW.out.1.size)⟩
       · rw [tx_append, tx_append, HS.out.1, HTS.out, ← HDT.out, tx_bs]
         simp [tx]
       · rw [← tx_length, tx_append, tx_append, List.length_append, List.length_append, tx_length, tx_length, tx_length]
         show acc.size + (1 + dt.size) ≤ _
         omega
      case measure => simp [intOf]; omega
    · have e : k = nC := by omega
      subst e
      have HQ : Hid (tx acc = tx s0 ++ (wStreams ++ typesT LC)) := Lib.hid (by rw [HS.out.1, List.take_of_length_le (by rw [HLC.out]; exact Nat.le_refl _)])
      go_wp2
      go_ret
      refine ⟨str_eq ?_, HB.out.trans (HS.out.2.2.mono HN.out)⟩
      rw [HQ.out, HS0.out, tx_bs]
      simp
end Go.Proofs.YtbbedhecfipdjaaGreatDoor
namespace Go.Proofs.YtbbedhecfipdjaaGreatDoor
open Go.RowKit Go.Lib Go.Sort
set_option linter.unusedVariables false
set_option linter.unusedSimpArgs false
theorem Tryz.arr24 : Tryz.prog.arrayLen 209 = 24 := by kernel_rfl
theorem holds_zero0 (w : World) (T : TypeId) (nd : Nat) (hs : nd ≤ 24) : Holds (fun (b : UInt8) => Value.int .u8 (b.toNat : Int)) (w.alloc (.cells Lib.zeros24 T)) w.heap.size 0 (Array.replicate nd (0 : UInt8)) := fun j hj => by
 have hj' : j < nd := by simpa using hj
 refine ⟨?_, World.frozen?_alloc_new _ _ _ _⟩
 rw [World.cell?_alloc_new, Lib.zeros24_at _ (by omega), getElem!_pos _ j hj]
 simp
set_option maxHeartbeats 3200000 in
set_option maxRecDepth 100000 in
theorem iFormatUint_any (u : Nat) (w : World) (hE : Env w) (h1 : u < 18446744073709551616) : Calls Tryz.prog 129 #[.int .u64 u, .int .i64 10] w fun e w' => e = .returned (.string (bs (dec u))) ∧ Below w.heap.size w w' := by
 by_cases hs : u < 100
 · have HC := Lib.hid (Tryz.internal_strconv_small u hs w)
   have hs1 : (u : Int) < 100 := by omega
   have hs0 : (0 : Int) ≤ (u : Int) := by omega
   have e1 : IntKind.i64.wrap (u : Int) = (u : Int) := IntWalk.i64_in _ (by omega)
   have HD := Lib.hid (dec_eq u)
   go_enter Tryz.func129, Tryz.ntmps129
   go_wp2_with (go_at_call 175; (with_reducible refine HC.out.mono ?_); rintro e w1 ⟨rfl, rfl⟩)
   go_ret
   exact ⟨by rw [HD.out]; rfl, Below.refl _ _⟩
 · have hs1 : (100 : Int) ≤ (u : Int) := by omega
   have hu1 : 1 ≤ u := by omega
   have hnd20 : Lib.nDigits u ≤ 20 := by have := Lib.numDigits_eq u hu1 h1; split at this <;> omega
   have hsl1 : ∀ W, (Instr.sliceAt 209 (.pointer (some ⟨w.heap.size, 0, none⟩)) none (some (.int .i64 (Lib.nDigits u : Int))) none).run Tryz.prog W = .ok (.slice (some ⟨w.heap.size, 0, none⟩) (Lib.nDigits u) 24) W := fun W => by
    rw [run_sliceAt_array_h W 209 ⟨w.heap.size, 0, none⟩ (by simp [Program.arrayLen, Program.elem, Tryz.underlying209]) .i64 (Lib.nDigits u : Int) (by omega) (by rw [Tryz.arr24]; omega)]
    go_simp
    first | done | omega | (rw [Tryz.arr24]; simp)
   have hH0 := holds_zero0 w 209 (Lib.nDigits u) (by omega)
   have hfmt := Tryz.internal_strconv_formatBase10 w.heap.size 0 24 u (Array.replicate (Lib.nDigits u) 0) (w.alloc (.cells Lib.zeros24 209)) hH0 (by rw [Array.size_replicate]; exact Lib.lt_pow_nDigits u) h1 (by rw [Array.size_replicate]; omega)
   rw [Array.size_replicate] at hfmt
   have HH0 := Lib.hid hH0
   have HF := Lib.hid hfmt
   have HN := Lib.hid (Tryz.internal_strconv_numDigits u hu1 h1 (w.alloc (.cells Lib.zeros24 209)) (Lib.tabIs_alloc hE.tab _))
   have HD := Lib.hid (dec_eq u)
   clear hH0 hfmt
   go_enter Tryz.func129, Tryz.ntmps129
   go_upto_region 7 with (first
    | (go_at_call 176; (refine HN.out.mono ?_); rintro e w' ⟨rfl, rfl⟩)
    | (go_at_call 177; (refine HF.out.mono ?_); rintro e w' ⟨rfl, k, v', dk, rfl, hF⟩))
   have hcv : (convert 69 9 (.slice (some ⟨w.heap.size, 0, none⟩) (Lib.nDigits u) 24)).run Tryz.prog ((putRow (fun (b : UInt8) => Value.int .u8 (b.toNat : Int)) (w.alloc (.cells Lib.zeros24 209)) w.heap.size 0 dk).drewN k) = .ok (.string ⟨(Lib.decDigits u).toArray⟩) ((putRow (fun (b : UInt8) => Value.int .u8 (b.toNat : Int)) (w.alloc (.cells Lib.zeros24 209)) w.heap.size 0 dk).drewN k) := by
    have h := run_convert_bytes_back (P := Tryz.prog) ((putRow (fun (b : UInt8) => Value.int .u8 (b.toNat : Int)) (w.alloc (.cells Lib.zeros24 209)) w.heap.size 0 dk).drewN k) 69 9 5 ⟨w.heap.size, 0, none⟩ 24 (Lib.decDigits u) Tryz.underlying69 Tryz.underlying5 Tryz.underlying9 (fun j hj => by
     rw [Lib.row_is_numeral hF j hj, Lib.add_plain, World.cell?_drewN]
     exact cell?_putRow (fun (b : UInt8) => Value.int .u8 (b.toNat : Int)) _ w.heap.size 0 _ dk HH0.out (by rw [hF.size, Array.size_replicate]) j (by rw [hF.size]; rw [Lib.decDigits_length] at hj; exact hj))
    rw [Lib.decDigits_length] at h
    exact h
   have HBL : Hid (Below w.heap.size w ((putRow (fun (b : UInt8) => Value.int .u8 (b.toNat : Int)) (w.alloc (.cells Lib.zeros24 209)) w.heap.size 0 dk).drewN k)) := Lib.hid (by
    rw [alloc_eq_grow]
    obtain ⟨os', _, e⟩ := putRow_grow_new (fun (b : UInt8) => Value.int .u8 (b.toNat : Int)) w #[.cells Lib.zeros24 209] w.heap.size 0 dk (Nat.le_refl _)
    rw [e]
    exact Lib.below_grow _ w (Nat.le_refl _) k os')
   go_wp2
   go_ret
   exact ⟨by rw [HD.out]; rfl, HBL.out⟩
set_option maxHeartbeats 800000 in
theorem formatUint_any (u : Nat) (w : World) (hE : Env w) (h1 : u < 18446744073709551616) : Calls Tryz.prog 81 #[.int .u64 u, .int .i64 10] w fun e w' => e = .returned (.string (bs (dec u))) ∧ Below w.heap.size w w' := by
 have HC := Lib.hid (iFormatUint_any u w hE h1)
 go_enter Tryz.func81, Tryz.ntmps81
 go_wp2_with (go_at_call 129; (with_reducible refine HC.out.mono ?_); rintro e w1 ⟨rfl, hb1⟩)
 go_ret
 exact ⟨rfl, hb1⟩
end Go.Proofs.YtbbedhecfipdjaaGreatDoor
namespace Go.Proofs.YtbbedhecfipdjaaGreatDoor
open Go.RowKit
set_option linter.unusedVariables false
set_option linter.unusedSimpArgs false
theorem Tryz.sizeBuilder : ∃ j, Tryz.prog.info? 182 = some j ∧ j.size = 2 := by
 have h : (Tryz.prog.info? 182).map (·.size) = some 2 := by kernel_rfl
 exact Option.map_eq_some_iff.1 h
theorem Tryz.liesBuilder : liesAt Tryz.prog Tryz.prog.depth 182 (2 / Tryz.prog.cellsOf 182) 0 182 1 = true := by kernel_rfl
set_option maxHeartbeats 1000000 in
set_option maxRecDepth 100000 in
theorem copyCheck_used (b : Nat) (w : World) (h0 : w.cell? ⟨b, 0, none⟩ = some (.pointer (some ⟨b, 0, none⟩))) :
 Calls Tryz.prog 179 #[.pointer (some ⟨b, 0, none⟩)] w fun e w' => e = .returned (.tuple #[]) ∧ w' = w := by
 obtain ⟨j, hj, _⟩ := Tryz.sizeBuilder
 go_enter Tryz.func179, Tryz.ntmps179
 go_wp2
 rw [Lib.run_neq_ptr_same w _ Tryz.underlying180 hj]
 go_wp2
 go_end0
 exact ⟨rfl, rfl⟩
set_option maxHeartbeats 1000000 in
set_option maxRecDepth 100000 in
theorem copyCheck_fresh (b : Nat) (w : World) (h0 : w.cell? ⟨b, 0, none⟩ = some (.pointer none)) (hsh : w.shape? b = some (182, 2)) (hfz : w.frozen? ⟨b, 0, none⟩ = false) :
 Calls Tryz.prog 179 #[.pointer (some ⟨b, 0, none⟩)] w fun e w' => e = .returned (.tuple #[]) ∧ w' = w.setCell ⟨b, 0, none⟩ (.pointer (some ⟨b, 0, none⟩)) := by
 obtain ⟨j, hj, hjs⟩ := Tryz.sizeBuilder
 go_enter Tryz.func179, Tryz.ntmps179
 go_wp2
 rw [Lib.run_to_unsafe w ⟨b, 0, none⟩ Tryz.underlying180 Tryz.underlying233 hj (by rw [hjs]; decide) hsh (Nat.zero_lt_succ 1)]
 simp only [Result.andThen]
 rw [Oper.upon_value]
 go_wp2
 rw [run_callFunc_extern Tryz.func203 (by kernel_rfl) (by kernel_rfl) (by kernel_rfl) (e := Extern.AbiNoEscape.same) (by kernel_rfl)]
 rw [Lib.run_noEscape]
 simp only [Result.andThen]
 rw [Oper.upon_value]
 go_wp2
 rw [Lib.run_from_unsafe w ⟨b, 0, none⟩ Tryz.underlying233 Tryz.underlying180 hj hsh Tryz.liesBuilder]
 simp only [Result.andThen]
 rw [Oper.upon_value]
 go_wp2
 go_end0
 exact ⟨rfl, rfl⟩
theorem copyCheck_any (B b : Nat) (bs : List Value) (w : World) (h : Lib.IsBuilder 182 5 B b bs w) :
 Calls Tryz.prog 179 #[.pointer (some ⟨b, 0, none⟩)] w fun e w' => e = .returned (.tuple #[]) ∧ (Lib.BuilderAt 182 5 B b (.pointer (some ⟨b, 0, none⟩)) bs w' ∧ Below B w w') := by
 rcases h with h | h
 · refine (copyCheck_fresh b w h.cell0 h.shape h.frozen0).mono ?_
   rintro e w' ⟨rfl, rfl⟩
   exact ⟨rfl, h.used _, (Below.refl B w).setCell (p := ⟨b, 0, none⟩) h.1 _⟩
 · refine (copyCheck_used b w h.cell0).mono ?_
   rintro e w' ⟨rfl, rfl⟩
   exact ⟨rfl, h, Below.refl B _⟩
set_option maxHeartbeats 2000000 in
set_option maxRecDepth 100000 in
theorem writeByte_any (B b : Nat) (bs : List Value) (c : Int) (w : World) (h : Lib.IsBuilder 182 5 B b bs w) (hlen : bs.length + 1 ≤ 140737488355328) (hBw : B ≤ w.heap.size) :
 Calls Tryz.prog 130 #[.pointer (some ⟨b, 0, none⟩), .int .u8 c] w fun e w' => e = .returned .nilIface ∧ (Lib.IsBuilder 182 5 B b (bs ++ [.int .u8 c]) w' ∧ Below B w w') := by
 have hinfo : (Tryz.prog.info? 5).map (fun i => (i.zero, i.size, i.bytes)) = some (some (.int .u8 0), 1, 1) := by kernel_rfl
 obtain ⟨i0, hi, hz0, hz1, hz2⟩ := info_parts hinfo
 have HCC := Lib.hid (copyCheck_any B b bs w h)
 go_enter Tryz.func130, Tryz.ntmps130
 go_wp2_with (go_at_call 179; refine HCC.out.mono ?_)
 rintro e w1 ⟨rfl, h1, hb1⟩
 obtain ⟨hB, v, hbk, hown, hne⟩ := h1
 have c0 : w1.cell? ⟨b, 0, none⟩ = some (.pointer (some ⟨b, 0, none⟩)) := by rw [Lib.cell_of_heap hbk]; rfl
 have c1 : w1.cell? ⟨b, 1, none⟩ = some v := by rw [Lib.cell_of_heap hbk]; rfl
 go_wp2_with (at_builtin; refine wpList_append_own _ rfl _ _ 69 rfl B 5 i0 (.int .u8 0) 1 1 Tryz.underlying69 hi hz0 hz1 hz2 rfl (by decide) _ _ _ rfl (hown.alloc _) ⟨w1.heap.size, 0, none⟩ 1 1 [.int .u8 c] rfl rfl ?c1 ?c2 ?c3 ?c4 ?c5 ?_)
 case c1 =>
  intro j u hj
  match j, hj with
  | 0, hj => simp at hj; subst hj; simp [Addr.add]
 case c2 => intro u hu; simp at hu; subst hu; rfl
 case c3 => unfold maxLen; omega
 case c4 => omega
 case c5 => have := hb1.size; simp; omega
 intro v' w2 hown' hgrow _
 have hlt : b < w1.heap.size := by
  rcases Nat.lt_or_ge b w1.heap.size with h' | h'
  · exact h'
  · simp [Array.getElem?_eq_none h'] at hbk
 have hb2 : w2.heap[b]? = some (.cells #[.pointer (some ⟨b, 0, none⟩), v] 182 (0, 0)) := by
  rw [hgrow.block b (by simp; omega) (fun e => hne e.symm), Lib.alloc_old w1 _ b hlt]
  exact hbk
 have d0 : w2.cell? ⟨b, 0, none⟩ = some (.pointer (some ⟨b, 0, none⟩)) := by rw [Lib.cell_of_heap hb2]; rfl
 have d1 : w2.cell? ⟨b, 1, none⟩ = some v := by rw [Lib.cell_of_heap hb2]; rfl
 have f1 : w2.frozen? ⟨b, 1, none⟩ = false := Lib.frozen_of_heap hb2 1
 obtain ⟨g, cap, rfl⟩ : ∃ g cap, v' = .slice (some ⟨g, 0, none⟩) (bs.length + 1) cap := by
  rcases hown'.2 with ⟨_, h0⟩ | ⟨g, cap, cur, hv, _⟩
  · omega
  · exact ⟨g, cap, hv⟩
 go_wp2
 go_ret
 refine ⟨rfl, .inr ?_, ?_⟩
 · exact Lib.BuilderAt.put (T := 182) (e := 5) hB hb2 (bs' := bs ++ [.int .u8 c]) (by simpa using hown') (by decide)
 · exact ((hb1.alloc (by have := hb1.size; omega) _).grown hgrow (by have := hb1.size; simp; omega) (fun k hk => (hown.lt k hk).1)).setCell (p := ⟨b, 1, none⟩) hB _
theorem nat_or (x y k : Nat) (hy : y < 2 ^ k) : x * 2 ^ k ||| y = x * 2 ^ k + y := by rw [← Nat.shiftLeft_eq, Nat.shiftLeft_add_eq_or_of_lt hy]
theorem ofInt_i64 (a : Nat) (ha : a < 9223372036854775808) : (BitVec.ofInt 64 (a : Int)).toNat = a := by
 rw [BitVec.ofInt_natCast, BitVec.toNat_ofNat]; exact Nat.mod_eq_of_lt (by omega)
theorem i64_and_nat (a b : Nat) (ha : a < 9223372036854775808) (hb : b < 9223372036854775808) : bits .and .i64 (a : Int) (b : Int) = ((a &&& b : Nat) : Int) := by
 have hx : a &&& b < 2 ^ 63 := Nat.and_lt_two_pow _ (by omega)
 show IntKind.i64.wrap ((BitVec.ofInt 64 (a : Int) &&& BitVec.ofInt 64 (b : Int)).toNat : Int) = _
 rw [BitVec.toNat_and, ofInt_i64 a ha, ofInt_i64 b hb, IntKind.wrap_i64]
 omega
theorem i64_or_nat (a b : Nat) (ha : a < 9223372036854775808) (hb : b < 9223372036854775808) : bits .or .i64 (a : Int) (b : Int) = ((a ||| b : Nat) : Int) := by
 have hx : a ||| b < 2 ^ 63 := Nat.or_lt_two_pow (by omega) (by omega)
 show IntKind.i64.wrap ((BitVec.ofInt 64 (a : Int) ||| BitVec.ofInt 64 (b : Int)).toNat : Int) = _
 rw [BitVec.toNat_or, ofInt_i64 a ha, ofInt_i64 b hb, IntKind.wrap_i64]
 omega
theorem and63 (n : Nat) : n &&& 63 = n % 64 := Nat.and_two_pow_sub_one_eq_mod n 6
def num3 (a b c : UInt8) : Nat := a.toNat * 65536 + b.toNat * 256 + c.toNat
theorem num3_lt (a b c : UInt8) : num3 a b c < 16777216 := by
 have := a.toNat_lt
 have := b.toNat_lt
 have := c.toNat_lt
 unfold num3
 omega
set_option maxRecDepth 100000 in
theorem or3 (a b c : UInt8) : (a.toNat * 65536 ||| b.toNat * 256) ||| c.toNat = num3 a b c := by
 have h2 := b.toNat_lt
 have h3 := c.toNat_lt
 have e1 := nat_or a.toNat (b.toNat * 256) 16 (by omega)
 have e2 := nat_or (a.toNat * 256 + b.toNat) c.toNat 8 (by omega)
 rw [show (2 : Nat) ^ 16 = 65536 by decide] at e1
 rw [show (2 : Nat) ^ 8 = 256 by decide] at e2
 rw [e1]
 have e3 : a.toNat * 65536 + b.toNat * 256 = (a.toNat * 256 + b.toNat) * 256 := by omega
 rw [e3, e2]
 unfold num3
 omega
set_option maxRecDepth 100000 in
theorem or3_u32 (a b c : UInt8) : bits BinOp.or IntKind.u32 (bits BinOp.or IntKind.u32 ((a.toNat : Int) % 4294967296 * 65536 % 4294967296) ((b.toNat : Int) % 4294967296 * 256 % 4294967296)) ((c.toNat : Int) % 4294967296) = ((num3 a b c : Nat) : Int) := by
 have h1 := a.toNat_lt
 have h2 := b.toNat_lt
 have h3 := c.toNat_lt
 rw [show ((a.toNat : Int) % 4294967296 * 65536 % 4294967296) = ((a.toNat * 65536 : Nat) : Int) by omega, show ((b.toNat : Int) % 4294967296 * 256 % 4294967296) = ((b.toNat * 256 : Nat) : Int) by omega, show ((c.toNat : Int) % 4294967296) = ((c.toNat : Nat) : Int) by omega,
  u32_or_nat _ _ (by omega) (by omega), u32_or_nat _ _ (Nat.or_lt_two_pow (n := 32) (by omega) (by omega)) (by omega), or3]
set_option maxRecDepth 100000 in
theorem or3_i64 (a b c : UInt8) : bits BinOp.or IntKind.i64 (bits BinOp.or IntKind.i64 ((a.toNat * 65536 : Nat) : Int) ((b.toNat * 256 : Nat) : Int)) ((c.toNat : Nat) : Int) = ((num3 a b c : Nat) : Int) := by
 have h1 := a.toNat_lt
 have h2 := b.toNat_lt
 have h3 := c.toNat_lt
 rw [i64_or_nat _ _ (by omega) (by omega), i64_or_nat _ _ (Nat.or_lt_two_pow (n := 63) (by omega) (by omega)) (by omega), or3]
theorem encK_snoc (a b c : UInt8) : ∀ (t : Nat) (l : Tx), l.length = 3 * t → encK (l ++ [a, b, c]) = encK l ++ enc3 a b c
 | 0, l, h => by
   obtain rfl : l = [] := List.eq_nil_of_length_eq_zero (by omega)
   simp [encK]
 | t + 1, l, h => by
   match l, h with
   | x :: y :: z :: r, h =>
     have := encK_snoc a b c t r (by simp at h; omega)
     simp only [List.cons_append, encK, this, List.append_assoc]
theorem encK_step {k : Tx} (hk : k.length = 30) {t : Nat} (ht : t < 10) : ∃ a b c : UInt8, k[3 * t]? = some a ∧ k[3 * t + 1]? = some b ∧ k[3 * t + 2]? = some c ∧ encK (k.take (3 * (t + 1))) = encK (k.take (3 * t)) ++ enc3 a b c := by
 refine ⟨k[3 * t], k[3 * t + 1], k[3 * t + 2], List.getElem?_eq_getElem (by omega), List.getElem?_eq_getElem (by omega), List.getElem?_eq_getElem (by omega), ?_⟩
 have e : k.take (3 * (t + 1)) = k.take (3 * t) ++ [k[3 * t], k[3 * t + 1], k[3 * t + 2]] := by
  rw [show 3 * (t + 1) = 3 * t + 3 by omega, List.take_add, List.drop_eq_getElem_cons (by omega), List.drop_eq_getElem_cons (by omega), List.drop_eq_getElem_cons (by omega)]
  rfl
 rw [e, encK_snoc _ _ _ t _ (by rw [List.length_take]; omega)]
theorem encK_len : ∀ (t : Nat) (l : Tx), l.length = 3 * t → (encK l).length = 4 * t
 | 0, l, h => by
   obtain rfl : l = [] := List.eq_nil_of_length_eq_zero (by omega)
   rfl
 | t + 1, l, h => by
   match l, h with
   | x :: y :: z :: r, h =>
     have := encK_len t r (by simp at h; omega)
     simp only [encK, enc3, List.length_append, List.length_cons, List.length_nil, this]
     omega
abbrev letS : ByteArray := bs wLetters
theorem letS_size : letS.size = 64 := by rw [bs_size]; rfl
theorem letS_at (v : Nat) (h : v < letS.size) : letS[v]'h = letter v := by
 have hl : v < 64 := by rw [letS_size] at h; exact h
 have hw : wLetters.length = 64 := rfl
 unfold letter
 rw [List.getD_eq_getElem?_getD, List.getElem?_eq_getElem (by omega)]
 rfl
theorem and63_u32 (x : Int) (v : Nat) (h0 : 0 ≤ x) (h1 : x < 4294967296) (hv : x.toNat % 64 = v) : bits BinOp.and IntKind.u32 x 63 = ((v : Nat) : Int) := by
 obtain ⟨n, rfl⟩ := Int.eq_ofNat_of_zero_le h0
 have h := u32_and_nat n 63 (by omega) (by omega)
 rw [and63] at h
 rw [← hv]
 exact h
theorem isB_lt {T e : TypeId} {B b : Nat} {l : List Value} {w : World} (h : Lib.IsBuilder T e B b l w) : b < w.heap.size := by
 rcases h with h | h <;> exact h.lt
theorem bytes_snoc (l : Tx) (c : UInt8) : Lib.byteCells l ++ [.int .u8 (c.toNat : Int)] = Lib.byteCells (l ++ [c]) := by simp [Lib.byteCells]
set_option maxHeartbeats 6400000 in
set_option maxRecDepth 100000 in
theorem writeKey_any (k : Tx) (w : World) (hk : k.length = 30) :
 Calls Tryz.prog 82 #[.agg (keyC k).toArray] w fun e w' => e = .returned (.string (bs (encK k))) ∧ Below w.heap.size w w' := by
 obtain ⟨N, hN⟩ : ∃ N, w.heap.size = N := ⟨_, rfl⟩
 have HKX : Hid (Whole ((w.alloc (.cells (keyC k).toArray 86)).alloc (.cells #[.pointer none, .slice none 0 0] 182)) N 86 (keyC k).toArray) := Lib.hid (by rw [← hN]; exact (Whole.new w _ _).alloc _)
 have HBX : Hid (Lib.IsBuilder 182 5 (N + 1) (N + 1) (Lib.byteCells []) ((w.alloc (.cells (keyC k).toArray 86)).alloc (.cells #[.pointer none, .slice none 0 0] 182))) := Lib.hid (.inl ⟨by omega, .slice none 0 0, by
  have := Whole.new2 w (.cells (keyC k).toArray 86) 182 #[.pointer none, .slice none 0 0]
  rw [hN] at this
  exact this, World.ownsRow_nil _ _ _ _, by simp [Value.ownBlock]⟩)
 have HB : Hid (Below N w ((w.alloc (.cells (keyC k).toArray 86)).alloc (.cells #[.pointer none, .slice none 0 0] 182))) := Lib.hid (by rw [← hN]; exact two_new _ _ _ _)
 rw [hN]
 go_enter Tryz.func82, Tryz.ntmps82
 go_upto_region 2 with fail
 generalize ((w.alloc (.cells (keyC k).toArray 86)).alloc (.cells #[.pointer none, .slice none 0 0] 182)) = W0 at *
 clear hN
 go_wp2
 go_loopw [4] (fun s4 wr => ∃ t : Nat, t ≤ 10 ∧ s4 = .int .i64 ((3 * t : Nat) : Int) ∧ (Lib.IsBuilder 182 5 (N + 1) (N + 1) (Lib.byteCells (encK (k.take (3 * t)))) wr ∧ Whole wr N 86 (keyC k).toArray ∧ Below N w wr)) (fun s4 _ => 30 - (intOf s4).toNat)
 case atStart => exact ⟨0, by omega, rfl, HBX.out, HKX.out, HB.out⟩
 case round =>
  obtain ⟨t, ht, rfl, hst⟩ := hrel
  have HS := Lib.hid hst
  clear hst
  by_cases hlt : t < 10
  · obtain ⟨a, b, c, hA, hBB, hC, hTK⟩ : ∃ a b c : UInt8, k[3 * t]? = some a ∧ k[3 * t + 1]? = some b ∧ k[3 * t + 2]? = some c ∧ encK (k.take (3 * (t + 1))) = encK (k.take (3 * t)) ++ enc3 a b c := encK_step hk hlt
    obtain ⟨i, hi⟩ : ∃ i, 3 * t = i := ⟨_, rfl⟩
    have HTI := Lib.hid hi
    rw [hi] at hA hBB hC
    simp only [hi]
    have hi1 : (i : Int) < 30 := by omega
    have hi0 : (0 : Int) ≤ (i : Int) := by omega
    have e1 : IntKind.i64.wrap ((i : Int) + 1) = ((i + 1 : Nat) : Int) := (IntWalk.i64_in _ (by omega)).trans (by omega)
    have e2 : IntKind.i64.wrap ((i : Int) + 2) = ((i + 2 : Nat) : Int) := (IntWalk.i64_in _ (by omega)).trans (by omega)
    have b1 : ((i + 1 : Nat) : Int) < 30 := by omega
    have b2 : ((i + 2 : Nat) : Int) < 30 := by omega
    have b3 : (0 : Int) ≤ ((i + 1 : Nat) : Int) := by omega
    have b4 : (0 : Int) ≤ ((i + 2 : Nat) : Int) := by omega
    have d0 : wr.cell? ⟨N, i, none⟩ = some (.int .u8 (a.toNat : Int)) := (HS.out.2.1.cell _).trans (by simp [keyC, hA])
    have d1 : wr.cell? ⟨N, i + 1, none⟩ = some (.int .u8 (b.toNat : Int)) := (HS.out.2.1.cell _).trans (by simp [keyC, hBB])
    have d2 : wr.cell? ⟨N, i + 2, none⟩ = some (.int .u8 (c.toNat : Int)) := (HS.out.2.1.cell _).trans (by simp [keyC, hC])
    clear hi
    go_upto_region 5 with fail
    go_quiet (fail)
    rw [or3_u32 a b c]
    have HNL : Hid (num3 a b c < 16777216) := Lib.hid (num3_lt a b c)
    have HEN : Hid (enc3 a b c = [letter (num3 a b c / 262144), letter (num3 a b c / 4096 % 64), letter (num3 a b c / 64 % 64), letter (num3 a b c % 64)]) := Lib.hid rfl
    have HBS : Hid (Lib.IsBuilder 182 5 (N + 1) (N + 1) (Lib.byteCells (encK (k.take (3 * t)))) (wr.drewN nq) ∧ Whole (wr.drewN nq) N 86 (keyC k).toArray ∧ Below N w (wr.drewN nq)) := Lib.hid ⟨HS.out.1, HS.out.2.1, below_drewN' HS.out.2.2 _⟩
    have HSZ : Hid ((encK (k.take (3 * t))).length = 4 * t) := Lib.hid (encK_len t _ (by rw [List.length_take]; omega))
    obtain ⟨E, hE⟩ : ∃ E, encK (k.take (3 * t)) = E := ⟨_, rfl⟩
    rw [hE] at HBS HSZ hTK
    have HTK := Lib.hid hTK
    clear hTK hE d0 d1 d2 hA hBB hC
    generalize wr.drewN nq = wx at *
    generalize num3 a b c = n at *
    go_wp2
    go_loopw [30] (fun sp wq => ∃ p : Nat, p ≤ 4 ∧ sp = .int .i64 (p : Int) ∧ (Lib.IsBuilder 182 5 (N + 1) (N + 1) (Lib.byteCells (E ++ (enc3 a b c).take p)) wq ∧ Whole wq N 86 (keyC k).toArray ∧ Below N w wq)) (fun sp _ => 4 - (intOf sp).toNat)
    case atStart => exact ⟨0, by omega, rfl, by simpa using HBS.out.1, HBS.out.2.1, HBS.out.2.2⟩
    case round =>
     obtain ⟨p, hp, rfl, hst⟩ := hrel
     have HI := Lib.hid hst
     clear hst
     have HNQ : Hid (N + 1 ≤ wr.heap.size) := Lib.hid (Nat.le_of_lt (isB_lt HI.out.1))
     have hn := HNL.out
     have hp4 : p = 4 ∨ p = 0 ∨ p = 1 ∨ p = 2 ∨ p = 3 := by omega
     rcases hp4 with rfl | rfl | rfl | rfl | rfl
     · have HFE : Hid (encK (k.take (3 * (t + 1))) = E ++ (enc3 a b c).take 4) := Lib.hid (by rw [HTK.out, HEN.out]; rfl)
       go_wp2
       go_roundw
       case rel =>
        have hti := HTI.out
        exact ⟨t + 1, by omega, by go_num, by rw [HFE.out]; exact HI.out.1, HI.out.2.1, HI.out.2.2⟩
       case measure => simp [intOf]; omega
     · have hv : bits BinOp.and IntKind.u32 ((n : Int) / 262144) 63 = ((n / 262144 : Nat) : Int) := and63_u32 _ _ (by omega) (by omega) (by omega)
       obtain ⟨v, hvv⟩ : ∃ v : Nat, n / 262144 = v := ⟨_, rfl⟩
       rw [hvv] at hv
       have hv64 : v < 64 := by omega
       have hvi : (v : Int) < 64 := by omega
       have hv0 : (0 : Int) ≤ (v : Int) := by omega
       have HTAKE : Hid ((enc3 a b c).take (0 + 1) = (enc3 a b c).take 0 ++ [letter v]) := Lib.hid (by rw [HEN.out, ← hvv]; rfl)
       have HLV : Hid (∀ h : v < letS.size, letS[v]'h = letter v) := Lib.hid (letS_at v)
       have HWB : Hid (∀ c' : Int, Calls Tryz.prog 130 #[.pointer (some ⟨N + 1, 0, none⟩), .int .u8 c'] wr fun e w' => e = .returned .nilIface ∧ (Lib.IsBuilder 182 5 (N + 1) (N + 1) (Lib.byteCells (E ++ (enc3 a b c).take 0) ++ [.int .u8 c']) w' ∧ Below (N + 1) wr w')) := Lib.hid fun c' => writeByte_any (N + 1) (N + 1) _ c' wr HI.out.1 (by
        rw [Lib.byteCells_length, List.length_append, HSZ.out]
        have := List.length_take_le 0 (enc3 a b c)
        omega) HNQ.out
       clear hvv
       go_wp2_with (go_at_call 130; (refine (HWB.out _).mono ?_); rintro e w2 ⟨rfl, hb2, hb3⟩)
       go_roundw
       case rel =>
        refine ⟨0 + 1, by omega, by go_num, ?_, HI.out.2.1.below hb3 (Nat.lt_succ_self N), HI.out.2.2.trans (hb3.mono (Nat.le_succ N))⟩
        have e1 := HLV.out (by rw [letS_size]; exact hv64)
        rw [HTAKE.out, ← List.append_assoc, ← bytes_snoc, ← e1]
        exact hb2
       case measure => simp [intOf]
     · have hv : bits BinOp.and IntKind.u32 ((n : Int) / 4096) 63 = ((n / 4096 % 64 : Nat) : Int) := and63_u32 _ _ (by omega) (by omega) (by omega)
       obtain ⟨v, hvv⟩ : ∃ v : Nat, n / 4096 % 64 = v := ⟨_, rfl⟩
       rw [hvv] at hv
       have hv64 : v < 64 := by omega
       have hvi : (v : Int) < 64 := by omega
       have hv0 : (0 : Int) ≤ (v : Int) := by omega
       have HTAKE : Hid ((enc3 a b c).take (1 + 1) = (enc3 a b c).take 1 ++ [letter v]) := Lib.hid (by rw [HEN.out, ← hvv]; rfl)
       have HLV : Hid (∀ h : v < letS.size, letS[v]'h = letter v) := Lib.hid (letS_at v)
       have HWB : Hid (∀ c' : Int, Calls Tryz.prog 130 #[.pointer (some ⟨N + 1, 0, none⟩), .int .u8 c'] wr fun e w' => e = .returned .nilIface ∧ (Lib.IsBuilder 182 5 (N + 1) (N + 1) (Lib.byteCells (E ++ (enc3 a b c).take 1) ++ [.int .u8 c']) w' ∧ Below (N + 1) wr w')) := Lib.hid fun c' => writeByte_any (N + 1) (N + 1) _ c' wr HI.out.1 (by
        rw [Lib.byteCells_length, List.length_append, HSZ.out]
        have := List.length_take_le 1 (enc3 a b c)
        omega) HNQ.out
       clear hvv
       go_wp2_with (go_at_call 130; (refine (HWB.out _).mono ?_); rintro e w2 ⟨rfl, hb2, hb3⟩)
       go_roundw
       case rel =>
        refine ⟨1 + 1, by omega, by go_num, ?_, HI.out.2.1.below hb3 (Nat.lt_succ_self N), HI.out.2.2.trans (hb3.mono (Nat.le_succ N))⟩
        have e1 := HLV.out (by rw [letS_size]; exact hv64)
        rw [HTAKE.out, ← List.append_assoc, ← bytes_snoc, ← e1]
        exact hb2
       case measure => simp [intOf]
     · have hv : bits BinOp.and IntKind.u32 ((n : Int) / 64) 63 = ((n / 64 % 64 : Nat) : Int) := and63_u32 _ _ (by omega) (by omega) (by omega)
       obtain ⟨v, hvv⟩ : ∃ v : Nat, n / 64 % 64 = v := ⟨_, rfl⟩
       rw [hvv] at hv
       have hv64 : v < 64 := by omega
       have hvi : (v : Int) < 64 := by omega
       have hv0 : (0 : Int) ≤ (v : Int) := by omega
       have HTAKE : Hid ((enc3 a b c).take (2 + 1) = (enc3 a b c).take 2 ++ [letter v]) := Lib.hid (by rw [HEN.out, ← hvv]; rfl)
       have HLV : Hid (∀ h : v < letS.size, letS[v]'h = letter v) := Lib.hid (letS_at v)
       have HWB : Hid (∀ c' : Int, Calls Tryz.prog 130 #[.pointer (some ⟨N + 1, 0, none⟩), .int .u8 c'] wr fun e w' => e = .returned .nilIface ∧ (Lib.IsBuilder 182 5 (N + 1) (N + 1) (Lib.byteCells (E ++ (enc3 a b c).take 2) ++ [.int .u8 c']) w' ∧ Below (N + 1) wr w')) := Lib.hid fun c' => writeByte_any (N + 1) (N + 1) _ c' wr HI.out.1 (by
        rw [Lib.byteCells_length, List.length_append, HSZ.out]
        have := List.length_take_le 2 (enc3 a b c)
        omega) HNQ.out
       clear hvv
       go_wp2_with (go_at_call 130; (refine (HWB.out _).mono ?_); rintro e w2 ⟨rfl, hb2, hb3⟩)
       go_roundw
       case rel =>
        refine ⟨2 + 1, by omega, by go_num, ?_, HI.out.2.1.below hb3 (Nat.lt_succ_self N), HI.out.2.2.trans (hb3.mono (Nat.le_succ N))⟩
        have e1 := HLV.out (by rw [letS_size]; exact hv64)
        rw [HTAKE.out, ← List.append_assoc, ← bytes_snoc, ← e1]
        exact hb2
       case measure => simp [intOf]
     · have hv : bits BinOp.and IntKind.u32 (n : Int) 63 = ((n % 64 : Nat) : Int) := and63_u32 _ _ (by omega) (by omega) (by omega)
       obtain ⟨v, hvv⟩ : ∃ v : Nat, n % 64 = v := ⟨_, rfl⟩
       rw [hvv] at hv
       have hv64 : v < 64 := by omega
       have hvi : (v : Int) < 64 := by omega
       have hv0 : (0 : Int) ≤ (v : Int) := by omega
       have HTAKE : Hid ((enc3 a b c).take (3 + 1) = (enc3 a b c).take 3 ++ [letter v]) := Lib.hid (by rw [HEN.out, ← hvv]; rfl)
       have HLV : Hid (∀ h : v < letS.size, letS[v]'h = letter v) := Lib.hid (letS_at v)
       have HWB : Hid (∀ c' : Int, Calls Tryz.prog 130 #[.pointer (some ⟨N + 1, 0, none⟩), .int .u8 c'] wr fun e w' => e = .returned .nilIface ∧ (Lib.IsBuilder 182 5 (N + 1) (N + 1) (Lib.byteCells (E ++ (enc3 a b c).take 3) ++ [.int .u8 c']) w' ∧ Below (N + 1) wr w')) := Lib.hid fun c' => writeByte_any (N + 1) (N + 1) _ c' wr HI.out.1 (by
        rw [Lib.byteCells_length, List.length_append, HSZ.out]
        have := List.length_take_le 3 (enc3 a b c)
        omega) HNQ.out
       clear hvv
       go_wp2_with (go_at_call 130; (refine (HWB.out _).mono ?_); rintro e w2 ⟨rfl, hb2, hb3⟩)
       go_roundw
       case rel =>
        refine ⟨3 + 1, by omega, by go_num, ?_, HI.out.2.1.below hb3 (Nat.lt_succ_self N), HI.out.2.2.trans (hb3.mono (Nat.le_succ N))⟩
        have e1 := HLV.out (by rw [letS_size]; exact hv64)
        rw [HTAKE.out, ← List.append_assoc, ← bytes_snoc, ← e1]
        exact hb2
       case measure => simp [intOf]
  · have e : t = 10 := by omega
    subst e
    have HFE : Hid (encK (k.take (3 * 10)) = encK k) := Lib.hid (by rw [List.take_of_length_le (by omega)])
    have HST : Hid (Calls Tryz.prog 131 #[.pointer (some ⟨N + 1, 0, none⟩)] wr fun e w' => e = .returned (.string (bs (encK k))) ∧ Below (N + 1) wr w') := Lib.hid (by
     have := Tryz.Builder_String_any (N + 1) (N + 1) (encK (k.take (3 * 10))) wr HS.out.1 (Nat.le_of_lt (isB_lt HS.out.1))
     rw [HFE.out] at this
     exact this)
    go_wp2_with (go_at_call 131; (with_reducible refine HST.out.mono ?_); rintro e w2 ⟨rfl, hb2⟩)
    go_ret
    exact ⟨rfl, HS.out.2.2.trans (hb2.mono (Nat.le_succ N))⟩
theorem Env.low {w w' : World} {B : Nat} (h : Env w) (hb : Below B w w') (hB : 7 ≤ B) : Env w' := by
 refine ⟨?_, fun j hj => (hb.cell (p := ⟨0, j, Option.none⟩) (Nat.lt_of_lt_of_le (show 0 < 7 by decide) hB)).trans (h.dirs j hj), fun j h1 hj => (hb.cell (p := ⟨1, j, Option.none⟩) (Nat.lt_of_lt_of_le (show 1 < 7 by decide) hB)).trans (h.kinds j h1 hj), (hb.cell (p := ⟨1, 0, Option.none⟩) (Nat.lt_of_lt_of_le (show 1 < 7 by decide) hB)).trans h.none⟩
 have ht := h.tab
 unfold Lib.TabIs World.var? at ht ⊢
 rw [gPow] at ht ⊢
 simp only [Option.bind_some] at ht ⊢
 rw [hb.block 2 (Nat.lt_of_lt_of_le (by decide) hB)]
 exact ht
def AtO (w : World) (base : Nat) (v : Value) (L : List AttrS) : Prop := Own w base 53 2 v (L.map acell)
structure Grew (w : World) (v : Value) (w' : World) (v' : Value) : Prop where
 only : Only (fun k => v.ownBlock = some k) w w'
 own : ∀ k, v'.ownBlock = some k → v.ownBlock = some k ∨ w.heap.size ≤ k
theorem Grew.refl (w : World) (v : Value) : Grew w v w v := ⟨Only.refl _ _, fun k h => .inl h⟩
theorem Grew.trans {w w1 w2 : World} {v v1 v2 : Value} (h : Grew w v w1 v1) (k : Grew w1 v1 w2 v2) : Grew w v w2 v2 :=
 ⟨h.only.next k.only h.own, fun j hj => by
  rcases k.own j hj with h1 | h1
  · exact h.own j h1
  · exact .inr (Nat.le_trans h.only.size h1)⟩
theorem Grew.under {w w1 w2 : World} {v v1 : Value} (h : Grew w v w1 v1) (hb : Below w1.heap.size w1 w2) : Grew w v w2 v1 := ⟨h.only.under hb, h.own⟩
theorem Grew.below {w w1 : World} {base : Nat} {v v1 : Value} (h : Grew w v w1 v1) (hv : ∀ k, v.ownBlock = some k → base ≤ k) (hB : base ≤ w.heap.size) : Below base w w1 := h.only.below hv hB
theorem Grew.whole {w w1 : World} {v v1 : Value} {g : Nat} {t : TypeId} {cs : Array Value} (h : Grew w v w1 v1) (hg : Whole w g t cs) (hne : v.ownBlock ≠ some g) : Whole w1 g t cs := hg.only h.only hne
theorem AtO.under {w w' : World} {base : Nat} {v : Value} {L : List AttrS} (h : AtO w base v L) (hb : Below w.heap.size w w') : AtO w' base v L := Own.under h hb
theorem AtO.base {w : World} {base : Nat} {v : Value} {L : List AttrS} (h : AtO w base v L) : ∀ k, v.ownBlock = some k → base ≤ k := fun k hk => (Own.lt h hk).1
section
variable {ops : Array Oper} {rest : List Oper} {o : Oper} {a : Act} {Q : Exit → Act → World → Prop} {K : Act → World → Prop} {w : World} {base : Nat} {v : Value} {L : List AttrS} {n val : ByteArray} {c : Nat}
theorem addA (hown : AtO w base v L) (hl : L.length ≤ 1000000) (hb : base ≤ w.heap.size) {v' : Value} {w' : World} (h1 : Own w' base 53 2 v' (L.map acell ++ [[.string n, .string val]])) (h2 : (w.alloc (.cells #[.string n, .string val] 53)).grownBy w' v.ownBlock) (h3 : v'.ownBlock = v.ownBlock ∨ v'.ownBlock = some (w.alloc (.cells #[.string n, .string val] 53)).heap.size) :
 AtO w' base v' (L ++ [⟨n, val⟩]) ∧ Grew w v w' v' := by
 refine ⟨?_, ((Only.refl _ _).alloc _).grown h2 (fun k hk => .inl hk), fun k hk => ?_⟩
 · show Own _ _ _ _ _ _
   rw [List.map_append]
   exact h1
 · rcases h3 with h3 | h3
   · exact .inl (by rw [← h3]; exact hk)
   · rw [h3] at hk
     injection hk with hk
     right
     rw [← hk, World.size_alloc]
     omega
theorem wpList_addA (hgd : o.guard = none) (s y : Operand) (ho : o.op = .call { callee := .builtin .append, args := #[s, y], argTypes := #[36, 36] }) (hs : a.eval s = v) (hy : a.eval y = .slice (some ⟨w.heap.size, 0, none⟩) 1 c) (hown : AtO w base v L) (hl : L.length ≤ 1000000) (hb : base ≤ w.heap.size)
 (h : ∀ v' w', AtO w' base v' (L ++ [⟨n, val⟩]) → Grew w v w' v' → wpList Tryz.prog ops Q rest (a.put o.dst v') w') : wpList Tryz.prog ops Q (o :: rest) a (w.alloc (.cells #[.string n, .string val] 53)) :=
 wpList_appendE (r := [.string n, .string val]) hgd s y ho Tryz.underlying36 Tryz.infoSAttr rfl (Nat.zero_lt_succ _) hs (Own.alloc hown _) hy (Whole.new w 53 _) rfl (fun u hu => by simp at hu; rcases hu with rfl | rfl <;> rfl) (by rw [List.length_map]; omega) (by rw [List.length_map]; omega) (by rw [World.size_alloc]; omega)
  fun v' w' h1 h2 h3 => by
   obtain ⟨g1, g2⟩ := addA hown hl hb h1 h2 h3
   exact h v' w' g1 g2
theorem wp_addA (s y : Operand) (ho : o.op = .call { callee := .builtin .append, args := #[s, y], argTypes := #[36, 36] }) (hs : a.eval s = v) (hy : a.eval y = .slice (some ⟨w.heap.size, 0, none⟩) 1 c) (hown : AtO w base v L) (hl : L.length ≤ 1000000) (hb : base ≤ w.heap.size)
 (h : ∀ v' w', AtO w' base v' (L ++ [⟨n, val⟩]) → Grew w v w' v' → K (a.put o.dst v') w') : o.wp Tryz.prog a (w.alloc (.cells #[.string n, .string val] 53)) K Q :=
 wp_appendE (r := [.string n, .string val]) s y ho Tryz.underlying36 Tryz.infoSAttr rfl (Nat.zero_lt_succ _) hs (Own.alloc hown _) hy (Whole.new w 53 _) rfl (fun u hu => by simp at hu; rcases hu with rfl | rfl <;> rfl) (by rw [List.length_map]; omega) (by rw [List.length_map]; omega) (by rw [World.size_alloc]; omega)
  fun v' w' h1 h2 h3 => by
   obtain ⟨g1, g2⟩ := addA hown hl hb h1 h2 h3
   exact h v' w' g1 g2
end
def AddO (base : Nat) (w : World) (v : Value) (L : List AttrS) (e : Ending) (w' : World) : Prop := ∃ v', e = .returned v' ∧ AtO w' base v' L ∧ Grew w v w' v'
theorem plain_len {l : Tx} (h : plainP l = true) : l.length ≤ 100 := by
 unfold plainP at h
 simp only [Bool.and_eq_true, decide_eq_true_eq] at h
 exact h.1.1.2
set_option maxHeartbeats 6400000 in
set_option maxRecDepth 100000 in
theorem addCodec_any (base : Nat) (v : Value) (L : List AttrS) (x : CodecS) (Af : Option Addr) (lf kf : Nat) (w : World) (hE : Env w) (hown : AtO w base v L) (hl : L.length ≤ 900000) (hbase : base ≤ w.heap.size) (h7 : 7 ≤ base) (h : TextsV w base (.slice Af lf kf) x.feedback) (hg : goodC x = true) :
 Calls Tryz.prog 79 #[v, .agg #[.int .i64 x.type, .string x.name, .int .i64 x.clock, .int .i64 x.chans, .string x.format, .slice Af lf kf]] w (AddO base w v (L ++ attrsC x)) := by
 obtain ⟨ty, nm, ck, ch, fm, fb⟩ := x
 have h : TextsV w base (.slice Af lf kf) fb := h
 obtain ⟨⟨ht0, ht1⟩, hn, ⟨hk0, hk1⟩, hch, hf, hfl, hfe⟩ := goodC_parts hg
 have ht0 : 0 ≤ ty := ht0
 have ht1 : ty ≤ 127 := ht1
 have hk0 : 1 ≤ ck := hk0
 have hk1 : ck ≤ 1000000 := hk1
 have hch : ch = 1 ∨ ch = 2 := hch
 have hfl : fb.length ≤ 8 := hfl
 have hn : wordP 1 32 (tx nm) = true := hn
 have hf : (tx fm).isEmpty = true ∨ plainP (tx fm) = true := hf
 have hfe : ∀ f ∈ fb, plainP (tx f) = true := hfe
 have hnl := (wordP_len hn).2
 rw [tx_length] at hnl
 have hfml : fm.size ≤ 100 := by
  rcases hf with hf | hf
  · rw [← tx_length]
    have : tx fm = [] := List.isEmpty_iff.1 hf
    rw [this]
    simp
  · rw [← tx_length]
    exact plain_len hf
 have hfbl : ∀ f ∈ fb, f.size ≤ 100 := fun f hf => by
  rw [← tx_length]
  exact plain_len (hfe f hf)
 have hlf : lf = fb.length := by
  obtain ⟨_, _, e, -⟩ := Rows.form h
  injection e
 have hb0 : Below w.heap.size w (w.alloc (.cells #[.int .i64 ty, .string nm, .int .i64 ck, .int .i64 ch, .string fm, .slice Af lf kf] 58)) := (Below.refl _ w).alloc (Nat.le_refl _) _
 have hz := Whole.new w 58 #[.int .i64 ty, .string nm, .int .i64 ck, .int .i64 ch, .string fm, .slice Af lf kf]
 have HV := Lib.hid (And.intro (h.below (hb0.mono hbase)) (And.intro hlf.symm hfbl))
 have HVW : Hid (TextsV w base (.slice Af lf kf) fb) := Lib.hid h
 have HOWN : Hid (AtO (w.alloc (.cells #[.int .i64 ty, .string nm, .int .i64 ck, .int .i64 ch, .string fm, .slice Af lf kf] 58)) base v L) := Lib.hid (AtO.under hown hb0)
 have HEN := Lib.hid (hE.under hb0)
 have HBX := Lib.hid hz
 have HGR : Hid (Grew w v (w.alloc (.cells #[.int .i64 ty, .string nm, .int .i64 ck, .int .i64 ch, .string fm, .slice Af lf kf] 58)) v) := Lib.hid ((Grew.refl w v).under hb0)
 have HFIN : Hid (attrsC ⟨ty, nm, ck, ch, fm, fb⟩ = ⟨bs nCodec, bs (decI ty ++ 32 :: (tx nm ++ 47 :: (decI ck ++ (if ch = 2 then [47, 50] else []))))⟩ :: ((if (tx fm).isEmpty then [] else [⟨bs nFormat, bs (headT ty (tx fm))⟩]) ++ fb.map fun f => ⟨bs nFeedback, bs (headT ty (tx f))⟩)) := Lib.hid rfl
 have hmt : fm.toList.isEmpty = (tx fm).isEmpty := by rw [toList_tx]
 have hlf8 : lf ≤ 8 := by omega
 obtain ⟨T, hT⟩ : ∃ T, L ++ attrsC ⟨ty, nm, ck, ch, fm, fb⟩ = T := ⟨_, rfl⟩
 obtain ⟨q, hq⟩ : ∃ q, (tx fm).isEmpty = q := ⟨_, rfl⟩
 rw [HFIN.out, hq] at hT
 have HF := Lib.hid hT.symm
 have hT0 : L ++ attrsC ⟨ty, nm, ck, ch, fm, fb⟩ = T := by rw [HFIN.out, hq]; exact hT
 rw [hT0]
 rw [hq] at hmt
 clear hq hT0 hT
 obtain ⟨Av, nv, cv, hv⟩ : ∃ Av nv cv, v = .slice Av nv cv := by
  obtain ⟨A, c, e, -⟩ := Own.form hown
  exact ⟨A, _, c, e⟩
 clear HFIN hE h hg hb0 hz hown hn hf hfe hfl hlf hfbl
 obtain ⟨N, hN⟩ : ∃ N, w.heap.size = N := ⟨_, rfl⟩
 have HNB0 : Hid (base ≤ w.heap.size) := Lib.hid hbase
 have HNB : Hid (base ≤ N) := Lib.hid (by omega)
 rw [hN] at HBX
 go_enter Tryz.func79, Tryz.ntmps79
 go_upto_region 1 with fail
 generalize w.alloc (.cells #[.int .i64 ty, .string nm, .int .i64 ck, .int .i64 ch, .string fm, .slice Af lf kf] 58) = W0 at *
 have HN : Hid (N ≤ W0.heap.size) := Lib.hid (Nat.le_of_lt HBX.out.lt)
 try rw [hN] at HNB
 clear hN
 have k0 : W0.cell? ⟨N, 0, none⟩ = some (.int .i64 ty) := HBX.out.cell 0
 have HIT : Hid (∀ n : Int, 0 ≤ n → n ≤ 1000000 → ∀ W, Below W0.heap.size W0 W → Calls Tryz.prog 78 #[.int .i64 n] W fun e w' => e = .returned (.string (bs (decI n))) ∧ Below W.heap.size W w') := Lib.hid fun n h0 h1 W hW => itoa_any n W (HEN.out.under hW) h0 (by omega)
 have HIT1 := Lib.hid (HIT.out ty ht0 (by omega) W0 (Below.refl _ _))
 have htl := decI_len (n := ty) (by omega)
 have hckl := decI_len (n := ck) (by omega)
 obtain ⟨dt, hdt⟩ : ∃ a, bs (decI ty) = a := ⟨_, rfl⟩
 obtain ⟨dk, hdk⟩ : ∃ a, bs (decI ck) = a := ⟨_, rfl⟩
 rw [hdt] at htl HIT1
 rw [hdk] at hckl
 have HDT : Hid (tx dt = decI ty) := Lib.hid (by rw [← hdt, tx_bs])
 have HDK : Hid (tx dk = decI ck) := Lib.hid (by rw [← hdk, tx_bs])
 have q1 : ¬ 9223372036854775807 < dt.size + 1 := by omega
 go_upto_region 2 with (go_at_call 78; (with_reducible refine HIT1.out.mono ?_); rintro e w1 ⟨rfl, hb1⟩)
 have H1 : Hid (Below W0.heap.size W0 w1) := Lib.hid hb1
 clear hb1 k0 HIT1
 have HKD : Hid (tx (dt ++ ⟨#[32]⟩) = decI ty ++ [32]) := Lib.hid (by rw [tx_append, HDT.out]; rfl)
 have hkd : (dt ++ ⟨#[32]⟩ : ByteArray).size ≤ 20 := by rw [← tx_length, tx_append, List.length_append, tx_length]; show dt.size + 1 ≤ 20; omega
 obtain ⟨kd, hkd2⟩ : ∃ a : ByteArray, dt ++ ⟨#[32]⟩ = a := ⟨_, rfl⟩
 rw [hkd2] at HKD hkd
 simp only [hkd2]
 clear hkd2 q1 htl hdt
 have HF1 : Hid (∀ W, Below W0.heap.size W0 W → W.cell? ⟨N, 1, none⟩ = some (.string nm)) := Lib.hid fun W hW => (HBX.out.under hW).cell 1
 have HF2 : Hid (∀ W, Below W0.heap.size W0 W → W.cell? ⟨N, 2, none⟩ = some (.int .i64 ck)) := Lib.hid fun W hW => (HBX.out.under hW).cell 2
 have HIT2 : Hid (∀ W, Below W0.heap.size W0 W → Calls Tryz.prog 78 #[.int .i64 ck] W fun e w' => e = .returned (.string dk) ∧ Below W.heap.size W w') := Lib.hid (by rw [← hdk]; exact HIT.out ck (by omega) hk1)
 have HKB : Hid (∀ W W', Below W0.heap.size W0 W → Below W.heap.size W W' → Below W0.heap.size W0 W') := Lib.hid fun W W' h1 h2 => below_chain (Nat.le_refl _) h1 h2
 have HR0 : Hid (Below W0.heap.size W0 w1.drew) := Lib.hid H1.out.drew
 have q2 : ¬ 9223372036854775807 < kd.size + nm.size := by omega
 have q3 : ¬ 9223372036854775807 < kd.size + nm.size + 1 := by omega
 have q4 : ¬ 9223372036854775807 < kd.size + nm.size + 1 + dk.size := by omega
 clear hdk
 refine wp_region_held_drew (S := fun W => Below W0.heap.size W0 W) (by kernel_rfl) HR0.out (fun hHeld => ?_)
 refine wpAnyH_take (i := 0) (v := _) rfl (by as_aux_lemma => kernel_rfl) (by as_aux_lemma => kernel_rfl) (by as_aux_lemma => kernel_rfl) (fun _ _ _ h => h) (Or.inl ⟨by rfl, fun w h => by have e0 := HF1.out w h; have e1 := HF2.out w h; clear h; go_simp; (try with_reducible rfl)⟩) (by assumption) ?_
 simp only [Act.put, List.getElem_toArray, List.getElem_cons_succ, List.getElem_cons_zero, List.setIfInBounds_toArray, List.set_cons_succ, List.set_cons_zero]
 refine wpAnyH_take (i := 1) (v := _) rfl (by as_aux_lemma => kernel_rfl) (by as_aux_lemma => kernel_rfl) (by as_aux_lemma => kernel_rfl) (fun _ _ _ h => h) (Or.inl ⟨by rfl, fun w h => by have e0 := HF1.out w h; have e1 := HF2.out w h; clear h; go_simp; (try with_reducible rfl)⟩) (by assumption) ?_
 simp only [Act.put, List.getElem_toArray, List.getElem_cons_succ, List.getElem_cons_zero, List.setIfInBounds_toArray, List.set_cons_succ, List.set_cons_zero]
 refine wpAnyH_take (i := 2) (v := _) rfl (by as_aux_lemma => kernel_rfl) (by as_aux_lemma => kernel_rfl) (by as_aux_lemma => kernel_rfl) (fun _ _ _ h => h) (Or.inl ⟨by rfl, fun w h => by have e0 := HF1.out w h; have e1 := HF2.out w h; clear h; go_simp; (try with_reducible rfl)⟩) (by assumption) ?_
 simp only [Act.put, List.getElem_toArray, List.getElem_cons_succ, List.getElem_cons_zero, List.setIfInBounds_toArray, List.set_cons_succ, List.set_cons_zero]
 refine wpAnyH_take (i := 3) (v := _) rfl (by as_aux_lemma => kernel_rfl) (by as_aux_lemma => kernel_rfl) (by as_aux_lemma => kernel_rfl) (fun _ _ _ h => h) (Or.inl ⟨by rfl, fun w h => by have e0 := HF1.out w h; have e1 := HF2.out w h; clear h; go_simp; (try with_reducible rfl)⟩) (by assumption) ?_
 simp only [Act.put, List.getElem_toArray, List.getElem_cons_succ, List.getElem_cons_zero, List.setIfInBounds_toArray, List.set_cons_succ, List.set_cons_zero]
 refine wpAnyH_take (i := 4) (v := _) rfl (by as_aux_lemma => kernel_rfl) (by as_aux_lemma => kernel_rfl) (by as_aux_lemma => kernel_rfl) (fun _ _ _ h => h) (Or.inl ⟨by rfl, fun w h => by have e0 := HF1.out w h; have e1 := HF2.out w h; clear h; go_simp; (try with_reducible rfl)⟩) (by assumption) ?_
 simp only [Act.put, List.getElem_toArray, List.getElem_cons_succ, List.getElem_cons_zero, List.setIfInBounds_toArray, List.set_cons_succ, List.set_cons_zero]
 refine wpAnyH_take (i := 5) (v := _) rfl (by as_aux_lemma => kernel_rfl) (by as_aux_lemma => kernel_rfl) (by as_aux_lemma => kernel_rfl) (fun _ _ _ h => h) (Or.inl ⟨by rfl, fun w h => by have e0 := HF1.out w h; have e1 := HF2.out w h; clear h; go_simp; (try with_reducible rfl)⟩) (by assumption) ?_
 simp only [Act.put, List.getElem_toArray, List.getElem_cons_succ, List.getElem_cons_zero, List.setIfInBounds_toArray, List.set_cons_succ, List.set_cons_zero]
 refine wpAnyH_take (i := 6) (v := _) rfl (by as_aux_lemma => kernel_rfl) (by as_aux_lemma => kernel_rfl) (by as_aux_lemma => kernel_rfl) (fun _ _ _ h => h) (Or.inl ⟨by rfl, fun w h => by have e0 := HF1.out w h; have e1 := HF2.out w h; clear h; go_simp; (try with_reducible rfl)⟩) (by assumption) ?_
 simp only [Act.put, List.getElem_toArray, List.getElem_cons_succ, List.getElem_cons_zero, List.setIfInBounds_toArray, List.set_cons_succ, List.set_cons_zero]
 refine wpAnyH_ready (rs := [7]) (by as_aux_lemma => kernel_rfl) (by simp) ?_
 refine AllReadyH.cons (i := 7) rfl (fun K hK => ?_) AllReadyH.nil
 go_simp
 refine (HIT2.out _ hHeld).mono ?_
 rintro e w4 ⟨rfl, hb4⟩
 refine hK.out _ _ (HKB.out _ _ hHeld hb4) (fun hHeld4 => ?_)
 clear hK K hHeld
 have hHeld := hHeld4
 clear hHeld4
 refine wpAnyH_take (i := 8) (v := _) rfl (by as_aux_lemma => kernel_rfl) (by as_aux_lemma => kernel_rfl) (by as_aux_lemma => kernel_rfl) (fun _ _ _ h => h) (Or.inl ⟨by rfl, fun w h => by have e0 := HF1.out w h; have e1 := HF2.out w h; clear h; go_simp; (try with_reducible rfl)⟩) (by assumption) ?_
 simp only [Act.put, List.getElem_toArray, List.getElem_cons_succ, List.getElem_cons_zero, List.setIfInBounds_toArray, List.set_cons_succ, List.set_cons_zero]
 refine wpAnyH_take (i := 9) (v := _) rfl (by as_aux_lemma => kernel_rfl) (by as_aux_lemma => kernel_rfl) (by as_aux_lemma => kernel_rfl) (fun _ _ _ h => h) (Or.inl ⟨by rfl, fun w h => by have e0 := HF1.out w h; have e1 := HF2.out w h; clear h; go_simp; (try with_reducible rfl)⟩) (by assumption) ?_
 simp only [Act.put, List.getElem_toArray, List.getElem_cons_succ, List.getElem_cons_zero, List.setIfInBounds_toArray, List.set_cons_succ, List.set_cons_zero]
 refine wpAnyH_done (by as_aux_lemma => kernel_rfl) ?_ _
 have H2 := Lib.hid hHeld
 clear hHeld HF1 HF2 HIT2 HIT HKB HR0 q2 q3 q4
 have HS1 : Hid (tx (kd ++ nm ++ ⟨#[47]⟩ ++ dk) = decI ty ++ 32 :: (tx nm ++ 47 :: decI ck)) := Lib.hid (by rw [tx_append, tx_append, tx_append, HKD.out, HDK.out]; simp [tx])
 have hs1 : (kd ++ nm ++ ⟨#[47]⟩ ++ dk : ByteArray).size ≤ 100 := by rw [← tx_length, tx_append, tx_append, tx_append, List.length_append, List.length_append, List.length_append, tx_length, tx_length, tx_length, tx_length]; show kd.size + nm.size + 1 + dk.size ≤ 100; omega
 generalize (kd ++ nm ++ ⟨#[47]⟩ ++ dk : ByteArray) = s1 at *
 generalize w4 = w2 at *
 have k3 : w2.cell? ⟨N, 3, none⟩ = some (.int .i64 ch) := (HBX.out.under H2.out).cell 3
 go_upto_if 24 with fail
 go_cut [6] from 6 to 26 (fun s6 wc => ∃ s : ByteArray, s6 = .string s ∧ s = bs (decI ty ++ 32 :: (tx nm ++ 47 :: (decI ck ++ (if ch = 2 then [47, 50] else [])))) ∧ s.size ≤ 110 ∧ w2 = wc)
 case first =>
  rcases hch with rfl | rfl
  · go_wp2
    go_meet
    exact ⟨s1, rfl, tx_inj (by rw [HS1.out, tx_bs]; simp), by omega, rfl⟩
  · have q5 : ¬ 9223372036854775807 < s1.size + 2 := by omega
    go_wp2
    go_meet
    exact ⟨_, rfl, tx_inj (by rw [tx_append, HS1.out, tx_bs]; simp [tx]), by rw [← tx_length, tx_append, List.length_append, tx_length]; show s1.size + 2 ≤ 110; omega, rfl⟩
 case rest =>
  obtain ⟨s2, rfl, hs2, hs2l, rfl⟩ := hcut
  have HGW : Hid (Grew w v w2 v) := Lib.hid (HGR.out.under H2.out)
  have HGX : Hid (∀ w9 v9, Grew w2 v w9 v9 → Whole w9 N 58 #[.int .i64 ty, .string nm, .int .i64 ck, .int .i64 ch, .string fm, .slice Af lf kf]) := Lib.hid fun w9 v9 hg => hg.whole (HBX.out.under H2.out) (Own.apart HOWN.out HBX.out (by decide))
  have HOW : Hid (AtO w2 base v L) := Lib.hid (HOWN.out.under H2.out)
  have HVB : Hid (∀ k, v.ownBlock = some k → base ≤ k) := Lib.hid HOWN.out.base
  have HNV : Hid (v.ownBlock ≠ some N) := Lib.hid (Own.apart HOWN.out HBX.out (by decide))
  have HBN : Hid (base ≤ w2.heap.size) := Lib.hid (by have := H2.out.size; have := HN.out; have := HNB.out; omega)
  have HL0 : Hid (L.length ≤ 1000000) := Lib.hid (by omega)
  have HS2 : Hid (s2 = bs (decI ty ++ 32 :: (tx nm ++ 47 :: (decI ck ++ (if ch = 2 then [47, 50] else []))))) := Lib.hid hs2
  clear k3 hs2 hch
  subst hv
  go_upto_region 6 with (at_builtin; refine wpList_addA rfl (.tmp 27) (.tmp 30) rfl rfl rfl HOW.out HL0.out HBN.out ?_; intro v5 w5 ho5 hg5; have HA5 : Hid (AtO w5 base v5 (L ++ [(⟨bs nCodec, s2⟩ : AttrS)]) ∧ Grew w2 (.slice Av nv cv) w5 v5) := Lib.hid ⟨ho5, hg5⟩; clear ho5 hg5)
  have HBX5 : Hid (Whole w5 N 58 #[.int .i64 ty, .string nm, .int .i64 ck, .int .i64 ch, .string fm, .slice Af lf kf]) := Lib.hid (HGX.out _ _ HA5.out.2)
  have k4 : w5.cell? ⟨N, 4, none⟩ = some (.string fm) := HBX5.out.cell 4
  obtain ⟨Ax, nx, cx, hvx⟩ : ∃ A n c, v5 = .slice A n c := by
   obtain ⟨A, c, e, -⟩ := Own.form HA5.out.1
   exact ⟨A, _, c, e⟩
  subst hvx
  cases q with
  | true =>
    have HEND : Hid (L ++ (⟨bs nCodec, bs (decI ty ++ 32 :: (tx nm ++ 47 :: (decI ck ++ (if ch = 2 then [47, 50] else []))))⟩ :: ((if true = true then [] else [⟨bs nFormat, bs (headT ty (tx fm))⟩]) ++ fb.map fun f => (⟨bs nFeedback, bs (headT ty (tx f))⟩ : AttrS))) = (L ++ [(⟨bs nCodec, s2⟩ : AttrS)]) ++ fb.map fun f => ⟨bs nFeedback, bs (headT ty (tx f))⟩) := Lib.hid (by rw [HS2.out]; simp)
    have HLN : Hid ((L ++ [(⟨bs nCodec, s2⟩ : AttrS)]).length ≤ 900002) := Lib.hid (by rw [List.length_append]; simp; omega)
    have k5 : w5.cell? ⟨N, 5, none⟩ = some (.slice Af lf kf) := HBX5.out.cell 5
    go_wp2
    go_loopw [46, 0] (fun s46 s0 wr => ∃ k : Nat, k ≤ lf ∧ s46 = .int .i64 k ∧ (AtO wr base s0 ((L ++ [(⟨bs nCodec, s2⟩ : AttrS)]) ++ (fb.take k).map fun f => ⟨bs nFeedback, bs (headT ty (tx f))⟩) ∧ Grew w2 (.slice Av nv cv) wr s0)) (fun s46 _ _ => lf - (intOf s46).toNat)
    case atStart => exact ⟨0, by omega, rfl, by simpa using HA5.out.1, HA5.out.2⟩
    case round =>
     obtain ⟨k, hk, rfl, hst⟩ := hrel
     have HS := Lib.hid hst
     clear hst
     have HBL : Hid (Below base w wr) := Lib.hid ((HGW.out.trans HS.out.2).below HVB.out HNB0.out)
     by_cases hlt : k < lf
     · have hlt' : k < fb.length := by rw [HV.out.2.1]; exact hlt
       obtain ⟨ad, c', e1, had, d0⟩ := (HVW.out.below HBL.out).at_ hlt'
       injection e1 with e1 e1n e1c
       clear e1n e1c
       subst e1
       have hfs := HV.out.2.2 _ (getD_mem hlt')
       have HTK : Hid (((fb.take (k + 1)).map fun f => (⟨bs nFeedback, bs (headT ty (tx f))⟩ : AttrS)) = ((fb.take k).map fun f => ⟨bs nFeedback, bs (headT ty (tx f))⟩) ++ [⟨bs nFeedback, bs (headT ty (tx (fb.getD k default)))⟩]) := Lib.hid (by rw [List.take_add_one, getD_of hlt']; simp)
       obtain ⟨f, hf⟩ : ∃ f, fb.getD k default = f := ⟨_, rfl⟩
       rw [hf] at d0 hfs HTK
       have hk0' : (0 : Int) ≤ (k : Int) := by omega
       have hk1' : (k : Int) < (lf : Int) := by omega
       have q9 : ¬ 9223372036854775807 < kd.size + f.size := by omega
       have HTX : Hid (kd ++ f = bs (headT ty (tx f))) := Lib.hid (tx_inj (by rw [tx_append, HKD.out, tx_bs]; simp [headT]))
       have HLL : Hid (((L ++ [(⟨bs nCodec, s2⟩ : AttrS)]) ++ (fb.take k).map fun f => (⟨bs nFeedback, bs (headT ty (tx f))⟩ : AttrS)).length ≤ 1000000) := Lib.hid (by
        rw [List.length_append, List.length_map, List.length_take]
        have := HLN.out
        omega)
       have HNW : Hid (base ≤ wr.heap.size) := Lib.hid (by have := HBL.out.size; have := HNB0.out; omega)
       obtain ⟨Aw, nw, cw, hvw⟩ : ∃ A n c, u0 = .slice A n c := by
        obtain ⟨A, c, e, -⟩ := Own.form HS.out.1
        exact ⟨A, _, c, e⟩
       subst hvw
       clear hf had hlt'
       go_wp2_with (at_builtin; refine wpList_addA rfl (.tmp 50) (.tmp 55) rfl rfl rfl HS.out.1 HLL.out HNW.out ?_; intro v9 w9 ho9 hg9; have HA9 : Hid (AtO w9 base v9 ((L ++ [(⟨bs nCodec, s2⟩ : AttrS)]) ++ (fb.take (k + 1)).map fun f => ⟨bs nFeedback, bs (headT ty (tx f))⟩) ∧ Grew w2 (.slice Av nv cv) w9 v9) := Lib.hid ⟨by rw [HTK.out, ← List.append_assoc, ← HTX.out]; exact ho9, HS.out.2.trans hg9⟩; clear ho9 hg9)
       go_roundw
       case rel => exact ⟨k + 1, by omega, by go_num, HA9.out⟩
       case measure => simp [intOf]; omega
     · have e : k = lf := by omega
       subst e
       have HQ : Hid (AtO wr base u0 ((L ++ [(⟨bs nCodec, s2⟩ : AttrS)]) ++ fb.map fun f => ⟨bs nFeedback, bs (headT ty (tx f))⟩)) := Lib.hid (by
        have := HS.out.1
        rw [List.take_of_length_le (by rw [HV.out.2.1]; exact Nat.le_refl _)] at this
        exact this)
       go_wp2
       go_ret
       exact ⟨_, rfl, by rw [HF.out, HEND.out]; exact HQ.out, HGW.out.trans HS.out.2⟩
  | false =>
    have q7 : ¬ 9223372036854775807 < kd.size + fm.size := by omega
    have HTF : Hid (kd ++ fm = bs (headT ty (tx fm))) := Lib.hid (tx_inj (by rw [tx_append, HKD.out, tx_bs]; simp [headT]))
    have HL5 : Hid ((L ++ [(⟨bs nCodec, s2⟩ : AttrS)]).length ≤ 1000000) := Lib.hid (by rw [List.length_append]; simp; omega)
    have HN5 : Hid (base ≤ w5.heap.size) := Lib.hid (by have := HA5.out.2.only.size; have := HBN.out; omega)
    go_upto_region 8 with (at_builtin; refine wpList_addA rfl (.tmp 35) (.tmp 41) rfl rfl rfl HA5.out.1 HL5.out HN5.out ?_; intro v6 w6 ho6 hg6; have HA6 : Hid (AtO w6 base v6 (L ++ [(⟨bs nCodec, s2⟩ : AttrS)] ++ [(⟨bs nFormat, kd ++ fm⟩ : AttrS)]) ∧ Grew w2 (.slice Av nv cv) w6 v6) := Lib.hid ⟨ho6, HA5.out.2.trans hg6⟩; clear ho6 hg6)
    obtain ⟨Ay, ny, cy, hvy⟩ : ∃ A n c, v6 = .slice A n c := by
     obtain ⟨A, c, e, -⟩ := Own.form HA6.out.1
     exact ⟨A, _, c, e⟩
    subst hvy
    have HEND : Hid (L ++ (⟨bs nCodec, bs (decI ty ++ 32 :: (tx nm ++ 47 :: (decI ck ++ (if ch = 2 then [47, 50] else []))))⟩ :: ((if false = true then [] else [⟨bs nFormat, bs (headT ty (tx fm))⟩]) ++ fb.map fun f => (⟨bs nFeedback, bs (headT ty (tx f))⟩ : AttrS))) = (L ++ [(⟨bs nCodec, s2⟩ : AttrS)] ++ [(⟨bs nFormat, kd ++ fm⟩ : AttrS)]) ++ fb.map fun f => ⟨bs nFeedback, bs (headT ty (tx f))⟩) := Lib.hid (by rw [HS2.out, HTF.out]; simp)
    have HLN : Hid ((L ++ [(⟨bs nCodec, s2⟩ : AttrS)] ++ [(⟨bs nFormat, kd ++ fm⟩ : AttrS)]).length ≤ 900002) := Lib.hid (by rw [List.length_append, List.length_append]; simp; omega)
    have k5 : w6.cell? ⟨N, 5, none⟩ = some (.slice Af lf kf) := (HGX.out _ _ HA6.out.2).cell 5
    go_wp2
    go_loopw [46, 0] (fun s46 s0 wr => ∃ k : Nat, k ≤ lf ∧ s46 = .int .i64 k ∧ (AtO wr base s0 ((L ++ [(⟨bs nCodec, s2⟩ : AttrS)] ++ [(⟨bs nFormat, kd ++ fm⟩ : AttrS)]) ++ (fb.take k).map fun f => ⟨bs nFeedback, bs (headT ty (tx f))⟩) ∧ Grew w2 (.slice Av nv cv) wr s0)) (fun s46 _ _ => lf - (intOf s46).toNat)
    case atStart => exact ⟨0, by omega, rfl, by simpa using HA6.out.1, HA6.out.2⟩
    case round =>
     obtain ⟨k, hk, rfl, hst⟩ := hrel
     have HS := Lib.hid hst
     clear hst
     have HBL : Hid (Below base w wr) := Lib.hid ((HGW.out.trans HS.out.2).below HVB.out HNB0.out)
     by_cases hlt : k < lf
     · have hlt' : k < fb.length := by rw [HV.out.2.1]; exact hlt
       obtain ⟨ad, c', e1, had, d0⟩ := (HVW.out.below HBL.out).at_ hlt'
       injection e1 with e1 e1n e1c
       clear e1n e1c
       subst e1
       have hfs := HV.out.2.2 _ (getD_mem hlt')
       have HTK : Hid (((fb.take (k + 1)).map fun f => (⟨bs nFeedback, bs (headT ty (tx f))⟩ : AttrS)) = ((fb.take k).map fun f => ⟨bs nFeedback, bs (headT ty (tx f))⟩) ++ [⟨bs nFeedback, bs (headT ty (tx (fb.getD k default)))⟩]) := Lib.hid (by rw [List.take_add_one, getD_of hlt']; simp)
       obtain ⟨f, hf⟩ : ∃ f, fb.getD k default = f := ⟨_, rfl⟩
       rw [hf] at d0 hfs HTK
       have hk0' : (0 : Int) ≤ (k : Int) := by omega
       have hk1' : (k : Int) < (lf : Int) := by omega
       have q9 : ¬ 9223372036854775807 < kd.size + f.size := by omega
       have HTX : Hid (kd ++ f = bs (headT ty (tx f))) := Lib.hid (tx_inj (by rw [tx_append, HKD.out, tx_bs]; simp [headT]))
       have HLL : Hid (((L ++ [(⟨bs nCodec, s2⟩ : AttrS)] ++ [(⟨bs nFormat, kd ++ fm⟩ : AttrS)]) ++ (fb.take k).map fun f => (⟨bs nFeedback, bs (headT ty (tx f))⟩ : AttrS)).length ≤ 1000000) := Lib.hid (by
        rw [List.length_append, List.length_map, List.length_take]
        have := HLN.out
        omega)
       have HNW : Hid (base ≤ wr.heap.size) := Lib.hid (by have := HBL.out.size; have := HNB0.out; omega)
       obtain ⟨Aw, nw, cw, hvw⟩ : ∃ A n c, u0 = .slice A n c := by
        obtain ⟨A, c, e, -⟩ := Own.form HS.out.1
        exact ⟨A, _, c, e⟩
       subst hvw
       clear hf had hlt'
       go_wp2_with (at_builtin; refine wpList_addA rfl (.tmp 50) (.tmp 55) rfl rfl rfl HS.out.1 HLL.out HNW.out ?_; intro v9 w9 ho9 hg9; have HA9 : Hid (AtO w9 base v9 ((L ++ [(⟨bs nCodec, s2⟩ : AttrS)] ++ [(⟨bs nFormat, kd ++ fm⟩ : AttrS)]) ++ (fb.take (k + 1)).map fun f => ⟨bs nFeedback, bs (headT ty (tx f))⟩) ∧ Grew w2 (.slice Av nv cv) w9 v9) := Lib.hid ⟨by rw [HTK.out, ← List.append_assoc, ← HTX.out]; exact ho9, HS.out.2.trans hg9⟩; clear ho9 hg9)
       go_roundw
       case rel => exact ⟨k + 1, by omega, by go_num, HA9.out⟩
       case measure => simp [intOf]; omega
     · have e : k = lf := by omega
       subst e
       have HQ : Hid (AtO wr base u0 ((L ++ [(⟨bs nCodec, s2⟩ : AttrS)] ++ [(⟨bs nFormat, kd ++ fm⟩ : AttrS)]) ++ fb.map fun f => ⟨bs nFeedback, bs (headT ty (tx f))⟩)) := Lib.hid (by
        have := HS.out.1
        rw [List.take_of_length_le (by rw [HV.out.2.1]; exact Nat.le_refl _)] at this
        exact this)
       go_wp2
       go_ret
       exact ⟨_, rfl, by rw [HF.out, HEND.out]; exact HQ.out, HGW.out.trans HS.out.2⟩
theorem semi_join : ∀ (R : List ByteArray), R ≠ [] → Lib.join (R.map (·.data.toList)) [59] = semi R
 | [], h => (h rfl).elim
 | [a], _ => by
   rw [List.map_cons, List.map_nil, Lib.join_one]
   rfl
 | a :: b :: r, _ => by
   have e : Lib.join ((a :: b :: r).map (·.data.toList)) [59] = a.data.toList ++ [59] ++ Lib.join ((b :: r).map (·.data.toList)) [59] := by
    rw [List.map_cons, List.map_cons, Lib.join_cons, Lib.join_cons]
    simp [Lib.joinTail]
   rw [e, semi_join (b :: r) (by simp)]
   show tx a ++ [59] ++ semi (b :: r) = tx a ++ 59 :: semi (b :: r)
   simp
theorem semi_len : ∀ (R : List ByteArray), (∀ r ∈ R, r.size ≤ 8) → (semi R).length ≤ 9 * R.length
 | [], _ => by simp [semi]
 | [a], h => by
   have := h a (by simp)
   show (tx a).length ≤ 9
   rw [tx_length]
   omega
 | a :: b :: r, h => by
   have h1 := h a (by simp)
   have h2 := semi_len (b :: r) (fun x hx => h x (by simp at hx ⊢; rcases hx with hx | hx <;> simp [hx]))
   show (tx a ++ 59 :: semi (b :: r)).length ≤ _
   rw [List.length_append, List.length_cons, tx_length]
   simp only [List.length_cons] at h2 ⊢
   omega
theorem join_any (R : List ByteArray) (v : Value) (w : World) (h : TextsV w w.heap.size v R) (h0 : 0 < R.length) (hl : R.length ≤ 1000) (hj : (semi R).length ≤ 100000) :
 Calls Tryz.prog 107 #[v, .string ⟨#[59]⟩] w fun e w' => e = .returned (.string (bs (semi R))) ∧ Below w.heap.size w w' := by
 obtain ⟨A, c, rfl, hc, hm, _, hr⟩ := h
 obtain ⟨ad, rfl, hb, hx⟩ := hr h0
 have hs : ad.spot = none := by
  have h1 : w.cell? (ad.add (0 * 1 + 0)) = _ := hx 0 _ (getD_of h0)
  rw [Nat.zero_mul, Nat.zero_add] at h1
  have h1 : w.cell? ad = _ := h1
  unfold World.cell? at h1
  split at h1
  · split at h1
    · cases h1
    · next hn => simpa using hn
  · cases h1
 obtain ⟨bk, o, sp⟩ := ad
 simp only at hs hb
 subst hs
 have hne : R ≠ [] := by rintro rfl; simp at h0
 have hj2 := semi_join R hne
 refine (Tryz.strings_Join bk o c R ⟨#[59]⟩ w (fun j s hs => ?_) hb (by omega) hc (by show (Lib.join _ [59]).length ≤ _; rw [hj2]; omega)).mono fun e w' h => ⟨?_, h.2⟩
 · have h2 : w.cell? ((⟨bk, o, none⟩ : Addr).add (j * 1 + 0)) = some (.string s) := hx j s hs
   rw [Nat.mul_one, Nat.add_zero] at h2
   unfold Addr.add at h2
   split at h2
   · next e => subst e; exact h2
   · exact h2
 · rw [h.1]
   show Ending.returned (.string ⟨(Lib.join (R.map (·.data.toList)) [59]).toArray⟩) = _
   rw [hj2]
   rfl
set_option maxHeartbeats 6400000 in
set_option maxRecDepth 100000 in
theorem addRids_any (base : Nat) (v : Value) (L : List AttrS) (R : List ByteArray) (b : Bool) (Ar : Option Addr) (nr kr : Nat) (w : World) (hown : AtO w base v L) (hl : L.length ≤ 900000) (hbase : base ≤ w.heap.size) (h : TextsV w base (.slice Ar nr kr) R) (h3 : R.length ≤ 3) (hr : ∀ r ∈ R, r.size ≤ 8) :
 Calls Tryz.prog 80 #[v, .slice Ar nr kr, .bool b] w (AddO base w v (L ++ attrsR b R)) := by
 have hnr : nr = R.length := by
  obtain ⟨_, _, e, -⟩ := Rows.form h
  injection e
 obtain ⟨Av, nv, cv, hv⟩ : ∃ Av nv cv, v = .slice Av nv cv := by
  obtain ⟨A, c, e, -⟩ := Own.form hown
  exact ⟨A, _, c, e⟩
 have HOWN := Lib.hid hown
 have HVB : Hid (∀ k, v.ownBlock = some k → base ≤ k) := Lib.hid hown.base
 have HVW : Hid (TextsV w base (.slice Ar nr kr) R) := Lib.hid h
 have HSZ : Hid (∀ r ∈ R, r.size ≤ 8) := Lib.hid hr
 have HNB : Hid (base ≤ w.heap.size) := Lib.hid hbase
 have HL : Hid (R.length = nr) := Lib.hid hnr.symm
 by_cases h0 : nr = 0
 · have HR : Hid (L ++ attrsR b R = L) := Lib.hid (by
    have : R = [] := List.eq_nil_of_length_eq_zero (by omega)
    rw [this]
    simp [attrsR])
   rw [HR.out]
   subst hv
   clear hnr h hown hr hbase
   subst h0
   go_enter Tryz.func80, Tryz.ntmps80
   go_wp2
   go_ret
   exact ⟨_, rfl, HOWN.out, Grew.refl _ _⟩
 · have h0 : ¬ (nr : Int) = 0 := by omega
   have hn0 : 0 < nr := by omega
   have hn3 : nr ≤ 3 := by omega
   have HEND : Hid (L ++ attrsR b R = (L ++ R.map (attrR b)) ++ [⟨bs nSimulcast, bs (wayW b ++ 32 :: semi R)⟩]) := Lib.hid (by
    unfold attrsR
    rw [if_neg (by rw [List.isEmpty_iff]; intro e; rw [e] at hnr; simp at hnr; omega)]
    simp)
   have HSL : Hid ((semi R).length ≤ 27) := Lib.hid (by have := semi_len R hr; omega)
   have HLL : Hid (∀ k, (L ++ (R.take k).map (attrR b)).length ≤ 1000000) := Lib.hid fun k => by rw [List.length_append, List.length_map, List.length_take]; omega
   have HLX : Hid ((L ++ R.map (attrR b)).length ≤ 1000000) := Lib.hid (by rw [List.length_append, List.length_map]; omega)
   obtain ⟨T, hT⟩ : ∃ T, L ++ attrsR b R = T := ⟨_, rfl⟩
   have HF : Hid (T = (L ++ R.map (attrR b)) ++ [(⟨bs nSimulcast, bs (wayW b ++ 32 :: semi R)⟩ : AttrS)]) := Lib.hid (by rw [← hT]; exact HEND.out)
   rw [hT]
   clear HEND hnr h hown hr hbase hl h3 hT
   subst hv
   obtain ⟨wy, hwy⟩ : ∃ a : ByteArray, a = bs (wayW b) := ⟨_, rfl⟩
   have HWY : Hid (tx wy = wayW b) := Lib.hid (by rw [hwy, tx_bs])
   have hws : wy.size = 4 := by rw [hwy, bs_size]; cases b <;> rfl
   go_enter Tryz.func80, Tryz.ntmps80
   go_upto_if 14 with fail
   go_cut [7] from 7 to 15 (fun s wc => s = .string wy ∧ w = wc)
   case first =>
    subst hwy
    cases b
    · go_wp2
      go_meet
      exact ⟨rfl, rfl⟩
    · go_wp2
      go_meet
      exact ⟨rfl, rfl⟩
   case rest =>
    obtain ⟨rfl, rfl⟩ := hcut
    clear hwy
    go_wp2
    go_loopw [17, 0] (fun s17 s0 wr => ∃ k : Nat, k ≤ nr ∧ s17 = .int .i64 k ∧ (AtO wr base s0 (L ++ (R.take k).map (attrR b)) ∧ Grew w (.slice Av nv cv) wr s0)) (fun s17 _ _ => nr - (intOf s17).toNat)
    case atStart => exact ⟨0, by omega, rfl, by simpa using HOWN.out, Grew.refl _ _⟩
    case round =>
     obtain ⟨k, hk, rfl, hst⟩ := hrel
     have HS := Lib.hid hst
     clear hst
     have HBL : Hid (Below base w wr) := Lib.hid (HS.out.2.below HVB.out HNB.out)
     have HNW : Hid (base ≤ wr.heap.size) := Lib.hid (by have := HBL.out.size; have := HNB.out; omega)
     obtain ⟨Aw, nw, cw, hvw⟩ : ∃ A n c, u0 = .slice A n c := by
      obtain ⟨A, c, e, -⟩ := Own.form HS.out.1
      exact ⟨A, _, c, e⟩
     subst hvw
     by_cases hlt : k < nr
     · have hlt' : k < R.length := by rw [HL.out]; exact hlt
       obtain ⟨ad, c', e1, had, d0⟩ := (HVW.out.below HBL.out).at_ hlt'
       injection e1 with e1 e1n e1c
       clear e1n e1c
       subst e1
       have hfs := HSZ.out _ (getD_mem hlt')
       have HTK : Hid ((R.take (k + 1)).map (attrR b) = (R.take k).map (attrR b) ++ [attrR b (R.getD k default)]) := Lib.hid (by rw [List.take_add_one, getD_of hlt']; simp)
       obtain ⟨f, hf⟩ : ∃ f, R.getD k default = f := ⟨_, rfl⟩
       rw [hf] at d0 hfs HTK
       have hk0' : (0 : Int) ≤ (k : Int) := by omega
       have hk1' : (k : Int) < (nr : Int) := by omega
       have q8 : ¬ 9223372036854775807 < f.size + 1 := by omega
       have q9 : ¬ 9223372036854775807 < f.size + 1 + wy.size := by omega
       have HTX : Hid (attrR b f = ⟨bs nRid, f ++ ⟨#[32]⟩ ++ wy⟩) := Lib.hid (by
        unfold attrR
        congr 1
        exact (tx_inj (by rw [tx_append, tx_append, HWY.out, tx_bs]; simp [tx])).symm)
       clear hf had hlt'
       go_wp2_with (at_builtin; refine wpList_addA rfl (.tmp 21) (.tmp 27) rfl rfl rfl HS.out.1 (HLL.out k) HNW.out ?_; intro v9 w9 ho9 hg9; have HA9 : Hid (AtO w9 base v9 (L ++ (R.take (k + 1)).map (attrR b)) ∧ Grew w (.slice Av nv cv) w9 v9) := Lib.hid ⟨by rw [HTK.out, ← List.append_assoc, HTX.out]; exact ho9, HS.out.2.trans hg9⟩; clear ho9 hg9)
       go_roundw
       case rel => exact ⟨k + 1, by omega, by go_num, HA9.out⟩
       case measure => simp [intOf]; omega
     · have e : k = nr := by omega
       subst e
       have HQ : Hid (AtO wr base (.slice Aw nw cw) (L ++ R.map (attrR b))) := Lib.hid (by
        have := HS.out.1
        rw [List.take_of_length_le (by rw [HL.out]; exact Nat.le_refl _)] at this
        exact this)
       have HJ : Hid (Calls Tryz.prog 107 #[.slice Ar k kr, .string ⟨#[59]⟩] wr fun e w' => e = .returned (.string (bs (semi R))) ∧ Below wr.heap.size wr w') := Lib.hid (join_any R _ wr ((HVW.out.below HBL.out).more HNW.out) (by rw [HL.out]; exact hn0) (by rw [HL.out]; omega) (by have := HSL.out; omega))
       obtain ⟨sj, hsj⟩ : ∃ s, bs (semi R) = s := ⟨_, rfl⟩
       have HSJ : Hid (tx sj = semi R) := Lib.hid (by rw [← hsj, tx_bs])
       have hsz : sj.size ≤ 27 := by rw [← hsj, bs_size]; exact HSL.out
       rw [hsj] at HJ
       clear hsj
       have q5 : ¬ 9223372036854775807 < wy.size + 1 := by omega
       have q6 : ¬ 9223372036854775807 < wy.size + 1 + sj.size := by omega
       have HTX : Hid ((⟨bs nSimulcast, bs (wayW b ++ 32 :: semi R)⟩ : AttrS) = ⟨bs nSimulcast, wy ++ ⟨#[32]⟩ ++ sj⟩) := Lib.hid (by
        congr 1
        exact (tx_inj (by rw [tx_append, tx_append, HWY.out, HSJ.out, tx_bs]; simp [tx])).symm)
       go_wp2_with (first | (go_at_call 107; (with_reducible refine HJ.out.mono ?_); rintro e w1 ⟨rfl, hb1⟩; have H1 : Hid (Below wr.heap.size wr w1 ∧ AtO w1 base (.slice Aw nw cw) (L ++ R.map (attrR b))) := Lib.hid ⟨hb1, HQ.out.under hb1⟩; clear hb1) | (at_builtin; refine wpList_addA rfl (.tmp 30) (.tmp 37) rfl rfl rfl H1.out.2 HLX.out (by have := H1.out.1.size; have := HNW.out; omega) ?_; intro v9 w9 ho9 hg9; have HA9 : Hid (AtO w9 base v9 ((L ++ R.map (attrR b)) ++ [⟨bs nSimulcast, wy ++ ⟨#[32]⟩ ++ sj⟩]) ∧ Grew w (.slice Av nv cv) w9 v9) := Lib.hid ⟨ho9, (HS.out.2.under H1.out.1).trans hg9⟩; clear ho9 hg9))
       go_ret
       exact ⟨_, rfl, by rw [HF.out, HTX.out]; exact HA9.out.1, HA9.out.2⟩
def TextD (d : DescS) : Prop := goodD d = true ∧ (∀ m ∈ d.media, mayM m = true) ∧ HasText (sesD d)
def PrD (d : DescS) (t : ByteArray) (er : Int) : Prop := (TextD d ∧ er = 0 ∧ tx t = textS (sesD d)) ∨ (¬ TextD d ∧ er = 1 ∧ t = ⟨#[]⟩)
def PrintDO (w : World) (d : DescS) (e : Ending) (w' : World) : Prop := ∃ (t : ByteArray) (er : Int), e = .returned (.tuple #[.string t, .int .i64 er]) ∧ PrD d t er ∧ Below w.heap.size w w'
theorem PrD.one {d : DescS} {t t' : ByteArray} {er er' : Int} (h : PrD d t er) (h' : PrD d t' er') : t = t' ∧ er = er' := by
 rcases h with ⟨h1, h2, h3⟩ | ⟨h1, h2, h3⟩ <;> rcases h' with ⟨k1, k2, k3⟩ | ⟨k1, k2, k3⟩
 · exact ⟨tx_inj (by rw [h3, k3]), by rw [h2, k2]⟩
 · exact absurd h1 k1
 · exact absurd k1 h1
 · exact ⟨by rw [h3, k3], by rw [h2, k2]⟩
theorem blanks_join : ∀ (R : List ByteArray), R ≠ [] → 32 :: Lib.join (R.map (·.data.toList)) [32] = R.flatMap fun b => 32 :: tx b
 | [], h => (h rfl).elim
 | [a], _ => by
   rw [List.map_cons, List.map_nil, Lib.join_one]
   simp [tx]
 | a :: b :: r, _ => by
   have e : Lib.join ((a :: b :: r).map (·.data.toList)) [32] = a.data.toList ++ [32] ++ Lib.join ((b :: r).map (·.data.toList)) [32] := by
    rw [List.map_cons, List.map_cons, Lib.join_cons, Lib.join_cons]
    simp [Lib.joinTail]
   have h2 := blanks_join (b :: r) (by simp)
   rw [e, List.flatMap_cons, ← h2]
   simp [tx]
theorem joinB_any (R : List ByteArray) (v : Value) (w : World) (h : TextsV w w.heap.size v R) (h0 : 0 < R.length) (hl : R.length ≤ 1000000) (hj : (R.flatMap fun b => 32 :: tx b).length ≤ 1000000000) :
 Calls Tryz.prog 107 #[v, .string ⟨#[32]⟩] w fun e w' => ∃ s : ByteArray, e = .returned (.string s) ∧ (32 :: tx s = R.flatMap fun b => 32 :: tx b) ∧ Below w.heap.size w w' := by
 obtain ⟨A, c, rfl, hc, hm, _, hr⟩ := h
 obtain ⟨ad, rfl, hb, hx⟩ := hr h0
 have hs : ad.spot = none := by
  have h1 : w.cell? (ad.add (0 * 1 + 0)) = _ := hx 0 _ (getD_of h0)
  rw [Nat.zero_mul, Nat.zero_add] at h1
  have h1 : w.cell? ad = _ := h1
  unfold World.cell? at h1
  split at h1
  · split at h1
    · cases h1
    · next hn => simpa using hn
  · cases h1
 obtain ⟨bk, o, sp⟩ := ad
 simp only at hs hb
 subst hs
 have hne : R ≠ [] := by rintro rfl; simp at h0
 have hj2 := blanks_join R hne
 have hj3 : (Lib.join (R.map (·.data.toList)) [32]).length ≤ 1000000000 := by
  have := congrArg List.length hj2
  rw [List.length_cons] at this
  omega
 refine (Tryz.strings_Join bk o c R ⟨#[32]⟩ w (fun j s hs => ?_) hb (by omega) hc (by show (Lib.join _ [32]).length ≤ _; omega)).mono fun e w' h => ⟨⟨(Lib.join (R.map (·.data.toList)) [32]).toArray⟩, h.1, ?_, h.2⟩
 · have h2 : w.cell? ((⟨bk, o, none⟩ : Addr).add (j * 1 + 0)) = some (.string s) := hx j s hs
   rw [Nat.mul_one, Nat.add_zero] at h2
   unfold Addr.add at h2
   split at h2
   · next e => subst e; exact h2
   · exact h2
 · rw [← hj2]
   simp [tx]
theorem bundle_fl {B : List ByteArray} {m : Nat} (h : ∀ b ∈ B, b.size ≤ m) : (B.flatMap fun b => 32 :: tx b).length ≤ B.length * (m + 1) := by
 refine flat_le B fun b hb => ?_
 rw [List.length_cons, tx_length]
 have := h b hb
 omega
theorem dec_1 : dec 1 = [49] := by
 unfold dec
 rfl
abbrev l08 : Tx := [118, 61, 48, 13, 10, 111, 61, 45, 32, 49, 32, 49, 32, 73, 78, 32, 73, 80, 52, 32, 49, 50, 55, 46, 48, 46, 48, 46, 49, 13, 10, 115, 61, 45, 13, 10, 116, 61, 48, 32, 48, 13, 10, 97, 61, 105, 99, 101, 45, 117, 102, 114, 97, 103, 58, 97, 98, 99, 100, 13, 10, 97, 61, 105, 99, 101, 45, 112, 119, 100, 58, 48, 49, 50, 51, 52, 53, 54, 55, 56, 57, 48, 49, 50, 51, 52, 53, 54, 55, 56, 57, 48, 49, 13, 10]
def d08 : DescS := ⟨1, 1, [], bs [97, 98, 99, 100], bs [48, 49, 50, 51, 52, 53, 54, 55, 56, 57, 48, 49, 50, 51, 52, 53, 54, 55, 56, 57, 48, 49], []⟩
theorem org08 : originT 1 1 = [45, 32, 49, 32, 49, 32, 73, 78, 32, 73, 80, 52, 32, 49, 50, 55, 46, 48, 46, 48, 46, 49] := by
 unfold originT
 rw [dec_1]
 rfl
theorem ses08 : sesD d08 = ⟨bs [45, 32, 49, 32, 49, 32, 73, 78, 32, 73, 80, 52, 32, 49, 50, 55, 46, 48, 46, 48, 46, 49], bs [45], bs [48, 32, 48], [⟨bs nUfrag, bs [97, 98, 99, 100]⟩, ⟨bs nPwd, bs [48, 49, 50, 51, 52, 53, 54, 55, 56, 57, 48, 49, 50, 51, 52, 53, 54, 55, 56, 57, 48, 49]⟩], []⟩ := by
 show (⟨bs (originT 1 1), bs [45], bs [48, 32, 48], headA d08, []⟩ : SesS) = _
 rw [org08]
 rfl
theorem good08 : goodD d08 = true := by decide +kernel
theorem lit08 : textS (sesD d08) = l08 := by
 rw [ses08]
 decide +kernel
theorem text08 : TextD d08 := by
 refine ⟨good08, fun m hm => (by cases hm), ?_, ?_⟩
 · rw [ses08]
   decide +kernel
 · rw [lit08]
   decide
theorem siz08 : SizD d08 := by
 refine ⟨by decide, by decide, fun b hb => (by cases hb), by decide, by decide, fun m hm => (by cases hm), by decide, by decide⟩
theorem wpList_appendLL {ops : Array Oper} {rest : List Oper} {o : Oper} {a : Act} {w : World} {Q : Exit → Act → World → Prop} {base : Nat} {v : Value} {K L : List AttrS} {ad : Addr} {n c : Nat} (hgd : o.guard = none) (s y : Operand) (ho : o.op = .call { callee := .builtin .append, args := #[s, y], argTypes := #[36, 36] })
 (hs : a.eval s = v) (hown : Own w base 53 2 v (K.map acell)) (hy : a.eval y = .slice (some ad) n c) (hn : L.length = n) (hL : ∀ i x, L[i]? = some x → w.cell? (ad.add (i * 2)) = some (.string x.name) ∧ w.cell? (ad.add (i * 2 + 1)) = some (.string x.value)) (hk : K.length + L.length ≤ 1000000) (hbase : base ≤ w.heap.size)
 (h : ∀ v' w', Own w' base 53 2 v' ((K ++ L).map acell) → w.grownBy w' v.ownBlock → (v'.ownBlock = v.ownBlock ∨ v'.ownBlock = some w.heap.size) → wpList Tryz.prog ops Q rest (a.put o.dst v') w') : wpList Tryz.prog ops Q (o :: rest) a w := by
 obtain ⟨i0, hi0, hz0, hz1, hz2⟩ := info_parts Tryz.infoSAttr
 have hfl : ((L.map acell).flatten).length = n * 2 := by
  rw [flatten_len (sz := 2) (fun r hr => by obtain ⟨x, _, rfl⟩ := List.mem_map.1 hr; rfl), List.length_map, hn]
 obtain ⟨v', w', hrun, h2, h3, _, h5⟩ := run_append_own_at (P := Tryz.prog) w base 36 o.type 53 i0 _ 2 32 Tryz.underlying36 hi0 hz0 hz1 hz2 rfl (by omega) v (K.map acell).length (K.map acell).flatten hown.1 ad n c (L.map acell).flatten hfl
  (fun j u hj => by
    have hjl : j < n * 2 := by rw [← hfl]; exact (List.getElem?_eq_some_iff.1 hj).1
    have hi : j / 2 < L.length := by omega
    have hx := List.getElem?_eq_getElem hi
    have hm : (L.map acell)[j / 2]? = some (acell L[j / 2]) := by rw [List.getElem?_map, hx]; rfl
    have hf := flatten_at (sz := 2) (rs := L.map acell) (fun r hr => by obtain ⟨x, _, rfl⟩ := List.mem_map.1 hr; rfl) hm (Nat.mod_lt j (by omega : 0 < 2))
    rw [show j / 2 * 2 + j % 2 = j by omega] at hf
    rw [hf] at hj
    obtain ⟨c0, c1⟩ := hL (j / 2) _ hx
    have e2 : j = j / 2 * 2 + j % 2 := by omega
    rcases (show j % 2 = 0 ∨ j % 2 = 1 by omega) with h0 | h0
    · rw [h0] at hj
      obtain rfl := Option.some.inj hj
      rw [h0, Nat.add_zero] at e2
      rw [congrArg ad.add e2]
      exact c0
    · rw [h0] at hj
      obtain rfl := Option.some.inj hj
      rw [h0] at e2
      rw [congrArg ad.add e2]
      exact c1)
  (fun u hu => by
    obtain ⟨r, hr, hur⟩ := List.mem_flatten.1 hu
    obtain ⟨x, _, rfl⟩ := List.mem_map.1 hr
    simp [acell] at hur
    rcases hur with rfl | rfl <;> rfl)
  (by unfold maxLen; rw [List.length_map]; omega) (by rw [List.length_map]; omega) hbase
 refine wpList_plain hgd fun _ hK => ?_
 unfold Oper.wp execOp
 simp only [ho, resolve, invoke, builtin, Sem.run_bind, Sem.run_pure, Result.andThen_ok, List.map_toArray, List.map_cons, List.map_nil, hs, hy, hrun]
 refine hK _ _ (h v' w' ⟨?_, fun r hr => by obtain ⟨x, _, rfl⟩ := List.mem_map.1 hr; rfl⟩ h3 h5)
 rw [List.map_append, List.flatten_append, List.length_append, List.length_map, List.length_map, hn]
 rw [List.length_map] at h2
 exact h2
theorem cut1_at {l : Tx} {k : Nat} (c0 : UInt8) (h : ∀ c ∈ l.take k, c ≠ c0) (hk : l[k]? = some c0) : cutS [c0] l = (l.take k, l.drop (k + 1), true) := by
 have := cutS_clean (t := []) (l.take k) (l.drop (k + 1)) h
 have e : l.take k ++ [c0] ++ l.drop (k + 1) = l := by
  have hl : k < l.length := (List.getElem?_eq_some_iff.1 hk).1
  have h2 : l[k] = c0 := (List.getElem?_eq_some_iff.1 hk).2
  have : l.drop k = c0 :: l.drop (k + 1) := by rw [List.drop_eq_getElem_cons hl, h2]
  rw [List.append_assoc, List.singleton_append, ← this, List.take_append_drop]
 rwa [e] at this
def AttrE (w : World) (l : Tx) (e : Ending) (w' : World) : Prop := ∃ (a : AttrS) (b : Bool), e = .returned (.tuple #[.agg #[.string a.name, .string a.value], .bool b]) ∧ AttrO l a b ∧ Below w.heap.size w w'
theorem step_storeS {ops : Array Oper} {o : Oper} {a : Act} {w : World} {K : Act → World → Prop} {Q : Exit → Act → World → Prop} {E : Prop} {g n : Nat} {t : TypeId} {old : Array Value} (cs : Array Value) (hgd : o.guard = none) (ty : TypeId) (x y : Operand) (ho : o.op = .store ty x y) (hx : a.eval x = .pointer (some ⟨g, 0, none⟩)) (hy : a.eval y = .agg cs) (hg : Whole w g t old)
 (hi : (Tryz.prog.info? ty).map (·.size) = some n) (hn : cs.size = n) (hold : old.size = n) (h1 : cs.toList.all (·.oneCell') = true)
 (h : K (a.put o.dst undef) (w.setRow g cs)) : if Region.wanted o (yielded ops a.tmps) = true then Oper.wp Tryz.prog o a w K Q else E :=
 step_store_whole hgd ty x y ho hx hy hg hi hn hold (all_list h1) h
theorem same_flip {f : FuncId} {args : Array Value} {w : World} {v : Value} (h : Calls Tryz.prog f args w fun e w' => e = .returned v ∧ w = w') : Calls Tryz.prog f args w fun e w' => e = .returned v ∧ w' = w :=
 h.mono fun e w' ⟨h1, h2⟩ => ⟨h1, h2.symm⟩
set_option maxHeartbeats 3200000 in
set_option maxRecDepth 100000 in
theorem rattr_any (s : ByteArray) (w : World) (hs : s.size ≤ 8192) : Calls Tryz.prog 113 #[.string s] w (AttrE w (tx s)) := by
 obtain ⟨N, hN⟩ : ∃ N, w.heap.size = N := ⟨_, rfl⟩
 have HN := Lib.hid hN
 have hw0 := Whole.new w 55 #[.string ⟨#[]⟩, .string ⟨#[]⟩]
 have hb0 : Below w.heap.size w (w.alloc (.cells #[.string ⟨#[]⟩, .string ⟨#[]⟩] 55)) := (Below.refl _ w).alloc (Nat.le_refl _) _
 have hz0 : (w.alloc (.cells #[.string ⟨#[]⟩, .string ⟨#[]⟩] 55)).heap.size = w.heap.size + 1 := World.size_alloc ..
 rw [hN] at hw0 hb0 hz0
 have H0 := Lib.hid (And.intro hw0 (And.intro hb0 hz0))
 clear hw0 hb0 hz0
 go_enter Tryz.func113, Tryz.ntmps113
 go_upto_region 1 with fail
 generalize w.alloc (.cells #[.string ⟨#[]⟩, .string ⟨#[]⟩] 55) = w0 at *
 clear hN
 go_wp2
 go_loop [4] (fun i => ∃ k : Nat, k ≤ s.size ∧ i = .int .i64 k ∧ ∀ c ∈ (tx s).take k, c ≠ 58) (fun i => s.size - (intOf i).toNat)
 case atStart => exact ⟨0, Nat.zero_le _, rfl, fun c hc => by simp at hc⟩
 case round =>
  obtain ⟨k, hk, rfl, hno⟩ := hrel
  have HNO := Lib.hid hno
  clear hno
  by_cases hlt : k < s.size
  · have hkl : k < (tx s).length := by rw [tx_length]; exact hlt
    have HK : Hid ((tx s)[k]? = some s[k]) := Lib.hid (by rw [List.getElem?_eq_getElem hkl]; rfl)
    by_cases hc : s[k] = 58
    · have hz : ((s[k]).toNat : Int) = 58 := by rw [hc]; rfl
      have hz1 : (((s[k]).toNat : Int) == 58) = true := by rw [hz]; rfl
      have HC : Hid (cutS [58] (tx s) = (tx (s.extract 0 k), tx (s.extract (k + 1) s.size), true)) := Lib.hid (by
       have := cut1_at 58 HNO.out (by rw [HK.out, hc])
       rw [this, tx_extract, tx_extract, List.take_of_length_le (l := (tx s).drop (k + 1)) (by rw [List.length_drop, tx_length]; omega)]
       simp)
      have HZE : Hid ((s.extract 0 k).size ≤ s.size ∧ (s.extract (k + 1) s.size).size ≤ s.size) := Lib.hid (by simp; omega)
      have e1 : IntKind.i64.wrap ((k : Int) + 1) = (k : Int) + 1 := IntWalk.i64_in _ (by omega)
      have hlt1 : (k : Int) < (s.size : Int) := by omega
      obtain ⟨nm, hnm⟩ : ∃ x, s.extract 0 k = x := ⟨_, rfl⟩
      obtain ⟨vl, hvl⟩ : ∃ x, s.extract (k + 1) s.size = x := ⟨_, rfl⟩
      rw [hnm, hvl] at HC HZE
      have HS := Lib.hid hs
      obtain ⟨bw, hbw⟩ : ∃ b, wordP 1 32 (tx nm) = b := ⟨_, rfl⟩
      obtain ⟨bv, hbv⟩ : ∃ b, valP (tx vl) = b := ⟨_, rfl⟩
      have HW := Lib.hid (fun W => r1Word_32 nm W (by have := HZE.out.1; have := HS.out; unfold maxLen; omega))
      have HV := Lib.hid (fun W => r6Value_200 vl W (by have := HZE.out.2; have := HS.out; unfold maxLen; omega))
      rw [hbw] at HW
      rw [hbv] at HV
      have HR : Hid (AttrO (tx s) ⟨nm, vl⟩ (bw && bv)) := Lib.hid (by
       unfold AttrO attrP
       rw [HC.out]
       simp only [hbw, hbv]
       cases bw <;> cases bv <;> simp)
      clear hc hbw hbv
      have hh := H0.out
      go_upto_region 7 with fail
      clear hnm hvl hh e1
      have HB1 : Hid (Whole (w0.alloc (.cells #[.string nm, .string vl] 55)) N 55 #[.string ⟨#[]⟩, .string ⟨#[]⟩] ∧ Below N w (w0.alloc (.cells #[.string nm, .string vl] 55))) := Lib.hid ⟨H0.out.1.alloc _, H0.out.2.1.alloc (Nat.le_of_lt H0.out.1.lt) _⟩
      have q0 := (Whole.new w0 55 #[.string nm, .string vl]).cell 0
      have q1 := (Whole.new w0 55 #[.string nm, .string vl]).cell 1
      have HW1 := Whole.new w0 55 #[.string nm, .string vl]
      rw [H0.out.2.2] at q0 q1 HW1
      generalize w0.alloc (.cells #[.string nm, .string vl] 55) = w1 at *
      have q0 : w1.cell? ⟨N + 1, 0, none⟩ = some (.string nm) := q0
      have q1 : w1.cell? ⟨N + 1, 1, none⟩ = some (.string vl) := q1
      have HS1 := Lib.hid HW1
      clear HW1
      have HKP : Hid (w1.drew.cell? ⟨N + 1, 0, none⟩ = some (.string nm) ∧ w1.drew.cell? ⟨N + 1, 1, none⟩ = some (.string vl)) := Lib.hid ⟨q0, q1⟩
      have HKQ : Hid ((w1.drew.setRow N #[.string nm, .string vl]).cell? ⟨N + 1, 0, none⟩ = some (.string nm) ∧ (w1.drew.setRow N #[.string nm, .string vl]).cell? ⟨N + 1, 1, none⟩ = some (.string vl)) := Lib.hid ⟨(HS1.out.drew.farRow (by omega) _).cell 0, (HS1.out.drew.farRow (by omega) _).cell 1⟩
      have HG0 : Hid (∀ W : World, (W.cell? ⟨N + 1, 0, none⟩ = some (.string nm) ∧ W.cell? ⟨N + 1, 1, none⟩ = some (.string vl)) → W.cell? ⟨N + 1, 0, none⟩ = some (.string nm)) := Lib.hid fun W h => h.1
      have HG1 : Hid (∀ W : World, (W.cell? ⟨N + 1, 0, none⟩ = some (.string nm) ∧ W.cell? ⟨N + 1, 1, none⟩ = some (.string vl)) → W.cell? ⟨N + 1, 1, none⟩ = some (.string vl)) := Lib.hid fun W h => h.2
      clear q0 q1
      refine wp_region_held_drew (S := (fun W => W.cell? ⟨N + 1, 0, none⟩ = some (.string nm) ∧ W.cell? ⟨N + 1, 1, none⟩ = some (.string vl))) (by kernel_rfl) HKP.out (fun hHeld => ?_)
      cases bw with
      | false =>
        refine wpAnyH_take (i := 0) (v := _) rfl (by as_aux_lemma => kernel_rfl) (by as_aux_lemma => kernel_rfl) (by as_aux_lemma => kernel_rfl) (fun _ _ _ h => h) (Or.inl ⟨by rfl, fun w h => by have e0 := HG0.out w h; have e1 := HG1.out w h; clear h; go_simp; (try with_reducible rfl)⟩) (by assumption) ?_
        simp only [Act.put, List.getElem_toArray, List.getElem_cons_succ, List.getElem_cons_zero, List.setIfInBounds_toArray, List.set_cons_succ, List.set_cons_zero]
        refine wpAnyH_take (i := 1) (v := _) rfl (by as_aux_lemma => kernel_rfl) (by as_aux_lemma => kernel_rfl) (by as_aux_lemma => kernel_rfl) (fun _ _ _ h => h) (Or.inl ⟨by rfl, fun w h => by have e0 := HG0.out w h; have e1 := HG1.out w h; clear h; go_simp; (try with_reducible rfl)⟩) (by assumption) ?_
        simp only [Act.put, List.getElem_toArray, List.getElem_cons_succ, List.getElem_cons_zero, List.setIfInBounds_toArray, List.set_cons_succ, List.set_cons_zero]
        refine wpAnyH_take (i := 2) (v := _) rfl (by as_aux_lemma => kernel_rfl) (by as_aux_lemma => kernel_rfl) (by as_aux_lemma => kernel_rfl) (fun _ _ _ h => h) (Or.inl ⟨by rfl, fun w h => by have e0 := HG0.out w h; have e1 := HG1.out w h; clear h; go_simp; (try with_reducible rfl)⟩) (by assumption) ?_
        simp only [Act.put, List.getElem_toArray, List.getElem_cons_succ, List.getElem_cons_zero, List.setIfInBounds_toArray, List.set_cons_succ, List.set_cons_zero]
        refine wpAnyH_ready (rs := [3]) (by as_aux_lemma => kernel_rfl) (by simp) ?_
        refine AllReadyH.cons (i := 3) rfl (fun K hK => ?_) AllReadyH.nil
        go_simp
        refine (HW.out _).mono ?_
        rintro e w' ⟨rfl, rfl⟩
        refine hK.out _ _ HKP.out (fun hHeld => ?_)
        clear hK K
        refine wpAnyH_take (i := 4) (v := _) rfl (by as_aux_lemma => kernel_rfl) (by as_aux_lemma => kernel_rfl) (by as_aux_lemma => kernel_rfl) (fun _ _ _ h => h) (Or.inl ⟨by rfl, fun w h => by have e0 := HG0.out w h; have e1 := HG1.out w h; clear h; go_simp; (try with_reducible rfl)⟩) (by assumption) ?_
        simp only [Act.put, List.getElem_toArray, List.getElem_cons_succ, List.getElem_cons_zero, List.setIfInBounds_toArray, List.set_cons_succ, List.set_cons_zero]
        refine wpAnyH_take (i := 5) (v := _) rfl (by as_aux_lemma => kernel_rfl) (by as_aux_lemma => kernel_rfl) (by as_aux_lemma => kernel_rfl) (fun _ _ _ h => h) (Or.inr ⟨by rfl, rfl⟩) (by assumption) ?_
        simp only [Act.put, List.getElem_toArray, List.getElem_cons_succ, List.getElem_cons_zero, List.setIfInBounds_toArray, List.set_cons_succ, List.set_cons_zero]
        refine wpAnyH_take (i := 6) (v := _) rfl (by as_aux_lemma => kernel_rfl) (by as_aux_lemma => kernel_rfl) (by as_aux_lemma => kernel_rfl) (fun _ _ _ h => h) (Or.inr ⟨by rfl, rfl⟩) (by assumption) ?_
        simp only [Act.put, List.getElem_toArray, List.getElem_cons_succ, List.getElem_cons_zero, List.setIfInBounds_toArray, List.set_cons_succ, List.set_cons_zero]
        refine wpAnyH_take (i := 7) (v := _) rfl (by as_aux_lemma => kernel_rfl) (by as_aux_lemma => kernel_rfl) (by as_aux_lemma => kernel_rfl) (fun _ _ _ h => h) (Or.inr ⟨by rfl, rfl⟩) (by assumption) ?_
        simp only [Act.put, List.getElem_toArray, List.getElem_cons_succ, List.getElem_cons_zero, List.setIfInBounds_toArray, List.set_cons_succ, List.set_cons_zero]
        refine wpAnyH_take (i := 8) (v := _) rfl (by as_aux_lemma => kernel_rfl) (by as_aux_lemma => kernel_rfl) (by as_aux_lemma => kernel_rfl) (fun _ _ _ h => h) (Or.inl ⟨by rfl, fun w h => by have e0 := HG0.out w h; have e1 := HG1.out w h; clear h; go_simp; (try with_reducible rfl)⟩) (by assumption) ?_
        simp only [Act.put, List.getElem_toArray, List.getElem_cons_succ, List.getElem_cons_zero, List.setIfInBounds_toArray, List.set_cons_succ, List.set_cons_zero]
        refine wpAnyH_ready (rs := [9]) (by as_aux_lemma => kernel_rfl) (by simp) ?_
        refine AllReadyH.cons (i := 9) rfl (fun K hK => ?_) AllReadyH.nil
        refine step_storeS #[.string nm, .string vl] rfl 55 (.tmp 2) (.tmp 31) rfl rfl rfl HB1.out.1.drew Tryz.sizeRsAttr rfl rfl rfl ?_
        refine hK.out _ _ HKQ.out (fun hHeld => ?_)
        clear hK K
        try simp only [Act.put]
        refine wpAnyH_take (i := 10) (v := _) rfl (by as_aux_lemma => kernel_rfl) (by as_aux_lemma => kernel_rfl) (by as_aux_lemma => kernel_rfl) (fun _ _ _ h => h) (Or.inl ⟨by rfl, fun w h => by have e0 := HG0.out w h; have e1 := HG1.out w h; clear h; go_simp; (try with_reducible rfl)⟩) (by assumption) ?_
        simp only [Act.put, List.getElem_toArray, List.getElem_cons_succ, List.getElem_cons_zero, List.setIfInBounds_toArray, List.set_cons_succ, List.set_cons_zero]
        refine wpAnyH_done (by as_aux_lemma => kernel_rfl) ?_ _
        go_wp2
        (try simp only [Exit.inBlock, Exit.then])
        refine bodyPost_ret (ret_struct2 rfl rfl (HB1.out.1.drew.row _) Tryz.underlying55 rfl Tryz.sizeRsAttr rfl) rfl ?_
        exact ⟨⟨nm, vl⟩, _, rfl, HR.out, by rw [HN.out]; exact below_row HB1.out.2.drew (Nat.le_refl _) _⟩
      | true =>
        refine wpAnyH_take (i := 0) (v := _) rfl (by as_aux_lemma => kernel_rfl) (by as_aux_lemma => kernel_rfl) (by as_aux_lemma => kernel_rfl) (fun _ _ _ h => h) (Or.inl ⟨by rfl, fun w h => by have e0 := HG0.out w h; have e1 := HG1.out w h; clear h; go_simp; (try with_reducible rfl)⟩) (by assumption) ?_
        simp only [Act.put, List.getElem_toArray, List.getElem_cons_succ, List.getElem_cons_zero, List.setIfInBounds_toArray, List.set_cons_succ, List.set_cons_zero]
        refine wpAnyH_take (i := 1) (v := _) rfl (by as_aux_lemma => kernel_rfl) (by as_aux_lemma => kernel_rfl) (by as_aux_lemma => kernel_rfl) (fun _ _ _ h => h) (Or.inl ⟨by rfl, fun w h => by have e0 := HG0.out w h; have e1 := HG1.out w h; clear h; go_simp; (try with_reducible rfl)⟩) (by assumption) ?_
        simp only [Act.put, List.getElem_toArray, List.getElem_cons_succ, List.getElem_cons_zero, List.setIfInBounds_toArray, List.set_cons_succ, List.set_cons_zero]
        refine wpAnyH_take (i := 2) (v := _) rfl (by as_aux_lemma => kernel_rfl) (by as_aux_lemma => kernel_rfl) (by as_aux_lemma => kernel_rfl) (fun _ _ _ h => h) (Or.inl ⟨by rfl, fun w h => by have e0 := HG0.out w h; have e1 := HG1.out w h; clear h; go_simp; (try with_reducible rfl)⟩) (by assumption) ?_
        simp only [Act.put, List.getElem_toArray, List.getElem_cons_succ, List.getElem_cons_zero, List.setIfInBounds_toArray, List.set_cons_succ, List.set_cons_zero]
        refine wpAnyH_ready (rs := [3]) (by as_aux_lemma => kernel_rfl) (by simp) ?_
        refine AllReadyH.cons (i := 3) rfl (fun K hK => ?_) AllReadyH.nil
        go_simp
        refine (HW.out _).mono ?_
        rintro e w' ⟨rfl, rfl⟩
        refine hK.out _ _ HKP.out (fun hHeld => ?_)
        clear hK K
        refine wpAnyH_take (i := 4) (v := _) rfl (by as_aux_lemma => kernel_rfl) (by as_aux_lemma => kernel_rfl) (by as_aux_lemma => kernel_rfl) (fun _ _ _ h => h) (Or.inl ⟨by rfl, fun w h => by have e0 := HG0.out w h; have e1 := HG1.out w h; clear h; go_simp; (try with_reducible rfl)⟩) (by assumption) ?_
        simp only [Act.put, List.getElem_toArray, List.getElem_cons_succ, List.getElem_cons_zero, List.setIfInBounds_toArray, List.set_cons_succ, List.set_cons_zero]
        refine wpAnyH_take (i := 5) (v := _) rfl (by as_aux_lemma => kernel_rfl) (by as_aux_lemma => kernel_rfl) (by as_aux_lemma => kernel_rfl) (fun _ _ _ h => h) (Or.inl ⟨by rfl, fun w h => by have e0 := HG0.out w h; have e1 := HG1.out w h; clear h; go_simp; (try with_reducible rfl)⟩) (by assumption) ?_
        simp only [Act.put, List.getElem_toArray, List.getElem_cons_succ, List.getElem_cons_zero, List.setIfInBounds_toArray, List.set_cons_succ, List.set_cons_zero]
        refine wpAnyH_take (i := 6) (v := _) rfl (by as_aux_lemma => kernel_rfl) (by as_aux_lemma => kernel_rfl) (by as_aux_lemma => kernel_rfl) (fun _ _ _ h => h) (Or.inl ⟨by rfl, fun w h => by have e0 := HG0.out w h; have e1 := HG1.out w h; clear h; go_simp; (try with_reducible rfl)⟩) (by assumption) ?_
        simp only [Act.put, List.getElem_toArray, List.getElem_cons_succ, List.getElem_cons_zero, List.setIfInBounds_toArray, List.set_cons_succ, List.set_cons_zero]
        refine wpAnyH_ready (rs := [7]) (by as_aux_lemma => kernel_rfl) (by simp) ?_
        refine AllReadyH.cons (i := 7) rfl (fun K hK => ?_) AllReadyH.nil
        go_simp
        refine (HV.out _).mono ?_
        rintro e w' ⟨rfl, rfl⟩
        refine hK.out _ _ HKP.out (fun hHeld => ?_)
        clear hK K
        refine wpAnyH_take (i := 8) (v := _) rfl (by as_aux_lemma => kernel_rfl) (by as_aux_lemma => kernel_rfl) (by as_aux_lemma => kernel_rfl) (fun _ _ _ h => h) (Or.inl ⟨by rfl, fun w h => by have e0 := HG0.out w h; have e1 := HG1.out w h; clear h; go_simp; (try with_reducible rfl)⟩) (by assumption) ?_
        simp only [Act.put, List.getElem_toArray, List.getElem_cons_succ, List.getElem_cons_zero, List.setIfInBounds_toArray, List.set_cons_succ, List.set_cons_zero]
        refine wpAnyH_ready (rs := [9]) (by as_aux_lemma => kernel_rfl) (by simp) ?_
        refine AllReadyH.cons (i := 9) rfl (fun K hK => ?_) AllReadyH.nil
        refine step_storeS #[.string nm, .string vl] rfl 55 (.tmp 2) (.tmp 31) rfl rfl rfl HB1.out.1.drew Tryz.sizeRsAttr rfl rfl rfl ?_
        refine hK.out _ _ HKQ.out (fun hHeld => ?_)
        clear hK K
        try simp only [Act.put]
        refine wpAnyH_take (i := 10) (v := _) rfl (by as_aux_lemma => kernel_rfl) (by as_aux_lemma => kernel_rfl) (by as_aux_lemma => kernel_rfl) (fun _ _ _ h => h) (Or.inl ⟨by rfl, fun w h => by have e0 := HG0.out w h; have e1 := HG1.out w h; clear h; go_simp; (try with_reducible rfl)⟩) (by assumption) ?_
        simp only [Act.put, List.getElem_toArray, List.getElem_cons_succ, List.getElem_cons_zero, List.setIfInBounds_toArray, List.set_cons_succ, List.set_cons_zero]
        refine wpAnyH_done (by as_aux_lemma => kernel_rfl) ?_ _
        go_wp2
        (try simp only [Exit.inBlock, Exit.then])
        refine bodyPost_ret (ret_struct2 rfl rfl (HB1.out.1.drew.row _) Tryz.underlying55 rfl Tryz.sizeRsAttr rfl) rfl ?_
        exact ⟨⟨nm, vl⟩, _, rfl, HR.out, by rw [HN.out]; exact below_row HB1.out.2.drew (Nat.le_refl _) _⟩
    · have hz : ¬ ((s[k]).toNat : Int) = 58 := fun e => hc (by rw [← UInt8.toNat_inj]; have : (58 : UInt8).toNat = 58 := rfl; omega)
      have hz1 : (((s[k]).toNat : Int) == 58) = false := by rw [beq_eq_false_iff_ne]; exact hz
      have HNX : Hid (∀ c ∈ (tx s).take (k + 1), c ≠ 58) := Lib.hid (by
       rw [List.take_add_one, HK.out]
       intro c hcc
       simp at hcc
       rcases hcc with h | rfl
       · exact HNO.out c h
       · exact hc)
      clear hc hz
      go_wp2
      go_round
      case rel => exact ⟨k + 1, by omega, by go_num, HNX.out⟩
      case measure => simp [intOf]; omega
  · have hks : k = s.size := by omega
    have HA : Hid (tx (s.extract 0 k) = tx s ∧ cutS [58] (tx s) = (tx s, [], false)) := Lib.hid (by
     have e : (tx s).take k = tx s := List.take_of_length_le (by rw [tx_length]; omega)
     have := HNO.out
     rw [e] at this
     exact ⟨by rw [tx_extract]; simp [e], cutS_free (t := []) _ this⟩)
    have hge : (s.size : Int) ≤ (k : Int) := by omega
    obtain ⟨nm, hnm⟩ : ∃ x, s.extract 0 k = x := ⟨_, rfl⟩
    have HNM := Lib.hid hnm
    obtain ⟨bw, hbw⟩ : ∃ b, wordP 1 32 (tx nm) = b := ⟨_, rfl⟩
    have HW := Lib.hid (fun W => r1Word_32 nm W (by
     have := tx_length nm
     rw [← hnm, HA.out.1, tx_length] at this
     rw [← hnm, ← this]
     unfold maxLen
     omega))
    rw [hbw] at HW
    have HR : Hid (AttrO (tx s) ⟨nm, ⟨#[]⟩⟩ bw) := Lib.hid (by
     have e : tx nm = tx s := by rw [← hnm]; exact HA.out.1
     unfold AttrO attrP
     rw [HA.out.2]
     rw [e] at hbw
     simp only [hbw]
     cases bw with
     | true =>
       refine .inl ⟨rfl, ?_⟩
       simp only [Bool.not_false, Bool.true_or, Bool.and_self, if_true]
       rw [← e, bs_tx]
       rfl
     | false => exact .inr ⟨rfl, rfl⟩)
    clear hlt hks hbw
    go_upto_region 8 with fail
    clear hnm
    have HB1 : Hid (Whole (w0.alloc (.cells #[.string nm, .string ⟨#[]⟩] 55)) N 55 #[.string ⟨#[]⟩, .string ⟨#[]⟩] ∧ Below N w (w0.alloc (.cells #[.string nm, .string ⟨#[]⟩] 55))) := Lib.hid ⟨H0.out.1.alloc _, H0.out.2.1.alloc (Nat.le_of_lt H0.out.1.lt) _⟩
    have q0 := (Whole.new w0 55 #[.string nm, .string ⟨#[]⟩]).cell 0
    have q1 := (Whole.new w0 55 #[.string nm, .string ⟨#[]⟩]).cell 1
    generalize w0.alloc (.cells #[.string nm, .string ⟨#[]⟩] 55) = w1 at *
    generalize w0.heap.size = g5 at *
    have q0 : w1.cell? ⟨g5, 0, none⟩ = some (.string nm) := q0
    have q1 : w1.cell? ⟨g5, 1, none⟩ = some (.string ⟨#[]⟩) := q1
    refine wp_region_still_tail 4 (by kernel_rfl) (by kernel_rfl) ?_
    simp only [List.take_succ_cons, List.take_zero, List.drop_succ_cons, List.drop_zero]
    repeat still_step
    still_call (same_flip (HW.out _))
    refine wpStill_nil ?_
    change wpList _ _ _ _ _ w1.drew
    go_wp2_with (refine wpList_storeS #[.string nm, .string ⟨#[]⟩] rfl 55 (.tmp 2) (.tmp 40) rfl rfl rfl HB1.out.1.drew Tryz.sizeRsAttr rfl rfl rfl ?_)
    (try simp only [Exit.inBlock, Exit.then])
    refine bodyPost_ret (ret_struct2 rfl rfl (HB1.out.1.drew.row _) Tryz.underlying55 rfl Tryz.sizeRsAttr rfl) rfl ?_
    exact ⟨⟨nm, ⟨#[]⟩⟩, bw, rfl, HR.out, by rw [HN.out]; exact below_row HB1.out.2.drew (Nat.le_refl _) _⟩
end Go.Proofs.YtbbedhecfipdjaaGreatDoor
