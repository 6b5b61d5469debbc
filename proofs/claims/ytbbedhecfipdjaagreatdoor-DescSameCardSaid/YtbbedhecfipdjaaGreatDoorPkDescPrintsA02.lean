import Derived.Test.YtbbedhecfipdjaaGreatDoorPkDescPrintsA01
import Derived.Deep.Slices
import Derived.Test.YtbbedhecfipdjaaGreatDoorPkDescPrintsA00
import Derived.Lib.SplitLaws
import Derived.Deep.Fields
import Derived.OpenShut
import Derived.ChangeOld
import Derived.ChangeSame
import Derived.SizedLaws
import Derived.HandedShaped
namespace Go.Proofs.YtbbedhecfipdjaaGreatDoor
open Go.RowKit
set_option linter.unusedVariables false
set_option linter.unusedSimpArgs false
theorem run_loadVar_at {P : Program} (w : World) (p : Addr) (ty : TypeId) (cs : List Value) (d : TypeDesc) (hc : ∀ j v, cs[j]? = some v → w.cell? (p.add j) = some v)
 (hu : P.underlying ty = some d) (hd : d.isRow = true) (hi : (P.info? ty).map (·.size) = some cs.length) : (loadVar ty p).run P w = .ok (.agg cs.toArray) w := by
 have hl : (loadCells p cs.length).run P w = .ok cs.toArray w := run_loadCells_list (P := P) w p cs hc
 cases hq : P.info? ty with
 | none => simp [hq] at hi
 | some i =>
   have hs : i.size = cs.length := by simpa [hq] using hi
   have hagg : (isAgg ty).run P w = .ok true w := by
    unfold isAgg
    rw [Sem.run_bind, run_underlying hu w]
    cases d <;> simp_all
   simp [loadVar, Sem.run_bind, hagg, sizeOf, typeInfo, hq, hs, hl]
theorem wp_load_at {op : Oper} {a : Act} {w : World} {K : Act → World → Prop} {Q : Exit → Act → World → Prop} (ty : TypeId) (x : Operand) (ho : op.op = .load ty x) (p : Addr) (hx : a.eval x = .pointer (some p)) (cs : List Value) (d : TypeDesc)
 (hc : ∀ j v, cs[j]? = some v → w.cell? (p.add j) = some v) (hu : Tryz.prog.underlying ty = some d) (hd : d.isRow = true) (hi : (Tryz.prog.info? ty).map (·.size) = some cs.length)
 (h : K (a.put op.dst (.agg cs.toArray)) w) : op.wp Tryz.prog a w K Q := by
 unfold Oper.wp execOp
 simp only [ho, hx, Instr.loadAt, Instr.sureAddr, Sem.run_bind, Sem.run_pure, Result.andThen_ok, run_loadVar_at w p ty cs d hc hu hd hi]
 exact h
theorem wpList_load_at {ops : Array Oper} {rest : List Oper} {op : Oper} {a : Act} {w : World} {Q : Exit → Act → World → Prop} (hgd : op.guard = none) (ty : TypeId) (x : Operand) (ho : op.op = .load ty x) (p : Addr) (hx : a.eval x = .pointer (some p)) (cs : List Value) (d : TypeDesc)
 (hc : ∀ j v, cs[j]? = some v → w.cell? (p.add j) = some v) (hu : Tryz.prog.underlying ty = some d) (hd : d.isRow = true) (hi : (Tryz.prog.info? ty).map (·.size) = some cs.length)
 (h : wpList Tryz.prog ops Q rest (a.put op.dst (.agg cs.toArray)) w) : wpList Tryz.prog ops Q (op :: rest) a w :=
 wpList_plain hgd fun _ hK => wp_load_at ty x ho p hx cs d hc hu hd hi (hK _ _ h)
theorem yieldsIf_load_at {ops : Array Oper} {S : World → Prop} {op : Oper} {a : Act} (hw : Region.wanted op (yielded ops a.tmps) = true) (ty : TypeId) (x : Operand) (ho : op.op = .load ty x) (p : Addr) (hx : a.eval x = .pointer (some p)) (cs : List Value) (d : TypeDesc)
 (hS : ∀ w, S w → ∀ j v, cs[j]? = some v → w.cell? (p.add j) = some v) (hu : Tryz.prog.underlying ty = some d) (hd : d.isRow = true) (hi : (Tryz.prog.info? ty).map (·.size) = some cs.length) : YieldsIf Tryz.prog ops S op (.agg cs.toArray) a :=
 .inl ⟨hw, fun w hw' => by
  unfold execOp
  simp only [ho, hx, Instr.loadAt, Instr.sureAddr, Sem.run_bind, Sem.run_pure, Result.andThen_ok, run_loadVar_at w p ty cs d (hS w hw') hu hd hi]⟩
theorem cryC_len {c : CryptoS} (h : c.key.length = 30) : (cryC c).length = 31 := by simp [cryC, keyC, h]
theorem cryC_one (c : CryptoS) : (cryC c).toArray.toList.all (·.oneCell') = true := by
 rw [List.all_eq_true]
 intro v hv
 simp only [cryC, keyC, List.mem_cons, List.mem_map] at hv
 rcases hv with rfl | ⟨_, _, rfl⟩ <;> rfl
theorem CrysV.at_ {w : World} {B : Nat} {v : Value} {L : List CryptoS} (h : CrysV w B v L) {i : Nat} (hi : i < L.length) : ∃ ad c, v = .slice (some ad) L.length c ∧ ad.block < B ∧ (L.getD i default).key.length = 30 ∧
 ∀ j u, (cryC (L.getD i default))[j]? = some u → w.cell? ((ad.add (i * 31)).add j) = some u := by
 obtain ⟨ad, c, h1, h2, _, _, h3, h4⟩ := Rows.at_ h (List.getElem?_eq_getElem hi)
 have e : L.getD i default = L[i] := by simp [List.getD, hi]
 rw [e]
 refine ⟨ad, c, h1, h2, h3, fun j u hu => ?_⟩
 have hj : j < 31 := by
  have := (List.getElem?_eq_some_iff.1 hu).1
  rw [cryC_len h3] at this
  exact this
 rw [Go.Deep.add_add]
 exact (h4 j hj).trans hu
set_option maxHeartbeats 6400000 in
set_option maxRecDepth 100000 in
theorem goodListY_any (A : Option Addr) (n c : Nat) (L : List CryptoS) (w : World) (h : CrysV w w.heap.size (.slice A n c) L) (hn : L.length = n) (hl : n ≤ 140737488355328) :
 Calls Tryz.prog 96 #[.slice A n c, .int .i64 1, .func (.func 97) #[] #[], .func (.func 98) #[] #[]] w fun e w' => e = .returned (.bool (decide (n ≤ 1) && L.all goodY)) ∧ Below w.heap.size w w' := by
 have hb0 : Below w.heap.size w (w.alloc (.cells #[.func (.func 97) #[] #[]] 146)) := (Below.refl _ w).alloc (Nat.le_refl _) _
 have hcap : n ≤ c ∧ c ≤ maxLen := by
  obtain ⟨A', c', e1, e2, e3, -⟩ := Rows.form h
  injection e1 with e1 e1n e1c
  subst e1c
  exact ⟨by omega, e3⟩
 have HV := Lib.hid h
 have HE := Lib.hid hn
 have HB0 := Lib.hid hb0
 have HN0 : Hid (w.heap.size ≤ (w.alloc (.cells #[.func (.func 97) #[] #[]] 146)).heap.size) := Lib.hid hb0.size
 obtain ⟨hc1, hc2⟩ := hcap
 unfold maxLen at hc2
 obtain ⟨r, hr⟩ : ∃ r, (decide (n ≤ 1) && L.all goodY) = r := ⟨_, rfl⟩
 have HR := Lib.hid hr
 rw [hr]
 clear h hn hb0 hr
 by_cases hm : n ≤ 1
 · have hmi : (n : Int) ≤ 1 := by omega
   obtain ⟨N, hN⟩ : ∃ N, w.heap.size = N := ⟨_, rfl⟩
   rw [hN] at HB0 HV HN0 ⊢
   go_enter Tryz.func96, Tryz.ntmps96
   go_upto_region 1 with fail
   generalize w.alloc (.cells #[.func (.func 97) #[] #[]] 146) = W0 at *
   clear hN
   have hmf : ∀ (fn : Fn) (first cap : Array Value) (w : World), (Instr.makeFunc fn first cap).run Tryz.prog w = .ok (.func fn first cap) w := fun _ _ _ _ => rfl
   go_wp2
   go_loopw [18] (fun s18 wr => ∃ k : Nat, k ≤ n ∧ s18 = .int .i64 k ∧ (Below W0.heap.size W0 wr ∧ (∀ j, j < k → goodY (L.getD j default) = true))) (fun s18 _ => n - (intOf s18).toNat)
   case atStart => exact ⟨0, by omega, rfl, Below.refl _ _, (fun j hj => by omega)⟩
   case round =>
    obtain ⟨k, hk, rfl, hst⟩ := hrel
    have HS := Lib.hid hst
    clear hst
    by_cases hlt : k < n
    · have hlt' : k < L.length := by rw [HE.out]; exact hlt
      have HBW : Hid (Below N w wr) := Lib.hid (HB0.out.trans (HS.out.1.mono HN0.out))
      obtain ⟨ad, c', e1, had, c30, cj⟩ := (HV.out.below HBW.out).at_ hlt'
      injection e1 with e1 e1n e1c
      clear e1n e1c
      subst e1
      obtain ⟨x, hx⟩ : ∃ x, L.getD k default = x := ⟨_, rfl⟩
      have HM : Hid (x ∈ L ∧ L.getD k default = x) := Lib.hid ⟨by rw [← hx]; exact getD_mem hlt', hx⟩
      rw [hx] at c30 cj
      have HJ := Lib.hid cj
      have H31 : Hid ((cryC x).length = 31) := Lib.hid (cryC_len c30)
      have HK0 : Hid (k = 0) := Lib.hid (by omega)
      have hk0 : (0 : Int) ≤ (k : Int) := by omega
      have hk1 : (k : Int) < (n : Int) := by omega
      have hk2 : (k : Int) ≤ (c : Int) := by omega
      have hN0 : W0.heap.size ≤ wr.heap.size := HS.out.1.size
      obtain ⟨X, hX⟩ : ∃ X, (cryC x).toArray = X := ⟨_, rfl⟩
      have HX : Hid ((cryC x).toArray = X ∧ X.size = 31 ∧ X.toList.all (·.oneCell') = true) := Lib.hid ⟨hX, by rw [← hX]; simpa using H31.out, by rw [← hX]; exact cryC_one x⟩
      have HNEW : Hid (Whole (wr.alloc (.cells #[.int .i64 0, .int .u8 0, .int .u8 0, .int .u8 0, .int .u8 0, .int .u8 0, .int .u8 0, .int .u8 0, .int .u8 0, .int .u8 0, .int .u8 0, .int .u8 0, .int .u8 0, .int .u8 0, .int .u8 0, .int .u8 0, .int .u8 0, .int .u8 0, .int .u8 0, .int .u8 0, .int .u8 0, .int .u8 0, .int .u8 0, .int .u8 0, .int .u8 0, .int .u8 0, .int .u8 0, .int .u8 0, .int .u8 0, .int .u8 0, .int .u8 0] 88)) wr.heap.size 88 #[.int .i64 0, .int .u8 0, .int .u8 0, .int .u8 0, .int .u8 0, .int .u8 0, .int .u8 0, .int .u8 0, .int .u8 0, .int .u8 0, .int .u8 0, .int .u8 0, .int .u8 0, .int .u8 0, .int .u8 0, .int .u8 0, .int .u8 0, .int .u8 0, .int .u8 0, .int .u8 0, .int .u8 0, .int .u8 0, .int .u8 0, .int .u8 0, .int .u8 0, .int .u8 0, .int .u8 0, .int .u8 0, .int .u8 0, .int .u8 0, .int .u8 0]) := Lib.hid (Whole.new _ _ _)
      have HW : Hid (Below W0.heap.size W0 ((wr.alloc (.cells #[.int .i64 0, .int .u8 0, .int .u8 0, .int .u8 0, .int .u8 0, .int .u8 0, .int .u8 0, .int .u8 0, .int .u8 0, .int .u8 0, .int .u8 0, .int .u8 0, .int .u8 0, .int .u8 0, .int .u8 0, .int .u8 0, .int .u8 0, .int .u8 0, .int .u8 0, .int .u8 0, .int .u8 0, .int .u8 0, .int .u8 0, .int .u8 0, .int .u8 0, .int .u8 0, .int .u8 0, .int .u8 0, .int .u8 0, .int .u8 0, .int .u8 0] 88)).setRow wr.heap.size X) ∧ Whole ((wr.alloc (.cells #[.int .i64 0, .int .u8 0, .int .u8 0, .int .u8 0, .int .u8 0, .int .u8 0, .int .u8 0, .int .u8 0, .int .u8 0, .int .u8 0, .int .u8 0, .int .u8 0, .int .u8 0, .int .u8 0, .int .u8 0, .int .u8 0, .int .u8 0, .int .u8 0, .int .u8 0, .int .u8 0, .int .u8 0, .int .u8 0, .int .u8 0, .int .u8 0, .int .u8 0, .int .u8 0, .int .u8 0, .int .u8 0, .int .u8 0, .int .u8 0, .int .u8 0] 88)).setRow wr.heap.size X) wr.heap.size 88 X) := Lib.hid ⟨below_row (HS.out.1.alloc hN0 _) hN0 _, (Whole.new wr 88 #[.int .i64 0, .int .u8 0, .int .u8 0, .int .u8 0, .int .u8 0, .int .u8 0, .int .u8 0, .int .u8 0, .int .u8 0, .int .u8 0, .int .u8 0, .int .u8 0, .int .u8 0, .int .u8 0, .int .u8 0, .int .u8 0, .int .u8 0, .int .u8 0, .int .u8 0, .int .u8 0, .int .u8 0, .int .u8 0, .int .u8 0, .int .u8 0, .int .u8 0, .int .u8 0, .int .u8 0, .int .u8 0, .int .u8 0, .int .u8 0, .int .u8 0]).row X⟩
      have HLD : Hid (∀ (ops : Array Oper) (rest : List Oper) (op : Oper) (a : Act) (Q : Exit → Act → World → Prop), op.guard = none → op.op = .load 88 (.tmp 21) → a.eval (.tmp 21) = .pointer (some (ad.add (k * 31))) → wpList Tryz.prog ops Q rest (a.put op.dst (.agg X)) wr → wpList Tryz.prog ops Q (op :: rest) a wr) :=
       Lib.hid fun ops rest op a Q h1 h2 h3 h4 => wpList_load_at h1 88 (.tmp 21) h2 _ h3 (cryC x) _ HJ.out Tryz.underlying88 rfl (by rw [H31.out]; exact Tryz.sizeCrypto) (by rw [HX.out.1]; exact h4)
      clear hx had hlt' hN0 cj c30 hX HJ H31
      go_upto_region 7 with (first
       | ((with_reducible refine HLD.out _ _ _ _ _ ?_ ?_ ?_ ?_); (with_reducible rfl); (with_reducible rfl); rfl)
       | ((with_reducible refine wpList_storeS X ?_ 88 (.tmp 10) (.tmp 22) ?_ ?_ ?_ HNEW.out Tryz.sizeCrypto HX.out.2.1 ?_ HX.out.2.2 ?_); (with_reducible rfl); (with_reducible rfl); rfl; rfl; rfl))
      generalize ((wr.alloc (.cells #[.int .i64 0, .int .u8 0, .int .u8 0, .int .u8 0, .int .u8 0, .int .u8 0, .int .u8 0, .int .u8 0, .int .u8 0, .int .u8 0, .int .u8 0, .int .u8 0, .int .u8 0, .int .u8 0, .int .u8 0, .int .u8 0, .int .u8 0, .int .u8 0, .int .u8 0, .int .u8 0, .int .u8 0, .int .u8 0, .int .u8 0, .int .u8 0, .int .u8 0, .int .u8 0, .int .u8 0, .int .u8 0, .int .u8 0, .int .u8 0, .int .u8 0] 88)).setRow wr.heap.size X) = w2 at *
      generalize wr.heap.size = g at *
      clear HNEW HLD
      have HBW2 : Hid (Below N w w2) := Lib.hid (HB0.out.trans (HW.out.1.mono HN0.out))
      have HSZ : Hid (N ≤ w2.heap.size) := Lib.hid (Nat.le_trans HN0.out HW.out.1.size)
      obtain ⟨b, hb⟩ : ∃ b, goodY x = b := ⟨_, rfl⟩
      have HC : Hid (Calls Tryz.prog 98 #[.agg X] w2 fun e w' => e = .returned (.bool b) ∧ Below w2.heap.size w2 w') := Lib.hid (by
       rw [← hb, ← HX.out.1]
       exact goodCrypto_any x.tag (keyC x.key) w2 (by have := HX.out.2.1; rw [← HX.out.1] at this; simpa [cryC] using this))
      have HBG := Lib.hid hb
      clear hb
      obtain rfl := HK0.out
      cases b with
      | false =>
        have HQ : Hid (r = false) := Lib.hid (by rw [← HR.out, all_no HM.out.1 HBG.out]; simp)
        go_wp2_with (first
         | ((with_reducible refine wpList_load_all ?_ 88 (.tmp 10) ?_ HW.out.2 ?_ Tryz.sizeCrypto HX.out.2.1 Tryz.underlying88 ?_ ?_); (with_reducible rfl); (with_reducible rfl); rfl; rfl)
         | (go_at_call 98; (with_reducible refine HC.out.mono ?_); rintro e w3 ⟨rfl, hb3⟩))
        go_ret
        exact ⟨ret_bool HQ.out.symm, HBW2.out.trans (hb3.mono HSZ.out)⟩
      | true =>
        have HCO : Hid (∀ f w3, Calls Tryz.prog 147 #[.slice (some ad) 0 c, f] w3 fun e w' => e = .returned (.bool false) ∧ w3 = w') := Lib.hid fun f w3 => containsY_none _ _ _ _
        go_wp2_with (first
         | ((with_reducible refine wpList_load_all ?_ 88 (.tmp 10) ?_ HW.out.2 ?_ Tryz.sizeCrypto HX.out.2.1 Tryz.underlying88 ?_ ?_); (with_reducible rfl); (with_reducible rfl); rfl; rfl)
         | (go_at_call 98; (with_reducible refine HC.out.mono ?_); rintro e w3 ⟨rfl, hb3⟩)
         | (go_at_call 147; (with_reducible refine (HCO.out _ _).mono ?_); rintro e w4 ⟨rfl, rfl⟩))
        go_roundw
        case rel =>
         refine ⟨1, by omega, by go_num, HW.out.1.trans (hb3.mono HW.out.1.size), fun j hj => ?_⟩
         obtain rfl : j = 0 := by omega
         rw [HM.out.2]
         exact HBG.out
        case measure => simp [intOf]; omega
    · have e : k = n := by omega
      subst e
      have HQ : Hid (r = true) := Lib.hid (by
       rw [← HR.out, all_yesL HE.out HS.out.2]
       simp [hm])
      have HBW : Hid (Below N w wr) := Lib.hid (HB0.out.trans (HS.out.1.mono HN0.out))
      go_wp2
      go_ret
      exact ⟨ret_bool HQ.out.symm, HBW.out⟩
 · have hmi : 1 < (n : Int) := by omega
   have HQ : Hid (r = false) := Lib.hid (by rw [← HR.out]; simp [hm])
   go_enter Tryz.func96, Tryz.ntmps96
   go_wp2
   go_ret
   exact ⟨ret_bool HQ.out.symm, HB0.out⟩
end Go.Proofs.YtbbedhecfipdjaaGreatDoor
namespace Go.Proofs.YtbbedhecfipdjaaGreatDoor
set_option linter.unusedVariables false
set_option linter.unusedSimpArgs false
abbrev nGroup : Tx := [103, 114, 111, 117, 112]
abbrev nUfrag : Tx := [105, 99, 101, 45, 117, 102, 114, 97, 103]
abbrev nPwd : Tx := [105, 99, 101, 45, 112, 119, 100]
abbrev wBundle : Tx := [66, 85, 78, 68, 76, 69]
abbrev wOEnd : Tx := [32, 73, 78, 32, 73, 80, 52, 32, 49, 50, 55, 46, 48, 46, 48, 46, 49]
structure DescS where
 id : Nat
 ver : Nat
 bundle : List ByteArray
 name : ByteArray
 pass : ByteArray
 media : List MediaS
def DescS.zero : DescS := ⟨0, 0, [], bs [], bs [], []⟩
instance : Inhabited MediaS := ⟨MediaS.zero⟩
theorem DescS.ext' {a b : DescS} (h1 : a.id = b.id) (h2 : a.ver = b.ver) (h3 : a.bundle = b.bundle) (h4 : a.name = b.name) (h5 : a.pass = b.pass) (h6 : a.media = b.media) : a = b := by
 cases a; cases b; simp_all
def midT (m : MediaS) : Tx := tx m.mid
def goodDM (L : List MediaS) : Bool := L.all goodM && unlike midT L
def goodDB (B : List ByteArray) (L : List MediaS) : Bool := B.all (fun b => (L.map midT).contains (tx b)) && unlike tx B
def goodD (d : DescS) : Bool := wordP 4 32 (tx d.name) && wordP 22 32 (tx d.pass) && decide (d.media.length ≤ 8) && goodDM d.media && goodDB d.bundle d.media
def originT (a b : Nat) : Tx := 45 :: 32 :: (dec a ++ 32 :: (dec b ++ wOEnd))
def groupT (B : List ByteArray) : Tx := wBundle ++ B.flatMap fun b => 32 :: tx b
def headA (d : DescS) : List AttrS := (if d.bundle.isEmpty then [] else [⟨bs nGroup, bs (groupT d.bundle)⟩]) ++ [⟨bs nUfrag, d.name⟩, ⟨bs nPwd, d.pass⟩]
def sesD (d : DescS) : SesS := ⟨bs (originT d.id d.ver), bs [45], bs [48, 32, 48], headA d, d.media.map partM⟩
def knownD (a : AttrS) : Bool := [nGroup, nUfrag, nPwd].contains (tx a.name)
def TypedD (d : DescS) : Prop := d.id < 18446744073709551616 ∧ d.ver < 18446744073709551616 ∧ ∀ m ∈ d.media, TypedM m
structure IsD (x : SesS) (d : DescS) : Prop where
 good : goodD d = true
 origin : tx x.origin = originT d.id d.ver
 name : tx x.name = [45]
 time : tx x.time = [48, 32, 48]
 attrs : x.attrs.filter knownD = headA d
 len : x.parts.length = d.media.length
 parts : ∀ (i : Nat) (p : PartS) (m : MediaS), x.parts[i]? = some p → d.media[i]? = some m → IsM p m
theorem goodD_parts {d : DescS} (h : goodD d = true) : wordP 4 32 (tx d.name) = true ∧ wordP 22 32 (tx d.pass) = true ∧ d.media.length ≤ 8 ∧ (∀ m ∈ d.media, goodM m = true) ∧ (d.media.map midT).Nodup ∧ (∀ b ∈ d.bundle, ∃ m ∈ d.media, midT m = tx b) ∧ (d.bundle.map tx).Nodup := by
 unfold goodD goodDM goodDB unlike at h
 simp only [Bool.and_eq_true, decide_eq_true_eq, List.all_eq_true, List.contains_iff_mem, List.mem_map] at h
 obtain ⟨⟨⟨⟨h1, h2⟩, h3⟩, h4, h5⟩, h6, h7⟩ := h
 exact ⟨h1, h2, h3, h4, h5, h6, h7⟩
theorem goodD_bundle {d : DescS} (h : goodD d = true) : ∀ b ∈ d.bundle, wordP 1 16 (tx b) = true := fun b hb => by
 obtain ⟨_, _, _, h4, _, h6, _⟩ := goodD_parts h
 obtain ⟨m, hm, e⟩ := h6 b hb
 rw [← e]
 exact (goodM_parts (h4 m hm)).2.1
theorem nodup_le {α : Type} [DecidableEq α] : ∀ (A B : List α), A.Nodup → (∀ a ∈ A, a ∈ B) → A.length ≤ B.length
 | [], _, _, _ => Nat.zero_le _
 | a :: A, B, hn, hs => by
   rw [List.nodup_cons] at hn
   have hm := hs a (by simp)
   have h2 : ∀ x ∈ A, x ∈ B.erase a := fun x hx => by
    rw [List.mem_erase_of_ne (fun e : x = a => hn.1 (by rw [← e]; exact hx))]
    exact hs x (by simp [hx])
   have := nodup_le A (B.erase a) hn.2 h2
   rw [List.length_erase_of_mem hm] at this
   have hpos : 0 < B.length := List.length_pos_of_mem hm
   rw [List.length_cons]
   omega
theorem goodD_few {d : DescS} (h : goodD d = true) : d.bundle.length ≤ 8 := by
 obtain ⟨_, _, h3, _, _, h6, h7⟩ := goodD_parts h
 have := nodup_le (d.bundle.map tx) (d.media.map midT) h7 (fun a ha => by
  obtain ⟨b, hb, rfl⟩ := List.mem_map.1 ha
  obtain ⟨m, hm, e⟩ := h6 b hb
  exact List.mem_map.2 ⟨m, hm, e⟩)
 rw [List.length_map, List.length_map] at this
 omega
structure DRdr where
 orig : Tx → Nat × Nat
 sp : Tx → List ByteArray
structure DRdr.Law (R : DRdr) : Prop where
 orig : ∀ a b, a < 18446744073709551616 → b < 18446744073709551616 → R.orig (originT a b) = (a, b)
 sp : ∀ B : List ByteArray, (∀ b ∈ B, ∀ c ∈ tx b, c ≠ 32) → R.sp (groupT B) = B
def rda (R : DRdr) (d : DescS) (a : AttrS) : DescS :=
 if tx a.name = nGroup then { d with bundle := R.sp (tx a.value) }
 else if tx a.name = nUfrag then { d with name := a.value }
 else if tx a.name = nPwd then { d with pass := a.value }
 else d
def startD (R : DRdr) (o : Tx) : DescS := { DescS.zero with id := (R.orig o).1, ver := (R.orig o).2 }
def readD (R : DRdr) (x : SesS) : DescS := (x.attrs.filter knownD).foldl (rda R) (startD R (tx x.origin))
section
variable {R : DRdr}
theorem rda_group (d : DescS) (v : ByteArray) : rda R d ⟨bs nGroup, v⟩ = { d with bundle := R.sp (tx v) } := by
 unfold rda
 simp only [tx_bs]
 rw [if_pos trivial]
theorem rda_ufrag (d : DescS) (v : ByteArray) : rda R d ⟨bs nUfrag, v⟩ = { d with name := v } := by
 unfold rda
 simp only [tx_bs]
 rw [if_neg (by decide), if_pos trivial]
theorem rda_pwd (d : DescS) (v : ByteArray) : rda R d ⟨bs nPwd, v⟩ = { d with pass := v } := by
 unfold rda
 simp only [tx_bs]
 rw [if_neg (by decide), if_neg (by decide), if_pos trivial]
theorem readD_head (hR : R.Law) {d : DescS} (h1 : d.id < 18446744073709551616) (h2 : d.ver < 18446744073709551616) (hb : ∀ b ∈ d.bundle, ∀ c ∈ tx b, c ≠ 32) : (headA d).foldl (rda R) (startD R (originT d.id d.ver)) = { d with media := [] } := by
 unfold headA startD
 rw [hR.orig _ _ h1 h2, List.foldl_append]
 cases hB : d.bundle with
 | nil =>
   simp only [List.isEmpty_nil, if_true, List.foldl_nil, List.foldl_cons]
   rw [rda_ufrag, rda_pwd, ← hB]
   exact DescS.ext' rfl rfl hB.symm rfl rfl rfl
 | cons b B =>
   rw [← hB]
   have : d.bundle.isEmpty = false := by rw [hB]; rfl
   simp only [this, Bool.false_eq_true, if_false, List.foldl_nil, List.foldl_cons]
   rw [rda_group, rda_ufrag, rda_pwd, tx_bs, hR.sp _ hb]
   rfl
theorem IsD.read (hR : R.Law) {x : SesS} {d : DescS} (h : IsD x d) (ht : TypedD d) : readD R x = { d with media := [] } := by
 unfold readD
 rw [h.attrs, h.origin]
 exact readD_head hR ht.1 ht.2.1 fun b hb => word_32 (goodD_bundle h.good b hb)
end
theorem IsD.one {R : DRdr} (hR : R.Law) {Q : Rdr} (hQ : Q.Law) {x : SesS} {d e : DescS} (h : IsD x d) (h' : IsD x e) (hd : TypedD d) (he : TypedD e) : d = e := by
 have e1 := (h.read hR hd).symm.trans (h'.read hR he)
 have e2 : d.media = e.media := by
  apply List.ext_getElem?
  intro i
  by_cases hi : i < x.parts.length
  · have h1 : i < d.media.length := by rw [← h.len]; exact hi
    have h2 : i < e.media.length := by rw [← h'.len]; exact hi
    have q1 := h.parts i _ _ (List.getElem?_eq_getElem hi) (List.getElem?_eq_getElem h1)
    have q2 := h'.parts i _ _ (List.getElem?_eq_getElem hi) (List.getElem?_eq_getElem h2)
    rw [List.getElem?_eq_getElem h1, List.getElem?_eq_getElem h2, ← IsM.read hQ q1 (hd.2.2 _ (List.getElem_mem _)), ← IsM.read hQ q2 (he.2.2 _ (List.getElem_mem _))]
  · rw [List.getElem?_eq_none (by rw [← h.len]; omega), List.getElem?_eq_none (by rw [← h'.len]; omega)]
 injection e1 with a1 a2 a3 a4 a5
 exact DescS.ext' a1 a2 a3 a4 a5 e2
end Go.Proofs.YtbbedhecfipdjaaGreatDoor
namespace Go.Proofs.YtbbedhecfipdjaaGreatDoor
open Go.RowKit
set_option linter.unusedVariables false
set_option linter.unusedSimpArgs false
theorem Tryz.sizeDesc : (Tryz.prog.info? 62).map (·.size) = some 6 := by kernel_rfl
def RM (w : World) (B : Nat) (f : Nat → Option Value) (m : MediaS) : Prop := ∃ M vC vE vR vS vY, MediaV w B M m vC vE vR vS vY ∧ ∀ j, j < 11 → f j = M[j]?
def MediasV (w : World) (B : Nat) (v : Value) (L : List MediaS) : Prop := Rows w B 11 (RM w B) v L
section
variable {w w' : World} {B B' : Nat} {v : Value} {L : List MediaS}
theorem RM.below {f : Nat → Option Value} {m : MediaS} (h : RM w B f m) (hb : Below B w w') : RM w' B f m := by
 obtain ⟨M, vC, vE, vR, vS, vY, h1, h2⟩ := h
 exact ⟨M, vC, vE, vR, vS, vY, h1.below hb, h2⟩
theorem RM.more {f : Nat → Option Value} {m : MediaS} (h : RM w B f m) (hB : B ≤ B') : RM w B' f m := by
 obtain ⟨M, vC, vE, vR, vS, vY, h1, h2⟩ := h
 exact ⟨M, vC, vE, vR, vS, vY, h1.more hB, h2⟩
theorem MediasV.below (h : MediasV w B v L) (hb : Below B w w') : MediasV w' B v L := Rows.below h hb fun _ _ _ h => h.below hb
theorem MediasV.more (h : MediasV w B v L) (hB : B ≤ B') : MediasV w B' v L := Rows.more (Rows.mono h fun _ _ _ h => h.more hB) hB
theorem MediasV.nil (w : World) (B : Nat) : MediasV w B (.slice none 0 0) [] := Rows.nil _ _ _ _
theorem MediasV.at_ (h : MediasV w B v L) {i : Nat} (hi : i < L.length) : ∃ ad c M vC vE vR vS vY, v = .slice (some ad) L.length c ∧ ad.block < B ∧ MediaV w B M (L.getD i default) vC vE vR vS vY ∧
 ∀ j u, M.toList[j]? = some u → w.cell? ((ad.add (i * 11)).add j) = some u := by
 obtain ⟨ad, c, h1, h2, _, _, M, vC, vE, vR, vS, vY, h3, h4⟩ := Rows.at_ h (List.getElem?_eq_getElem hi)
 have e : L.getD i default = L[i] := by simp [List.getD, hi]
 rw [e]
 refine ⟨ad, c, M, vC, vE, vR, vS, vY, h1, h2, h3, fun j u hu => ?_⟩
 rw [Array.getElem?_toList] at hu
 have hj : j < 11 := by
  have := (Array.getElem?_eq_some_iff.1 hu).1
  rwa [h3.size] at this
 rw [Go.Deep.add_add]
 exact (h4 j hj).trans hu
end
theorem MediaV.one {w : World} {B : Nat} {M : Array Value} {m : MediaS} {vC vE vR vS vY : Value} (h : MediaV w B M m vC vE vR vS vY) : M.toList.all (·.oneCell') = true := by
 obtain ⟨A1, c1, rfl, -⟩ := Rows.form h.codecs
 obtain ⟨A2, c2, rfl, -⟩ := Rows.form h.exts
 obtain ⟨A3, c3, rfl, -⟩ := Rows.form h.rids
 obtain ⟨A4, c4, rfl, -⟩ := Rows.form h.sources
 obtain ⟨A5, c5, rfl, -⟩ := Rows.form h.crypto
 rw [h.form]
 rfl
structure DescV (w : World) (B : Nat) (D : Array Value) (d : DescS) (vB vM : Value) : Prop where
 form : D = #[.int .u64 d.id, .int .u64 d.ver, vB, .string d.name, .string d.pass, vM]
 bundle : TextsV w B vB d.bundle
 media : MediasV w B vM d.media
section
variable {w w' : World} {B B' : Nat} {D : Array Value} {d : DescS} {vB vM : Value}
theorem DescV.below (h : DescV w B D d vB vM) (hb : Below B w w') : DescV w' B D d vB vM := ⟨h.form, h.bundle.below hb, h.media.below hb⟩
theorem DescV.more (h : DescV w B D d vB vM) (hB : B ≤ B') : DescV w B' D d vB vM := ⟨h.form, h.bundle.more hB, h.media.more hB⟩
theorem DescV.under (h : DescV w w.heap.size D d vB vM) (hb : Below w.heap.size w w') : DescV w' w'.heap.size D d vB vM := (h.below hb).more hb.size
end
structure SizD (d : DescS) : Prop where
 name : d.name.size ≤ 140737488355328
 pass : d.pass.size ≤ 140737488355328
 words : ∀ b ∈ d.bundle, b.size ≤ 140737488355328
 count : d.bundle.length ≤ 8796093021952
 few : d.media.length ≤ 799644820177
 media : ∀ m ∈ d.media, SizM m
 ids : d.id < 18446744073709551616 ∧ d.ver < 18446744073709551616
theorem SizD.typed {d : DescS} (h : SizD d) : TypedD d := ⟨h.ids.1, h.ids.2, fun m hm => (h.media m hm).typed⟩
def MaxL (w : World) : Prop := ∃ m, w.cell? ⟨3, 0, none⟩ = some (.int .i64 m)
theorem MaxL.under {w w' : World} (h : MaxL w) (hb : Below w.heap.size w w') : MaxL w' := by
 obtain ⟨m, hm⟩ := h
 exact ⟨m, (hb.cell (p := ⟨3, 0, none⟩) (block_lt_of_cell hm)).trans hm⟩
theorem MaxL.below {w w' : World} {B : Nat} (h : MaxL w) (hb : Below B w w') (hB : 3 < B) : MaxL w' := by
 obtain ⟨m, hm⟩ := h
 exact ⟨m, (hb.cell (p := ⟨3, 0, none⟩) hB).trans hm⟩
theorem MaxL.lt {w : World} (h : MaxL w) : 3 < w.heap.size := by
 obtain ⟨m, hm⟩ := h
 exact block_lt_of_cell hm
def AttrO (l : Tx) (a : AttrS) (b : Bool) : Prop := (b = true ∧ attrP l = some a) ∨ (b = false ∧ attrP l = none)
end Go.Proofs.YtbbedhecfipdjaaGreatDoor
namespace Go.Proofs.YtbbedhecfipdjaaGreatDoor
open Go.RowKit Go.ChangeShapes Go.WideShapes Go.ChangeAt Go.Deep
set_option linter.unusedVariables false
section
variable {H : Type} {enc : TypeId × Value → H} {P : Program} {w : World} {base : Nat} {spare : Nat → Bool} {held : Bool}
theorem weights_mem_all {e : TypeId} {ds : List (DataW H)} {d : DataW H} (h : d ∈ ds) : ∀ n ∈ d.weights P e, n ∈ DataW.weightsAll P e ds := by
 induction ds with
 | nil => cases h
 | cons d0 r ih =>
   intro n hn
   simp only [DataW.weightsAll, List.mem_append]
   rcases List.mem_cons.1 h with rfl | h
   · exact .inl hn
   · exact .inr (ih h n hn)
end
theorem pick {α : Type} {n : Nat} {R : Nat → α → Prop} (h : ∀ i, i < n → ∃ a, R i a) : ∃ L : List α, L.length = n ∧ ∀ i a, L[i]? = some a → R i a := by
 induction n with
 | zero => exact ⟨[], rfl, fun i a e => by simp at e⟩
 | succ n ih =>
   obtain ⟨L, hL, hl⟩ := ih (fun i hi => h i (by omega))
   obtain ⟨a, ha⟩ := h n (by omega)
   refine ⟨L ++ [a], by simp [hL], fun i b e => ?_⟩
   rw [List.getElem?_append] at e
   split at e
   · exact hl i b e
   · next hn =>
     have hlt := (List.getElem?_eq_some_iff.1 e).1
     have hi : i = n := by simp at hlt; omega
     subst hi
     rw [hL, Nat.sub_self] at e
     obtain rfl : a = b := by simpa using e
     exact ha
def SizA (L : List AttrS) : Prop := ∀ (i : Nat) (a : AttrS), L[i]? = some a → a.name.size ≤ 140737488351232 ∧ a.value.size ≤ 140737488351232
def SizP (L : List PartS) : Prop := ∀ (i : Nat) (p : PartS), L[i]? = some p → p.line.size ≤ 140737488351232 ∧ p.conn.size ≤ 140737488351232 ∧ SizA p.attrs ∧ p.attrs.length * 32 ≤ 140737488351232
def SizS (x : SesS) : Prop := (x.origin.size ≤ 140737488351232 ∧ x.name.size ≤ 140737488351232 ∧ x.time.size ≤ 140737488351232) ∧ SizA x.attrs ∧ SizP x.parts
section
variable {H : Type} {enc : TypeId × Value → H} {W : World} {base : Nat} {sp : Nat → Bool} {held : Bool}
theorem open_str {fuel : Nat} {v : Value} {x : DataW H × List MemPlace} (h : DataW.trod enc Tryz.prog W base sp held fuel 9 [v] = some x) (hw : ∀ n ∈ x.1.weights Tryz.prog 9, n ≤ 140737488351232) :
 ∃ s : ByteArray, v = .string s ∧ s.size ≤ 140737488351232 := by
 obtain ⟨s, e, hx, _⟩ := DataW.trod_string Tryz.underlying9 h
 refine ⟨s, by simpa using e, ?_⟩
 have := hw s.data.toList.length (by rw [hx]; simp [DataW.weights])
 rw [Array.length_toList] at this
 exact this
end
end Go.Proofs.YtbbedhecfipdjaaGreatDoor
namespace Go.Proofs.YtbbedhecfipdjaaGreatDoor
open Go.RowKit
set_option linter.unusedVariables false
set_option linter.unusedSimpArgs false
theorem eqB {s : ByteArray} {k : Tx} {b : Bool} (h : (s.toList == k) = b) : (tx s = k ↔ b = true) := by
 rw [← h, toList_tx, beq_iff_eq]
def pcell (p : PartS) (v : Value) : List Value := [.string p.line, .string p.conn, v]
def rowsP (st : PSt) (cur : Value) (us : List Value) : List (List Value) := match st.cur with
 | none => []
 | some p => List.zipWith pcell st.done us ++ [pcell p cur]
def others (st : PSt) (vA : Value) (us : List Value) : List (Value × List AttrS) := match st.cur with
 | none => []
 | some _ => (vA, st.attrs) :: us.zip (st.done.map (·.attrs))
structure Ty3 where
 s : TypeId
 p : TypeId
 a : TypeId
def Ty3.Ok (T : Ty3) : Prop := T.s ≠ T.p ∧ T.s ≠ T.a ∧ T.p ≠ T.a
structure PV (T : Ty3) (base g : Nat) (st : PSt) (q : Addr) (pp cur vA vP : Value) (us : List Value) (w : World) : Prop where
 own : base ≤ g
 box : Whole w g T.s #[.string st.o, .string st.n, .string st.t, vA, vP]
 par : Own w base T.p 3 vP (rowsP st cur us)
 hus : us.length = st.done.length
 now : Own w base T.a 2 cur (st.here.map acell)
 oth : ∀ x ∈ others st vA us, Own w base T.a 2 x.1 (x.2.map acell) ∧ (x.1.ownBlock = none ∨ x.1.ownBlock ≠ cur.ownBlock)
 first : st.cur = none → st.done = [] ∧ vA = cur ∧ q = ⟨g, 3, none⟩ ∧ pp = .pointer none
 last : ∀ p, st.cur = some p → ∃ gp, vP.ownBlock = some gp ∧ q = ⟨gp, st.done.length * 3 + 2, none⟩ ∧ pp = .pointer (some ⟨gp, st.done.length * 3, none⟩)
section
variable {T : Ty3} {base g : Nat} {st : PSt} {q : Addr} {pp cur vA vP : Value} {us : List Value} {w w' : World}
theorem PV.under (h : PV T base g st q pp cur vA vP us w) (hb : Below w.heap.size w w') : PV T base g st q pp cur vA vP us w' :=
 ⟨h.own, h.box.under hb, h.par.under hb, h.hus, h.now.under hb, fun x hx => ⟨(h.oth x hx).1.under hb, (h.oth x hx).2⟩, h.first, h.last⟩
theorem PV.alloc (h : PV T base g st q pp cur vA vP us w) (o : Obj) : PV T base g st q pp cur vA vP us (w.alloc o) := h.under ((Below.refl _ w).alloc (Nat.le_refl _) o)
theorem PV.drew (h : PV T base g st q pp cur vA vP us w) : PV T base g st q pp cur vA vP us w.drew := h.under (below_drewN' (Below.refl _ w) 1)
theorem PV.lt (h : PV T base g st q pp cur vA vP us w) : g < w.heap.size := h.box.lt
theorem rowsP_len (hu : us.length = st.done.length) : (rowsP st cur us).length = (match st.cur with | none => 0 | some _ => st.done.length + 1) := by
 unfold rowsP
 cases st.cur with
 | none => rfl
 | some p => simp [hu]
theorem PV.len (h : PV T base g st q pp cur vA vP us w) : (rowsP st cur us).length = st.parts.length := by
 rw [rowsP_len h.hus]
 unfold PSt.parts
 cases hc : st.cur with
 | none => simp [(h.first hc).1]
 | some p => simp
theorem PV.vP_form (h : PV T base g st q pp cur vA vP us w) : ∃ A c, vP = .slice A st.parts.length c ∧ st.parts.length ≤ c ∧ c ≤ maxLen := by
 obtain ⟨A, c, h1, h2, h3, _⟩ := h.par.form
 rw [h.len] at h1 h2
 exact ⟨A, c, h1, h2, h3⟩
theorem PV.cur_form (h : PV T base g st q pp cur vA vP us w) : ∃ A c, cur = .slice A st.here.length c ∧ st.here.length ≤ c ∧ c ≤ maxLen := by
 obtain ⟨A, c, h1, h2, h3, _⟩ := h.now.form
 rw [List.length_map] at h1 h2
 exact ⟨A, c, h1, h2, h3⟩
theorem PV.last_row (h : PV T base g st q pp cur vA vP us w) {p : PartS} (hc : st.cur = some p) : (rowsP st cur us)[st.done.length]? = some (pcell p cur) := by
 unfold rowsP
 rw [hc]
 simp only
 rw [List.getElem?_append_right (by simp [h.hus])]
 simp [h.hus]
theorem PV.cell_q (h : PV T base g st q pp cur vA vP us w) : w.cell? q = some cur ∧ w.frozen? q = false ∧ base ≤ q.block ∧ q.block < w.heap.size := by
 cases hc : st.cur with
 | none =>
   obtain ⟨_, rfl, rfl, _⟩ := h.first hc
   exact ⟨h.box.cell 3, h.box.frz 3, h.own, h.box.lt⟩
 | some p =>
   obtain ⟨gp, e1, rfl, _⟩ := h.last p hc
   obtain ⟨g', c, _, e2, e3, e4, _, _, e5, e6⟩ := h.par.at_ (h.last_row hc)
   rw [e1] at e2
   cases e2
   exact ⟨e5 2 (by omega), e6 _, e3, e4⟩
theorem PV.head (h : PV T base g st q pp cur vA vP us w) (hT : T.Ok) {o n t : ByteArray} (hw : Whole w' g T.s #[.string o, .string n, .string t, vA, vP]) (ho : Only (· = g) w w') : PV T base g { st with o := o, n := n, t := t } q pp cur vA vP us w' := by
 have hk : ∀ {e : TypeId} {sz : Nat} {v : Value} {rs : List (List Value)}, T.s ≠ e → Own w base e sz v rs → Own w' base e sz v rs := fun he hv => hv.keep fun g' cs hg' hw' => hw'.only ho fun e => by
  subst e
  exact (h.box.ne hw' he) rfl
 exact ⟨h.own, hw, hk hT.1 h.par, h.hus, hk hT.2.1 h.now, fun x hx => ⟨hk hT.2.1 (h.oth x hx).1, (h.oth x hx).2⟩, h.first, h.last⟩
theorem here_map (st : PSt) (a : AttrS) : (st.push a).here.map acell = st.here.map acell ++ [acell a] := by rw [here_push]; simp
theorem PV.push (h : PV T base g st q pp cur vA vP us w) (hT : T.Ok) {cur' : Value} {a : AttrS} {w1 : World} (h1 : Own w1 base T.a 2 cur' (st.here.map acell ++ [acell a])) (hg : w.grownBy w1 cur.ownBlock) (hn : cur'.ownBlock = cur.ownBlock ∨ cur'.ownBlock = some w.heap.size) :
 ∃ vA', PV T base g (st.push a) q pp cur' vA' vP us (w1.setCell q cur') := by
 have hbox1 : Whole w1 g T.s #[.string st.o, .string st.n, .string st.t, vA, vP] := h.box.grown hg (fun e => (h.now.apart h.box hT.2.1.symm) e.symm)
 have hpar1 : Own w1 base T.p 3 vP (rowsP st cur us) := h.par.grown hg (h.par.apart2 h.now hT.2.2)
 cases hc : st.cur with
 | none =>
   obtain ⟨hd, rfl, rfl, rfl⟩ := h.first hc
   have hp : st.push a = { st with attrs := st.attrs ++ [a] } := by simp [PSt.push, hc]
   have hq : cur'.ownBlock ≠ some g := h1.apart hbox1 hT.2.1.symm
   refine ⟨cur', ?_⟩
   rw [hp]
   refine ⟨h.own, ?_, ?_, h.hus, ?_, ?_, fun _ => ⟨hd, rfl, rfl, rfl⟩, fun p e => by rw [hc] at e; cases e⟩
   · have := hbox1.set 3 cur'
     simpa using this
   · have e : rowsP { st with attrs := st.attrs ++ [a] } cur' us = rowsP st vA us := by unfold rowsP; simp [hc]
     rw [e]
     exact hpar1.far (p := ⟨g, 3, none⟩) (hpar1.apart hbox1 hT.1.symm) _
   · have := here_map st a
     rw [hp] at this
     rw [this]
     exact h1.far (p := ⟨g, 3, none⟩) hq _
   · intro x hx
     unfold others at hx
     simp [hc] at hx
 | some p =>
   obtain ⟨gp, e1, rfl, e0⟩ := h.last p hc
   have hp : st.push a = { st with cur := some { p with attrs := p.attrs ++ [a] } } := by simp [PSt.push, hc]
   have hrow := h.last_row hc
   obtain ⟨csP, hwP⟩ := hpar1.whole e1
   have hgp : gp ≠ g := fun e => by subst e; exact (hwP.ne hbox1 hT.1.symm) rfl
   have hq : cur'.ownBlock ≠ some gp := h1.apart hwP hT.2.2.symm
   refine ⟨vA, ?_⟩
   rw [hp]
   have hput := hpar1.put e1 hrow (j := 2) (by omega) cur'
   refine ⟨h.own, ?_, ?_, h.hus, ?_, ?_, fun e => by simp at e, fun p' _ => ⟨gp, e1, rfl, e0⟩⟩
   · exact hbox1.far (p := ⟨gp, _, none⟩) (Ne.symm hgp) _
   · have e : rowsP { st with cur := some { p with attrs := p.attrs ++ [a] } } cur' us = (rowsP st cur us).set st.done.length ((pcell p cur).set 2 cur') := by
      unfold rowsP
      simp only [hc]
      rw [List.set_append_right _ _ (by simp [h.hus])]
      simp [h.hus, pcell]
     rw [e]
     exact hput
   · have := here_map st a
     rw [hp] at this
     rw [this]
     exact h1.far (p := ⟨gp, _, none⟩) hq _
   · intro x hx
     have hx' : x ∈ others st vA us := by
      unfold others at hx ⊢
      rw [hc]
      simpa using hx
     obtain ⟨o1, o2⟩ := h.oth x hx'
     have o3 : Own w1 base T.a 2 x.1 (x.2.map acell) := o1.grown hg o2
     refine ⟨o3.far (p := ⟨gp, _, none⟩) (o3.apart hwP hT.2.2.symm) _, ?_⟩
     cases hv : x.1.ownBlock with
     | none => exact .inl rfl
     | some k =>
       have hk := (o1.lt hv).2
       refine .inr ?_
       rw [hv] at o2
       rcases hn with hn | hn
       · rw [hn]
         rcases o2 with o2 | o2
         · cases o2
         · exact o2
       · rw [hn]
         intro e
         have := Option.some.inj e
         omega
theorem PV.part (h : PV T base g st q pp cur vA vP us w) (hT : T.Ok) {vP' : Value} {v : ByteArray} {w1 : World} (h1 : Own w1 base T.p 3 vP' (rowsP st cur us ++ [[Value.string v, .string ⟨#[]⟩, .slice none 0 0]])) (hg : w.grownBy w1 vP.ownBlock) :
 ∃ gp c q' us', vP' = .slice (some ⟨gp, 0, none⟩) (st.parts.length + 1) c ∧ st.parts.length + 1 ≤ c ∧ c ≤ maxLen ∧ q' = ⟨gp, st.parts.length * 3 + 2, none⟩ ∧ PV T base g (st.part (tx v)) q' (.pointer (some ⟨gp, st.parts.length * 3, none⟩)) (.slice none 0 0) vA vP' us' (w1.setCell ⟨g, 4, none⟩ vP') := by
 have hbox1 : Whole w1 g T.s #[.string st.o, .string st.n, .string st.t, vA, vP] := h.box.grown hg (fun e => (h.par.apart h.box hT.1.symm) e.symm)
 have hnow1 : Own w1 base T.a 2 cur (st.here.map acell) := h.now.grown hg (h.now.apart2 h.par hT.2.2.symm)
 have hlen : (rowsP st cur us ++ [[Value.string v, .string ⟨#[]⟩, .slice none 0 0]]).length = st.parts.length + 1 := by rw [List.length_append, h.len]; rfl
 have hrow : (rowsP st cur us ++ [[Value.string v, .string ⟨#[]⟩, .slice none 0 0]])[st.parts.length]? = some [Value.string v, .string ⟨#[]⟩, .slice none 0 0] := by
  rw [List.getElem?_append_right (by rw [h.len]; omega), h.len]
  simp
 obtain ⟨gp, c, e1, e2, _, _, e3, e4, _, _⟩ := h1.at_ hrow
 rw [hlen] at e1 e3
 have hdl : (st.part (tx v)).done.length = st.parts.length := rfl
 have hbox2 : Whole (w1.setCell ⟨g, 4, none⟩ vP') g T.s #[.string st.o, .string st.n, .string st.t, vA, vP'] := by
  have := hbox1.set 4 vP'
  simpa using this
 have hcur : (st.part (tx v)).cur = some ⟨v, bs [], []⟩ := by simp [PSt.part]
 refine ⟨gp, c, _, (match st.cur with | none => [] | some _ => us ++ [cur]), e1, e3, e4, rfl, h.own, hbox2, ?_, ?_, ?_, ?_, (fun e => by rw [hcur] at e; cases e), fun p e => ⟨gp, e2, by rw [hdl], by rw [hdl]⟩⟩
 · have e : rowsP (st.part (tx v)) (.slice none 0 0) (match st.cur with | none => [] | some _ => us ++ [cur]) = rowsP st cur us ++ [[Value.string v, .string ⟨#[]⟩, .slice none 0 0]] := by
    unfold rowsP
    rw [hcur]
    cases hc : st.cur with
    | none => simp [PSt.part, hc, (h.first hc).1, pcell, bs]
    | some p =>
      have : List.zipWith pcell (st.done ++ [p]) (us ++ [cur]) = List.zipWith pcell st.done us ++ [pcell p cur] := by
       rw [List.zipWith_append h.hus.symm]
       rfl
      simp [PSt.part, hc, this, pcell, bs]
   rw [e]
   exact h1.far (p := ⟨g, 4, none⟩) (h1.apart hbox1 hT.1.symm) _
 · rw [hdl]
   unfold PSt.parts
   cases hc : st.cur with
   | none => simp [(h.first hc).1]
   | some p => simp [h.hus]
 · have : (st.part (tx v)).here = [] := by unfold PSt.here; rw [hcur]
   rw [this]
   exact Own.nil _ _ _ _
 · intro x hx
   refine ⟨?_, ?_⟩
   · have hfar : ∀ {v : Value} {L : List AttrS}, Own w1 base T.a 2 v (L.map acell) → Own (w1.setCell ⟨g, 4, none⟩ vP') base T.a 2 v (L.map acell) := fun ho => ho.far (p := ⟨g, 4, none⟩) (ho.apart hbox1 hT.2.1.symm) _
     unfold others at hx
     rw [hcur] at hx
     simp only [List.mem_cons] at hx
     cases hc : st.cur with
     | none =>
       obtain ⟨hd, hva, _⟩ := h.first hc
       have hh : st.here = st.attrs := by unfold PSt.here; rw [hc]
       rw [hh] at hnow1
       rcases hx with rfl | hx
       · show Own _ base T.a 2 vA (st.attrs.map acell)
         rw [hva]
         exact hfar hnow1
       · simp [hc] at hx
     | some p =>
       have hoth : ∀ y ∈ others st vA us, Own w1 base T.a 2 y.1 (y.2.map acell) := fun y hy => (h.oth y hy).1.grown hg ((h.oth y hy).1.apart2 h.par hT.2.2.symm)
       have hh : st.here = p.attrs := by unfold PSt.here; rw [hc]
       rw [hh] at hnow1
       rcases hx with rfl | hx
       · exact hfar (hoth (vA, st.attrs) (by unfold others; rw [hc]; simp))
       · simp only [hc] at hx
         have : (us ++ [cur]).zip ((st.part (tx v)).done.map (·.attrs)) = us.zip (st.done.map (·.attrs)) ++ [(cur, p.attrs)] := by
          simp only [PSt.part, hc]
          simp only [Option.toList, List.map_append, List.map_cons, List.map_nil]
          rw [List.zip_append (by simp [h.hus])]
          rfl
         rw [this, List.mem_append] at hx
         rcases hx with hx | hx
         · exact hfar (hoth x (by unfold others; rw [hc]; simp [hx]))
         · simp at hx
           subst hx
           exact hfar hnow1
   · cases hv : x.1.ownBlock with
     | none => exact .inl rfl
     | some k => exact .inr (by simp [Value.ownBlock])
theorem PV.conn (h : PV T base g st q pp cur vA vP us w) (hT : T.Ok) {p : PartS} (hc : st.cur = some p) {gp : Nat} (hp : pp = .pointer (some ⟨gp, st.done.length * 3, none⟩)) (v : ByteArray) : PV T base g (st.conn (tx v)) q pp cur vA vP us (w.setCell ⟨gp, st.done.length * 3 + 1, none⟩ (.string v)) := by
 obtain ⟨gp', e1, rfl, e0⟩ := h.last p hc
 rw [e0] at hp
 cases hp
 have hq : st.conn (tx v) = { st with cur := some { p with conn := v } } := by simp [PSt.conn, hc]
 have hrow := h.last_row hc
 obtain ⟨csP, hwP⟩ := h.par.whole e1
 have hgp : gp ≠ g := fun e => by subst e; exact (hwP.ne h.box hT.1.symm) rfl
 have hput := h.par.put e1 hrow (j := 1) (by omega) (.string v)
 rw [hq]
 have hfar : ∀ {v' : Value} {L : List (List Value)}, Own w base T.a 2 v' L → Own (w.setCell ⟨gp, st.done.length * 3 + 1, none⟩ (.string v)) base T.a 2 v' L := fun ho => ho.far (p := ⟨gp, _, none⟩) (ho.apart hwP hT.2.2.symm) _
 refine ⟨h.own, h.box.far (p := ⟨gp, _, none⟩) (Ne.symm hgp) _, ?_, h.hus, ?_, ?_, fun e => by simp at e, fun p' _ => ⟨gp, e1, rfl, e0⟩⟩
 · have e : rowsP { st with cur := some { p with conn := v } } cur us = (rowsP st cur us).set st.done.length ((pcell p cur).set 1 (.string v)) := by
    unfold rowsP
    simp only [hc]
    rw [List.set_append_right _ _ (by simp [h.hus])]
    simp [h.hus, pcell]
   rw [e]
   exact hput
 · have : ({ st with cur := some { p with conn := v } } : PSt).here = st.here := by unfold PSt.here; rw [hc]
   rw [this]
   exact hfar h.now
 · intro x hx
   have hx' : x ∈ others st vA us := by
    unfold others at hx ⊢
    rw [hc]
    simpa using hx
   exact ⟨hfar (h.oth x hx').1, (h.oth x hx').2⟩
theorem rat_of {L : List AttrS} {e : TypeId} {v : Value} (h : Own w base e 2 v (L.map acell)) {B : Nat} (hB : w.heap.size ≤ B) : AttrsV w B v L :=
 h.rows hB (by simp) fun i r x f hr hx hf => by
  rw [List.getElem?_map, hx] at hr
  simp at hr
  subst hr
  exact ⟨hf 0 (by omega), hf 1 (by omega)⟩
theorem PV.sesV (h : PV T base g st q pp cur vA vP us w) {B : Nat} (hB : w.heap.size ≤ B) : SesV w B #[.string st.o, .string st.n, .string st.t, vA, vP] st.ses vA vP := by
 refine ⟨rfl, ?_, ?_⟩
 · cases hc : st.cur with
   | none =>
     have hh : st.here = st.attrs := by unfold PSt.here; rw [hc]
     have := h.now
     rw [hh, ← (h.first hc).2.1] at this
     exact rat_of this hB
   | some p => exact rat_of (h.oth (vA, st.attrs) (by unfold others; rw [hc]; simp)).1 hB
 · refine h.par.rows hB (by rw [h.len]; rfl) fun i r x f hr hx hf => ?_
   cases hc : st.cur with
   | none => unfold rowsP at hr; rw [hc] at hr; simp at hr
   | some p =>
     have hparts : st.parts = st.done ++ [p] := by unfold PSt.parts; rw [hc]; rfl
     have hx : st.parts[i]? = some x := hx
     rw [hparts] at hx
     unfold rowsP at hr
     rw [hc] at hr
     simp only at hr
     by_cases hi : i < st.done.length
     · rw [List.getElem?_append_left hi] at hx
       rw [List.getElem?_append_left (by simp [h.hus]; exact hi)] at hr
       have hiu : i < us.length := by rw [h.hus]; exact hi
       have e : (List.zipWith pcell st.done us)[i]? = some (pcell x us[i]) := by
        rw [List.getElem?_zipWith, hx, List.getElem?_eq_getElem hiu]
       rw [e] at hr
       have hr := (Option.some.inj hr).symm
       subst hr
       refine ⟨hf 0 (by omega), hf 1 (by omega), us[i], hf 2 (by omega), rat_of (h.oth (us[i], x.attrs) ?_).1 hB⟩
       unfold others
       rw [hc]
       refine List.mem_cons_of_mem _ ?_
       refine List.mem_of_getElem? (i := i) ?_
       rw [List.getElem?_zip_eq_some]
       exact ⟨List.getElem?_eq_getElem hiu, by rw [List.getElem?_map, hx]; rfl⟩
     · have hil : i < (st.done ++ [p]).length := (List.getElem?_eq_some_iff.1 hx).1
       have : i = st.done.length := by simp at hil; omega
       subst this
       rw [List.getElem?_append_right (by omega)] at hx
       rw [List.getElem?_append_right (by simp [h.hus])] at hr
       simp [h.hus] at hr hx
       subst hr hx
       refine ⟨hf 0 (by omega), hf 1 (by omega), cur, hf 2 (by omega), rat_of (e := T.a) (base := base) (L := p.attrs) ?_ hB⟩
       have := h.now
       have hh : st.here = p.attrs := by unfold PSt.here; rw [hc]
       rwa [hh] at this
theorem PV.res (h : PV T base g st q pp cur vA vP us w) (hT : T.Ok) {n : Nat} {zs : Array Value} (hn : Whole w n T.s zs) (hne : g ≠ n) (cs : Array Value) : PV T base g st q pp cur vA vP us (w.setRow n cs) :=
 ⟨h.own, h.box.farRow hne _, h.par.farRow (h.par.apart hn hT.1.symm) _, h.hus, h.now.farRow (h.now.apart hn hT.2.1.symm) _, fun x hx => ⟨(h.oth x hx).1.farRow ((h.oth x hx).1.apart hn hT.2.1.symm) _, (h.oth x hx).2⟩, h.first, h.last⟩
theorem PV.start (hb : base ≤ g) (hw : Whole w g T.s #[.string ⟨#[]⟩, .string ⟨#[]⟩, .string ⟨#[]⟩, .slice none 0 0, .slice none 0 0]) : PV T base g PSt.init ⟨g, 3, none⟩ (.pointer none) (.slice none 0 0) (.slice none 0 0) (.slice none 0 0) [] w :=
 ⟨hb, hw, Own.nil _ _ _ _, rfl, Own.nil _ _ _ _, fun x hx => by simp [others, PSt.init] at hx, fun _ => ⟨rfl, rfl, rfl, rfl⟩, fun p e => by simp [PSt.init] at e⟩
end
end Go.Proofs.YtbbedhecfipdjaaGreatDoor
