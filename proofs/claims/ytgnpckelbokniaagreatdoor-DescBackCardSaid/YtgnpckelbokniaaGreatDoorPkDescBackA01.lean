import Derived.Test.YtgnpckelbokniaaGreatDoorPkDescBackA00
import Derived.Deep.Slices
import Derived.RangeFuncNested
import Derived.Great.BuildSlice
namespace Go.Proofs.YtgnpckelbokniaaGreatDoor
open Go.RowKit
set_option linter.unusedVariables false
set_option linter.unusedSimpArgs false
theorem run_loadVar_at {P:Program} (w:World) (p:Addr) (ty:TypeId) (cs:List Value) (d:TypeDesc) (hc:∀j v,cs[j]? = some v→w.cell? (p.add j)=some v)
 (hu:P.underlying ty=some d) (hd:d.isRow=true) (hi:(P.info? ty).map (·.size)=some cs.length):(loadVar ty p).run P w=.ok (.agg cs.toArray) w:=by
 have hl:(loadCells p cs.length).run P w=.ok cs.toArray w:=run_loadCells_list (P:=P) w p cs hc
 cases hq:P.info? ty with
 | none=>simp [hq] at hi
 | some i =>
   have hs:i.size=cs.length:=by simpa [hq] using hi
   have hagg:(isAgg ty).run P w=.ok true w:=by
    unfold isAgg
    rw [Sem.run_bind,run_underlying hu w]
    cases d <;> simp_all
   simp [loadVar,Sem.run_bind,hagg,sizeOf,typeInfo,hq,hs,hl]
theorem wp_load_at {op:Oper} {a:Act} {w:World} {K:Act→World→Prop} {Q:Exit→Act→World→Prop} (ty:TypeId) (x:Operand) (ho:op.op=.load ty x) (p:Addr) (hx:a.eval x=.pointer (some p)) (cs:List Value) (d:TypeDesc)
 (hc:∀j v,cs[j]? = some v→w.cell? (p.add j)=some v) (hu:Tryz.prog.underlying ty=some d) (hd:d.isRow=true) (hi:(Tryz.prog.info? ty).map (·.size)=some cs.length)
 (h:K (a.put op.dst (.agg cs.toArray)) w):op.wp Tryz.prog a w K Q:=by
 unfold Oper.wp execOp
 simp only [ho,hx,Instr.loadAt,Instr.sureAddr,Sem.run_bind,Sem.run_pure,Result.andThen_ok,run_loadVar_at w p ty cs d hc hu hd hi]
 exact h
theorem wpList_load_at {ops:Array Oper} {rest:List Oper} {op:Oper} {a:Act} {w:World} {Q:Exit→Act→World→Prop} (hgd:op.guard=none) (ty:TypeId) (x:Operand) (ho:op.op=.load ty x) (p:Addr) (hx:a.eval x=.pointer (some p)) (cs:List Value) (d:TypeDesc)
 (hc:∀j v,cs[j]? = some v→w.cell? (p.add j)=some v) (hu:Tryz.prog.underlying ty=some d) (hd:d.isRow=true) (hi:(Tryz.prog.info? ty).map (·.size)=some cs.length)
 (h:wpList Tryz.prog ops Q rest (a.put op.dst (.agg cs.toArray)) w):wpList Tryz.prog ops Q (op :: rest) a w :=
 wpList_plain hgd fun _ hK=>wp_load_at ty x ho p hx cs d hc hu hd hi (hK _ _ h)
theorem yieldsIf_load_at {ops:Array Oper} {S:World→Prop} {op:Oper} {a:Act} (hw:Region.wanted op (yielded ops a.tmps)=true) (ty:TypeId) (x:Operand) (ho:op.op=.load ty x) (p:Addr) (hx:a.eval x=.pointer (some p)) (cs:List Value) (d:TypeDesc)
 (hS:∀w,S w→∀j v,cs[j]? = some v→w.cell? (p.add j)=some v) (hu:Tryz.prog.underlying ty=some d) (hd:d.isRow=true) (hi:(Tryz.prog.info? ty).map (·.size)=some cs.length):YieldsIf Tryz.prog ops S op (.agg cs.toArray) a :=
 .inl ⟨hw,fun w hw'=>by
  unfold execOp
  simp only [ho,hx,Instr.loadAt,Instr.sureAddr,Sem.run_bind,Sem.run_pure,Result.andThen_ok,run_loadVar_at w p ty cs d (hS w hw') hu hd hi]⟩
theorem cryC_len {c:CryptoS} (h:c.key.length=30):(cryC c).length=31:=by simp [cryC,keyC,h]
theorem cryC_one (c:CryptoS):(cryC c).toArray.toList.all (·.oneCell')=true:=by
 rw [List.all_eq_true]
 intro v hv
 simp only [cryC,keyC,List.mem_cons,List.mem_map] at hv
 rcases hv with rfl | ⟨_,_,rfl⟩ <;> rfl
theorem CrysV.at_ {w:World} {B:Nat} {v:Value} {L:List CryptoS} (h:CrysV w B v L) {i:Nat} (hi:i<L.length):∃ad c,v=.slice (some ad) L.length c∧ad.block<B∧(L.getD i default).key.length=30 ∧
 ∀j u,(cryC (L.getD i default))[j]? = some u→w.cell? ((ad.add (i * 31)).add j)=some u:=by
 obtain ⟨ad,c,h1,h2,_,_,h3,h4⟩:=Rows.at_ h (List.getElem?_eq_getElem hi)
 have e:L.getD i default=L[i]:=by simp [List.getD,hi]
 rw [e]
 refine ⟨ad,c,h1,h2,h3,fun j u hu=> ?_⟩
 have hj:j<31:=by
  have:=(List.getElem?_eq_some_iff.1 hu).1
  rw [cryC_len h3] at this
  exact this
 rw [Go.Deep.add_add]
 exact (h4 j hj).trans hu
set_option maxHeartbeats 6400000 in
set_option maxRecDepth 100000 in
theorem goodListY_any (A:Option Addr) (n c:Nat) (L:List CryptoS) (w:World) (h:CrysV w w.heap.size (.slice A n c) L) (hn:L.length=n) (hl:n≤140737488355328) :
 Calls Tryz.prog 106 #[.slice A n c,.int .i64 1,.func (.func 107) #[] #[],.func (.func 108) #[] #[]] w fun e w'=>e=.returned (.bool (decide (n≤1) && L.all goodY))∧Below w.heap.size w w':=by
 have hb0:Below w.heap.size w (w.alloc (.cells #[.func (.func 107) #[] #[]] 168)):=(Below.refl _ w).alloc (Nat.le_refl _) _
 have hcap:n≤c∧c≤maxLen:=by
  obtain ⟨A',c',e1,e2,e3,-⟩:=Rows.form h
  injection e1 with e1 e1n e1c
  subst e1c
  exact ⟨by omega,e3⟩
 have HV:=Lib.hid h
 have HE:=Lib.hid hn
 have HB0:=Lib.hid hb0
 have HN0:Hid (w.heap.size≤(w.alloc (.cells #[.func (.func 107) #[] #[]] 168)).heap.size):=Lib.hid hb0.size
 obtain ⟨hc1,hc2⟩:=hcap
 unfold maxLen at hc2
 obtain ⟨r,hr⟩:∃r,(decide (n≤1) && L.all goodY)=r:=⟨_,rfl⟩
 have HR:=Lib.hid hr
 rw [hr]
 clear h hn hb0 hr
 by_cases hm:n≤1
 · have hmi:(n:Int)≤1:=by omega
   obtain ⟨N,hN⟩:∃N,w.heap.size=N:=⟨_,rfl⟩
   rw [hN] at HB0 HV HN0 ⊢
   go_enter Tryz.func106,Tryz.ntmps106
   go_upto_region 1 with fail
   generalize w.alloc (.cells #[.func (.func 107) #[] #[]] 168)=W0 at *
   clear hN
   have hmf:∀(fn:Fn) (first cap:Array Value) (w:World),(Instr.makeFunc fn first cap).run Tryz.prog w=.ok (.func fn first cap) w:=fun _ _ _ _=>rfl
   go_wp2
   go_loopw [18] (fun s18 wr=>∃k:Nat,k≤n∧s18=.int .i64 k∧(Below W0.heap.size W0 wr∧(∀j,j<k→goodY (L.getD j default)=true))) (fun s18 _=>n - (intOf s18).toNat)
   case atStart=>exact ⟨0,by omega,rfl,Below.refl _ _,(fun j hj=>by omega)⟩
   case round =>
    obtain ⟨k,hk,rfl,hst⟩:=hrel
    have HS:=Lib.hid hst
    clear hst
    by_cases hlt:k<n
    · have hlt':k<L.length:=by rw [HE.out];exact hlt
      have HBW:Hid (Below N w wr):=Lib.hid (HB0.out.trans (HS.out.1.mono HN0.out))
      obtain ⟨ad,c',e1,had,c30,cj⟩:=(HV.out.below HBW.out).at_ hlt'
      injection e1 with e1 e1n e1c
      clear e1n e1c
      subst e1
      obtain ⟨x,hx⟩:∃x,L.getD k default=x:=⟨_,rfl⟩
      have HM:Hid (x∈L∧L.getD k default=x):=Lib.hid ⟨by rw [←hx];exact getD_mem hlt',hx⟩
      rw [hx] at c30 cj
      have HJ:=Lib.hid cj
      have H31:Hid ((cryC x).length=31):=Lib.hid (cryC_len c30)
      have HK0:Hid (k=0):=Lib.hid (by omega)
      have hk0:(0:Int)≤(k:Int):=by omega
      have hk1:(k:Int)<(n:Int):=by omega
      have hk2:(k:Int)≤(c:Int):=by omega
      have hN0:W0.heap.size≤wr.heap.size:=HS.out.1.size
      obtain ⟨X,hX⟩:∃X,(cryC x).toArray=X:=⟨_,rfl⟩
      have HX:Hid ((cryC x).toArray=X∧X.size=31∧X.toList.all (·.oneCell')=true):=Lib.hid ⟨hX,by rw [←hX];simpa using H31.out,by rw [←hX];exact cryC_one x⟩
      have HNEW:Hid (Whole (wr.alloc (.cells #[.int .i64 0,.int .u8 0,.int .u8 0,.int .u8 0,.int .u8 0,.int .u8 0,.int .u8 0,.int .u8 0,.int .u8 0,.int .u8 0,.int .u8 0,.int .u8 0,.int .u8 0,.int .u8 0,.int .u8 0,.int .u8 0,.int .u8 0,.int .u8 0,.int .u8 0,.int .u8 0,.int .u8 0,.int .u8 0,.int .u8 0,.int .u8 0,.int .u8 0,.int .u8 0,.int .u8 0,.int .u8 0,.int .u8 0,.int .u8 0,.int .u8 0] 75)) wr.heap.size 75 #[.int .i64 0,.int .u8 0,.int .u8 0,.int .u8 0,.int .u8 0,.int .u8 0,.int .u8 0,.int .u8 0,.int .u8 0,.int .u8 0,.int .u8 0,.int .u8 0,.int .u8 0,.int .u8 0,.int .u8 0,.int .u8 0,.int .u8 0,.int .u8 0,.int .u8 0,.int .u8 0,.int .u8 0,.int .u8 0,.int .u8 0,.int .u8 0,.int .u8 0,.int .u8 0,.int .u8 0,.int .u8 0,.int .u8 0,.int .u8 0,.int .u8 0]):=Lib.hid (Whole.new _ _ _)
      have HW:Hid (Below W0.heap.size W0 ((wr.alloc (.cells #[.int .i64 0,.int .u8 0,.int .u8 0,.int .u8 0,.int .u8 0,.int .u8 0,.int .u8 0,.int .u8 0,.int .u8 0,.int .u8 0,.int .u8 0,.int .u8 0,.int .u8 0,.int .u8 0,.int .u8 0,.int .u8 0,.int .u8 0,.int .u8 0,.int .u8 0,.int .u8 0,.int .u8 0,.int .u8 0,.int .u8 0,.int .u8 0,.int .u8 0,.int .u8 0,.int .u8 0,.int .u8 0,.int .u8 0,.int .u8 0,.int .u8 0] 75)).setRow wr.heap.size X)∧Whole ((wr.alloc (.cells #[.int .i64 0,.int .u8 0,.int .u8 0,.int .u8 0,.int .u8 0,.int .u8 0,.int .u8 0,.int .u8 0,.int .u8 0,.int .u8 0,.int .u8 0,.int .u8 0,.int .u8 0,.int .u8 0,.int .u8 0,.int .u8 0,.int .u8 0,.int .u8 0,.int .u8 0,.int .u8 0,.int .u8 0,.int .u8 0,.int .u8 0,.int .u8 0,.int .u8 0,.int .u8 0,.int .u8 0,.int .u8 0,.int .u8 0,.int .u8 0,.int .u8 0] 75)).setRow wr.heap.size X) wr.heap.size 75 X):=Lib.hid ⟨below_row (HS.out.1.alloc hN0 _) hN0 _,(Whole.new wr 75 #[.int .i64 0,.int .u8 0,.int .u8 0,.int .u8 0,.int .u8 0,.int .u8 0,.int .u8 0,.int .u8 0,.int .u8 0,.int .u8 0,.int .u8 0,.int .u8 0,.int .u8 0,.int .u8 0,.int .u8 0,.int .u8 0,.int .u8 0,.int .u8 0,.int .u8 0,.int .u8 0,.int .u8 0,.int .u8 0,.int .u8 0,.int .u8 0,.int .u8 0,.int .u8 0,.int .u8 0,.int .u8 0,.int .u8 0,.int .u8 0,.int .u8 0]).row X⟩
      have HLD:Hid (∀(ops:Array Oper) (rest:List Oper) (op:Oper) (a:Act) (Q:Exit→Act→World→Prop),op.guard=none→op.op=.load 75 (.tmp 21)→a.eval (.tmp 21)=.pointer (some (ad.add (k * 31)))→wpList Tryz.prog ops Q rest (a.put op.dst (.agg X)) wr→wpList Tryz.prog ops Q (op :: rest) a wr) :=
       Lib.hid fun ops rest op a Q h1 h2 h3 h4=>wpList_load_at h1 75 (.tmp 21) h2 _ h3 (cryC x) _ HJ.out Tryz.underlying75 rfl (by rw [H31.out];exact Tryz.sizeCrypto) (by rw [HX.out.1];exact h4)
      clear hx had hlt' hN0 cj c30 hX HJ H31
      go_upto_region 7 with (first | ((with_reducible refine HLD.out _ _ _ _ _ ?_ ?_ ?_ ?_);(with_reducible rfl);(with_reducible rfl);rfl) | ((with_reducible refine wpList_storeS X ?_ 75 (.tmp 10) (.tmp 22) ?_ ?_ ?_ HNEW.out Tryz.sizeCrypto HX.out.2.1 ?_ HX.out.2.2 ?_);(with_reducible rfl);(with_reducible rfl);rfl;rfl;rfl))
      generalize ((wr.alloc (.cells #[.int .i64 0,.int .u8 0,.int .u8 0,.int .u8 0,.int .u8 0,.int .u8 0,.int .u8 0,.int .u8 0,.int .u8 0,.int .u8 0,.int .u8 0,.int .u8 0,.int .u8 0,.int .u8 0,.int .u8 0,.int .u8 0,.int .u8 0,.int .u8 0,.int .u8 0,.int .u8 0,.int .u8 0,.int .u8 0,.int .u8 0,.int .u8 0,.int .u8 0,.int .u8 0,.int .u8 0,.int .u8 0,.int .u8 0,.int .u8 0,.int .u8 0] 75)).setRow wr.heap.size X)=w2 at *
      generalize wr.heap.size=g at *
      clear HNEW HLD
      have HBW2:Hid (Below N w w2):=Lib.hid (HB0.out.trans (HW.out.1.mono HN0.out))
      have HSZ:Hid (N≤w2.heap.size):=Lib.hid (Nat.le_trans HN0.out HW.out.1.size)
      obtain ⟨b,hb⟩:∃b,goodY x=b:=⟨_,rfl⟩
      have HC:Hid (Calls Tryz.prog 108 #[.agg X] w2 fun e w'=>e=.returned (.bool b)∧Below w2.heap.size w2 w'):=Lib.hid (by
       rw [←hb,←HX.out.1]
       exact goodCrypto_any x.tag (keyC x.key) w2 (by have:=HX.out.2.1;rw [←HX.out.1] at this;simpa [cryC] using this))
      have HBG:=Lib.hid hb
      clear hb
      obtain rfl:=HK0.out
      cases b with
      | false =>
        have HQ:Hid (r=false):=Lib.hid (by rw [←HR.out,all_no HM.out.1 HBG.out];simp)
        go_wp2_with (first | ((with_reducible refine wpList_load_all ?_ 75 (.tmp 10) ?_ HW.out.2 ?_ Tryz.sizeCrypto HX.out.2.1 Tryz.underlying75 ?_ ?_);(with_reducible rfl);(with_reducible rfl);rfl;rfl) | (go_at_call 108;(with_reducible refine HC.out.mono ?_);rintro e w3 ⟨rfl,hb3⟩))
        go_ret
        exact ⟨ret_bool HQ.out.symm,HBW2.out.trans (hb3.mono HSZ.out)⟩
      | true =>
        have HCO:Hid (∀f w3,Calls Tryz.prog 159 #[.slice (some ad) 0 c,f] w3 fun e w'=>e=.returned (.bool false)∧w3=w'):=Lib.hid fun f w3=>containsY_none _ _ _ _
        go_wp2_with (first | ((with_reducible refine wpList_load_all ?_ 75 (.tmp 10) ?_ HW.out.2 ?_ Tryz.sizeCrypto HX.out.2.1 Tryz.underlying75 ?_ ?_);(with_reducible rfl);(with_reducible rfl);rfl;rfl) | (go_at_call 108;(with_reducible refine HC.out.mono ?_);rintro e w3 ⟨rfl,hb3⟩) | (go_at_call 159;(with_reducible refine (HCO.out _ _).mono ?_);rintro e w4 ⟨rfl,rfl⟩))
        go_roundw
        case rel =>
         refine ⟨1,by omega,by go_num,HW.out.1.trans (hb3.mono HW.out.1.size),fun j hj=> ?_⟩
         obtain rfl:j=0:=by omega
         rw [HM.out.2]
         exact HBG.out
        case measure=>simp [intOf];omega
    · have e:k=n:=by omega
      subst e
      have HQ:Hid (r=true):=Lib.hid (by
       rw [←HR.out,all_yesL HE.out HS.out.2]
       simp [hm])
      have HBW:Hid (Below N w wr):=Lib.hid (HB0.out.trans (HS.out.1.mono HN0.out))
      go_wp2
      go_ret
      exact ⟨ret_bool HQ.out.symm,HBW.out⟩
 · have hmi:1<(n:Int):=by omega
   have HQ:Hid (r=false):=Lib.hid (by rw [←HR.out];simp [hm])
   go_enter Tryz.func106,Tryz.ntmps106
   go_wp2
   go_ret
   exact ⟨ret_bool HQ.out.symm,HB0.out⟩
theorem Tryz.sizeDesc:(Tryz.prog.info? 45).map (·.size)=some 6:=by kernel_rfl
def RM (w:World) (B:Nat) (f:Nat→Option Value) (m:MediaS):Prop:=∃M vC vE vR vS vY,MediaV w B M m vC vE vR vS vY∧∀j,j<11→f j=M[j]?
def MediasV (w:World) (B:Nat) (v:Value) (L:List MediaS):Prop:=Rows w B 11 (RM w B) v L
section
variable {w w':World} {B B':Nat} {v:Value} {L:List MediaS}
theorem RM.below {f:Nat→Option Value} {m:MediaS} (h:RM w B f m) (hb:Below B w w'):RM w' B f m:=by
 obtain ⟨M,vC,vE,vR,vS,vY,h1,h2⟩:=h
 exact ⟨M,vC,vE,vR,vS,vY,h1.below hb,h2⟩
theorem RM.more {f:Nat→Option Value} {m:MediaS} (h:RM w B f m) (hB:B≤B'):RM w B' f m:=by
 obtain ⟨M,vC,vE,vR,vS,vY,h1,h2⟩:=h
 exact ⟨M,vC,vE,vR,vS,vY,h1.more hB,h2⟩
theorem MediasV.below (h:MediasV w B v L) (hb:Below B w w'):MediasV w' B v L:=Rows.below h hb fun _ _ _ h=>h.below hb
theorem MediasV.more (h:MediasV w B v L) (hB:B≤B'):MediasV w B' v L:=Rows.more (Rows.mono h fun _ _ _ h=>h.more hB) hB
theorem MediasV.nil (w:World) (B:Nat):MediasV w B (.slice none 0 0) []:=Rows.nil _ _ _ _
theorem MediasV.at_ (h:MediasV w B v L) {i:Nat} (hi:i<L.length):∃ad c M vC vE vR vS vY,v=.slice (some ad) L.length c∧ad.block<B∧MediaV w B M (L.getD i default) vC vE vR vS vY ∧
 ∀j u,M.toList[j]? = some u→w.cell? ((ad.add (i * 11)).add j)=some u:=by
 obtain ⟨ad,c,h1,h2,_,_,M,vC,vE,vR,vS,vY,h3,h4⟩:=Rows.at_ h (List.getElem?_eq_getElem hi)
 have e:L.getD i default=L[i]:=by simp [List.getD,hi]
 rw [e]
 refine ⟨ad,c,M,vC,vE,vR,vS,vY,h1,h2,h3,fun j u hu=> ?_⟩
 rw [Array.getElem?_toList] at hu
 have hj:j<11:=by
  have:=(Array.getElem?_eq_some_iff.1 hu).1
  rwa [h3.size] at this
 rw [Go.Deep.add_add]
 exact (h4 j hj).trans hu
end
theorem MediaV.one {w:World} {B:Nat} {M:Array Value} {m:MediaS} {vC vE vR vS vY:Value} (h:MediaV w B M m vC vE vR vS vY):M.toList.all (·.oneCell')=true:=by
 obtain ⟨A1,c1,rfl,-⟩:=Rows.form h.codecs
 obtain ⟨A2,c2,rfl,-⟩:=Rows.form h.exts
 obtain ⟨A3,c3,rfl,-⟩:=Rows.form h.rids
 obtain ⟨A4,c4,rfl,-⟩:=Rows.form h.sources
 obtain ⟨A5,c5,rfl,-⟩:=Rows.form h.crypto
 rw [h.form]
 rfl
structure DescV (w:World) (B:Nat) (D:Array Value) (d:DescS) (vB vM:Value):Prop where
 form:D=#[.int .u64 d.id,.int .u64 d.ver,vB,.string d.name,.string d.pass,vM]
 bundle:TextsV w B vB d.bundle
 media:MediasV w B vM d.media
section
variable {w w':World} {B B':Nat} {D:Array Value} {d:DescS} {vB vM:Value}
theorem DescV.below (h:DescV w B D d vB vM) (hb:Below B w w'):DescV w' B D d vB vM:=⟨h.form,h.bundle.below hb,h.media.below hb⟩
theorem DescV.more (h:DescV w B D d vB vM) (hB:B≤B'):DescV w B' D d vB vM:=⟨h.form,h.bundle.more hB,h.media.more hB⟩
theorem DescV.under (h:DescV w w.heap.size D d vB vM) (hb:Below w.heap.size w w'):DescV w' w'.heap.size D d vB vM:=(h.below hb).more hb.size
end
structure SizD (d:DescS):Prop where
 name:d.name.size≤140737488355328
 pass:d.pass.size≤140737488355328
 words:∀b∈d.bundle,b.size≤140737488355328
 count:d.bundle.length≤8796093021952
 few:d.media.length≤799644820177
 media:∀m∈d.media,SizM m
 ids:d.id<18446744073709551616∧d.ver<18446744073709551616
theorem SizD.typed {d:DescS} (h:SizD d):TypedD d:=⟨h.ids.1,h.ids.2,fun m hm=>(h.media m hm).typed⟩
def Held (w:World) (T:Nat→Prop) (Q:World→Prop):Prop:=∀W,Only T w W→Q W
theorem Held.step {w w':World} {T T' U:Nat→Prop} {Q:World→Prop} (h:Held w T Q) (k:Only U w w') (hu:∀j,U j→T j∨w.heap.size≤j) (hs:∀j,T' j→T j∨w.heap.size≤j):Held w' T' Q:=fun W hW=>h W (((Only.refl T w).next k (fun j hj=>hu j hj)).next hW hs)
theorem Held.now {w:World} {T:Nat→Prop} {Q:World→Prop} (h:Held w T Q):Q w:=h w (Only.refl _ _)
theorem Held.under {w w':World} {T:Nat→Prop} {Q:World→Prop} (h:Held w T Q) (hb:Below w.heap.size w w'):Held w' T Q:=h.step (U:=fun _=>False) ⟨hb.os,hb.tape,hb.output,hb.size,fun k hk _=>hb.block k hk⟩ (fun _ e=>e.elim) (fun j hj=>.inl hj)
theorem under_only {w w':World} (T:Nat→Prop) (hb:Below w.heap.size w w'):Only T w w':=⟨hb.os,hb.tape,hb.output,hb.size,fun k hk _=>hb.block k hk⟩
theorem Held.mono {w:World} {T T':Nat→Prop} {Q:World→Prop} (h:Held w T Q) (hs:∀j,T' j→T j∨w.heap.size≤j):Held w T' Q:=h.step (Only.refl (fun _=>False) w) (fun _ e=>e.elim) hs
theorem Held.only {w w':World} {T:Nat→Prop} {Q:World→Prop} (h:Held w T Q) (k:Only T w w'):Held w' T Q:=h.step k (fun _ e=>.inl e) (fun _ e=>.inl e)
theorem Held.turn {w w':World} {T U:Nat→Prop} {Q:World→Prop} (h:Held w T Q) (k:Only U w w') (hu:∀j,U j→T j):Held w' T Q:=h.step k (fun j e=>.inl (hu j e)) (fun _ e=>.inl e)
theorem Only.trans {S:Nat→Prop} {a w w':World} (h:Only S a w) (k:Only S w w'):Only S a w':=h.next k (fun _ e=>.inl e)
def MaxL (w:World):Prop:=∃m,w.cell? ⟨3,0,none⟩=some (.int .i64 m)
theorem MaxL.under {w w':World} (h:MaxL w) (hb:Below w.heap.size w w'):MaxL w':=by
 obtain ⟨m,hm⟩:=h
 exact ⟨m,(hb.cell (p:=⟨3,0,none⟩) (block_lt_of_cell hm)).trans hm⟩
theorem MaxL.below {w w':World} {B:Nat} (h:MaxL w) (hb:Below B w w') (hB:3<B):MaxL w':=by
 obtain ⟨m,hm⟩:=h
 exact ⟨m,(hb.cell (p:=⟨3,0,none⟩) hB).trans hm⟩
theorem MaxL.lt {w:World} (h:MaxL w):3<w.heap.size:=by
 obtain ⟨m,hm⟩:=h
 exact block_lt_of_cell hm
theorem cut_any (s sep:ByteArray) (w:World) (h:MaxL w) (hs:s.size<4294967281) :
 Calls Tryz.prog 75 #[.string s,.string sep] w fun e w'=>∃(a b:ByteArray) (f:Bool),e=.returned (.tuple #[.string a,.string b,.bool f])∧cutS (tx sep) (tx s)=(tx a,tx b,f)∧Below w.heap.size w w':=by
 obtain ⟨m,hm⟩:=h
 refine (Tryz.strings_Cut s sep m w hs hm).mono fun e w' ⟨he,n,hn⟩=> ?_
 subst hn
 refine ⟨_,_,_,he,?_,below_drewN' (Below.refl _ w) n⟩
 show cutS (tx sep) (tx s)=(tx (bs _),tx (bs _),_)
 rw [tx_bs,tx_bs,←cut_eq]
 rfl
set_option maxHeartbeats 400000 in
theorem cloneS_any (s:ByteArray) (w:World) (hs:s.size≤281474976710656):Calls Tryz.prog 24 #[.string s] w fun e w'=>e=.returned (.string s)∧Below w.heap.size w w':=by
 have HC:=Lib.hid (Tryz.stringslite_Clone s w hs)
 go_enter Tryz.func24,Tryz.ntmps24
 go_wp2_with (go_at_call 57;(with_reducible refine HC.out.mono ?_);rintro e w1 ⟨rfl,hb⟩)
 go_ret
 exact ⟨rfl,hb⟩
def AttrO (l:Tx) (a:AttrS) (b:Bool):Prop:=(b=true∧attrP l=some a)∨(b=false∧attrP l=none)
theorem attrO_of {s:ByteArray} {a b:ByteArray} {f:Bool} (hc:cutS [58] (tx s)=(tx a,tx b,f)):(wordP 1 32 (tx a)=true→(f=false∨valP (tx b)=true)→AttrO (tx s) ⟨a,b⟩ true)∧∀x,(wordP 1 32 (tx a)=false∨(f=true∧valP (tx b)=false))→AttrO (tx s) x false:=by
 refine ⟨fun h1 h2=>.inl ⟨rfl,?_⟩,fun x h=>.inr ⟨rfl,?_⟩⟩
 · unfold attrP
   rw [hc]
   rcases h2 with h2 | h2
   · subst h2
     simp [h1]
   · simp [h1,h2]
 · unfold attrP
   rw [hc]
   rcases h with h | ⟨h1,h2⟩
   · simp [h]
   · subst h1
     simp [h2]
set_option maxHeartbeats 1600000 in
theorem readAttr_any (s:ByteArray) (w:World) (h:MaxL w) (hs:s.size≤8192):Calls Tryz.prog 80 #[.string s] w fun e w'=>∃(a:AttrS) (b:Bool),e=.returned (.tuple #[.agg #[.string a.name,.string a.value],.bool b])∧AttrO (tx s) a b∧Below w.heap.size w w':=by
 have hb0:Below w.heap.size w (w.alloc (.cells #[.string ⟨#[]⟩,.string ⟨#[]⟩] 65)):=(Below.refl _ w).alloc (Nat.le_refl _) _
 have hz:=Whole.new w 65 #[.string ⟨#[]⟩,.string ⟨#[]⟩]
 have HC:=Lib.hid (cut_any s ⟨#[58]⟩ _ (h.under hb0) (by omega))
 have HB0:=Lib.hid (And.intro hb0 hz)
 clear hb0 h hz
 obtain ⟨N,hN⟩:∃N,w.heap.size=N:=⟨_,rfl⟩
 rw [hN] at HB0 ⊢
 go_enter Tryz.func80,Tryz.ntmps80
 go_upto_region 1 with fail
 generalize w.alloc (.cells #[.string ⟨#[]⟩,.string ⟨#[]⟩] 65)=W0 at *
 clear hN
 go_upto_region 2 with (go_at_call 75;(with_reducible refine HC.out.mono ?_);rintro e w1 ⟨a,b,f,rfl,hcut,hb1⟩)
 have hO:=attrO_of hcut
 have hsz:(tx a).length≤(tx s).length∧(tx b).length≤(tx s).length:=by
  have:=cutS_len [58] (tx s)
  have hcut:cutS [58] (tx s)=(tx a,tx b,f):=hcut
  rw [hcut] at this
  exact this
 rw [tx_length,tx_length,tx_length] at hsz
 have H1:Hid (Below N w w1∧Whole w1 N 65 #[.string ⟨#[]⟩,.string ⟨#[]⟩]):=Lib.hid ⟨HB0.out.1.trans (hb1.mono (Nat.le_of_lt HB0.out.2.lt)),HB0.out.2.under hb1⟩
 have HW:=Lib.hid (word_any a w1 (by unfold maxLen;omega))
 have HV:=Lib.hid (value_any b w1 (by unfold maxLen;omega))
 clear hcut hb1 HC HB0 hsz
 obtain ⟨x,hx⟩:∃x,wordP 1 32 (tx a)=x:=⟨_,rfl⟩
 obtain ⟨y,hy⟩:∃y,valP (tx b)=y:=⟨_,rfl⟩
 rw [hx] at HW hO
 rw [hy] at HV hO
 have HO:=Lib.hid hO
 clear hO hx hy
 cases x with
 | false =>
   have HR:=Lib.hid (HO.out.2 ⟨⟨#[]⟩,⟨#[]⟩⟩ (.inl rfl))
   go_wp2_with (first | (go_at_call 93;(with_reducible refine HW.out.mono ?_);rintro e w' ⟨rfl,rfl⟩) | (refine wpList_storeS #[.string ⟨#[]⟩,.string ⟨#[]⟩] rfl 65 (.tmp 2) (.tmp 24) rfl rfl rfl H1.out.2 Tryz.sizeSAttr rfl rfl rfl ?_))
   (try simp only [Exit.inBlock,Exit.then])
   exact bodyPost_ret (ret_struct2 rfl rfl (H1.out.2.row _) Tryz.underlying65 rfl Tryz.sizeSAttr rfl) rfl ⟨⟨⟨#[]⟩,⟨#[]⟩⟩,false,rfl,HR.out,below_row H1.out.1 (Nat.le_refl _) _⟩
 | true =>
   cases f with
   | false =>
     have HR:=Lib.hid (HO.out.1 rfl (.inl rfl))
     go_wp2_with (first | (go_at_call 93;(with_reducible refine HW.out.mono ?_);rintro e w' ⟨rfl,rfl⟩) | (refine wpList_storeS #[.string a,.string b] rfl 65 (.tmp 2) (.tmp 27) rfl rfl rfl H1.out.2 Tryz.sizeSAttr rfl rfl rfl ?_))
     (try simp only [Exit.inBlock,Exit.then])
     exact bodyPost_ret (ret_struct2 rfl rfl (H1.out.2.row _) Tryz.underlying65 rfl Tryz.sizeSAttr rfl) rfl ⟨⟨a,b⟩,true,rfl,HR.out,below_row H1.out.1 (Nat.le_refl _) _⟩
   | true =>
     cases y with
     | true =>
       have HR:=Lib.hid (HO.out.1 rfl (.inr rfl))
       go_wp2_with (first | (go_at_call 93;(with_reducible refine HW.out.mono ?_);rintro e w' ⟨rfl,rfl⟩) | (go_at_call 78;(with_reducible refine HV.out.mono ?_);rintro e w' ⟨rfl,rfl⟩) | (refine wpList_storeS #[.string a,.string b] rfl 65 (.tmp 2) (.tmp 27) rfl rfl rfl H1.out.2 Tryz.sizeSAttr rfl rfl rfl ?_))
       (try simp only [Exit.inBlock,Exit.then])
       exact bodyPost_ret (ret_struct2 rfl rfl (H1.out.2.row _) Tryz.underlying65 rfl Tryz.sizeSAttr rfl) rfl ⟨⟨a,b⟩,true,rfl,HR.out,below_row H1.out.1 (Nat.le_refl _) _⟩
     | false =>
       have HR:=Lib.hid (HO.out.2 ⟨⟨#[]⟩,⟨#[]⟩⟩ (.inr ⟨rfl,rfl⟩))
       go_wp2_with (first | (go_at_call 93;(with_reducible refine HW.out.mono ?_);rintro e w' ⟨rfl,rfl⟩) | (go_at_call 78;(with_reducible refine HV.out.mono ?_);rintro e w' ⟨rfl,rfl⟩) | (refine wpList_storeS #[.string ⟨#[]⟩,.string ⟨#[]⟩] rfl 65 (.tmp 2) (.tmp 24) rfl rfl rfl H1.out.2 Tryz.sizeSAttr rfl rfl rfl ?_))
       (try simp only [Exit.inBlock,Exit.then])
       exact bodyPost_ret (ret_struct2 rfl rfl (H1.out.2.row _) Tryz.underlying65 rfl Tryz.sizeSAttr rfl) rfl ⟨⟨⟨#[]⟩,⟨#[]⟩⟩,false,rfl,HR.out,below_row H1.out.1 (Nat.le_refl _) _⟩
theorem split_parts (l:Tx):l.length<2→l.take 2=l∧l.drop 2=[]:=fun h=>⟨List.take_of_length_le (by omega),List.drop_of_length_le (by omega)⟩
set_option maxHeartbeats 1600000 in
theorem split_any (s:ByteArray) (w:World) (hs:s.size≤maxLen):Calls Tryz.prog 76 #[.string s] w fun e w'=>∃a b:ByteArray,e=.returned (.tuple #[.string a,.string b])∧tx a=(tx s).take 2∧tx b=(tx s).drop 2∧Below w.heap.size w w':=by
 unfold maxLen at hs
 by_cases h2:2≤s.size
 · have HA:Hid (tx (s.extract 0 2)=(tx s).take 2):=Lib.hid (by rw [tx_extract];simp)
   have HB:Hid (tx (s.extract 2 s.size)=(tx s).drop 2):=Lib.hid (by rw [tx_extract];rw [List.take_of_length_le (by rw [List.length_drop,tx_length];omega)])
   have h2':(2:Int)≤(s.size:Int):=by omega
   have hm:min (s.size:Int) 2=2:=by omega
   go_enter Tryz.func76,Tryz.ntmps76
   go_upto_region 2 with fail
   go_quiet (fail)
   go_wp2
   go_ret2
   exact ⟨_,_,rfl,HA.out,HB.out,below_drewN' (Below.refl _ w) _⟩
 · have HA:Hid (tx s=(tx s).take 2):=Lib.hid (by rw [(split_parts (tx s) (by rw [tx_length];omega)).1])
   have HB:Hid (tx ByteArray.empty=(tx s).drop 2):=Lib.hid (by rw [(split_parts (tx s) (by rw [tx_length];omega)).2];rfl)
   have h2':(s.size:Int)<2:=by omega
   have hm:min (s.size:Int) 2=(s.size:Int):=by omega
   clear h2
   go_enter Tryz.func76,Tryz.ntmps76
   go_upto_region 2 with fail
   go_quiet (fail)
   go_wp2
   go_ret2
   exact ⟨_,_,rfl,HA.out,HB.out,below_drewN' (Below.refl _ w) _⟩
def PartP (w:World) (p:Value) (o:Option PartS):Prop:=(p=.pointer none∧o=none)∨∃ad va x,p=.pointer (some ad)∧o=some x∧w.cell? ⟨ad.block,ad.off+1,none⟩=some (.string x.conn)∧w.cell? ⟨ad.block,ad.off+2,none⟩=some va∧∃A c,va=.slice A x.attrs.length c
def bareP (o:Option PartS):Bool:=match o with
 | none=>false
 | some p=>(tx p.conn).isEmpty && p.attrs.isEmpty
set_option maxHeartbeats 1600000 in
theorem bare_any (p:Value) (o:Option PartS) (w:World) (h:PartP w p o):Calls Tryz.prog 79 #[p] w fun e w'=>e=.returned (.bool (bareP o))∧w=w':=by
 rcases h with ⟨rfl,rfl⟩ | ⟨ad,va,x,rfl,rfl,h1,h2,A,c,rfl⟩
 · go_enter Tryz.func79,Tryz.ntmps79
   go_wp2
   go_ret
   exact ⟨rfl,rfl⟩
 · obtain ⟨cn,hcn⟩:∃cn,x.conn=cn:=⟨_,rfl⟩
   obtain ⟨n,hn⟩:∃n,x.attrs.length=n:=⟨_,rfl⟩
   have HE:Hid (bareP (some x)=(cn.toList.isEmpty && decide (n=0))):=Lib.hid (by
    show ((tx x.conn).isEmpty && x.attrs.isEmpty)=_
    rw [hcn,toList_tx,←hn]
    congr 1
    cases x.attrs <;> simp)
   rw [hcn] at h1
   rw [hn] at h2
   clear hcn hn
   generalize bareP (some x)=r at *
   cases hq:cn.toList.isEmpty with
   | false =>
     have HR:Hid (false=r):=Lib.hid (by rw [HE.out,hq];rfl)
     clear HE
     go_enter Tryz.func79,Tryz.ntmps79
     go_wp2
     go_ret
     exact ⟨ret_bool HR.out,rfl⟩
   | true =>
     have HR:Hid (((n:Int) == 0)=r):=Lib.hid (by rw [HE.out,hq,Bool.eq_iff_iff];simp)
     clear HE
     go_enter Tryz.func79,Tryz.ntmps79
     go_wp2
     go_ret
     exact ⟨ret_bool HR.out,rfl⟩
theorem cut_none {l:Tx} {c:UInt8} (h:Lib.indexByte l c=-1):cutS [c] l=(l,[],false):=by
 have h1:=Lib.indexByte_none h
 exact cutS_free (c0:=c) (t:=[]) l (fun d hd e=>by
  subst e
  obtain ⟨k,hk⟩:=List.mem_iff_getElem?.1 hd
  exact h1 k hk)
theorem cut_some {l:Tx} {c:UInt8} {k:Nat} (h:Lib.indexByte l c=k):cutS [c] l=(l.take k,l.drop (k+1),true)∧k<l.length:=by
 obtain ⟨h1,h2⟩:=Lib.indexByte_some h
 have hk:k<l.length:=(List.getElem?_eq_some_iff.1 h1).1
 have e:l=l.take k++c :: l.drop (k+1):=by
  have h3:l[k]=c:=by rw [List.getElem?_eq_getElem hk] at h1;exact Option.some.inj h1
  rw [←h3,←List.drop_eq_getElem_cons hk,List.take_append_drop]
 refine ⟨?_,hk⟩
 conv=>lhs;rw [e]
 exact cut_at _ _ (fun d hd e2=>by
  subst e2
  obtain ⟨j,hj⟩:=List.mem_iff_getElem?.1 hd
  have hjl:j<k:=by
   have:=(List.getElem?_eq_some_iff.1 hj).1
   rw [List.length_take] at this
   omega
  rw [List.getElem?_take,if_pos hjl] at hj
  exact h2 j hjl hj)
set_option maxHeartbeats 800000 in
set_option maxRecDepth 10000 in
theorem slCut_any (s:ByteArray) (c:UInt8) (w:World) (hs:s.size≤281474976710656):Calls Tryz.prog 133 #[.string s,.string ⟨#[c]⟩] w fun e w'=>e=.returned (.tuple #[.string (bs (cutS [c] (tx s)).1),.string (bs (cutS [c] (tx s)).2.1),.bool (cutS [c] (tx s)).2.2])∧Below w.heap.size w w':=by
 have HI:=Lib.hid (Tryz.stringslite_Index_one s c w)
 have hge:=Lib.indexByte_ge s.data.toList c
 by_cases h:Lib.indexByte s.data.toList c=-1
 · have HC:Hid (cutS [c] (tx s)=(tx s,[],false)):=Lib.hid (cut_none h)
   rw [HC.out]
   rw [h] at HI
   clear HC h hge
   go_enter Tryz.func133,Tryz.ntmps133
   go_wp2_with (go_at_call 175;(with_reducible refine HI.out.mono ?_);rintro e w1 ⟨rfl,rfl⟩)
   go_ret3
   exact ⟨by rw [bs_tx];rfl,Below.refl _ _⟩
 · obtain ⟨k,hk⟩:∃k:Nat,Lib.indexByte s.data.toList c=k:=⟨(Lib.indexByte s.data.toList c).toNat,by omega⟩
   obtain ⟨h1,h2⟩:=cut_some (l:=tx s) hk
   have HC:Hid (cutS [c] (tx s)=((tx s).take k,(tx s).drop (k+1),true)):=Lib.hid h1
   rw [tx_length] at h2
   rw [HC.out]
   rw [hk] at HI
   have HT:Hid (∀a b:ByteArray,a=s.extract 0 k→b=s.extract (k+1) s.size→Ending.returned (.tuple #[.string a,.string b,.bool true])=.returned (.tuple #[.string (bs ((tx s).take k)),.string (bs ((tx s).drop (k+1))),.bool true])):=Lib.hid fun a b ha hb=>by
    have e1:a=bs ((tx s).take k):=tx_inj (by rw [ha,tx_extract,tx_bs,List.drop_zero,Nat.sub_zero])
    have e2:b=bs ((tx s).drop (k+1)):=tx_inj (by rw [hb,tx_extract,tx_bs,List.take_of_length_le (by rw [List.length_drop,tx_length];exact Nat.le_refl _)])
    rw [e1,e2]
   have hk0:(0:Int)≤(k:Int):=by omega
   have hk1:(k:Int)<(s.size:Int):=by omega
   have hk2:(k:Int)+1≤(s.size:Int):=by omega
   have hkw:IntKind.i64.wrap ((k:Int)+1)=((k+1:Nat):Int):=(IntWalk.i64_in _ (by omega)).trans (by omega)
   have hk3:((k+1:Nat):Int)≤(s.size:Int):=by omega
   have hk4:(0:Int)≤((k+1:Nat):Int):=by omega
   have hk5:k≤s.size:=by omega
   have hk6:k+1≤s.size:=by omega
   clear HC h hge hk h1
   go_enter Tryz.func133,Tryz.ntmps133
   go_upto_region 3 with (go_at_call 175;(with_reducible refine HI.out.mono ?_);rintro e w1 ⟨rfl,rfl⟩)
   go_quiet (fail)
   go_wp2
   go_ret3
   exact ⟨HT.out _ _ rfl rfl,below_drewN' (Below.refl _ _) _⟩
set_option maxHeartbeats 800000 in
theorem cut1_any (s:ByteArray) (c:UInt8) (w:World) (hs:s.size≤281474976710656):Calls Tryz.prog 75 #[.string s,.string ⟨#[c]⟩] w fun e w'=>e=.returned (.tuple #[.string (bs (cutS [c] (tx s)).1),.string (bs (cutS [c] (tx s)).2.1),.bool (cutS [c] (tx s)).2.2])∧Below w.heap.size w w':=by
 have HC:=Lib.hid (slCut_any s c w hs)
 generalize bs (cutS [c] (tx s)).1=a at *
 generalize bs (cutS [c] (tx s)).2.1=b at *
 generalize (cutS [c] (tx s)).2.2=f at *
 go_enter Tryz.func75,Tryz.ntmps75
 go_wp2_with (go_at_call 133;(with_reducible refine HC.out.mono ?_);rintro e w1 ⟨rfl,hb1⟩)
 go_ret3
 exact ⟨rfl,hb1⟩
set_option maxHeartbeats 800000 in
theorem cutc_any (s:ByteArray) (w:World) (hs:s.size≤281474976710656):Calls Tryz.prog 53 #[.string s] w fun e w'=>e=.returned (.tuple #[.string (bs (hd (tx s))),.string (bs (tl (tx s)))])∧Below w.heap.size w w':=by
 have HC:=Lib.hid (cut1_any s 32 w hs)
 have e1:(cutS [32] (tx s)).1=hd (tx s):=rfl
 have e2:(cutS [32] (tx s)).2.1=tl (tx s):=rfl
 rw [e1,e2] at HC
 clear e1 e2
 generalize bs (hd (tx s))=a at *
 generalize bs (tl (tx s))=b at *
 generalize (cutS [32] (tx s)).2.2=f at *
 go_enter Tryz.func53,Tryz.ntmps53
 go_wp2_with (go_at_call 75;(with_reducible refine HC.out.mono ?_);rintro e w1 ⟨rfl,hb1⟩)
 go_ret2
 exact ⟨rfl,hb1⟩
theorem any_not {α:Type} (L:List α) (q:α→Bool):(!(L.any fun x=>!q x))=L.all q:=by
 induction L with
 | nil=>rfl
 | cons a r ih=>rw [List.any_cons,List.all_cons,←ih];cases q a <;> simp
set_option maxHeartbeats 6400000 in
set_option maxRecDepth 100000 in
theorem goodCodec_any (x:CodecS) (Af:Option Addr) (lf kf:Nat) (w:World) (h:TextsV w w.heap.size (.slice Af lf kf) x.feedback) (hs:x.name.size≤140737488355328∧x.format.size≤140737488355328∧∀f∈x.feedback,f.size≤140737488355328) (hl:x.feedback.length≤140737488355328) :
 Calls Tryz.prog 96 #[.agg #[.int .i64 x.type,.string x.name,.int .i64 x.clock,.int .i64 x.chans,.string x.format,.slice Af lf kf]] w fun e w'=>e=.returned (.bool (goodC x))∧Below w.heap.size w w':=by
 obtain ⟨ty,nm,ck,ch,fm,fb⟩:=x
 have hs:nm.size≤140737488355328∧fm.size≤140737488355328∧∀f∈fb,f.size≤140737488355328:=hs
 have hl:fb.length≤140737488355328:=hl
 have h:TextsV w w.heap.size (.slice Af lf kf) fb:=h
 have hlf:lf=fb.length:=by
  obtain ⟨_,_,e,-⟩:=Rows.form h
  injection e
 have hb0:Below w.heap.size w (w.alloc (.cells #[.int .i64 ty,.string nm,.int .i64 ck,.int .i64 ch,.string fm,.slice Af lf kf] 31)):=(Below.refl _ w).alloc (Nat.le_refl _) _
 have hz:=Whole.new w 31 #[.int .i64 ty,.string nm,.int .i64 ck,.int .i64 ch,.string fm,.slice Af lf kf]
 have c0:=hz.cell 0
 have c1:=hz.cell 1
 have c2:=hz.cell 2
 have c3:=hz.cell 3
 have c4:=hz.cell 4
 have c5:=hz.cell 5
 simp only [List.getElem?_toArray,List.getElem?_cons_zero,List.getElem?_cons_succ] at c0 c1 c2 c3 c4 c5
 have HB:=Lib.hid (And.intro hb0 (h.below hb0))
 have hx:goodC ⟨ty,nm,ck,ch,fm,fb⟩=((decide (0≤ty) && decide (ty≤127)) && (wordP 1 32 (tx nm) && ((decide (1≤ck) && decide (ck≤1000000)) && ((decide (1≤ch) && decide (ch≤2)) && (((tx fm).isEmpty || plainP (tx fm)) && (decide (lf≤8) && !(fb.any fun f=>!plainP (tx f)))))))):=by
  rw [any_not,hlf]
  unfold goodC
  simp only [Bool.and_assoc]
 show Calls _ _ _ _ fun e w'=>e=.returned (.bool (goodC ⟨ty,nm,ck,ch,fm,fb⟩))∧_
 have hmt:fm.toList.isEmpty=(tx fm).isEmpty:=by rw [toList_tx]
 have HWI:Hid (∀n a b W,Calls Tryz.prog 45 #[.int .i64 n,.int .i64 a,.int .i64 b] W fun e w'=>e=.returned (.bool (decide (a≤n) && decide (n≤b)))∧W=w'):=Lib.hid fun n a b W=>within_any n a b W
 have HWO:=Lib.hid (word_any nm (w.alloc (.cells #[.int .i64 ty,.string nm,.int .i64 ck,.int .i64 ch,.string fm,.slice Af lf kf] 31)) (by unfold maxLen;omega))
 have HFO:=Lib.hid (goodFormat_any fm (w.alloc (.cells #[.int .i64 ty,.string nm,.int .i64 ck,.int .i64 ch,.string fm,.slice Af lf kf] 31)) (by unfold maxLen;omega))
 have HCO:Hid (∀W,Below w.heap.size w W→TextsV W w.heap.size (.slice Af lf kf) fb→Calls Tryz.prog 150 #[.slice Af lf kf,.func (.func 151) #[] #[]] W fun e w'=>e=.returned (.bool (fb.any fun f=>!plainP (tx f)))∧Below W.heap.size W w'):=Lib.hid fun W hW hv =>
  containsB_any Af lf kf fb (fun f=>!plainP (tx f)) W (hv.more hW.size) hlf.symm (by omega) fun W' f _ hf=>(badFormat_any f W' (by have:=hs.2.2 f hf;unfold maxLen;omega)).mono fun e w' ⟨h1,h2⟩=>⟨h1,h2 ▸ Below.refl _ _⟩
 have HT1:=Lib.hid (HWI.out ty 0 127 (w.alloc (.cells #[.int .i64 ty,.string nm,.int .i64 ck,.int .i64 ch,.string fm,.slice Af lf kf] 31)))
 have HT2:=Lib.hid (HWI.out ck 1 1000000 (w.alloc (.cells #[.int .i64 ty,.string nm,.int .i64 ck,.int .i64 ch,.string fm,.slice Af lf kf] 31)))
 have HT3:=Lib.hid (HWI.out ch 1 2 (w.alloc (.cells #[.int .i64 ty,.string nm,.int .i64 ck,.int .i64 ch,.string fm,.slice Af lf kf] 31)))
 have HC1:=Lib.hid (HCO.out _ HB.out.1 HB.out.2)
 have HX:=Lib.hid hx
 have hlm:lf≤140737488355328:=by omega
 clear hb0 hz h HWI hx hs hl HCO hlf
 generalize goodC ⟨ty,nm,ck,ch,fm,fb⟩=r at *
 generalize (decide ((0:Int)≤ty) && decide (ty≤127))=t1 at *
 generalize (decide ((1:Int)≤ck) && decide (ck≤1000000))=t2 at *
 generalize (decide ((1:Int)≤ch) && decide (ch≤2))=t3 at *
 generalize (fb.any fun f=>!plainP (tx f))=t4 at *
 generalize wordP 1 32 (tx nm)=q1 at *
 generalize plainP (tx fm)=q2 at *
 generalize (tx fm).isEmpty=q3 at *
 obtain ⟨N,hN⟩:∃N,w.heap.size=N:=⟨_,rfl⟩
 rw [hN] at c0 c1 c2 c3 c4 c5 HB ⊢
 go_enter Tryz.func96,Tryz.ntmps96
 go_upto_region 1 with fail
 generalize w.alloc (.cells #[.int .i64 ty,.string nm,.int .i64 ck,.int .i64 ch,.string fm,.slice Af lf kf] 31)=W at *
 have HSZ:Hid (N≤W.heap.size):=Lib.hid (by have:=HB.out.1.size;omega)
 clear hN
 cases t1 with
 | false =>
   have HQ:Hid (r=false):=Lib.hid (by rw [HX.out];simp)
   go_wp2_with (first | (go_at_call 45;(with_reducible refine HT1.out.mono ?_);rintro e w' ⟨rfl,rfl⟩))
   go_ret
   exact ⟨ret_bool HQ.out.symm,HB.out.1⟩
 | true =>
   cases q1 with
   | false =>
     have HQ:Hid (r=false):=Lib.hid (by rw [HX.out];simp)
     go_wp2_with (first | (go_at_call 45;(with_reducible refine HT1.out.mono ?_);rintro e w' ⟨rfl,rfl⟩) | (go_at_call 93;(with_reducible refine HWO.out.mono ?_);rintro e w' ⟨rfl,rfl⟩))
     go_ret
     exact ⟨ret_bool HQ.out.symm,HB.out.1⟩
   | true =>
     cases t2 with
     | false =>
       have HQ:Hid (r=false):=Lib.hid (by rw [HX.out];simp)
       go_wp2_with (first | (go_at_call 45;(with_reducible refine HT1.out.mono ?_);rintro e w' ⟨rfl,rfl⟩) | (go_at_call 93;(with_reducible refine HWO.out.mono ?_);rintro e w' ⟨rfl,rfl⟩) | (go_at_call 45;(with_reducible refine HT2.out.mono ?_);rintro e w' ⟨rfl,rfl⟩))
       go_ret
       exact ⟨ret_bool HQ.out.symm,HB.out.1⟩
     | true =>
       cases t3 with
       | false =>
         have HQ:Hid (r=false):=Lib.hid (by rw [HX.out];simp)
         go_wp2_with (first | (go_at_call 45;(with_reducible refine HT1.out.mono ?_);rintro e w' ⟨rfl,rfl⟩) | (go_at_call 93;(with_reducible refine HWO.out.mono ?_);rintro e w' ⟨rfl,rfl⟩) | (go_at_call 45;(with_reducible refine HT2.out.mono ?_);rintro e w' ⟨rfl,rfl⟩) | (go_at_call 45;(with_reducible refine HT3.out.mono ?_);rintro e w' ⟨rfl,rfl⟩))
         go_ret
         exact ⟨ret_bool HQ.out.symm,HB.out.1⟩
       | true =>
         cases q3 with
         | true =>
           by_cases hlt:lf≤8
           · have hl8:(lf:Int)≤8:=by omega
             have HQ:Hid ((!t4)=r):=Lib.hid (by rw [HX.out];simp [hlt])
             go_wp2_with (first | (go_at_call 45;(with_reducible refine HT1.out.mono ?_);rintro e w' ⟨rfl,rfl⟩) | (go_at_call 93;(with_reducible refine HWO.out.mono ?_);rintro e w' ⟨rfl,rfl⟩) | (go_at_call 45;(with_reducible refine HT2.out.mono ?_);rintro e w' ⟨rfl,rfl⟩) | (go_at_call 45;(with_reducible refine HT3.out.mono ?_);rintro e w' ⟨rfl,rfl⟩) | (go_at_call 150;(with_reducible refine HC1.out.mono ?_);rintro e w' ⟨rfl,hb4⟩))
             go_ret
             exact ⟨ret_bool HQ.out,HB.out.1.trans (hb4.mono HSZ.out)⟩
           · have hl8:8<(lf:Int):=by omega
             have HQ:Hid (r=false):=Lib.hid (by rw [HX.out];simp [hlt])
             go_wp2_with (first | (go_at_call 45;(with_reducible refine HT1.out.mono ?_);rintro e w' ⟨rfl,rfl⟩) | (go_at_call 93;(with_reducible refine HWO.out.mono ?_);rintro e w' ⟨rfl,rfl⟩) | (go_at_call 45;(with_reducible refine HT2.out.mono ?_);rintro e w' ⟨rfl,rfl⟩) | (go_at_call 45;(with_reducible refine HT3.out.mono ?_);rintro e w' ⟨rfl,rfl⟩))
             go_ret
             exact ⟨ret_bool HQ.out.symm,HB.out.1⟩
         | false =>
           cases q2 with
           | false =>
             have HQ:Hid (r=false):=Lib.hid (by rw [HX.out];simp)
             go_wp2_with (first | (go_at_call 45;(with_reducible refine HT1.out.mono ?_);rintro e w' ⟨rfl,rfl⟩) | (go_at_call 93;(with_reducible refine HWO.out.mono ?_);rintro e w' ⟨rfl,rfl⟩) | (go_at_call 45;(with_reducible refine HT2.out.mono ?_);rintro e w' ⟨rfl,rfl⟩) | (go_at_call 45;(with_reducible refine HT3.out.mono ?_);rintro e w' ⟨rfl,rfl⟩) | (go_at_call 149;(with_reducible refine HFO.out.mono ?_);rintro e w' ⟨rfl,rfl⟩))
             go_ret
             exact ⟨ret_bool HQ.out.symm,HB.out.1⟩
           | true =>
             by_cases hlt:lf≤8
             · have hl8:(lf:Int)≤8:=by omega
               have HQ:Hid ((!t4)=r):=Lib.hid (by rw [HX.out];simp [hlt])
               go_wp2_with (first | (go_at_call 45;(with_reducible refine HT1.out.mono ?_);rintro e w' ⟨rfl,rfl⟩) | (go_at_call 93;(with_reducible refine HWO.out.mono ?_);rintro e w' ⟨rfl,rfl⟩) | (go_at_call 45;(with_reducible refine HT2.out.mono ?_);rintro e w' ⟨rfl,rfl⟩) | (go_at_call 45;(with_reducible refine HT3.out.mono ?_);rintro e w' ⟨rfl,rfl⟩) | (go_at_call 149;(with_reducible refine HFO.out.mono ?_);rintro e w' ⟨rfl,rfl⟩) | (go_at_call 150;(with_reducible refine HC1.out.mono ?_);rintro e w' ⟨rfl,hb4⟩))
               go_ret
               exact ⟨ret_bool HQ.out,HB.out.1.trans (hb4.mono HSZ.out)⟩
             · have hl8:8<(lf:Int):=by omega
               have HQ:Hid (r=false):=Lib.hid (by rw [HX.out];simp [hlt])
               go_wp2_with (first | (go_at_call 45;(with_reducible refine HT1.out.mono ?_);rintro e w' ⟨rfl,rfl⟩) | (go_at_call 93;(with_reducible refine HWO.out.mono ?_);rintro e w' ⟨rfl,rfl⟩) | (go_at_call 45;(with_reducible refine HT2.out.mono ?_);rintro e w' ⟨rfl,rfl⟩) | (go_at_call 45;(with_reducible refine HT3.out.mono ?_);rintro e w' ⟨rfl,rfl⟩) | (go_at_call 149;(with_reducible refine HFO.out.mono ?_);rintro e w' ⟨rfl,rfl⟩))
               go_ret
               exact ⟨ret_bool HQ.out.symm,HB.out.1⟩
theorem MediaV.forms {w:World} {B:Nat} {M:Array Value} {m:MediaS} {vC vE vR vS vY:Value} (h:MediaV w B M m vC vE vR vS vY) :
 ∃AC kC AE kE AR kR AS kS AY kY,vC=.slice AC m.codecs.length kC∧vE=.slice AE m.exts.length kE∧vR=.slice AR m.rids.length kR∧vS=.slice AS m.sources.length kS∧vY=.slice AY m.crypto.length kY:=by
 obtain ⟨AC,kC,e1,-⟩:=Rows.form h.codecs
 obtain ⟨AE,kE,e2,-⟩:=Rows.form h.exts
 obtain ⟨AR,kR,e3,-⟩:=Rows.form h.rids
 obtain ⟨AS,kS,e4,-⟩:=Rows.form h.sources
 obtain ⟨AY,kY,e5,-⟩:=Rows.form h.crypto
 exact ⟨AC,kC,AE,kE,AR,kR,AS,kS,AY,kY,e1,e2,e3,e4,e5⟩
set_option maxHeartbeats 6400000 in
set_option maxRecDepth 100000 in
theorem goodStreams_any (M:Array Value) (m:MediaS) (vC vE vR vS vY:Value) (w:World) (h:MediaV w w.heap.size M m vC vE vR vS vY) (hz:SizM m) :
 Calls Tryz.prog 46 #[.agg M] w fun e w'=>e=.returned (.bool (goodStreams m))∧Below w.heap.size w w':=by
 obtain ⟨AC,kC,AE,kE,AR,kR,AS,kS,AY,kY,rfl,rfl,rfl,rfl,rfl⟩:=h.forms
 obtain ⟨hform,hvC,hvE,hvR,hvS,hvY⟩:=h
 subst hform
 obtain ⟨nC,hnC⟩:∃n,m.codecs.length=n:=⟨_,rfl⟩
 obtain ⟨nE,hnE⟩:∃n,m.exts.length=n:=⟨_,rfl⟩
 obtain ⟨nR,hnR⟩:∃n,m.rids.length=n:=⟨_,rfl⟩
 obtain ⟨nS,hnS⟩:∃n,m.sources.length=n:=⟨_,rfl⟩
 obtain ⟨nY,hnY⟩:∃n,m.crypto.length=n:=⟨_,rfl⟩
 obtain ⟨hc1,hc2,hc3,hc4,hc5⟩:=hz.counts
 rw [hnC] at hvC hc1
 rw [hnE] at hvE hc2
 rw [hnR] at hvR hc3
 rw [hnS] at hvS hc4
 rw [hnY] at hvY hc5
 rw [hnC,hnE,hnR,hnS,hnY]
 have hb0:Below w.heap.size w (w.alloc (.cells #[.int .i64 m.kind,.int .i64 m.port,.string m.mid,.int .i64 m.dir,.slice AC nC kC,.slice AE nE kE,.slice AR nR kR,.bool m.sending,.slice AS nS kS,.slice AY nY kY,.int .i64 m.sctp] 28)):=(Below.refl _ w).alloc (Nat.le_refl _) _
 have hw:=Whole.new w 28 #[.int .i64 m.kind,.int .i64 m.port,.string m.mid,.int .i64 m.dir,.slice AC nC kC,.slice AE nE kE,.slice AR nR kR,.bool m.sending,.slice AS nS kS,.slice AY nY kY,.int .i64 m.sctp]
 have hx:goodStreams m=(decide (1≤nC) && ((decide (nC≤16) && m.codecs.all goodC && unlike CodecS.type m.codecs) && ((decide (nE≤14) && m.exts.all goodE && unlike ExtS.id m.exts) && ((decide (nR≤3) && m.rids.all goodR && unlike tx m.rids) && ((decide (1≤nR) || !m.sending) && ((decide (nS≤16) && m.sources.all (fun _=>true) && unlike id m.sources) && ((decide (nY≤1) && m.crypto.all goodY) && decide (m.sctp=0)))))))):=by
  unfold goodStreams
  rw [hnC,hnE,hnR,hnS,hnY,show (m.sources.all fun _=>true)=true from List.all_eq_true.2 (fun _ _=>rfl)]
  simp [Bool.and_assoc]
 have HLC:Hid (∀W,Below w.heap.size w W→Calls Tryz.prog 94 #[.slice AC nC kC,.int .i64 16,.func (.func 95) #[] #[],.func (.func 96) #[] #[]] W fun e w'=>e=.returned (.bool (decide (nC≤16) && m.codecs.all goodC && unlike CodecS.type m.codecs))∧Below W.heap.size W w'):=Lib.hid fun W hW =>
  goodListC_any AC nC kC m.codecs goodC W ((hvC.below hW).more hW.size) hnC (by omega) fun W' x vf _ hx hv=>by
   obtain ⟨Af,kf,rfl,-⟩:=Rows.form hv
   exact goodCodec_any x Af _ kf W' (hv.more (Nat.le_trans (by omega) (by assumption:Below W.heap.size W W').size)) (hz.names x hx) (hz.feeds x hx)
 have HLE:Hid (∀W,Below w.heap.size w W→Calls Tryz.prog 97 #[.slice AE nE kE,.int .i64 14,.func (.func 98) #[] #[],.func (.func 99) #[] #[]] W fun e w'=>e=.returned (.bool (decide (nE≤14) && m.exts.all goodE && unlike ExtS.id m.exts))∧Below W.heap.size W w'):=Lib.hid fun W hW =>
  goodListE_any AE nE kE m.exts goodE W ((hvE.below hW).more hW.size) hnE (by omega) fun W' x _ hx=>goodExt_any x W' (by have:=hz.uris x hx;unfold maxLen;omega)
 have HLR:Hid (∀W,Below w.heap.size w W→Calls Tryz.prog 100 #[.slice AR nR kR,.int .i64 3,.func (.func 101) #[] #[],.func (.func 102) #[] #[]] W fun e w'=>e=.returned (.bool (decide (nR≤3) && m.rids.all goodR && unlike tx m.rids))∧Below W.heap.size W w'):=Lib.hid fun W hW =>
  goodListS_any AR nR kR m.rids goodR W ((hvR.below hW).more hW.size) hnR (by omega) fun W' x _ hx=>(goodRid_any x W' (by have:=hz.rids x hx;unfold maxLen;omega)).mono fun e w' ⟨h1,h2⟩=>⟨h1,h2 ▸ Below.refl _ _⟩
 have HLS:Hid (∀W,Below w.heap.size w W→Calls Tryz.prog 103 #[.slice AS nS kS,.int .i64 16,.func (.func 104) #[] #[],.func (.func 105) #[] #[]] W fun e w'=>e=.returned (.bool (decide (nS≤16) && m.sources.all (fun _=>true) && unlike id m.sources))∧Below W.heap.size W w'):=Lib.hid fun W hW =>
  goodListU_any AS nS kS m.sources (fun _=>true) W ((hvS.below hW).more hW.size) hnS (by omega) fun W' x _ hx=>(anySource_any _ W').mono fun e w' ⟨h1,h2⟩=>⟨h1,h2 ▸ Below.refl _ _⟩
 have HLY:Hid (∀W,Below w.heap.size w W→Calls Tryz.prog 106 #[.slice AY nY kY,.int .i64 1,.func (.func 107) #[] #[],.func (.func 108) #[] #[]] W fun e w'=>e=.returned (.bool (decide (nY≤1) && m.crypto.all goodY))∧Below W.heap.size W w'):=Lib.hid fun W hW =>
  goodListY_any AY nY kY m.crypto W ((hvY.below hW).more hW.size) hnY (by omega)
 have HX:=Lib.hid hx
 generalize goodStreams m=r at *
 generalize (decide (nC≤16) && m.codecs.all goodC && unlike CodecS.type m.codecs)=tC at *
 generalize (decide (nE≤14) && m.exts.all goodE && unlike ExtS.id m.exts)=tE at *
 generalize (decide (nR≤3) && m.rids.all goodR && unlike tx m.rids)=tR at *
 generalize (decide (nS≤16) && m.sources.all (fun _=>true) && unlike id m.sources)=tS at *
 generalize (decide (nY≤1) && m.crypto.all goodY)=tY at *
 obtain ⟨sd,hsd⟩:∃b,m.sending=b:=⟨_,rfl⟩
 obtain ⟨sc,hsc⟩:∃b,m.sctp=b:=⟨_,rfl⟩
 rw [hsd] at HX
 rw [hsc] at HX
 simp only [hsd,hsc] at hb0 hw ⊢
 clear hx hvC hvE hvR hvS hvY hz hnC hnE hnR hnS hnY hsd hsc
 obtain ⟨N,hN⟩:∃N,w.heap.size=N:=⟨_,rfl⟩
 have HBX:=Lib.hid hw
 have HB:=Lib.hid hb0
 rw [hN] at HBX HB HLC HLE HLR HLS HLY ⊢
 clear hb0 hw
 go_enter Tryz.func46,Tryz.ntmps46
 go_upto_region 1 with fail
 generalize w.alloc (.cells #[.int .i64 m.kind,.int .i64 m.port,.string m.mid,.int .i64 m.dir,.slice AC nC kC,.slice AE nE kE,.slice AR nR kR,.bool sd,.slice AS nS kS,.slice AY nY kY,.int .i64 sc] 28)=W0 at *
 have HN:Hid (N≤W0.heap.size):=Lib.hid (Nat.le_of_lt HBX.out.lt)
 clear hN
 have H0:Hid (Below W0.heap.size W0 W0):=Lib.hid (Below.refl _ _)
 have c4:W0.cell? ⟨N,4,none⟩=some (.slice AC nC kC):=HBX.out.cell 4
 by_cases hl1:1≤nC
 · have hl10:(0:Int)<(nC:Int):=by omega
   cases tC with
   | false =>
     have HQ:Hid (r=false):=Lib.hid (by rw [HX.out];simp)
     go_wp2_with (first | (go_at_call 94;(with_reducible refine (HLC.out _ (HB.out.trans (H0.out.mono HN.out))).mono ?_);rintro e w1 ⟨rfl,hb1⟩;have H1:Hid (Below W0.heap.size W0 w1):=Lib.hid (H0.out.trans (hb1.mono H0.out.size));clear hb1;have d5:w1.cell? ⟨N,5,none⟩=some (.slice AE nE kE):=(HBX.out.under H1.out).cell 5))
     go_ret
     exact ⟨ret_bool HQ.out.symm,HB.out.trans (H1.out.mono HN.out)⟩
   | true =>
     cases tE with
     | false =>
       have HQ:Hid (r=false):=Lib.hid (by rw [HX.out];simp)
       go_wp2_with (first | (go_at_call 94;(with_reducible refine (HLC.out _ (HB.out.trans (H0.out.mono HN.out))).mono ?_);rintro e w1 ⟨rfl,hb1⟩;have H1:Hid (Below W0.heap.size W0 w1):=Lib.hid (H0.out.trans (hb1.mono H0.out.size));clear hb1;have d5:w1.cell? ⟨N,5,none⟩=some (.slice AE nE kE):=(HBX.out.under H1.out).cell 5) | (go_at_call 97;(with_reducible refine (HLE.out _ (HB.out.trans (H1.out.mono HN.out))).mono ?_);rintro e w2 ⟨rfl,hb2⟩;have H2:Hid (Below W0.heap.size W0 w2):=Lib.hid (H1.out.trans (hb2.mono H1.out.size));clear hb2;have d6:w2.cell? ⟨N,6,none⟩=some (.slice AR nR kR):=(HBX.out.under H2.out).cell 6))
       go_ret
       exact ⟨ret_bool HQ.out.symm,HB.out.trans (H2.out.mono HN.out)⟩
     | true =>
       cases tR with
       | false =>
         have HQ:Hid (r=false):=Lib.hid (by rw [HX.out];simp)
         go_wp2_with (first | (go_at_call 94;(with_reducible refine (HLC.out _ (HB.out.trans (H0.out.mono HN.out))).mono ?_);rintro e w1 ⟨rfl,hb1⟩;have H1:Hid (Below W0.heap.size W0 w1):=Lib.hid (H0.out.trans (hb1.mono H0.out.size));clear hb1;have d5:w1.cell? ⟨N,5,none⟩=some (.slice AE nE kE):=(HBX.out.under H1.out).cell 5) | (go_at_call 97;(with_reducible refine (HLE.out _ (HB.out.trans (H1.out.mono HN.out))).mono ?_);rintro e w2 ⟨rfl,hb2⟩;have H2:Hid (Below W0.heap.size W0 w2):=Lib.hid (H1.out.trans (hb2.mono H1.out.size));clear hb2;have d6:w2.cell? ⟨N,6,none⟩=some (.slice AR nR kR):=(HBX.out.under H2.out).cell 6) | (go_at_call 100;(with_reducible refine (HLR.out _ (HB.out.trans (H2.out.mono HN.out))).mono ?_);rintro e w3 ⟨rfl,hb3⟩;have H3:Hid (Below W0.heap.size W0 w3):=Lib.hid (H2.out.trans (hb3.mono H2.out.size));clear hb3;have d6:w3.cell? ⟨N,6,none⟩=some (.slice AR nR kR):=(HBX.out.under H3.out).cell 6;have d7:w3.cell? ⟨N,7,none⟩=some (.bool sd):=(HBX.out.under H3.out).cell 7;have d8:w3.cell? ⟨N,8,none⟩=some (.slice AS nS kS):=(HBX.out.under H3.out).cell 8))
         go_ret
         exact ⟨ret_bool HQ.out.symm,HB.out.trans (H3.out.mono HN.out)⟩
       | true =>
         by_cases hlr:1≤nR
         · have hlr0:(0:Int)<(nR:Int):=by omega
           have hsx:(1≤nR∨sd=false):=.inl hlr
           cases tS with
           | false =>
             have HQ:Hid (r=false):=Lib.hid (by rw [HX.out];simp)
             go_wp2_with (first | (go_at_call 94;(with_reducible refine (HLC.out _ (HB.out.trans (H0.out.mono HN.out))).mono ?_);rintro e w1 ⟨rfl,hb1⟩;have H1:Hid (Below W0.heap.size W0 w1):=Lib.hid (H0.out.trans (hb1.mono H0.out.size));clear hb1;have d5:w1.cell? ⟨N,5,none⟩=some (.slice AE nE kE):=(HBX.out.under H1.out).cell 5) | (go_at_call 97;(with_reducible refine (HLE.out _ (HB.out.trans (H1.out.mono HN.out))).mono ?_);rintro e w2 ⟨rfl,hb2⟩;have H2:Hid (Below W0.heap.size W0 w2):=Lib.hid (H1.out.trans (hb2.mono H1.out.size));clear hb2;have d6:w2.cell? ⟨N,6,none⟩=some (.slice AR nR kR):=(HBX.out.under H2.out).cell 6) | (go_at_call 100;(with_reducible refine (HLR.out _ (HB.out.trans (H2.out.mono HN.out))).mono ?_);rintro e w3 ⟨rfl,hb3⟩;have H3:Hid (Below W0.heap.size W0 w3):=Lib.hid (H2.out.trans (hb3.mono H2.out.size));clear hb3;have d6:w3.cell? ⟨N,6,none⟩=some (.slice AR nR kR):=(HBX.out.under H3.out).cell 6;have d7:w3.cell? ⟨N,7,none⟩=some (.bool sd):=(HBX.out.under H3.out).cell 7;have d8:w3.cell? ⟨N,8,none⟩=some (.slice AS nS kS):=(HBX.out.under H3.out).cell 8) | (go_at_call 103;(with_reducible refine (HLS.out _ (HB.out.trans (H3.out.mono HN.out))).mono ?_);rintro e w4 ⟨rfl,hb4⟩;have H4:Hid (Below W0.heap.size W0 w4):=Lib.hid (H3.out.trans (hb4.mono H3.out.size));clear hb4;have d9:w4.cell? ⟨N,9,none⟩=some (.slice AY nY kY):=(HBX.out.under H4.out).cell 9))
             go_ret
             exact ⟨ret_bool HQ.out.symm,HB.out.trans (H4.out.mono HN.out)⟩
           | true =>
             cases tY with
             | false =>
               have HQ:Hid (r=false):=Lib.hid (by rw [HX.out];simp)
               go_wp2_with (first | (go_at_call 94;(with_reducible refine (HLC.out _ (HB.out.trans (H0.out.mono HN.out))).mono ?_);rintro e w1 ⟨rfl,hb1⟩;have H1:Hid (Below W0.heap.size W0 w1):=Lib.hid (H0.out.trans (hb1.mono H0.out.size));clear hb1;have d5:w1.cell? ⟨N,5,none⟩=some (.slice AE nE kE):=(HBX.out.under H1.out).cell 5) | (go_at_call 97;(with_reducible refine (HLE.out _ (HB.out.trans (H1.out.mono HN.out))).mono ?_);rintro e w2 ⟨rfl,hb2⟩;have H2:Hid (Below W0.heap.size W0 w2):=Lib.hid (H1.out.trans (hb2.mono H1.out.size));clear hb2;have d6:w2.cell? ⟨N,6,none⟩=some (.slice AR nR kR):=(HBX.out.under H2.out).cell 6) | (go_at_call 100;(with_reducible refine (HLR.out _ (HB.out.trans (H2.out.mono HN.out))).mono ?_);rintro e w3 ⟨rfl,hb3⟩;have H3:Hid (Below W0.heap.size W0 w3):=Lib.hid (H2.out.trans (hb3.mono H2.out.size));clear hb3;have d6:w3.cell? ⟨N,6,none⟩=some (.slice AR nR kR):=(HBX.out.under H3.out).cell 6;have d7:w3.cell? ⟨N,7,none⟩=some (.bool sd):=(HBX.out.under H3.out).cell 7;have d8:w3.cell? ⟨N,8,none⟩=some (.slice AS nS kS):=(HBX.out.under H3.out).cell 8) | (go_at_call 103;(with_reducible refine (HLS.out _ (HB.out.trans (H3.out.mono HN.out))).mono ?_);rintro e w4 ⟨rfl,hb4⟩;have H4:Hid (Below W0.heap.size W0 w4):=Lib.hid (H3.out.trans (hb4.mono H3.out.size));clear hb4;have d9:w4.cell? ⟨N,9,none⟩=some (.slice AY nY kY):=(HBX.out.under H4.out).cell 9) | (go_at_call 106;(with_reducible refine (HLY.out _ (HB.out.trans (H4.out.mono HN.out))).mono ?_);rintro e w5 ⟨rfl,hb5⟩;have H5:Hid (Below W0.heap.size W0 w5):=Lib.hid (H4.out.trans (hb5.mono H4.out.size));clear hb5;have d10:w5.cell? ⟨N,10,none⟩=some (.int .i64 sc):=(HBX.out.under H5.out).cell 10))
               go_ret
               exact ⟨ret_bool HQ.out.symm,HB.out.trans (H5.out.mono HN.out)⟩
             | true =>
               have HQ:Hid ((sc == 0)=r):=Lib.hid (by rw [HX.out];rw [Bool.eq_iff_iff];simp [hl1,hsx])
               go_wp2_with (first | (go_at_call 94;(with_reducible refine (HLC.out _ (HB.out.trans (H0.out.mono HN.out))).mono ?_);rintro e w1 ⟨rfl,hb1⟩;have H1:Hid (Below W0.heap.size W0 w1):=Lib.hid (H0.out.trans (hb1.mono H0.out.size));clear hb1;have d5:w1.cell? ⟨N,5,none⟩=some (.slice AE nE kE):=(HBX.out.under H1.out).cell 5) | (go_at_call 97;(with_reducible refine (HLE.out _ (HB.out.trans (H1.out.mono HN.out))).mono ?_);rintro e w2 ⟨rfl,hb2⟩;have H2:Hid (Below W0.heap.size W0 w2):=Lib.hid (H1.out.trans (hb2.mono H1.out.size));clear hb2;have d6:w2.cell? ⟨N,6,none⟩=some (.slice AR nR kR):=(HBX.out.under H2.out).cell 6) | (go_at_call 100;(with_reducible refine (HLR.out _ (HB.out.trans (H2.out.mono HN.out))).mono ?_);rintro e w3 ⟨rfl,hb3⟩;have H3:Hid (Below W0.heap.size W0 w3):=Lib.hid (H2.out.trans (hb3.mono H2.out.size));clear hb3;have d6:w3.cell? ⟨N,6,none⟩=some (.slice AR nR kR):=(HBX.out.under H3.out).cell 6;have d7:w3.cell? ⟨N,7,none⟩=some (.bool sd):=(HBX.out.under H3.out).cell 7;have d8:w3.cell? ⟨N,8,none⟩=some (.slice AS nS kS):=(HBX.out.under H3.out).cell 8) | (go_at_call 103;(with_reducible refine (HLS.out _ (HB.out.trans (H3.out.mono HN.out))).mono ?_);rintro e w4 ⟨rfl,hb4⟩;have H4:Hid (Below W0.heap.size W0 w4):=Lib.hid (H3.out.trans (hb4.mono H3.out.size));clear hb4;have d9:w4.cell? ⟨N,9,none⟩=some (.slice AY nY kY):=(HBX.out.under H4.out).cell 9) | (go_at_call 106;(with_reducible refine (HLY.out _ (HB.out.trans (H4.out.mono HN.out))).mono ?_);rintro e w5 ⟨rfl,hb5⟩;have H5:Hid (Below W0.heap.size W0 w5):=Lib.hid (H4.out.trans (hb5.mono H4.out.size));clear hb5;have d10:w5.cell? ⟨N,10,none⟩=some (.int .i64 sc):=(HBX.out.under H5.out).cell 10))
               go_ret
               exact ⟨ret_bool HQ.out,HB.out.trans (H5.out.mono HN.out)⟩
         · have hlr0:(nR:Int)≤0:=by omega
           cases sd with
           | true =>
             have HQ:Hid (r=false):=Lib.hid (by rw [HX.out];simp [hlr])
             go_wp2_with (first | (go_at_call 94;(with_reducible refine (HLC.out _ (HB.out.trans (H0.out.mono HN.out))).mono ?_);rintro e w1 ⟨rfl,hb1⟩;have H1:Hid (Below W0.heap.size W0 w1):=Lib.hid (H0.out.trans (hb1.mono H0.out.size));clear hb1;have d5:w1.cell? ⟨N,5,none⟩=some (.slice AE nE kE):=(HBX.out.under H1.out).cell 5) | (go_at_call 97;(with_reducible refine (HLE.out _ (HB.out.trans (H1.out.mono HN.out))).mono ?_);rintro e w2 ⟨rfl,hb2⟩;have H2:Hid (Below W0.heap.size W0 w2):=Lib.hid (H1.out.trans (hb2.mono H1.out.size));clear hb2;have d6:w2.cell? ⟨N,6,none⟩=some (.slice AR nR kR):=(HBX.out.under H2.out).cell 6) | (go_at_call 100;(with_reducible refine (HLR.out _ (HB.out.trans (H2.out.mono HN.out))).mono ?_);rintro e w3 ⟨rfl,hb3⟩;have H3:Hid (Below W0.heap.size W0 w3):=Lib.hid (H2.out.trans (hb3.mono H2.out.size));clear hb3;have d6:w3.cell? ⟨N,6,none⟩=some (.slice AR nR kR):=(HBX.out.under H3.out).cell 6;have d7:w3.cell? ⟨N,7,none⟩=some (.bool true):=(HBX.out.under H3.out).cell 7;have d8:w3.cell? ⟨N,8,none⟩=some (.slice AS nS kS):=(HBX.out.under H3.out).cell 8))
             go_ret
             exact ⟨ret_bool HQ.out.symm,HB.out.trans (H3.out.mono HN.out)⟩
           | false =>
             have hsx:(1≤nR∨false=false):=.inr rfl
             cases tS with
             | false =>
               have HQ:Hid (r=false):=Lib.hid (by rw [HX.out];simp)
               go_wp2_with (first | (go_at_call 94;(with_reducible refine (HLC.out _ (HB.out.trans (H0.out.mono HN.out))).mono ?_);rintro e w1 ⟨rfl,hb1⟩;have H1:Hid (Below W0.heap.size W0 w1):=Lib.hid (H0.out.trans (hb1.mono H0.out.size));clear hb1;have d5:w1.cell? ⟨N,5,none⟩=some (.slice AE nE kE):=(HBX.out.under H1.out).cell 5) | (go_at_call 97;(with_reducible refine (HLE.out _ (HB.out.trans (H1.out.mono HN.out))).mono ?_);rintro e w2 ⟨rfl,hb2⟩;have H2:Hid (Below W0.heap.size W0 w2):=Lib.hid (H1.out.trans (hb2.mono H1.out.size));clear hb2;have d6:w2.cell? ⟨N,6,none⟩=some (.slice AR nR kR):=(HBX.out.under H2.out).cell 6) | (go_at_call 100;(with_reducible refine (HLR.out _ (HB.out.trans (H2.out.mono HN.out))).mono ?_);rintro e w3 ⟨rfl,hb3⟩;have H3:Hid (Below W0.heap.size W0 w3):=Lib.hid (H2.out.trans (hb3.mono H2.out.size));clear hb3;have d6:w3.cell? ⟨N,6,none⟩=some (.slice AR nR kR):=(HBX.out.under H3.out).cell 6;have d7:w3.cell? ⟨N,7,none⟩=some (.bool false):=(HBX.out.under H3.out).cell 7;have d8:w3.cell? ⟨N,8,none⟩=some (.slice AS nS kS):=(HBX.out.under H3.out).cell 8) | (go_at_call 103;(with_reducible refine (HLS.out _ (HB.out.trans (H3.out.mono HN.out))).mono ?_);rintro e w4 ⟨rfl,hb4⟩;have H4:Hid (Below W0.heap.size W0 w4):=Lib.hid (H3.out.trans (hb4.mono H3.out.size));clear hb4;have d9:w4.cell? ⟨N,9,none⟩=some (.slice AY nY kY):=(HBX.out.under H4.out).cell 9))
               go_ret
               exact ⟨ret_bool HQ.out.symm,HB.out.trans (H4.out.mono HN.out)⟩
             | true =>
               cases tY with
               | false =>
                 have HQ:Hid (r=false):=Lib.hid (by rw [HX.out];simp)
                 go_wp2_with (first | (go_at_call 94;(with_reducible refine (HLC.out _ (HB.out.trans (H0.out.mono HN.out))).mono ?_);rintro e w1 ⟨rfl,hb1⟩;have H1:Hid (Below W0.heap.size W0 w1):=Lib.hid (H0.out.trans (hb1.mono H0.out.size));clear hb1;have d5:w1.cell? ⟨N,5,none⟩=some (.slice AE nE kE):=(HBX.out.under H1.out).cell 5) | (go_at_call 97;(with_reducible refine (HLE.out _ (HB.out.trans (H1.out.mono HN.out))).mono ?_);rintro e w2 ⟨rfl,hb2⟩;have H2:Hid (Below W0.heap.size W0 w2):=Lib.hid (H1.out.trans (hb2.mono H1.out.size));clear hb2;have d6:w2.cell? ⟨N,6,none⟩=some (.slice AR nR kR):=(HBX.out.under H2.out).cell 6) | (go_at_call 100;(with_reducible refine (HLR.out _ (HB.out.trans (H2.out.mono HN.out))).mono ?_);rintro e w3 ⟨rfl,hb3⟩;have H3:Hid (Below W0.heap.size W0 w3):=Lib.hid (H2.out.trans (hb3.mono H2.out.size));clear hb3;have d6:w3.cell? ⟨N,6,none⟩=some (.slice AR nR kR):=(HBX.out.under H3.out).cell 6;have d7:w3.cell? ⟨N,7,none⟩=some (.bool false):=(HBX.out.under H3.out).cell 7;have d8:w3.cell? ⟨N,8,none⟩=some (.slice AS nS kS):=(HBX.out.under H3.out).cell 8) | (go_at_call 103;(with_reducible refine (HLS.out _ (HB.out.trans (H3.out.mono HN.out))).mono ?_);rintro e w4 ⟨rfl,hb4⟩;have H4:Hid (Below W0.heap.size W0 w4):=Lib.hid (H3.out.trans (hb4.mono H3.out.size));clear hb4;have d9:w4.cell? ⟨N,9,none⟩=some (.slice AY nY kY):=(HBX.out.under H4.out).cell 9) | (go_at_call 106;(with_reducible refine (HLY.out _ (HB.out.trans (H4.out.mono HN.out))).mono ?_);rintro e w5 ⟨rfl,hb5⟩;have H5:Hid (Below W0.heap.size W0 w5):=Lib.hid (H4.out.trans (hb5.mono H4.out.size));clear hb5;have d10:w5.cell? ⟨N,10,none⟩=some (.int .i64 sc):=(HBX.out.under H5.out).cell 10))
                 go_ret
                 exact ⟨ret_bool HQ.out.symm,HB.out.trans (H5.out.mono HN.out)⟩
               | true =>
                 have HQ:Hid ((sc == 0)=r):=Lib.hid (by rw [HX.out];rw [Bool.eq_iff_iff];simp [hl1,hsx])
                 go_wp2_with (first | (go_at_call 94;(with_reducible refine (HLC.out _ (HB.out.trans (H0.out.mono HN.out))).mono ?_);rintro e w1 ⟨rfl,hb1⟩;have H1:Hid (Below W0.heap.size W0 w1):=Lib.hid (H0.out.trans (hb1.mono H0.out.size));clear hb1;have d5:w1.cell? ⟨N,5,none⟩=some (.slice AE nE kE):=(HBX.out.under H1.out).cell 5) | (go_at_call 97;(with_reducible refine (HLE.out _ (HB.out.trans (H1.out.mono HN.out))).mono ?_);rintro e w2 ⟨rfl,hb2⟩;have H2:Hid (Below W0.heap.size W0 w2):=Lib.hid (H1.out.trans (hb2.mono H1.out.size));clear hb2;have d6:w2.cell? ⟨N,6,none⟩=some (.slice AR nR kR):=(HBX.out.under H2.out).cell 6) | (go_at_call 100;(with_reducible refine (HLR.out _ (HB.out.trans (H2.out.mono HN.out))).mono ?_);rintro e w3 ⟨rfl,hb3⟩;have H3:Hid (Below W0.heap.size W0 w3):=Lib.hid (H2.out.trans (hb3.mono H2.out.size));clear hb3;have d6:w3.cell? ⟨N,6,none⟩=some (.slice AR nR kR):=(HBX.out.under H3.out).cell 6;have d7:w3.cell? ⟨N,7,none⟩=some (.bool false):=(HBX.out.under H3.out).cell 7;have d8:w3.cell? ⟨N,8,none⟩=some (.slice AS nS kS):=(HBX.out.under H3.out).cell 8) | (go_at_call 103;(with_reducible refine (HLS.out _ (HB.out.trans (H3.out.mono HN.out))).mono ?_);rintro e w4 ⟨rfl,hb4⟩;have H4:Hid (Below W0.heap.size W0 w4):=Lib.hid (H3.out.trans (hb4.mono H3.out.size));clear hb4;have d9:w4.cell? ⟨N,9,none⟩=some (.slice AY nY kY):=(HBX.out.under H4.out).cell 9) | (go_at_call 106;(with_reducible refine (HLY.out _ (HB.out.trans (H4.out.mono HN.out))).mono ?_);rintro e w5 ⟨rfl,hb5⟩;have H5:Hid (Below W0.heap.size W0 w5):=Lib.hid (H4.out.trans (hb5.mono H4.out.size));clear hb5;have d10:w5.cell? ⟨N,10,none⟩=some (.int .i64 sc):=(HBX.out.under H5.out).cell 10))
                 go_ret
                 exact ⟨ret_bool HQ.out,HB.out.trans (H5.out.mono HN.out)⟩
 · have hl10:(nC:Int)≤0:=by omega
   have HQ:Hid (r=false):=Lib.hid (by rw [HX.out];simp [hl1])
   go_wp2
   go_ret
   exact ⟨ret_bool HQ.out.symm,HB.out⟩
set_option maxHeartbeats 3200000 in
set_option maxRecDepth 100000 in
theorem goodChannel_any (M:Array Value) (m:MediaS) (vC vE vR vS vY:Value) (w:World) (h:MediaV w w.heap.size M m vC vE vR vS vY) (hz:SizM m) :
 Calls Tryz.prog 47 #[.agg M] w fun e w'=>e=.returned (.bool (goodChannel m))∧Below w.heap.size w w':=by
 obtain ⟨AC,kC,AE,kE,AR,kR,AS,kS,AY,kY,rfl,rfl,rfl,rfl,rfl⟩:=h.forms
 obtain ⟨hform,hvC,hvE,hvR,hvS,hvY⟩:=h
 subst hform
 obtain ⟨nC,hnC⟩:∃n,m.codecs.length=n:=⟨_,rfl⟩
 obtain ⟨nE,hnE⟩:∃n,m.exts.length=n:=⟨_,rfl⟩
 obtain ⟨nR,hnR⟩:∃n,m.rids.length=n:=⟨_,rfl⟩
 obtain ⟨nS,hnS⟩:∃n,m.sources.length=n:=⟨_,rfl⟩
 obtain ⟨nY,hnY⟩:∃n,m.crypto.length=n:=⟨_,rfl⟩
 obtain ⟨hc1,hc2,hc3,hc4,hc5⟩:=hz.counts
 rw [hnC] at hvC hc1
 rw [hnE] at hvE hc2
 rw [hnR] at hvR hc3
 rw [hnS] at hvS hc4
 rw [hnY] at hvY hc5
 rw [hnC,hnE,hnR,hnS,hnY]
 have hb0:Below w.heap.size w (w.alloc (.cells #[.int .i64 m.kind,.int .i64 m.port,.string m.mid,.int .i64 m.dir,.slice AC nC kC,.slice AE nE kE,.slice AR nR kR,.bool m.sending,.slice AS nS kS,.slice AY nY kY,.int .i64 m.sctp] 28)):=(Below.refl _ w).alloc (Nat.le_refl _) _
 have hw:=Whole.new w 28 #[.int .i64 m.kind,.int .i64 m.port,.string m.mid,.int .i64 m.dir,.slice AC nC kC,.slice AE nE kE,.slice AR nR kR,.bool m.sending,.slice AS nS kS,.slice AY nY kY,.int .i64 m.sctp]
 have hx:goodChannel m=(decide (nC+nE+nR+nS+nY=0) && (!m.sending && (decide (1≤m.sctp) && decide (m.sctp≤65535)))):=by
  unfold goodChannel
  rw [hnC,hnE,hnR,hnS,hnY]
  simp [Bool.and_assoc]
 have HX:=Lib.hid hx
 have HB:=Lib.hid hb0
 have HW:=Lib.hid (within_any m.sctp 1 65535 (w.alloc (.cells #[.int .i64 m.kind,.int .i64 m.port,.string m.mid,.int .i64 m.dir,.slice AC nC kC,.slice AE nE kE,.slice AR nR kR,.bool m.sending,.slice AS nS kS,.slice AY nY kY,.int .i64 m.sctp] 28)))
 have c4:=hw.cell 4
 have c5:=hw.cell 5
 have c6:=hw.cell 6
 have c7:=hw.cell 7
 have c8:=hw.cell 8
 have c9:=hw.cell 9
 have c10:=hw.cell 10
 simp only [List.getElem?_toArray,List.getElem?_cons_zero,List.getElem?_cons_succ] at c4 c5 c6 c7 c8 c9 c10
 generalize goodChannel m=r at *
 generalize (decide (1≤m.sctp) && decide (m.sctp≤65535))=t at *
 generalize m.sctp=sc at *
 generalize m.sending=sd at *
 clear hx hvC hvE hvR hvS hvY hz hnC hnE hnR hnS hnY hb0 hw
 have w1:IntKind.i64.wrap ((nC:Int)+(nE:Int))=(nC:Int)+(nE:Int):=IntWalk.i64_in _ (by omega)
 have w2:IntKind.i64.wrap ((nC:Int)+(nE:Int)+(nR:Int))=(nC:Int)+(nE:Int)+(nR:Int):=IntWalk.i64_in _ (by omega)
 have w3:IntKind.i64.wrap ((nC:Int)+(nE:Int)+(nR:Int)+(nS:Int))=(nC:Int)+(nE:Int)+(nR:Int)+(nS:Int):=IntWalk.i64_in _ (by omega)
 have w4:IntKind.i64.wrap ((nC:Int)+(nE:Int)+(nR:Int)+(nS:Int)+(nY:Int))=(nC:Int)+(nE:Int)+(nR:Int)+(nS:Int)+(nY:Int):=IntWalk.i64_in _ (by omega)
 obtain ⟨N,hN⟩:∃N,w.heap.size=N:=⟨_,rfl⟩
 rw [hN] at HB c4 c5 c6 c7 c8 c9 c10 ⊢
 by_cases hs:nC+nE+nR+nS+nY=0
 · have hz:((nC:Int)+(nE:Int)+(nR:Int)+(nS:Int)+(nY:Int) == 0)=true:=by rw [beq_iff_eq];omega
   cases sd with
   | false =>
     have HQ:Hid (t=r):=Lib.hid (by rw [HX.out,decide_eq_true hs];simp)
     clear hs
     go_enter Tryz.func47,Tryz.ntmps47
     go_wp2_with (go_at_call 45;(with_reducible refine HW.out.mono ?_);rintro e w' ⟨rfl,rfl⟩)
     go_ret
     exact ⟨ret_bool HQ.out,HB.out⟩
   | true =>
     have HQ:Hid (r=false):=Lib.hid (by rw [HX.out];simp)
     clear hs
     go_enter Tryz.func47,Tryz.ntmps47
     go_wp2
     go_ret
     exact ⟨ret_bool HQ.out.symm,HB.out⟩
 · have hz:((nC:Int)+(nE:Int)+(nR:Int)+(nS:Int)+(nY:Int) == 0)=false:=by rw [beq_eq_false_iff_ne];omega
   have HQ:Hid (r=false):=Lib.hid (by rw [HX.out,decide_eq_false hs];rfl)
   clear hs
   go_enter Tryz.func47,Tryz.ntmps47
   go_wp2
   go_ret
   exact ⟨ret_bool HQ.out.symm,HB.out⟩
set_option maxHeartbeats 6400000 in
set_option maxRecDepth 100000 in
theorem good_any (M:Array Value) (m:MediaS) (vC vE vR vS vY:Value) (w:World) (h:MediaV w w.heap.size M m vC vE vR vS vY) (hz:SizM m) :
 Calls Tryz.prog 19 #[.agg M] w fun e w'=>e=.returned (.bool (goodM m))∧Below w.heap.size w w':=by
 have hb0:Below w.heap.size w (w.alloc (.cells M 28)):=(Below.refl _ w).alloc (Nat.le_refl _) _
 have hw:=Whole.new w 28 M
 have h0:=h.under hb0
 have hform:=h.form
 have c0:(w.alloc (.cells M 28)).cell? ⟨w.heap.size,0,none⟩=some (.int .i64 m.kind):=(hw.cell 0).trans (by rw [hform];rfl)
 have c1:(w.alloc (.cells M 28)).cell? ⟨w.heap.size,1,none⟩=some (.int .i64 m.port):=(hw.cell 1).trans (by rw [hform];rfl)
 have c2:(w.alloc (.cells M 28)).cell? ⟨w.heap.size,2,none⟩=some (.string m.mid):=(hw.cell 2).trans (by rw [hform];rfl)
 have c3:(w.alloc (.cells M 28)).cell? ⟨w.heap.size,3,none⟩=some (.int .i64 m.dir):=(hw.cell 3).trans (by rw [hform];rfl)
 have HS:=Lib.hid (goodStreams_any M m vC vE vR vS vY _ h0 hz)
 have HCH:=Lib.hid (goodChannel_any M m vC vE vR vS vY _ h0 hz)
 have HWO:Hid (Calls Tryz.prog 44 #[.string m.mid,.int .i64 16] (w.alloc (.cells M 28)) fun e w'=>e=.returned (.bool (wordP 1 16 (tx m.mid)))∧(w.alloc (.cells M 28))=w'):=Lib.hid (wordOf_any m.mid 16 _ (by have:=hz.mid;unfold maxLen;omega) (by decide))
 have HWI:=Lib.hid (within_any m.dir 0 3 (w.alloc (.cells M 28)))
 have hx:goodM m=(((decide (m.port=0) || decide (m.port=9)) && (wordP 1 16 (tx m.mid) && (decide (0≤m.dir) && decide (m.dir≤3)))) && ((decide (m.kind=1) || decide (m.kind=2)) && goodStreams m || decide (m.kind=3) && goodChannel m)):=by
  unfold goodM goodHead
  simp only [Bool.and_assoc]
 have HX:=Lib.hid hx
 have HB:=Lib.hid (And.intro hb0 (And.intro hw h.size))
 generalize goodM m=r at *
 generalize goodStreams m=gs at *
 generalize goodChannel m=gc at *
 generalize (decide (0≤m.dir) && decide (m.dir≤3))=td at *
 generalize wordP 1 16 (tx m.mid)=tw at *
 generalize m.port=p at *
 generalize m.kind=k at *
 generalize m.dir=d at *
 generalize m.mid=md at *
 clear h h0 hz hx hb0 hw hform
 obtain ⟨N,hN⟩:∃N,w.heap.size=N:=⟨_,rfl⟩
 have HSZ:Hid (N≤(w.alloc (.cells M 28)).heap.size):=Lib.hid (by rw [←hN];exact HB.out.1.size)
 rw [hN] at c0 c1 c2 c3 HB ⊢
 have hgen:∃W0,w.alloc (.cells M 28)=W0:=⟨_,rfl⟩
 go_enter Tryz.func19,Tryz.ntmps19
 go_upto_region 1 with fail
 generalize w.alloc (.cells M 28)=W0 at *
 clear hN hgen
 by_cases hp0:p=0
 · subst hp0
   cases tw with
   | false =>
     have HQ:Hid (r=false):=Lib.hid (by rw [HX.out];simp)
     go_wp2_with (first | (go_at_call 44;(with_reducible refine HWO.out.mono ?_);rintro e w' ⟨rfl,rfl⟩))
     go_ret
     exact ⟨ret_bool HQ.out.symm,HB.out.1⟩
   | true =>
     cases td with
     | false =>
       have HQ:Hid (r=false):=Lib.hid (by rw [HX.out];simp)
       go_wp2_with (first | (go_at_call 44;(with_reducible refine HWO.out.mono ?_);rintro e w' ⟨rfl,rfl⟩) | (go_at_call 45;(with_reducible refine HWI.out.mono ?_);rintro e w' ⟨rfl,rfl⟩))
       go_ret
       exact ⟨ret_bool HQ.out.symm,HB.out.1⟩
     | true =>
       by_cases hk1:k=1
       · subst hk1
         have HQ:Hid (gs=r):=Lib.hid (by rw [HX.out];simp)
         go_wp2_with (first | (go_at_call 44;(with_reducible refine HWO.out.mono ?_);rintro e w' ⟨rfl,rfl⟩) | (go_at_call 45;(with_reducible refine HWI.out.mono ?_);rintro e w' ⟨rfl,rfl⟩) | ((with_reducible refine wpList_load_all ?_ 28 (.tmp 1) ?_ HB.out.2.1 ?_ Tryz.sizeMedia HB.out.2.2 Tryz.underlying28 ?_ ?_);(with_reducible rfl);(with_reducible rfl);rfl;rfl) | (go_at_call 46;(with_reducible refine HS.out.mono ?_);rintro e w2 ⟨rfl,hb2⟩))
         go_ret
         exact ⟨ret_bool HQ.out,HB.out.1.trans (hb2.mono HSZ.out)⟩
       · by_cases hk2:k=2
         · subst hk2
           have HQ:Hid (gs=r):=Lib.hid (by rw [HX.out];simp)
           go_wp2_with (first | (go_at_call 44;(with_reducible refine HWO.out.mono ?_);rintro e w' ⟨rfl,rfl⟩) | (go_at_call 45;(with_reducible refine HWI.out.mono ?_);rintro e w' ⟨rfl,rfl⟩) | ((with_reducible refine wpList_load_all ?_ 28 (.tmp 1) ?_ HB.out.2.1 ?_ Tryz.sizeMedia HB.out.2.2 Tryz.underlying28 ?_ ?_);(with_reducible rfl);(with_reducible rfl);rfl;rfl) | (go_at_call 46;(with_reducible refine HS.out.mono ?_);rintro e w2 ⟨rfl,hb2⟩))
           go_ret
           exact ⟨ret_bool HQ.out,HB.out.1.trans (hb2.mono HSZ.out)⟩
         · by_cases hk3:k=3
           · subst hk3
             have HQ:Hid (gc=r):=Lib.hid (by rw [HX.out];simp)
             go_wp2_with (first | (go_at_call 44;(with_reducible refine HWO.out.mono ?_);rintro e w' ⟨rfl,rfl⟩) | (go_at_call 45;(with_reducible refine HWI.out.mono ?_);rintro e w' ⟨rfl,rfl⟩) | ((with_reducible refine wpList_load_all ?_ 28 (.tmp 1) ?_ HB.out.2.1 ?_ Tryz.sizeMedia HB.out.2.2 Tryz.underlying28 ?_ ?_);(with_reducible rfl);(with_reducible rfl);rfl;rfl) | (go_at_call 47;(with_reducible refine HCH.out.mono ?_);rintro e w2 ⟨rfl,hb2⟩))
             go_ret
             exact ⟨ret_bool HQ.out,HB.out.1.trans (hb2.mono HSZ.out)⟩
           · have q1:(k == 1)=false:=by simpa using hk1
             have q2:(k == 2)=false:=by simpa using hk2
             have q3:(k == 3)=false:=by simpa using hk3
             have HQ:Hid (r=false):=Lib.hid (by rw [HX.out];simp [hk1,hk2,hk3])
             go_wp2_with (first | (go_at_call 44;(with_reducible refine HWO.out.mono ?_);rintro e w' ⟨rfl,rfl⟩) | (go_at_call 45;(with_reducible refine HWI.out.mono ?_);rintro e w' ⟨rfl,rfl⟩))
             go_ret
             exact ⟨ret_bool HQ.out.symm,HB.out.1⟩
 · have q0:(p == 0)=false:=by simpa using hp0
   by_cases hp9:p=9
   · subst hp9
     cases tw with
     | false =>
       have HQ:Hid (r=false):=Lib.hid (by rw [HX.out];simp)
       go_wp2_with (first | (go_at_call 44;(with_reducible refine HWO.out.mono ?_);rintro e w' ⟨rfl,rfl⟩))
       go_ret
       exact ⟨ret_bool HQ.out.symm,HB.out.1⟩
     | true =>
       cases td with
       | false =>
         have HQ:Hid (r=false):=Lib.hid (by rw [HX.out];simp)
         go_wp2_with (first | (go_at_call 44;(with_reducible refine HWO.out.mono ?_);rintro e w' ⟨rfl,rfl⟩) | (go_at_call 45;(with_reducible refine HWI.out.mono ?_);rintro e w' ⟨rfl,rfl⟩))
         go_ret
         exact ⟨ret_bool HQ.out.symm,HB.out.1⟩
       | true =>
         by_cases hk1:k=1
         · subst hk1
           have HQ:Hid (gs=r):=Lib.hid (by rw [HX.out];simp)
           go_wp2_with (first | (go_at_call 44;(with_reducible refine HWO.out.mono ?_);rintro e w' ⟨rfl,rfl⟩) | (go_at_call 45;(with_reducible refine HWI.out.mono ?_);rintro e w' ⟨rfl,rfl⟩) | ((with_reducible refine wpList_load_all ?_ 28 (.tmp 1) ?_ HB.out.2.1 ?_ Tryz.sizeMedia HB.out.2.2 Tryz.underlying28 ?_ ?_);(with_reducible rfl);(with_reducible rfl);rfl;rfl) | (go_at_call 46;(with_reducible refine HS.out.mono ?_);rintro e w2 ⟨rfl,hb2⟩))
           go_ret
           exact ⟨ret_bool HQ.out,HB.out.1.trans (hb2.mono HSZ.out)⟩
         · by_cases hk2:k=2
           · subst hk2
             have HQ:Hid (gs=r):=Lib.hid (by rw [HX.out];simp)
             go_wp2_with (first | (go_at_call 44;(with_reducible refine HWO.out.mono ?_);rintro e w' ⟨rfl,rfl⟩) | (go_at_call 45;(with_reducible refine HWI.out.mono ?_);rintro e w' ⟨rfl,rfl⟩) | ((with_reducible refine wpList_load_all ?_ 28 (.tmp 1) ?_ HB.out.2.1 ?_ Tryz.sizeMedia HB.out.2.2 Tryz.underlying28 ?_ ?_);(with_reducible rfl);(with_reducible rfl);rfl;rfl) | (go_at_call 46;(with_reducible refine HS.out.mono ?_);rintro e w2 ⟨rfl,hb2⟩))
             go_ret
             exact ⟨ret_bool HQ.out,HB.out.1.trans (hb2.mono HSZ.out)⟩
           · by_cases hk3:k=3
             · subst hk3
               have HQ:Hid (gc=r):=Lib.hid (by rw [HX.out];simp)
               go_wp2_with (first | (go_at_call 44;(with_reducible refine HWO.out.mono ?_);rintro e w' ⟨rfl,rfl⟩) | (go_at_call 45;(with_reducible refine HWI.out.mono ?_);rintro e w' ⟨rfl,rfl⟩) | ((with_reducible refine wpList_load_all ?_ 28 (.tmp 1) ?_ HB.out.2.1 ?_ Tryz.sizeMedia HB.out.2.2 Tryz.underlying28 ?_ ?_);(with_reducible rfl);(with_reducible rfl);rfl;rfl) | (go_at_call 47;(with_reducible refine HCH.out.mono ?_);rintro e w2 ⟨rfl,hb2⟩))
               go_ret
               exact ⟨ret_bool HQ.out,HB.out.1.trans (hb2.mono HSZ.out)⟩
             · have q1:(k == 1)=false:=by simpa using hk1
               have q2:(k == 2)=false:=by simpa using hk2
               have q3:(k == 3)=false:=by simpa using hk3
               have HQ:Hid (r=false):=Lib.hid (by rw [HX.out];simp [hk1,hk2,hk3])
               go_wp2_with (first | (go_at_call 44;(with_reducible refine HWO.out.mono ?_);rintro e w' ⟨rfl,rfl⟩) | (go_at_call 45;(with_reducible refine HWI.out.mono ?_);rintro e w' ⟨rfl,rfl⟩))
               go_ret
               exact ⟨ret_bool HQ.out.symm,HB.out.1⟩
   · have q9:(p == 9)=false:=by simpa using hp9
     have HQ:Hid (r=false):=Lib.hid (by rw [HX.out];simp [hp0,hp9])
     go_wp2
     go_ret
     exact ⟨ret_bool HQ.out.symm,HB.out.1⟩
theorem str_eq {a b:ByteArray} (h:tx a=tx b):Ending.returned (.string a)=Ending.returned (.string b):=by rw [tx_inj h]
theorem typesT_snoc (L:List CodecS) (k:Nat) (hk:k<L.length):typesT (L.take (k+1))=typesT (L.take k)++32 :: decI (L.getD k default).type:=by
 unfold typesT
 rw [List.take_add_one,getD_of hk]
 simp
theorem dec_len:∀(k n:Nat),n<10 ^ (k+1)→(dec n).length≤k+1
 | 0,n,h=>by
   unfold dec
   rw [dif_pos (by omega)]
   simp
 | k+1,n,h=>by
   unfold dec
   split
   · simp
   · rw [List.length_append,List.length_singleton]
     have:=dec_len k (n / 10) (by rw [Nat.pow_succ] at h;omega)
     omega
theorem decI_len {n:Int} (h:n≤9223372036854775807):(bs (decI n)).size≤19:=by
 rw [bs_size]
 exact dec_len 18 _ (by rw [show (10:Nat) ^ (18+1)=10000000000000000000 by decide];omega)
theorem kindW_len (k:Int):(bs (kindW k)).size≤11:=by
 rw [bs_size]
 unfold kindW
 split
 · decide
 · split <;> decide
set_option maxHeartbeats 6400000 in
set_option maxRecDepth 100000 in
theorem line_any (M:Array Value) (m:MediaS) (vC vE vR vS vY:Value) (w:World) (h:MediaV w w.heap.size M m vC vE vR vS vY) (hz:SizM m) (hE:Env w) (hk:1≤m.kind∧m.kind≤3) (hp:0≤m.port∧m.port≤9) (ht:∀c∈m.codecs,0≤c.type∧c.type≤127) :
 Calls Tryz.prog 21 #[.agg M] w fun e w'=>e=.returned (.string (bs (lineM m)))∧Below w.heap.size w w':=by
 obtain ⟨AC,kC,AE,kE,AR,kR,AS,kS,AY,kY,rfl,rfl,rfl,rfl,rfl⟩:=h.forms
 obtain ⟨hform,hvC,hvE,hvR,hvS,hvY⟩:=h
 subst hform
 obtain ⟨nC,hnC⟩:∃n,m.codecs.length=n:=⟨_,rfl⟩
 obtain ⟨nE,hnE⟩:∃n,m.exts.length=n:=⟨_,rfl⟩
 obtain ⟨nR,hnR⟩:∃n,m.rids.length=n:=⟨_,rfl⟩
 obtain ⟨nS,hnS⟩:∃n,m.sources.length=n:=⟨_,rfl⟩
 obtain ⟨nY,hnY⟩:∃n,m.crypto.length=n:=⟨_,rfl⟩
 obtain ⟨hc1,hc2,hc3,hc4,hc5⟩:=hz.counts
 rw [hnC] at hvC hc1
 rw [hnE] at hvE hc2
 rw [hnR] at hvR hc3
 rw [hnS] at hvS hc4
 rw [hnY] at hvY hc5
 rw [hnC,hnE,hnR,hnS,hnY]
 have hb0:Below w.heap.size w (w.alloc (.cells #[.int .i64 m.kind,.int .i64 m.port,.string m.mid,.int .i64 m.dir,.slice AC nC kC,.slice AE nE kE,.slice AR nR kR,.bool m.sending,.slice AS nS kS,.slice AY nY kY,.int .i64 m.sctp] 28)):=(Below.refl _ w).alloc (Nat.le_refl _) _
 have hw:=Whole.new w 28 #[.int .i64 m.kind,.int .i64 m.port,.string m.mid,.int .i64 m.dir,.slice AC nC kC,.slice AE nE kE,.slice AR nR kR,.bool m.sending,.slice AS nS kS,.slice AY nY kY,.int .i64 m.sctp]
 have HV:=Lib.hid (And.intro (hvC.below hb0) hnC)
 have HEN:=Lib.hid (hE.under hb0)
 have HB:=Lib.hid hb0
 have HBX:=Lib.hid hw
 have HT:=Lib.hid ht
 have c0:=hw.cell 0
 have c4:=hw.cell 4
 simp only [List.getElem?_toArray,List.getElem?_cons_zero,List.getElem?_cons_succ] at c0 c4
 obtain ⟨j,hj⟩:∃j:Nat,m.kind=j:=⟨m.kind.toNat,by omega⟩
 have HLN:Hid (lineM m=kindW (j:Int)++32 :: (decI m.port++32 :: (if j=3 then wChannel else wStreams++typesT m.codecs))):=Lib.hid (by
  unfold lineM
  rw [hj]
  congr 4
  by_cases h3:j=3
  · subst h3;rfl
  · rw [if_neg h3,if_neg (by omega)])
 simp only [hj] at hk c0 c4 HV HEN HB HBX ⊢
 rw [HLN.out]
 clear HLN hj
 generalize m.codecs=LC at *
 generalize m.port=p at *
 generalize m.mid=md at *
 generalize m.dir=d at *
 generalize m.sctp=sc at *
 generalize m.sending=sd at *
 clear hz hE ht hb0 hw hvC hvE hvR hvS hvY hnC hnE hnR hnS hnY
 obtain ⟨N,hN⟩:∃N,w.heap.size=N:=⟨_,rfl⟩
 rw [hN] at c0 c4 HB HBX HV ⊢
 go_enter Tryz.func21,Tryz.ntmps21
 go_upto_region 1 with fail
 generalize w.alloc (.cells #[.int .i64 (j:Int),.int .i64 p,.string md,.int .i64 d,.slice AC nC kC,.slice AE nE kE,.slice AR nR kR,.bool sd,.slice AS nS kS,.slice AY nY kY,.int .i64 sc] 28)=W0 at *
 have HN:Hid (N≤W0.heap.size):=Lib.hid (Nat.le_of_lt HBX.out.lt)
 clear hN
 have hj0:(0:Int)≤(j:Int):=by omega
 have hj1:(j:Int)<4:=by omega
 have HG0:Hid (∀W,Below W0.heap.size W0 W→W.cell? ⟨N,0,none⟩=some (.int .i64 (j:Int))):=Lib.hid fun W hW=>(HBX.out.under hW).cell 0
 have HG1:Hid (∀W,Below W0.heap.size W0 W→W.cell? ⟨N,1,none⟩=some (.int .i64 p)):=Lib.hid fun W hW=>(HBX.out.under hW).cell 1
 have HGK:Hid (∀W,Below W0.heap.size W0 W→W.cell? ⟨1,j,none⟩=some (.string (bs (kindW j)))):=Lib.hid fun W hW=>(HEN.out.under hW).kinds j (by omega) (by omega)
 have HIT:Hid (∀W,Below W0.heap.size W0 W→Calls Tryz.prog 48 #[.int .i64 p] W fun e w'=>e=.returned (.string (bs (decI p)))∧Below W.heap.size W w'):=Lib.hid fun W hW=>itoa_any p W (HEN.out.under hW) hp.1 (by omega)
 have HKB:Hid (∀W W',Below W0.heap.size W0 W→Below W.heap.size W W'→Below W0.heap.size W0 W'):=Lib.hid fun W W' h1 h2=>below_chain (Nat.le_refl _) h1 h2
 have HR0:Hid (Below W0.heap.size W0 W0.drew):=Lib.hid (Below.refl _ _).drew
 have HTT:Hid (∀a:ByteArray,tx a=kindW j++[32]++decI p++[32]→tx a=kindW j++32 :: (decI p++[32])):=Lib.hid (fun a e=>by rw [e];simp)
 have hkl:=kindW_len j
 have hpl:=decI_len (n:=p) (by omega)
 obtain ⟨kw,hkw⟩:∃a,bs (kindW j)=a:=⟨_,rfl⟩
 obtain ⟨dp,hdp⟩:∃a,bs (decI p)=a:=⟨_,rfl⟩
 rw [hkw] at hkl HGK
 rw [hdp] at hpl HIT
 have HKW:Hid (tx kw=tx (bs (kindW j))):=Lib.hid (by rw [hkw])
 have HDP:Hid (tx dp=tx (bs (decI p))):=Lib.hid (by rw [hdp])
 clear hkw hdp
 have hs1:¬9223372036854775807<kw.size+1:=by omega
 have hs2:¬9223372036854775807<kw.size+1+dp.size:=by omega
 have hs3:¬9223372036854775807<kw.size+1+dp.size+1:=by omega
 refine wp_region_held_drew (S:=fun W=>Below W0.heap.size W0 W) (by kernel_rfl) HR0.out (fun hHeld=> ?_)
 refine wpAnyH_take (i:=0) (v:=_) rfl (by as_aux_lemma=>kernel_rfl) (by as_aux_lemma=>kernel_rfl) (by as_aux_lemma=>kernel_rfl) (fun _ _ _ h=>h) (Or.inl ⟨by rfl,fun w h=>by have e0:=HG0.out w h;have e1:=HG1.out w h;have e2:=HGK.out w h;clear h;go_simp;(try with_reducible rfl)⟩) (by assumption) ?_
 simp only [Act.put,List.getElem_toArray,List.getElem_cons_succ,List.getElem_cons_zero,List.setIfInBounds_toArray,List.set_cons_succ,List.set_cons_zero]
 refine wpAnyH_take (i:=1) (v:=_) rfl (by as_aux_lemma=>kernel_rfl) (by as_aux_lemma=>kernel_rfl) (by as_aux_lemma=>kernel_rfl) (fun _ _ _ h=>h) (Or.inl ⟨by rfl,fun w h=>by have e0:=HG0.out w h;have e1:=HG1.out w h;have e2:=HGK.out w h;clear h;go_simp;(try with_reducible rfl)⟩) (by assumption) ?_
 simp only [Act.put,List.getElem_toArray,List.getElem_cons_succ,List.getElem_cons_zero,List.setIfInBounds_toArray,List.set_cons_succ,List.set_cons_zero]
 refine wpAnyH_take (i:=2) (v:=_) rfl (by as_aux_lemma=>kernel_rfl) (by as_aux_lemma=>kernel_rfl) (by as_aux_lemma=>kernel_rfl) (fun _ _ _ h=>h) (Or.inl ⟨by rfl,fun w h=>by have e0:=HG0.out w h;have e1:=HG1.out w h;have e2:=HGK.out w h;clear h;go_simp;(try with_reducible rfl)⟩) (by assumption) ?_
 simp only [Act.put,List.getElem_toArray,List.getElem_cons_succ,List.getElem_cons_zero,List.setIfInBounds_toArray,List.set_cons_succ,List.set_cons_zero]
 refine wpAnyH_take (i:=3) (v:=_) rfl (by as_aux_lemma=>kernel_rfl) (by as_aux_lemma=>kernel_rfl) (by as_aux_lemma=>kernel_rfl) (fun _ _ _ h=>h) (Or.inl ⟨by rfl,fun w h=>by have e0:=HG0.out w h;have e1:=HG1.out w h;have e2:=HGK.out w h;clear h;go_simp;(try with_reducible rfl)⟩) (by assumption) ?_
 simp only [Act.put,List.getElem_toArray,List.getElem_cons_succ,List.getElem_cons_zero,List.setIfInBounds_toArray,List.set_cons_succ,List.set_cons_zero]
 refine wpAnyH_take (i:=4) (v:=_) rfl (by as_aux_lemma=>kernel_rfl) (by as_aux_lemma=>kernel_rfl) (by as_aux_lemma=>kernel_rfl) (fun _ _ _ h=>h) (Or.inl ⟨by rfl,fun w h=>by have e0:=HG0.out w h;have e1:=HG1.out w h;have e2:=HGK.out w h;clear h;go_simp;(try with_reducible rfl)⟩) (by assumption) ?_
 simp only [Act.put,List.getElem_toArray,List.getElem_cons_succ,List.getElem_cons_zero,List.setIfInBounds_toArray,List.set_cons_succ,List.set_cons_zero]
 refine wpAnyH_take (i:=5) (v:=_) rfl (by as_aux_lemma=>kernel_rfl) (by as_aux_lemma=>kernel_rfl) (by as_aux_lemma=>kernel_rfl) (fun _ _ _ h=>h) (Or.inl ⟨by rfl,fun w h=>by have e0:=HG0.out w h;have e1:=HG1.out w h;have e2:=HGK.out w h;clear h;go_simp;(try with_reducible rfl)⟩) (by assumption) ?_
 simp only [Act.put,List.getElem_toArray,List.getElem_cons_succ,List.getElem_cons_zero,List.setIfInBounds_toArray,List.set_cons_succ,List.set_cons_zero]
 refine wpAnyH_take (i:=6) (v:=_) rfl (by as_aux_lemma=>kernel_rfl) (by as_aux_lemma=>kernel_rfl) (by as_aux_lemma=>kernel_rfl) (fun _ _ _ h=>h) (Or.inl ⟨by rfl,fun w h=>by have e0:=HG0.out w h;have e1:=HG1.out w h;have e2:=HGK.out w h;clear h;go_simp;(try with_reducible rfl)⟩) (by assumption) ?_
 simp only [Act.put,List.getElem_toArray,List.getElem_cons_succ,List.getElem_cons_zero,List.setIfInBounds_toArray,List.set_cons_succ,List.set_cons_zero]
 refine wpAnyH_ready (rs:=[7]) (by as_aux_lemma=>kernel_rfl) (by simp) ?_
 refine AllReadyH.cons (i:=7) rfl (fun K hK=> ?_) AllReadyH.nil
 go_simp
 refine (HIT.out _ hHeld).mono ?_
 rintro e w4 ⟨rfl,hb4⟩
 refine hK.out _ _ (HKB.out _ _ hHeld hb4) (fun hHeld4=> ?_)
 clear hK K hHeld
 have hHeld:=hHeld4
 clear hHeld4
 refine wpAnyH_take (i:=8) (v:=_) rfl (by as_aux_lemma=>kernel_rfl) (by as_aux_lemma=>kernel_rfl) (by as_aux_lemma=>kernel_rfl) (fun _ _ _ h=>h) (Or.inl ⟨by rfl,fun w h=>by have e0:=HG0.out w h;have e1:=HG1.out w h;have e2:=HGK.out w h;clear h;go_simp;(try with_reducible rfl)⟩) (by assumption) ?_
 simp only [Act.put,List.getElem_toArray,List.getElem_cons_succ,List.getElem_cons_zero,List.setIfInBounds_toArray,List.set_cons_succ,List.set_cons_zero]
 refine wpAnyH_take (i:=9) (v:=_) rfl (by as_aux_lemma=>kernel_rfl) (by as_aux_lemma=>kernel_rfl) (by as_aux_lemma=>kernel_rfl) (fun _ _ _ h=>h) (Or.inl ⟨by rfl,fun w h=>by have e0:=HG0.out w h;have e1:=HG1.out w h;have e2:=HGK.out w h;clear h;go_simp;(try with_reducible rfl)⟩) (by assumption) ?_
 simp only [Act.put,List.getElem_toArray,List.getElem_cons_succ,List.getElem_cons_zero,List.setIfInBounds_toArray,List.set_cons_succ,List.set_cons_zero]
 refine wpAnyH_take (i:=10) (v:=_) rfl (by as_aux_lemma=>kernel_rfl) (by as_aux_lemma=>kernel_rfl) (by as_aux_lemma=>kernel_rfl) (fun _ _ _ h=>h) (Or.inl ⟨by rfl,fun w h=>by have e0:=HG0.out w h;have e1:=HG1.out w h;have e2:=HGK.out w h;clear h;go_simp;(try with_reducible rfl)⟩) (by assumption) ?_
 simp only [Act.put,List.getElem_toArray,List.getElem_cons_succ,List.getElem_cons_zero,List.setIfInBounds_toArray,List.set_cons_succ,List.set_cons_zero]
 refine wpAnyH_done (by as_aux_lemma=>kernel_rfl) ?_ _
 have HH:=Lib.hid hHeld
 clear hHeld HG1 HGK HIT
 have HS0:Hid (tx (kw++⟨#[32]⟩++dp++⟨#[32]⟩)=kindW j++32 :: (decI p++[32])):=Lib.hid (HTT.out _ (by rw [tx_append,tx_append,tx_append,HKW.out,HDP.out,tx_bs,tx_bs];rfl))
 have hs0:(kw++⟨#[32]⟩++dp++⟨#[32]⟩:ByteArray).size≤40:=by
  rw [←tx_length,HS0.out,List.length_append,List.length_cons,List.length_append]
  have h1:=HKW.out
  have h2:=HDP.out
  have e1:(kindW j).length=kw.size:=by rw [←tx_length,h1,tx_bs]
  have e2:(decI p).length=dp.size:=by rw [←tx_length,h2,tx_bs]
  rw [e1,e2]
  simp
  omega
 generalize (kw++⟨#[32]⟩++dp++⟨#[32]⟩:ByteArray)=s0 at *
 generalize w4=w5 at *
 have c0':w5.cell? ⟨N,0,none⟩=some (.int .i64 (j:Int)):=(HBX.out.under HH.out).cell 0
 by_cases h3:j=3
 · subst h3
   have hs4:¬9223372036854775807<s0.size+27:=by omega
   go_wp2
   go_ret
   refine ⟨str_eq ?_,HB.out.trans (HH.out.mono HN.out)⟩
   rw [tx_append,HS0.out,tx_bs]
   simp [tx]
 · have h3':((j:Int) == 3)=false:=by rw [beq_eq_false_iff_ne];omega
   have hs4:¬9223372036854775807<s0.size+9:=by omega
   have c4':w5.cell? ⟨N,4,none⟩=some (.slice AC nC kC):=(HBX.out.under HH.out).cell 4
   have HLC:Hid (LC.length=nC):=Lib.hid HV.out.2
   go_wp2
   go_loopw [26,3] (fun s26 s3 wr=>∃(k:Nat) (acc:ByteArray),k≤nC∧s26=.int .i64 k∧s3=.string acc∧(tx acc=tx s0++(wStreams++typesT (LC.take k))∧acc.size≤60+20 * k∧Below W0.heap.size W0 wr)) (fun s26 _ _=>nC - (intOf s26).toNat)
   case atStart=>exact ⟨0,_,Nat.zero_le _,rfl,rfl,by rw [tx_append];simp [tx,typesT],by rw [←tx_length,tx_append,List.length_append,tx_length];simp [tx];omega,HH.out⟩
   case round =>
    obtain ⟨k,acc,hk',rfl,rfl,hst⟩:=hrel
    have HS:=Lib.hid hst
    clear hst
    have hacc:acc.size≤60+20 * k:=HS.out.2.1
    by_cases hlt:k<nC
    · have hlt':k<LC.length:=by rw [HLC.out];exact hlt
      obtain ⟨ad,c',vf,e1,had,d0,d1,d2,d3,d4,d5,cf⟩:=(HV.out.1.below (HS.out.2.2.mono HN.out)).at_ hlt'
      injection e1 with e1 e1n e1c
      clear e1n e1c
      subst e1
      obtain ⟨Af,kf,hvf,-⟩:=Rows.form cf
      obtain ⟨lf,hlf⟩:∃lf,(LC.getD k default).feedback.length=lf:=⟨_,rfl⟩
      rw [hlf] at hvf
      subst hvf
      clear hlf cf
      have HTY:=HT.out _ (getD_mem hlt')
      have HTS:Hid (typesT (LC.take (k+1))=typesT (LC.take k)++32 :: decI (LC.getD k default).type):=Lib.hid (typesT_snoc LC k hlt')
      obtain ⟨x,hx⟩:∃x,LC.getD k default=x:=⟨_,rfl⟩
      rw [hx] at d0 d1 d2 d3 d4 HTY HTS
      have hk0:(0:Int)≤(k:Int):=by omega
      have hk1:(k:Int)<(nC:Int):=by omega
      have hN0:W0.heap.size≤wr.heap.size:=HS.out.2.2.size
      have HNEW:Hid (Whole (wr.alloc (.cells #[.int .i64 0,.string ⟨#[]⟩,.int .i64 0,.int .i64 0,.string ⟨#[]⟩,.slice none 0 0] 31)) wr.heap.size 31 #[.int .i64 0,.string ⟨#[]⟩,.int .i64 0,.int .i64 0,.string ⟨#[]⟩,.slice none 0 0]):=Lib.hid (Whole.new _ _ _)
      have HW:Hid (Below W0.heap.size W0 ((wr.alloc (.cells #[.int .i64 0,.string ⟨#[]⟩,.int .i64 0,.int .i64 0,.string ⟨#[]⟩,.slice none 0 0] 31)).setRow wr.heap.size #[.int .i64 x.type,.string x.name,.int .i64 x.clock,.int .i64 x.chans,.string x.format,.slice Af lf kf])∧Whole ((wr.alloc (.cells #[.int .i64 0,.string ⟨#[]⟩,.int .i64 0,.int .i64 0,.string ⟨#[]⟩,.slice none 0 0] 31)).setRow wr.heap.size #[.int .i64 x.type,.string x.name,.int .i64 x.clock,.int .i64 x.chans,.string x.format,.slice Af lf kf]) wr.heap.size 31 #[.int .i64 x.type,.string x.name,.int .i64 x.clock,.int .i64 x.chans,.string x.format,.slice Af lf kf]):=Lib.hid ⟨below_row (HS.out.2.2.alloc hN0 _) hN0 _,(Whole.new wr 31 #[.int .i64 0,.string ⟨#[]⟩,.int .i64 0,.int .i64 0,.string ⟨#[]⟩,.slice none 0 0]).row #[.int .i64 x.type,.string x.name,.int .i64 x.clock,.int .i64 x.chans,.string x.format,.slice Af lf kf]⟩
      clear hx had hlt' hN0
      go_upto_region 8 with ((with_reducible refine wpList_storeS #[.int .i64 x.type,.string x.name,.int .i64 x.clock,.int .i64 x.chans,.string x.format,.slice Af lf kf] ?_ 31 (.tmp 5) (.tmp 29) ?_ ?_ ?_ HNEW.out Tryz.sizeCodec ?_ ?_ ?_ ?_);(with_reducible rfl);(with_reducible rfl);rfl;rfl;rfl;rfl;rfl)
      generalize ((wr.alloc (.cells #[.int .i64 0,.string ⟨#[]⟩,.int .i64 0,.int .i64 0,.string ⟨#[]⟩,.slice none 0 0] 31)).setRow wr.heap.size #[.int .i64 x.type,.string x.name,.int .i64 x.clock,.int .i64 x.chans,.string x.format,.slice Af lf kf])=w2 at *
      generalize wr.heap.size=g at *
      clear d0 d1 d2 d3 d4 d5 HNEW
      have g0:w2.cell? ⟨g,0,none⟩=some (.int .i64 x.type):=HW.out.2.cell 0
      have HIT:Hid (Calls Tryz.prog 48 #[.int .i64 x.type] w2 fun e w'=>e=.returned (.string (bs (decI x.type)))∧Below w2.heap.size w2 w'):=Lib.hid (itoa_any x.type w2 (HEN.out.under HW.out.1) HTY.1 (by omega))
      have hdl:=decI_len (n:=x.type) (by omega)
      obtain ⟨dt,hdt⟩:∃dt,bs (decI x.type)=dt:=⟨_,rfl⟩
      rw [hdt] at HIT hdl
      have HDT:=Lib.hid hdt
      clear hdt
      have q1:¬9223372036854775807<1+dt.size:=by omega
      have q2:¬9223372036854775807<acc.size+(1+dt.size):=by omega
      go_wp2_with (go_at_call 48;(with_reducible refine HIT.out.mono ?_);rintro e w3 ⟨rfl,hb3⟩)
      go_roundw
      case rel =>
       refine ⟨k+1,_,by omega,by go_num,rfl,?_,?_,HW.out.1.trans (hb3.mono HW.out.1.size)⟩
       · rw [tx_append,tx_append,HS.out.1,HTS.out,←HDT.out,tx_bs]
         simp [tx]
       · rw [←tx_length,tx_append,tx_append,List.length_append,List.length_append,tx_length,tx_length,tx_length]
         show acc.size+(1+dt.size)≤_
         omega
      case measure=>simp [intOf];omega
    · have e:k=nC:=by omega
      subst e
      have HQ:Hid (tx acc=tx s0++(wStreams++typesT LC)):=Lib.hid (by rw [HS.out.1,List.take_of_length_le (by rw [HLC.out];exact Nat.le_refl _)])
      go_wp2
      go_ret
      refine ⟨str_eq ?_,HB.out.trans (HS.out.2.2.mono HN.out)⟩
      rw [HQ.out,HS0.out,tx_bs]
      simp
end Go.Proofs.YtgnpckelbokniaaGreatDoor
namespace Go.Proofs.YtgnpckelbokniaaGreatDoor
open Go.RowKit Go.Lib Go.Sort
set_option linter.unusedVariables false
set_option linter.unusedSimpArgs false
theorem Tryz.arr24:Tryz.prog.arrayLen 201=24:=by kernel_rfl
theorem holds_zero0 (w:World) (T:TypeId) (nd:Nat) (hs:nd≤24):Holds (fun (b:UInt8)=>Value.int .u8 (b.toNat:Int)) (w.alloc (.cells Lib.zeros24 T)) w.heap.size 0 (Array.replicate nd (0:UInt8)):=fun j hj=>by
 have hj':j<nd:=by simpa using hj
 refine ⟨?_,World.frozen?_alloc_new _ _ _ _⟩
 rw [World.cell?_alloc_new,Lib.zeros24_at _ (by omega),getElem!_pos _ j hj]
 simp
set_option maxHeartbeats 3200000 in
set_option maxRecDepth 100000 in
theorem iFormatUint_any (u:Nat) (w:World) (hE:Env w) (h1:u<18446744073709551616):Calls Tryz.prog 110 #[.int .u64 u,.int .i64 10] w fun e w'=>e=.returned (.string (bs (dec u)))∧Below w.heap.size w w':=by
 by_cases hs:u<100
 · have HC:=Lib.hid (Tryz.internal_strconv_small u hs w)
   have hs1:(u:Int)<100:=by omega
   have hs0:(0:Int)≤(u:Int):=by omega
   have e1:IntKind.i64.wrap (u:Int)=(u:Int):=IntWalk.i64_in _ (by omega)
   have HD:=Lib.hid (dec_eq u)
   go_enter Tryz.func110,Tryz.ntmps110
   go_wp2_with (go_at_call 161;(with_reducible refine HC.out.mono ?_);rintro e w1 ⟨rfl,rfl⟩)
   go_ret
   exact ⟨by rw [HD.out];rfl,Below.refl _ _⟩
 · have hs1:(100:Int)≤(u:Int):=by omega
   have hu1:1≤u:=by omega
   have hnd20:Lib.nDigits u≤20:=by have:=Lib.numDigits_eq u hu1 h1;split at this <;> omega
   have hsl1:∀W,(Instr.sliceAt 201 (.pointer (some ⟨w.heap.size,0,none⟩)) none (some (.int .i64 (Lib.nDigits u:Int))) none).run Tryz.prog W=.ok (.slice (some ⟨w.heap.size,0,none⟩) (Lib.nDigits u) 24) W:=fun W=>by
    rw [run_sliceAt_array_h W 201 ⟨w.heap.size,0,none⟩ (by simp [Program.arrayLen,Program.elem,Tryz.underlying201]) .i64 (Lib.nDigits u:Int) (by omega) (by rw [Tryz.arr24];omega)]
    go_simp
    first | done | omega | (rw [Tryz.arr24];simp)
   have hH0:=holds_zero0 w 201 (Lib.nDigits u) (by omega)
   have hfmt:=Tryz.internal_strconv_formatBase10 w.heap.size 0 24 u (Array.replicate (Lib.nDigits u) 0) (w.alloc (.cells Lib.zeros24 201)) hH0 (by rw [Array.size_replicate];exact Lib.lt_pow_nDigits u) h1 (by rw [Array.size_replicate];omega)
   rw [Array.size_replicate] at hfmt
   have HH0:=Lib.hid hH0
   have HF:=Lib.hid hfmt
   have HN:=Lib.hid (Tryz.internal_strconv_numDigits u hu1 h1 (w.alloc (.cells Lib.zeros24 201)) (Lib.tabIs_alloc hE.tab _))
   have HD:=Lib.hid (dec_eq u)
   clear hH0 hfmt
   go_enter Tryz.func110,Tryz.ntmps110
   go_upto_region 7 with (first | (go_at_call 162;(refine HN.out.mono ?_);rintro e w' ⟨rfl,rfl⟩) | (go_at_call 163;(refine HF.out.mono ?_);rintro e w' ⟨rfl,k,v',dk,rfl,hF⟩))
   have hcv:(convert 53 9 (.slice (some ⟨w.heap.size,0,none⟩) (Lib.nDigits u) 24)).run Tryz.prog ((putRow (fun (b:UInt8)=>Value.int .u8 (b.toNat:Int)) (w.alloc (.cells Lib.zeros24 201)) w.heap.size 0 dk).drewN k)=.ok (.string ⟨(Lib.decDigits u).toArray⟩) ((putRow (fun (b:UInt8)=>Value.int .u8 (b.toNat:Int)) (w.alloc (.cells Lib.zeros24 201)) w.heap.size 0 dk).drewN k):=by
    have h:=run_convert_bytes_back (P:=Tryz.prog) ((putRow (fun (b:UInt8)=>Value.int .u8 (b.toNat:Int)) (w.alloc (.cells Lib.zeros24 201)) w.heap.size 0 dk).drewN k) 53 9 5 ⟨w.heap.size,0,none⟩ 24 (Lib.decDigits u) Tryz.underlying53 Tryz.underlying5 Tryz.underlying9 (fun j hj=>by
     rw [Lib.row_is_numeral hF j hj,Lib.add_plain,World.cell?_drewN]
     exact cell?_putRow (fun (b:UInt8)=>Value.int .u8 (b.toNat:Int)) _ w.heap.size 0 _ dk HH0.out (by rw [hF.size,Array.size_replicate]) j (by rw [hF.size];rw [Lib.decDigits_length] at hj;exact hj))
    rw [Lib.decDigits_length] at h
    exact h
   have HBL:Hid (Below w.heap.size w ((putRow (fun (b:UInt8)=>Value.int .u8 (b.toNat:Int)) (w.alloc (.cells Lib.zeros24 201)) w.heap.size 0 dk).drewN k)):=Lib.hid (by
    rw [alloc_eq_grow]
    obtain ⟨os',_,e⟩:=putRow_grow_new (fun (b:UInt8)=>Value.int .u8 (b.toNat:Int)) w #[.cells Lib.zeros24 201] w.heap.size 0 dk (Nat.le_refl _)
    rw [e]
    exact Lib.below_grow _ w (Nat.le_refl _) k os')
   go_wp2
   go_ret
   exact ⟨by rw [HD.out];rfl,HBL.out⟩
set_option maxHeartbeats 800000 in
theorem formatUint_any (u:Nat) (w:World) (hE:Env w) (h1:u<18446744073709551616):Calls Tryz.prog 51 #[.int .u64 u,.int .i64 10] w fun e w'=>e=.returned (.string (bs (dec u)))∧Below w.heap.size w w':=by
 have HC:=Lib.hid (iFormatUint_any u w hE h1)
 go_enter Tryz.func51,Tryz.ntmps51
 go_wp2_with (go_at_call 110;(with_reducible refine HC.out.mono ?_);rintro e w1 ⟨rfl,hb1⟩)
 go_ret
 exact ⟨rfl,hb1⟩
end Go.Proofs.YtgnpckelbokniaaGreatDoor
namespace Go.Proofs.YtgnpckelbokniaaGreatDoor
open Go.RowKit
set_option linter.unusedVariables false
set_option linter.unusedSimpArgs false
theorem Tryz.sizeBuilder:∃j,Tryz.prog.info? 172=some j∧j.size=2:=by
 have h:(Tryz.prog.info? 172).map (·.size)=some 2:=by kernel_rfl
 exact Option.map_eq_some_iff.1 h
theorem Tryz.liesBuilder:liesAt Tryz.prog Tryz.prog.depth 172 (2 / Tryz.prog.cellsOf 172) 0 172 1=true:=by kernel_rfl
set_option maxHeartbeats 1000000 in
set_option maxRecDepth 100000 in
theorem copyCheck_used (b:Nat) (w:World) (h0:w.cell? ⟨b,0,none⟩=some (.pointer (some ⟨b,0,none⟩))) :
 Calls Tryz.prog 165 #[.pointer (some ⟨b,0,none⟩)] w fun e w'=>e=.returned (.tuple #[])∧w'=w:=by
 obtain ⟨j,hj,_⟩:=Tryz.sizeBuilder
 go_enter Tryz.func165,Tryz.ntmps165
 go_wp2
 rw [Lib.run_neq_ptr_same w _ Tryz.underlying170 hj]
 go_wp2
 go_end0
 exact ⟨rfl,rfl⟩
set_option maxHeartbeats 1000000 in
set_option maxRecDepth 100000 in
theorem copyCheck_fresh (b:Nat) (w:World) (h0:w.cell? ⟨b,0,none⟩=some (.pointer none)) (hsh:w.shape? b=some (172,2)) (hfz:w.frozen? ⟨b,0,none⟩=false) :
 Calls Tryz.prog 165 #[.pointer (some ⟨b,0,none⟩)] w fun e w'=>e=.returned (.tuple #[])∧w'=w.setCell ⟨b,0,none⟩ (.pointer (some ⟨b,0,none⟩)):=by
 obtain ⟨j,hj,hjs⟩:=Tryz.sizeBuilder
 go_enter Tryz.func165,Tryz.ntmps165
 go_wp2
 rw [Lib.run_to_unsafe w ⟨b,0,none⟩ Tryz.underlying170 Tryz.underlying225 hj (by rw [hjs];decide) hsh (Nat.zero_lt_succ 1)]
 simp only [Result.andThen]
 rw [Oper.upon_value]
 go_wp2
 rw [run_callFunc_extern Tryz.func192 (by kernel_rfl) (by kernel_rfl) (by kernel_rfl) (e:=Extern.AbiNoEscape.same) (by kernel_rfl)]
 rw [Lib.run_noEscape]
 simp only [Result.andThen]
 rw [Oper.upon_value]
 go_wp2
 rw [Lib.run_from_unsafe w ⟨b,0,none⟩ Tryz.underlying225 Tryz.underlying170 hj hsh Tryz.liesBuilder]
 simp only [Result.andThen]
 rw [Oper.upon_value]
 go_wp2
 go_end0
 exact ⟨rfl,rfl⟩
theorem copyCheck_any (B b:Nat) (bs:List Value) (w:World) (h:Lib.IsBuilder 172 5 B b bs w) :
 Calls Tryz.prog 165 #[.pointer (some ⟨b,0,none⟩)] w fun e w'=>e=.returned (.tuple #[])∧(Lib.BuilderAt 172 5 B b (.pointer (some ⟨b,0,none⟩)) bs w'∧Below B w w'):=by
 rcases h with h | h
 · refine (copyCheck_fresh b w h.cell0 h.shape h.frozen0).mono ?_
   rintro e w' ⟨rfl,rfl⟩
   exact ⟨rfl,h.used _,(Below.refl B w).setCell (p:=⟨b,0,none⟩) h.1 _⟩
 · refine (copyCheck_used b w h.cell0).mono ?_
   rintro e w' ⟨rfl,rfl⟩
   exact ⟨rfl,h,Below.refl B _⟩
set_option maxHeartbeats 2000000 in
set_option maxRecDepth 100000 in
theorem writeByte_any (B b:Nat) (bs:List Value) (c:Int) (w:World) (h:Lib.IsBuilder 172 5 B b bs w) (hlen:bs.length+1≤140737488355328) (hBw:B≤w.heap.size) :
 Calls Tryz.prog 111 #[.pointer (some ⟨b,0,none⟩),.int .u8 c] w fun e w'=>e=.returned .nilIface∧(Lib.IsBuilder 172 5 B b (bs++[.int .u8 c]) w'∧Below B w w'):=by
 have hinfo:(Tryz.prog.info? 5).map (fun i=>(i.zero,i.size,i.bytes))=some (some (.int .u8 0),1,1):=by kernel_rfl
 obtain ⟨i0,hi,hz0,hz1,hz2⟩:=info_parts hinfo
 have HCC:=Lib.hid (copyCheck_any B b bs w h)
 go_enter Tryz.func111,Tryz.ntmps111
 go_wp2_with (go_at_call 165;refine HCC.out.mono ?_)
 rintro e w1 ⟨rfl,h1,hb1⟩
 obtain ⟨hB,v,hbk,hown,hne⟩:=h1
 have c0:w1.cell? ⟨b,0,none⟩=some (.pointer (some ⟨b,0,none⟩)):=by rw [Lib.cell_of_heap hbk];rfl
 have c1:w1.cell? ⟨b,1,none⟩=some v:=by rw [Lib.cell_of_heap hbk];rfl
 go_wp2_with (at_builtin;refine wpList_append_own _ rfl _ _ 53 rfl B 5 i0 (.int .u8 0) 1 1 Tryz.underlying53 hi hz0 hz1 hz2 rfl (by decide) _ _ _ rfl (hown.alloc _) ⟨w1.heap.size,0,none⟩ 1 1 [.int .u8 c] rfl rfl ?c1 ?c2 ?c3 ?c4 ?c5 ?_)
 case c1 =>
  intro j u hj
  match j,hj with
  | 0,hj=>simp at hj;subst hj;simp [Addr.add]
 case c2=>intro u hu;simp at hu;subst hu;rfl
 case c3=>unfold maxLen;omega
 case c4=>omega
 case c5=>have:=hb1.size;simp;omega
 intro v' w2 hown' hgrow _
 have hlt:b<w1.heap.size:=by
  rcases Nat.lt_or_ge b w1.heap.size with h' | h'
  · exact h'
  · simp [Array.getElem?_eq_none h'] at hbk
 have hb2:w2.heap[b]? = some (.cells #[.pointer (some ⟨b,0,none⟩),v] 172 (0,0)):=by
  rw [hgrow.block b (by simp;omega) (fun e=>hne e.symm),Lib.alloc_old w1 _ b hlt]
  exact hbk
 have d0:w2.cell? ⟨b,0,none⟩=some (.pointer (some ⟨b,0,none⟩)):=by rw [Lib.cell_of_heap hb2];rfl
 have d1:w2.cell? ⟨b,1,none⟩=some v:=by rw [Lib.cell_of_heap hb2];rfl
 have f1:w2.frozen? ⟨b,1,none⟩=false:=Lib.frozen_of_heap hb2 1
 obtain ⟨g,cap,rfl⟩:∃g cap,v'=.slice (some ⟨g,0,none⟩) (bs.length+1) cap:=by
  rcases hown'.2 with ⟨_,h0⟩ | ⟨g,cap,cur,hv,_⟩
  · omega
  · exact ⟨g,cap,hv⟩
 go_wp2
 go_ret
 refine ⟨rfl,.inr ?_,?_⟩
 · exact Lib.BuilderAt.put (T:=172) (e:=5) hB hb2 (bs':=bs++[.int .u8 c]) (by simpa using hown') (by decide)
 · exact ((hb1.alloc (by have:=hb1.size;omega) _).grown hgrow (by have:=hb1.size;simp;omega) (fun k hk=>(hown.lt k hk).1)).setCell (p:=⟨b,1,none⟩) hB _
theorem nat_or (x y k:Nat) (hy:y<2 ^ k):x * 2 ^ k ||| y=x * 2 ^ k+y:=by rw [←Nat.shiftLeft_eq,Nat.shiftLeft_add_eq_or_of_lt hy]
theorem and63 (n:Nat):n &&& 63=n % 64:=Nat.and_two_pow_sub_one_eq_mod n 6
def num3 (a b c:UInt8):Nat:=a.toNat * 65536+b.toNat * 256+c.toNat
theorem num3_lt (a b c:UInt8):num3 a b c<16777216:=by
 have:=a.toNat_lt
 have:=b.toNat_lt
 have:=c.toNat_lt
 unfold num3
 omega
set_option maxRecDepth 100000 in
theorem or3 (a b c:UInt8):(a.toNat * 65536 ||| b.toNat * 256) ||| c.toNat=num3 a b c:=by
 have h2:=b.toNat_lt
 have h3:=c.toNat_lt
 have e1:=nat_or a.toNat (b.toNat * 256) 16 (by omega)
 have e2:=nat_or (a.toNat * 256+b.toNat) c.toNat 8 (by omega)
 rw [show (2:Nat) ^ 16=65536 by decide] at e1
 rw [show (2:Nat) ^ 8=256 by decide] at e2
 rw [e1]
 have e3:a.toNat * 65536+b.toNat * 256=(a.toNat * 256+b.toNat) * 256:=by omega
 rw [e3,e2]
 unfold num3
 omega
set_option maxRecDepth 100000 in
theorem or3_u32 (a b c:UInt8):bits BinOp.or IntKind.u32 (bits BinOp.or IntKind.u32 ((a.toNat:Int) % 4294967296 * 65536 % 4294967296) ((b.toNat:Int) % 4294967296 * 256 % 4294967296)) ((c.toNat:Int) % 4294967296)=((num3 a b c:Nat):Int):=by
 have h1:=a.toNat_lt
 have h2:=b.toNat_lt
 have h3:=c.toNat_lt
 rw [show ((a.toNat:Int) % 4294967296 * 65536 % 4294967296)=((a.toNat * 65536:Nat):Int) by omega,show ((b.toNat:Int) % 4294967296 * 256 % 4294967296)=((b.toNat * 256:Nat):Int) by omega,show ((c.toNat:Int) % 4294967296)=((c.toNat:Nat):Int) by omega,
  u32_or_nat _ _ (by omega) (by omega),u32_or_nat _ _ (Nat.or_lt_two_pow (n:=32) (by omega) (by omega)) (by omega),or3]
theorem encK_snoc (a b c:UInt8):∀(t:Nat) (l:Tx),l.length=3 * t→encK (l++[a,b,c])=encK l++enc3 a b c
 | 0,l,h=>by
   obtain rfl:l=[]:=List.eq_nil_of_length_eq_zero (by omega)
   simp [encK]
 | t+1,l,h=>by
   match l,h with
   | x :: y :: z :: r,h =>
     have:=encK_snoc a b c t r (by simp at h;omega)
     simp only [List.cons_append,encK,this,List.append_assoc]
theorem encK_step {k:Tx} (hk:k.length=30) {t:Nat} (ht:t<10):∃a b c:UInt8,k[3 * t]? = some a∧k[3 * t+1]? = some b∧k[3 * t+2]? = some c∧encK (k.take (3 * (t+1)))=encK (k.take (3 * t))++enc3 a b c:=by
 refine ⟨k[3 * t],k[3 * t+1],k[3 * t+2],List.getElem?_eq_getElem (by omega),List.getElem?_eq_getElem (by omega),List.getElem?_eq_getElem (by omega),?_⟩
 have e:k.take (3 * (t+1))=k.take (3 * t)++[k[3 * t],k[3 * t+1],k[3 * t+2]]:=by
  rw [show 3 * (t+1)=3 * t+3 by omega,List.take_add,List.drop_eq_getElem_cons (by omega),List.drop_eq_getElem_cons (by omega),List.drop_eq_getElem_cons (by omega)]
  rfl
 rw [e,encK_snoc _ _ _ t _ (by rw [List.length_take];omega)]
theorem encK_len:∀(t:Nat) (l:Tx),l.length=3 * t→(encK l).length=4 * t
 | 0,l,h=>by
   obtain rfl:l=[]:=List.eq_nil_of_length_eq_zero (by omega)
   rfl
 | t+1,l,h=>by
   match l,h with
   | x :: y :: z :: r,h =>
     have:=encK_len t r (by simp at h;omega)
     simp only [encK,enc3,List.length_append,List.length_cons,List.length_nil,this]
     omega
abbrev letS:ByteArray:=bs wLetters
theorem letS_size:letS.size=64:=by rw [bs_size];rfl
theorem letS_at (v:Nat) (h:v<letS.size):letS[v]'h=letter v:=by
 have hl:v<64:=by rw [letS_size] at h;exact h
 have hw:wLetters.length=64:=rfl
 unfold letter
 rw [List.getD_eq_getElem?_getD,List.getElem?_eq_getElem (by omega)]
 rfl
theorem and63_u32 (x:Int) (v:Nat) (h0:0≤x) (h1:x<4294967296) (hv:x.toNat % 64=v):bits BinOp.and IntKind.u32 x 63=((v:Nat):Int):=by
 obtain ⟨n,rfl⟩:=Int.eq_ofNat_of_zero_le h0
 have h:=u32_and_nat n 63 (by omega) (by omega)
 rw [and63] at h
 rw [←hv]
 exact h
theorem isB_lt {T e:TypeId} {B b:Nat} {l:List Value} {w:World} (h:Lib.IsBuilder T e B b l w):b<w.heap.size:=by
 rcases h with h | h <;> exact h.lt
theorem bytes_snoc (l:Tx) (c:UInt8):Lib.byteCells l++[.int .u8 (c.toNat:Int)]=Lib.byteCells (l++[c]):=by simp [Lib.byteCells]
set_option maxHeartbeats 6400000 in
set_option maxRecDepth 100000 in
theorem writeKey_any (k:Tx) (w:World) (hk:k.length=30) :
 Calls Tryz.prog 52 #[.agg (keyC k).toArray] w fun e w'=>e=.returned (.string (bs (encK k)))∧Below w.heap.size w w':=by
 obtain ⟨N,hN⟩:∃N,w.heap.size=N:=⟨_,rfl⟩
 have HKX:Hid (Whole ((w.alloc (.cells (keyC k).toArray 73)).alloc (.cells #[.pointer none,.slice none 0 0] 172)) N 73 (keyC k).toArray):=Lib.hid (by rw [←hN];exact (Whole.new w _ _).alloc _)
 have HBX:Hid (Lib.IsBuilder 172 5 (N+1) (N+1) (Lib.byteCells []) ((w.alloc (.cells (keyC k).toArray 73)).alloc (.cells #[.pointer none,.slice none 0 0] 172))):=Lib.hid (.inl ⟨by omega,.slice none 0 0,by
  have:=Whole.new2 w (.cells (keyC k).toArray 73) 172 #[.pointer none,.slice none 0 0]
  rw [hN] at this
  exact this,World.ownsRow_nil _ _ _ _,by simp [Value.ownBlock]⟩)
 have HB:Hid (Below N w ((w.alloc (.cells (keyC k).toArray 73)).alloc (.cells #[.pointer none,.slice none 0 0] 172))):=Lib.hid (by rw [←hN];exact two_new _ _ _ _)
 rw [hN]
 go_enter Tryz.func52,Tryz.ntmps52
 go_upto_region 2 with fail
 generalize ((w.alloc (.cells (keyC k).toArray 73)).alloc (.cells #[.pointer none,.slice none 0 0] 172))=W0 at *
 clear hN
 go_wp2
 go_loopw [4] (fun s4 wr=>∃t:Nat,t≤10∧s4=.int .i64 ((3 * t:Nat):Int)∧(Lib.IsBuilder 172 5 (N+1) (N+1) (Lib.byteCells (encK (k.take (3 * t)))) wr∧Whole wr N 73 (keyC k).toArray∧Below N w wr)) (fun s4 _=>30 - (intOf s4).toNat)
 case atStart=>exact ⟨0,by omega,rfl,HBX.out,HKX.out,HB.out⟩
 case round =>
  obtain ⟨t,ht,rfl,hst⟩:=hrel
  have HS:=Lib.hid hst
  clear hst
  by_cases hlt:t<10
  · obtain ⟨a,b,c,hA,hBB,hC,hTK⟩:∃a b c:UInt8,k[3 * t]? = some a∧k[3 * t+1]? = some b∧k[3 * t+2]? = some c∧encK (k.take (3 * (t+1)))=encK (k.take (3 * t))++enc3 a b c:=encK_step hk hlt
    obtain ⟨i,hi⟩:∃i,3 * t=i:=⟨_,rfl⟩
    have HTI:=Lib.hid hi
    rw [hi] at hA hBB hC
    simp only [hi]
    have hi1:(i:Int)<30:=by omega
    have hi0:(0:Int)≤(i:Int):=by omega
    have e1:IntKind.i64.wrap ((i:Int)+1)=((i+1:Nat):Int):=(IntWalk.i64_in _ (by omega)).trans (by omega)
    have e2:IntKind.i64.wrap ((i:Int)+2)=((i+2:Nat):Int):=(IntWalk.i64_in _ (by omega)).trans (by omega)
    have b1:((i+1:Nat):Int)<30:=by omega
    have b2:((i+2:Nat):Int)<30:=by omega
    have b3:(0:Int)≤((i+1:Nat):Int):=by omega
    have b4:(0:Int)≤((i+2:Nat):Int):=by omega
    have d0:wr.cell? ⟨N,i,none⟩=some (.int .u8 (a.toNat:Int)):=(HS.out.2.1.cell _).trans (by simp [keyC,hA])
    have d1:wr.cell? ⟨N,i+1,none⟩=some (.int .u8 (b.toNat:Int)):=(HS.out.2.1.cell _).trans (by simp [keyC,hBB])
    have d2:wr.cell? ⟨N,i+2,none⟩=some (.int .u8 (c.toNat:Int)):=(HS.out.2.1.cell _).trans (by simp [keyC,hC])
    clear hi
    go_upto_region 5 with fail
    go_quiet (fail)
    rw [or3_u32 a b c]
    have HNL:Hid (num3 a b c<16777216):=Lib.hid (num3_lt a b c)
    have HEN:Hid (enc3 a b c=[letter (num3 a b c / 262144),letter (num3 a b c / 4096 % 64),letter (num3 a b c / 64 % 64),letter (num3 a b c % 64)]):=Lib.hid rfl
    have HBS:Hid (Lib.IsBuilder 172 5 (N+1) (N+1) (Lib.byteCells (encK (k.take (3 * t)))) (wr.drewN nq)∧Whole (wr.drewN nq) N 73 (keyC k).toArray∧Below N w (wr.drewN nq)):=Lib.hid ⟨HS.out.1,HS.out.2.1,below_drewN' HS.out.2.2 _⟩
    have HSZ:Hid ((encK (k.take (3 * t))).length=4 * t):=Lib.hid (encK_len t _ (by rw [List.length_take];omega))
    obtain ⟨E,hE⟩:∃E,encK (k.take (3 * t))=E:=⟨_,rfl⟩
    rw [hE] at HBS HSZ hTK
    have HTK:=Lib.hid hTK
    clear hTK hE d0 d1 d2 hA hBB hC
    generalize wr.drewN nq=wx at *
    generalize num3 a b c=n at *
    go_wp2
    go_loopw [30] (fun sp wq=>∃p:Nat,p≤4∧sp=.int .i64 (p:Int)∧(Lib.IsBuilder 172 5 (N+1) (N+1) (Lib.byteCells (E++(enc3 a b c).take p)) wq∧Whole wq N 73 (keyC k).toArray∧Below N w wq)) (fun sp _=>4 - (intOf sp).toNat)
    case atStart=>exact ⟨0,by omega,rfl,by simpa using HBS.out.1,HBS.out.2.1,HBS.out.2.2⟩
    case round =>
     obtain ⟨p,hp,rfl,hst⟩:=hrel
     have HI:=Lib.hid hst
     clear hst
     have HNQ:Hid (N+1≤wr.heap.size):=Lib.hid (Nat.le_of_lt (isB_lt HI.out.1))
     have hn:=HNL.out
     have hp4:p=4∨p=0∨p=1∨p=2∨p=3:=by omega
     rcases hp4 with rfl | rfl | rfl | rfl | rfl
     · have HFE:Hid (encK (k.take (3 * (t+1)))=E++(enc3 a b c).take 4):=Lib.hid (by rw [HTK.out,HEN.out];rfl)
       go_wp2
       go_roundw
       case rel =>
        have hti:=HTI.out
        exact ⟨t+1,by omega,by go_num,by rw [HFE.out];exact HI.out.1,HI.out.2.1,HI.out.2.2⟩
       case measure=>simp [intOf];omega
     · have hv:bits BinOp.and IntKind.u32 ((n:Int) / 262144) 63=((n / 262144:Nat):Int):=and63_u32 _ _ (by omega) (by omega) (by omega)
       obtain ⟨v,hvv⟩:∃v:Nat,n / 262144=v:=⟨_,rfl⟩
       rw [hvv] at hv
       have hv64:v<64:=by omega
       have hvi:(v:Int)<64:=by omega
       have hv0:(0:Int)≤(v:Int):=by omega
       have HTAKE:Hid ((enc3 a b c).take (0+1)=(enc3 a b c).take 0++[letter v]):=Lib.hid (by rw [HEN.out,←hvv];rfl)
       have HLV:Hid (∀h:v<letS.size,letS[v]'h=letter v):=Lib.hid (letS_at v)
       have HWB:Hid (∀c':Int,Calls Tryz.prog 111 #[.pointer (some ⟨N+1,0,none⟩),.int .u8 c'] wr fun e w'=>e=.returned .nilIface∧(Lib.IsBuilder 172 5 (N+1) (N+1) (Lib.byteCells (E++(enc3 a b c).take 0)++[.int .u8 c']) w'∧Below (N+1) wr w')):=Lib.hid fun c'=>writeByte_any (N+1) (N+1) _ c' wr HI.out.1 (by
        rw [Lib.byteCells_length,List.length_append,HSZ.out]
        have:=List.length_take_le 0 (enc3 a b c)
        omega) HNQ.out
       clear hvv
       go_wp2_with (go_at_call 111;(refine (HWB.out _).mono ?_);rintro e w2 ⟨rfl,hb2,hb3⟩)
       go_roundw
       case rel =>
        refine ⟨0+1,by omega,by go_num,?_,HI.out.2.1.below hb3 (Nat.lt_succ_self N),HI.out.2.2.trans (hb3.mono (Nat.le_succ N))⟩
        have e1:=HLV.out (by rw [letS_size];exact hv64)
        rw [HTAKE.out,←List.append_assoc,←bytes_snoc,←e1]
        exact hb2
       case measure=>simp [intOf]
     · have hv:bits BinOp.and IntKind.u32 ((n:Int) / 4096) 63=((n / 4096 % 64:Nat):Int):=and63_u32 _ _ (by omega) (by omega) (by omega)
       obtain ⟨v,hvv⟩:∃v:Nat,n / 4096 % 64=v:=⟨_,rfl⟩
       rw [hvv] at hv
       have hv64:v<64:=by omega
       have hvi:(v:Int)<64:=by omega
       have hv0:(0:Int)≤(v:Int):=by omega
       have HTAKE:Hid ((enc3 a b c).take (1+1)=(enc3 a b c).take 1++[letter v]):=Lib.hid (by rw [HEN.out,←hvv];rfl)
       have HLV:Hid (∀h:v<letS.size,letS[v]'h=letter v):=Lib.hid (letS_at v)
       have HWB:Hid (∀c':Int,Calls Tryz.prog 111 #[.pointer (some ⟨N+1,0,none⟩),.int .u8 c'] wr fun e w'=>e=.returned .nilIface∧(Lib.IsBuilder 172 5 (N+1) (N+1) (Lib.byteCells (E++(enc3 a b c).take 1)++[.int .u8 c']) w'∧Below (N+1) wr w')):=Lib.hid fun c'=>writeByte_any (N+1) (N+1) _ c' wr HI.out.1 (by
        rw [Lib.byteCells_length,List.length_append,HSZ.out]
        have:=List.length_take_le 1 (enc3 a b c)
        omega) HNQ.out
       clear hvv
       go_wp2_with (go_at_call 111;(refine (HWB.out _).mono ?_);rintro e w2 ⟨rfl,hb2,hb3⟩)
       go_roundw
       case rel =>
        refine ⟨1+1,by omega,by go_num,?_,HI.out.2.1.below hb3 (Nat.lt_succ_self N),HI.out.2.2.trans (hb3.mono (Nat.le_succ N))⟩
        have e1:=HLV.out (by rw [letS_size];exact hv64)
        rw [HTAKE.out,←List.append_assoc,←bytes_snoc,←e1]
        exact hb2
       case measure=>simp [intOf]
     · have hv:bits BinOp.and IntKind.u32 ((n:Int) / 64) 63=((n / 64 % 64:Nat):Int):=and63_u32 _ _ (by omega) (by omega) (by omega)
       obtain ⟨v,hvv⟩:∃v:Nat,n / 64 % 64=v:=⟨_,rfl⟩
       rw [hvv] at hv
       have hv64:v<64:=by omega
       have hvi:(v:Int)<64:=by omega
       have hv0:(0:Int)≤(v:Int):=by omega
       have HTAKE:Hid ((enc3 a b c).take (2+1)=(enc3 a b c).take 2++[letter v]):=Lib.hid (by rw [HEN.out,←hvv];rfl)
       have HLV:Hid (∀h:v<letS.size,letS[v]'h=letter v):=Lib.hid (letS_at v)
       have HWB:Hid (∀c':Int,Calls Tryz.prog 111 #[.pointer (some ⟨N+1,0,none⟩),.int .u8 c'] wr fun e w'=>e=.returned .nilIface∧(Lib.IsBuilder 172 5 (N+1) (N+1) (Lib.byteCells (E++(enc3 a b c).take 2)++[.int .u8 c']) w'∧Below (N+1) wr w')):=Lib.hid fun c'=>writeByte_any (N+1) (N+1) _ c' wr HI.out.1 (by
        rw [Lib.byteCells_length,List.length_append,HSZ.out]
        have:=List.length_take_le 2 (enc3 a b c)
        omega) HNQ.out
       clear hvv
       go_wp2_with (go_at_call 111;(refine (HWB.out _).mono ?_);rintro e w2 ⟨rfl,hb2,hb3⟩)
       go_roundw
       case rel =>
        refine ⟨2+1,by omega,by go_num,?_,HI.out.2.1.below hb3 (Nat.lt_succ_self N),HI.out.2.2.trans (hb3.mono (Nat.le_succ N))⟩
        have e1:=HLV.out (by rw [letS_size];exact hv64)
        rw [HTAKE.out,←List.append_assoc,←bytes_snoc,←e1]
        exact hb2
       case measure=>simp [intOf]
     · have hv:bits BinOp.and IntKind.u32 (n:Int) 63=((n % 64:Nat):Int):=and63_u32 _ _ (by omega) (by omega) (by omega)
       obtain ⟨v,hvv⟩:∃v:Nat,n % 64=v:=⟨_,rfl⟩
       rw [hvv] at hv
       have hv64:v<64:=by omega
       have hvi:(v:Int)<64:=by omega
       have hv0:(0:Int)≤(v:Int):=by omega
       have HTAKE:Hid ((enc3 a b c).take (3+1)=(enc3 a b c).take 3++[letter v]):=Lib.hid (by rw [HEN.out,←hvv];rfl)
       have HLV:Hid (∀h:v<letS.size,letS[v]'h=letter v):=Lib.hid (letS_at v)
       have HWB:Hid (∀c':Int,Calls Tryz.prog 111 #[.pointer (some ⟨N+1,0,none⟩),.int .u8 c'] wr fun e w'=>e=.returned .nilIface∧(Lib.IsBuilder 172 5 (N+1) (N+1) (Lib.byteCells (E++(enc3 a b c).take 3)++[.int .u8 c']) w'∧Below (N+1) wr w')):=Lib.hid fun c'=>writeByte_any (N+1) (N+1) _ c' wr HI.out.1 (by
        rw [Lib.byteCells_length,List.length_append,HSZ.out]
        have:=List.length_take_le 3 (enc3 a b c)
        omega) HNQ.out
       clear hvv
       go_wp2_with (go_at_call 111;(refine (HWB.out _).mono ?_);rintro e w2 ⟨rfl,hb2,hb3⟩)
       go_roundw
       case rel =>
        refine ⟨3+1,by omega,by go_num,?_,HI.out.2.1.below hb3 (Nat.lt_succ_self N),HI.out.2.2.trans (hb3.mono (Nat.le_succ N))⟩
        have e1:=HLV.out (by rw [letS_size];exact hv64)
        rw [HTAKE.out,←List.append_assoc,←bytes_snoc,←e1]
        exact hb2
       case measure=>simp [intOf]
  · have e:t=10:=by omega
    subst e
    have HFE:Hid (encK (k.take (3 * 10))=encK k):=Lib.hid (by rw [List.take_of_length_le (by omega)])
    have HST:Hid (Calls Tryz.prog 112 #[.pointer (some ⟨N+1,0,none⟩)] wr fun e w'=>e=.returned (.string (bs (encK k)))∧Below (N+1) wr w'):=Lib.hid (by
     have:=Tryz.Builder_String_any (N+1) (N+1) (encK (k.take (3 * 10))) wr HS.out.1 (Nat.le_of_lt (isB_lt HS.out.1))
     rw [HFE.out] at this
     exact this)
    go_wp2_with (go_at_call 112;(with_reducible refine HST.out.mono ?_);rintro e w2 ⟨rfl,hb2⟩)
    go_ret
    exact ⟨rfl,HS.out.2.2.trans (hb2.mono (Nat.le_succ N))⟩
theorem Env.low {w w':World} {B:Nat} (h:Env w) (hb:Below B w w') (hB:7≤B):Env w':=by
 refine ⟨?_,fun j hj=>(hb.cell (p:=⟨0,j,Option.none⟩) (Nat.lt_of_lt_of_le (show 0<7 by decide) hB)).trans (h.dirs j hj),fun j h1 hj=>(hb.cell (p:=⟨1,j,Option.none⟩) (Nat.lt_of_lt_of_le (show 1<7 by decide) hB)).trans (h.kinds j h1 hj),(hb.cell (p:=⟨1,0,Option.none⟩) (Nat.lt_of_lt_of_le (show 1<7 by decide) hB)).trans h.none⟩
 have ht:=h.tab
 unfold Lib.TabIs World.var? at ht ⊢
 rw [gPow] at ht ⊢
 simp only [Option.bind_some] at ht ⊢
 rw [hb.block 2 (Nat.lt_of_lt_of_le (by decide) hB)]
 exact ht
def AtO (w:World) (base:Nat) (v:Value) (L:List AttrS):Prop:=Own w base 65 2 v (L.map acell)
structure Grew (w:World) (v:Value) (w':World) (v':Value):Prop where
 only:Only (fun k=>v.ownBlock=some k) w w'
 own:∀k,v'.ownBlock=some k→v.ownBlock=some k∨w.heap.size≤k
theorem Grew.refl (w:World) (v:Value):Grew w v w v:=⟨Only.refl _ _,fun k h=>.inl h⟩
theorem Grew.trans {w w1 w2:World} {v v1 v2:Value} (h:Grew w v w1 v1) (k:Grew w1 v1 w2 v2):Grew w v w2 v2 :=
 ⟨h.only.next k.only h.own,fun j hj=>by
  rcases k.own j hj with h1 | h1
  · exact h.own j h1
  · exact .inr (Nat.le_trans h.only.size h1)⟩
theorem Grew.under {w w1 w2:World} {v v1:Value} (h:Grew w v w1 v1) (hb:Below w1.heap.size w1 w2):Grew w v w2 v1:=⟨h.only.under hb,h.own⟩
theorem Grew.below {w w1:World} {base:Nat} {v v1:Value} (h:Grew w v w1 v1) (hv:∀k,v.ownBlock=some k→base≤k) (hB:base≤w.heap.size):Below base w w1:=h.only.below hv hB
theorem Grew.whole {w w1:World} {v v1:Value} {g:Nat} {t:TypeId} {cs:Array Value} (h:Grew w v w1 v1) (hg:Whole w g t cs) (hne:v.ownBlock≠some g):Whole w1 g t cs:=hg.only h.only hne
theorem AtO.under {w w':World} {base:Nat} {v:Value} {L:List AttrS} (h:AtO w base v L) (hb:Below w.heap.size w w'):AtO w' base v L:=Own.under h hb
theorem AtO.base {w:World} {base:Nat} {v:Value} {L:List AttrS} (h:AtO w base v L):∀k,v.ownBlock=some k→base≤k:=fun k hk=>(Own.lt h hk).1
section
variable {ops:Array Oper} {rest:List Oper} {o:Oper} {a:Act} {Q:Exit→Act→World→Prop} {K:Act→World→Prop} {w:World} {base:Nat} {v:Value} {L:List AttrS} {n val:ByteArray} {c:Nat}
theorem addA (hown:AtO w base v L) (hl:L.length≤1000000) (hb:base≤w.heap.size) {v':Value} {w':World} (h1:Own w' base 65 2 v' (L.map acell++[[.string n,.string val]])) (h2:(w.alloc (.cells #[.string n,.string val] 65)).grownBy w' v.ownBlock) (h3:v'.ownBlock=v.ownBlock∨v'.ownBlock=some (w.alloc (.cells #[.string n,.string val] 65)).heap.size) :
 AtO w' base v' (L++[⟨n,val⟩])∧Grew w v w' v':=by
 refine ⟨?_,((Only.refl _ _).alloc _).grown h2 (fun k hk=>.inl hk),fun k hk=> ?_⟩
 · show Own _ _ _ _ _ _
   rw [List.map_append]
   exact h1
 · rcases h3 with h3 | h3
   · exact .inl (by rw [←h3];exact hk)
   · rw [h3] at hk
     injection hk with hk
     right
     rw [←hk,World.size_alloc]
     omega
theorem wpList_addA (hgd:o.guard=none) (s y:Operand) (ho:o.op=.call {callee:=.builtin .append,args:=#[s,y],argTypes:=#[32,32]}) (hs:a.eval s=v) (hy:a.eval y=.slice (some ⟨w.heap.size,0,none⟩) 1 c) (hown:AtO w base v L) (hl:L.length≤1000000) (hb:base≤w.heap.size)
 (h:∀v' w',AtO w' base v' (L++[⟨n,val⟩])→Grew w v w' v'→wpList Tryz.prog ops Q rest (a.put o.dst v') w'):wpList Tryz.prog ops Q (o :: rest) a (w.alloc (.cells #[.string n,.string val] 65)) :=
 wpList_appendE (r:=[.string n,.string val]) hgd s y ho Tryz.underlying32 Tryz.infoSAttr rfl (Nat.zero_lt_succ _) hs (Own.alloc hown _) hy (Whole.new w 65 _) rfl (fun u hu=>by simp at hu;rcases hu with rfl | rfl <;> rfl) (by rw [List.length_map];omega) (by rw [List.length_map];omega) (by rw [World.size_alloc];omega)
  fun v' w' h1 h2 h3=>by
   obtain ⟨g1,g2⟩:=addA hown hl hb h1 h2 h3
   exact h v' w' g1 g2
theorem wp_addA (s y:Operand) (ho:o.op=.call {callee:=.builtin .append,args:=#[s,y],argTypes:=#[32,32]}) (hs:a.eval s=v) (hy:a.eval y=.slice (some ⟨w.heap.size,0,none⟩) 1 c) (hown:AtO w base v L) (hl:L.length≤1000000) (hb:base≤w.heap.size)
 (h:∀v' w',AtO w' base v' (L++[⟨n,val⟩])→Grew w v w' v'→K (a.put o.dst v') w'):o.wp Tryz.prog a (w.alloc (.cells #[.string n,.string val] 65)) K Q :=
 wp_appendE (r:=[.string n,.string val]) s y ho Tryz.underlying32 Tryz.infoSAttr rfl (Nat.zero_lt_succ _) hs (Own.alloc hown _) hy (Whole.new w 65 _) rfl (fun u hu=>by simp at hu;rcases hu with rfl | rfl <;> rfl) (by rw [List.length_map];omega) (by rw [List.length_map];omega) (by rw [World.size_alloc];omega)
  fun v' w' h1 h2 h3=>by
   obtain ⟨g1,g2⟩:=addA hown hl hb h1 h2 h3
   exact h v' w' g1 g2
end
def AddO (base:Nat) (w:World) (v:Value) (L:List AttrS) (e:Ending) (w':World):Prop:=∃v',e=.returned v'∧AtO w' base v' L∧Grew w v w' v'
theorem plain_len {l:Tx} (h:plainP l=true):l.length≤100:=by
 unfold plainP at h
 simp only [Bool.and_eq_true,decide_eq_true_eq] at h
 exact h.1.1.2
set_option maxHeartbeats 6400000 in
set_option maxRecDepth 100000 in
theorem addCodec_any (base:Nat) (v:Value) (L:List AttrS) (x:CodecS) (Af:Option Addr) (lf kf:Nat) (w:World) (hE:Env w) (hown:AtO w base v L) (hl:L.length≤900000) (hbase:base≤w.heap.size) (h7:7≤base) (h:TextsV w base (.slice Af lf kf) x.feedback) (hg:goodC x=true) :
 Calls Tryz.prog 49 #[v,.agg #[.int .i64 x.type,.string x.name,.int .i64 x.clock,.int .i64 x.chans,.string x.format,.slice Af lf kf]] w (AddO base w v (L++attrsC x)):=by
 obtain ⟨ty,nm,ck,ch,fm,fb⟩:=x
 have h:TextsV w base (.slice Af lf kf) fb:=h
 obtain ⟨⟨ht0,ht1⟩,hn,⟨hk0,hk1⟩,hch,hf,hfl,hfe⟩:=goodC_parts hg
 have ht0:0≤ty:=ht0
 have ht1:ty≤127:=ht1
 have hk0:1≤ck:=hk0
 have hk1:ck≤1000000:=hk1
 have hch:ch=1∨ch=2:=hch
 have hfl:fb.length≤8:=hfl
 have hn:wordP 1 32 (tx nm)=true:=hn
 have hf:(tx fm).isEmpty=true∨plainP (tx fm)=true:=hf
 have hfe:∀f∈fb,plainP (tx f)=true:=hfe
 have hnl:=(wordP_len hn).2
 rw [tx_length] at hnl
 have hfml:fm.size≤100:=by
  rcases hf with hf | hf
  · rw [←tx_length]
    have:tx fm=[]:=List.isEmpty_iff.1 hf
    rw [this]
    simp
  · rw [←tx_length]
    exact plain_len hf
 have hfbl:∀f∈fb,f.size≤100:=fun f hf=>by
  rw [←tx_length]
  exact plain_len (hfe f hf)
 have hlf:lf=fb.length:=by
  obtain ⟨_,_,e,-⟩:=Rows.form h
  injection e
 have hb0:Below w.heap.size w (w.alloc (.cells #[.int .i64 ty,.string nm,.int .i64 ck,.int .i64 ch,.string fm,.slice Af lf kf] 31)):=(Below.refl _ w).alloc (Nat.le_refl _) _
 have hz:=Whole.new w 31 #[.int .i64 ty,.string nm,.int .i64 ck,.int .i64 ch,.string fm,.slice Af lf kf]
 have HV:=Lib.hid (And.intro (h.below (hb0.mono hbase)) (And.intro hlf.symm hfbl))
 have HVW:Hid (TextsV w base (.slice Af lf kf) fb):=Lib.hid h
 have HOWN:Hid (AtO (w.alloc (.cells #[.int .i64 ty,.string nm,.int .i64 ck,.int .i64 ch,.string fm,.slice Af lf kf] 31)) base v L):=Lib.hid (AtO.under hown hb0)
 have HEN:=Lib.hid (hE.under hb0)
 have HBX:=Lib.hid hz
 have HGR:Hid (Grew w v (w.alloc (.cells #[.int .i64 ty,.string nm,.int .i64 ck,.int .i64 ch,.string fm,.slice Af lf kf] 31)) v):=Lib.hid ((Grew.refl w v).under hb0)
 have HFIN:Hid (attrsC ⟨ty,nm,ck,ch,fm,fb⟩=⟨bs nCodec,bs (decI ty++32 :: (tx nm++47 :: (decI ck++(if ch=2 then [47,50] else []))))⟩ :: ((if (tx fm).isEmpty then [] else [⟨bs nFormat,bs (headT ty (tx fm))⟩])++fb.map fun f=>⟨bs nFeedback,bs (headT ty (tx f))⟩)):=Lib.hid rfl
 have hmt:fm.toList.isEmpty=(tx fm).isEmpty:=by rw [toList_tx]
 have hlf8:lf≤8:=by omega
 obtain ⟨T,hT⟩:∃T,L++attrsC ⟨ty,nm,ck,ch,fm,fb⟩=T:=⟨_,rfl⟩
 obtain ⟨q,hq⟩:∃q,(tx fm).isEmpty=q:=⟨_,rfl⟩
 rw [HFIN.out,hq] at hT
 have HF:=Lib.hid hT.symm
 have hT0:L++attrsC ⟨ty,nm,ck,ch,fm,fb⟩=T:=by rw [HFIN.out,hq];exact hT
 rw [hT0]
 rw [hq] at hmt
 clear hq hT0 hT
 obtain ⟨Av,nv,cv,hv⟩:∃Av nv cv,v=.slice Av nv cv:=by
  obtain ⟨A,c,e,-⟩:=Own.form hown
  exact ⟨A,_,c,e⟩
 clear HFIN hE h hg hb0 hz hown hn hf hfe hfl hlf hfbl
 obtain ⟨N,hN⟩:∃N,w.heap.size=N:=⟨_,rfl⟩
 have HNB0:Hid (base≤w.heap.size):=Lib.hid hbase
 have HNB:Hid (base≤N):=Lib.hid (by omega)
 rw [hN] at HBX
 go_enter Tryz.func49,Tryz.ntmps49
 go_upto_region 1 with fail
 generalize w.alloc (.cells #[.int .i64 ty,.string nm,.int .i64 ck,.int .i64 ch,.string fm,.slice Af lf kf] 31)=W0 at *
 have HN:Hid (N≤W0.heap.size):=Lib.hid (Nat.le_of_lt HBX.out.lt)
 try rw [hN] at HNB
 clear hN
 have k0:W0.cell? ⟨N,0,none⟩=some (.int .i64 ty):=HBX.out.cell 0
 have HIT:Hid (∀n:Int,0≤n→n≤1000000→∀W,Below W0.heap.size W0 W→Calls Tryz.prog 48 #[.int .i64 n] W fun e w'=>e=.returned (.string (bs (decI n)))∧Below W.heap.size W w'):=Lib.hid fun n h0 h1 W hW=>itoa_any n W (HEN.out.under hW) h0 (by omega)
 have HIT1:=Lib.hid (HIT.out ty ht0 (by omega) W0 (Below.refl _ _))
 have htl:=decI_len (n:=ty) (by omega)
 have hckl:=decI_len (n:=ck) (by omega)
 obtain ⟨dt,hdt⟩:∃a,bs (decI ty)=a:=⟨_,rfl⟩
 obtain ⟨dk,hdk⟩:∃a,bs (decI ck)=a:=⟨_,rfl⟩
 rw [hdt] at htl HIT1
 rw [hdk] at hckl
 have HDT:Hid (tx dt=decI ty):=Lib.hid (by rw [←hdt,tx_bs])
 have HDK:Hid (tx dk=decI ck):=Lib.hid (by rw [←hdk,tx_bs])
 have q1:¬9223372036854775807<dt.size+1:=by omega
 go_upto_region 2 with (go_at_call 48;(with_reducible refine HIT1.out.mono ?_);rintro e w1 ⟨rfl,hb1⟩)
 have H1:Hid (Below W0.heap.size W0 w1):=Lib.hid hb1
 clear hb1 k0 HIT1
 have HKD:Hid (tx (dt++⟨#[32]⟩)=decI ty++[32]):=Lib.hid (by rw [tx_append,HDT.out];rfl)
 have hkd:(dt++⟨#[32]⟩:ByteArray).size≤20:=by rw [←tx_length,tx_append,List.length_append,tx_length];show dt.size+1≤20;omega
 obtain ⟨kd,hkd2⟩:∃a:ByteArray,dt++⟨#[32]⟩=a:=⟨_,rfl⟩
 rw [hkd2] at HKD hkd
 simp only [hkd2]
 clear hkd2 q1 htl hdt
 have HF1:Hid (∀W,Below W0.heap.size W0 W→W.cell? ⟨N,1,none⟩=some (.string nm)):=Lib.hid fun W hW=>(HBX.out.under hW).cell 1
 have HF2:Hid (∀W,Below W0.heap.size W0 W→W.cell? ⟨N,2,none⟩=some (.int .i64 ck)):=Lib.hid fun W hW=>(HBX.out.under hW).cell 2
 have HIT2:Hid (∀W,Below W0.heap.size W0 W→Calls Tryz.prog 48 #[.int .i64 ck] W fun e w'=>e=.returned (.string dk)∧Below W.heap.size W w'):=Lib.hid (by rw [←hdk];exact HIT.out ck (by omega) hk1)
 have HKB:Hid (∀W W',Below W0.heap.size W0 W→Below W.heap.size W W'→Below W0.heap.size W0 W'):=Lib.hid fun W W' h1 h2=>below_chain (Nat.le_refl _) h1 h2
 have HR0:Hid (Below W0.heap.size W0 w1.drew):=Lib.hid H1.out.drew
 have q2:¬9223372036854775807<kd.size+nm.size:=by omega
 have q3:¬9223372036854775807<kd.size+nm.size+1:=by omega
 have q4:¬9223372036854775807<kd.size+nm.size+1+dk.size:=by omega
 clear hdk
 refine wp_region_held_drew (S:=fun W=>Below W0.heap.size W0 W) (by kernel_rfl) HR0.out (fun hHeld=> ?_)
 refine wpAnyH_take (i:=0) (v:=_) rfl (by as_aux_lemma=>kernel_rfl) (by as_aux_lemma=>kernel_rfl) (by as_aux_lemma=>kernel_rfl) (fun _ _ _ h=>h) (Or.inl ⟨by rfl,fun w h=>by have e0:=HF1.out w h;have e1:=HF2.out w h;clear h;go_simp;(try with_reducible rfl)⟩) (by assumption) ?_
 simp only [Act.put,List.getElem_toArray,List.getElem_cons_succ,List.getElem_cons_zero,List.setIfInBounds_toArray,List.set_cons_succ,List.set_cons_zero]
 refine wpAnyH_take (i:=1) (v:=_) rfl (by as_aux_lemma=>kernel_rfl) (by as_aux_lemma=>kernel_rfl) (by as_aux_lemma=>kernel_rfl) (fun _ _ _ h=>h) (Or.inl ⟨by rfl,fun w h=>by have e0:=HF1.out w h;have e1:=HF2.out w h;clear h;go_simp;(try with_reducible rfl)⟩) (by assumption) ?_
 simp only [Act.put,List.getElem_toArray,List.getElem_cons_succ,List.getElem_cons_zero,List.setIfInBounds_toArray,List.set_cons_succ,List.set_cons_zero]
 refine wpAnyH_take (i:=2) (v:=_) rfl (by as_aux_lemma=>kernel_rfl) (by as_aux_lemma=>kernel_rfl) (by as_aux_lemma=>kernel_rfl) (fun _ _ _ h=>h) (Or.inl ⟨by rfl,fun w h=>by have e0:=HF1.out w h;have e1:=HF2.out w h;clear h;go_simp;(try with_reducible rfl)⟩) (by assumption) ?_
 simp only [Act.put,List.getElem_toArray,List.getElem_cons_succ,List.getElem_cons_zero,List.setIfInBounds_toArray,List.set_cons_succ,List.set_cons_zero]
 refine wpAnyH_take (i:=3) (v:=_) rfl (by as_aux_lemma=>kernel_rfl) (by as_aux_lemma=>kernel_rfl) (by as_aux_lemma=>kernel_rfl) (fun _ _ _ h=>h) (Or.inl ⟨by rfl,fun w h=>by have e0:=HF1.out w h;have e1:=HF2.out w h;clear h;go_simp;(try with_reducible rfl)⟩) (by assumption) ?_
 simp only [Act.put,List.getElem_toArray,List.getElem_cons_succ,List.getElem_cons_zero,List.setIfInBounds_toArray,List.set_cons_succ,List.set_cons_zero]
 refine wpAnyH_take (i:=4) (v:=_) rfl (by as_aux_lemma=>kernel_rfl) (by as_aux_lemma=>kernel_rfl) (by as_aux_lemma=>kernel_rfl) (fun _ _ _ h=>h) (Or.inl ⟨by rfl,fun w h=>by have e0:=HF1.out w h;have e1:=HF2.out w h;clear h;go_simp;(try with_reducible rfl)⟩) (by assumption) ?_
 simp only [Act.put,List.getElem_toArray,List.getElem_cons_succ,List.getElem_cons_zero,List.setIfInBounds_toArray,List.set_cons_succ,List.set_cons_zero]
 refine wpAnyH_take (i:=5) (v:=_) rfl (by as_aux_lemma=>kernel_rfl) (by as_aux_lemma=>kernel_rfl) (by as_aux_lemma=>kernel_rfl) (fun _ _ _ h=>h) (Or.inl ⟨by rfl,fun w h=>by have e0:=HF1.out w h;have e1:=HF2.out w h;clear h;go_simp;(try with_reducible rfl)⟩) (by assumption) ?_
 simp only [Act.put,List.getElem_toArray,List.getElem_cons_succ,List.getElem_cons_zero,List.setIfInBounds_toArray,List.set_cons_succ,List.set_cons_zero]
 refine wpAnyH_take (i:=6) (v:=_) rfl (by as_aux_lemma=>kernel_rfl) (by as_aux_lemma=>kernel_rfl) (by as_aux_lemma=>kernel_rfl) (fun _ _ _ h=>h) (Or.inl ⟨by rfl,fun w h=>by have e0:=HF1.out w h;have e1:=HF2.out w h;clear h;go_simp;(try with_reducible rfl)⟩) (by assumption) ?_
 simp only [Act.put,List.getElem_toArray,List.getElem_cons_succ,List.getElem_cons_zero,List.setIfInBounds_toArray,List.set_cons_succ,List.set_cons_zero]
 refine wpAnyH_ready (rs:=[7]) (by as_aux_lemma=>kernel_rfl) (by simp) ?_
 refine AllReadyH.cons (i:=7) rfl (fun K hK=> ?_) AllReadyH.nil
 go_simp
 refine (HIT2.out _ hHeld).mono ?_
 rintro e w4 ⟨rfl,hb4⟩
 refine hK.out _ _ (HKB.out _ _ hHeld hb4) (fun hHeld4=> ?_)
 clear hK K hHeld
 have hHeld:=hHeld4
 clear hHeld4
 refine wpAnyH_take (i:=8) (v:=_) rfl (by as_aux_lemma=>kernel_rfl) (by as_aux_lemma=>kernel_rfl) (by as_aux_lemma=>kernel_rfl) (fun _ _ _ h=>h) (Or.inl ⟨by rfl,fun w h=>by have e0:=HF1.out w h;have e1:=HF2.out w h;clear h;go_simp;(try with_reducible rfl)⟩) (by assumption) ?_
 simp only [Act.put,List.getElem_toArray,List.getElem_cons_succ,List.getElem_cons_zero,List.setIfInBounds_toArray,List.set_cons_succ,List.set_cons_zero]
 refine wpAnyH_take (i:=9) (v:=_) rfl (by as_aux_lemma=>kernel_rfl) (by as_aux_lemma=>kernel_rfl) (by as_aux_lemma=>kernel_rfl) (fun _ _ _ h=>h) (Or.inl ⟨by rfl,fun w h=>by have e0:=HF1.out w h;have e1:=HF2.out w h;clear h;go_simp;(try with_reducible rfl)⟩) (by assumption) ?_
 simp only [Act.put,List.getElem_toArray,List.getElem_cons_succ,List.getElem_cons_zero,List.setIfInBounds_toArray,List.set_cons_succ,List.set_cons_zero]
 refine wpAnyH_done (by as_aux_lemma=>kernel_rfl) ?_ _
 have H2:=Lib.hid hHeld
 clear hHeld HF1 HF2 HIT2 HIT HKB HR0 q2 q3 q4
 have HS1:Hid (tx (kd++nm++⟨#[47]⟩++dk)=decI ty++32 :: (tx nm++47 :: decI ck)):=Lib.hid (by rw [tx_append,tx_append,tx_append,HKD.out,HDK.out];simp [tx])
 have hs1:(kd++nm++⟨#[47]⟩++dk:ByteArray).size≤100:=by rw [←tx_length,tx_append,tx_append,tx_append,List.length_append,List.length_append,List.length_append,tx_length,tx_length,tx_length,tx_length];show kd.size+nm.size+1+dk.size≤100;omega
 generalize (kd++nm++⟨#[47]⟩++dk:ByteArray)=s1 at *
 generalize w4=w2 at *
 have k3:w2.cell? ⟨N,3,none⟩=some (.int .i64 ch):=(HBX.out.under H2.out).cell 3
 go_upto_if 24 with fail
 go_cut [6] from 6 to 26 (fun s6 wc=>∃s:ByteArray,s6=.string s∧s=bs (decI ty++32 :: (tx nm++47 :: (decI ck++(if ch=2 then [47,50] else []))))∧s.size≤110∧w2=wc)
 case first =>
  rcases hch with rfl | rfl
  · go_wp2
    go_meet
    exact ⟨s1,rfl,tx_inj (by rw [HS1.out,tx_bs];simp),by omega,rfl⟩
  · have q5:¬9223372036854775807<s1.size+2:=by omega
    go_wp2
    go_meet
    exact ⟨_,rfl,tx_inj (by rw [tx_append,HS1.out,tx_bs];simp [tx]),by rw [←tx_length,tx_append,List.length_append,tx_length];show s1.size+2≤110;omega,rfl⟩
 case rest =>
  obtain ⟨s2,rfl,hs2,hs2l,rfl⟩:=hcut
  have HGW:Hid (Grew w v w2 v):=Lib.hid (HGR.out.under H2.out)
  have HGX:Hid (∀w9 v9,Grew w2 v w9 v9→Whole w9 N 31 #[.int .i64 ty,.string nm,.int .i64 ck,.int .i64 ch,.string fm,.slice Af lf kf]):=Lib.hid fun w9 v9 hg=>hg.whole (HBX.out.under H2.out) (Own.apart HOWN.out HBX.out (by decide))
  have HOW:Hid (AtO w2 base v L):=Lib.hid (HOWN.out.under H2.out)
  have HVB:Hid (∀k,v.ownBlock=some k→base≤k):=Lib.hid HOWN.out.base
  have HBN:Hid (base≤w2.heap.size):=Lib.hid (by have:=H2.out.size;have:=HN.out;have:=HNB.out;omega)
  have HL0:Hid (L.length≤1000000):=Lib.hid (by omega)
  have HS2:Hid (s2=bs (decI ty++32 :: (tx nm++47 :: (decI ck++(if ch=2 then [47,50] else []))))):=Lib.hid hs2
  clear k3 hs2 hch
  subst hv
  go_upto_region 6 with (at_builtin;refine wpList_addA rfl (.tmp 27) (.tmp 30) rfl rfl rfl HOW.out HL0.out HBN.out ?_;intro v5 w5 ho5 hg5;have HA5:Hid (AtO w5 base v5 (L++[(⟨bs nCodec,s2⟩:AttrS)])∧Grew w2 (.slice Av nv cv) w5 v5):=Lib.hid ⟨ho5,hg5⟩;clear ho5 hg5)
  have HBX5:Hid (Whole w5 N 31 #[.int .i64 ty,.string nm,.int .i64 ck,.int .i64 ch,.string fm,.slice Af lf kf]):=Lib.hid (HGX.out _ _ HA5.out.2)
  have k4:w5.cell? ⟨N,4,none⟩=some (.string fm):=HBX5.out.cell 4
  obtain ⟨Ax,nx,cx,hvx⟩:∃A n c,v5=.slice A n c:=by
   obtain ⟨A,c,e,-⟩:=Own.form HA5.out.1
   exact ⟨A,_,c,e⟩
  subst hvx
  cases q with
  | true =>
    have HEND:Hid (L++(⟨bs nCodec,bs (decI ty++32 :: (tx nm++47 :: (decI ck++(if ch=2 then [47,50] else []))))⟩ :: ((if true=true then [] else [⟨bs nFormat,bs (headT ty (tx fm))⟩])++fb.map fun f=>(⟨bs nFeedback,bs (headT ty (tx f))⟩:AttrS)))=(L++[(⟨bs nCodec,s2⟩:AttrS)])++fb.map fun f=>⟨bs nFeedback,bs (headT ty (tx f))⟩):=Lib.hid (by rw [HS2.out];simp)
    have HLN:Hid ((L++[(⟨bs nCodec,s2⟩:AttrS)]).length≤900002):=Lib.hid (by rw [List.length_append];simp;omega)
    have k5:w5.cell? ⟨N,5,none⟩=some (.slice Af lf kf):=HBX5.out.cell 5
    go_wp2
    go_loopw [46,0] (fun s46 s0 wr=>∃k:Nat,k≤lf∧s46=.int .i64 k∧(AtO wr base s0 ((L++[(⟨bs nCodec,s2⟩:AttrS)])++(fb.take k).map fun f=>⟨bs nFeedback,bs (headT ty (tx f))⟩)∧Grew w2 (.slice Av nv cv) wr s0)) (fun s46 _ _=>lf - (intOf s46).toNat)
    case atStart=>exact ⟨0,by omega,rfl,by simpa using HA5.out.1,HA5.out.2⟩
    case round =>
     obtain ⟨k,hk,rfl,hst⟩:=hrel
     have HS:=Lib.hid hst
     clear hst
     have HBL:Hid (Below base w wr):=Lib.hid ((HGW.out.trans HS.out.2).below HVB.out HNB0.out)
     by_cases hlt:k<lf
     · have hlt':k<fb.length:=by rw [HV.out.2.1];exact hlt
       obtain ⟨ad,c',e1,had,d0⟩:=(HVW.out.below HBL.out).at_ hlt'
       injection e1 with e1 e1n e1c
       clear e1n e1c
       subst e1
       have hfs:=HV.out.2.2 _ (getD_mem hlt')
       have HTK:Hid (((fb.take (k+1)).map fun f=>(⟨bs nFeedback,bs (headT ty (tx f))⟩:AttrS))=((fb.take k).map fun f=>⟨bs nFeedback,bs (headT ty (tx f))⟩)++[⟨bs nFeedback,bs (headT ty (tx (fb.getD k default)))⟩]):=Lib.hid (by rw [List.take_add_one,getD_of hlt'];simp)
       obtain ⟨f,hf⟩:∃f,fb.getD k default=f:=⟨_,rfl⟩
       rw [hf] at d0 hfs HTK
       have hk0':(0:Int)≤(k:Int):=by omega
       have hk1':(k:Int)<(lf:Int):=by omega
       have q9:¬9223372036854775807<kd.size+f.size:=by omega
       have HTX:Hid (kd++f=bs (headT ty (tx f))):=Lib.hid (tx_inj (by rw [tx_append,HKD.out,tx_bs];simp [headT]))
       have HLL:Hid (((L++[(⟨bs nCodec,s2⟩:AttrS)])++(fb.take k).map fun f=>(⟨bs nFeedback,bs (headT ty (tx f))⟩:AttrS)).length≤1000000):=Lib.hid (by
        rw [List.length_append,List.length_map,List.length_take]
        have:=HLN.out
        omega)
       have HNW:Hid (base≤wr.heap.size):=Lib.hid (by have:=HBL.out.size;have:=HNB0.out;omega)
       obtain ⟨Aw,nw,cw,hvw⟩:∃A n c,u0=.slice A n c:=by
        obtain ⟨A,c,e,-⟩:=Own.form HS.out.1
        exact ⟨A,_,c,e⟩
       subst hvw
       clear hf had hlt'
       go_wp2_with (at_builtin;refine wpList_addA rfl (.tmp 50) (.tmp 55) rfl rfl rfl HS.out.1 HLL.out HNW.out ?_;intro v9 w9 ho9 hg9;have HA9:Hid (AtO w9 base v9 ((L++[(⟨bs nCodec,s2⟩:AttrS)])++(fb.take (k+1)).map fun f=>⟨bs nFeedback,bs (headT ty (tx f))⟩)∧Grew w2 (.slice Av nv cv) w9 v9):=Lib.hid ⟨by rw [HTK.out,←List.append_assoc,←HTX.out];exact ho9,HS.out.2.trans hg9⟩;clear ho9 hg9)
       go_roundw
       case rel=>exact ⟨k+1,by omega,by go_num,HA9.out⟩
       case measure=>simp [intOf];omega
     · have e:k=lf:=by omega
       subst e
       have HQ:Hid (AtO wr base u0 ((L++[(⟨bs nCodec,s2⟩:AttrS)])++fb.map fun f=>⟨bs nFeedback,bs (headT ty (tx f))⟩)):=Lib.hid (by
        have:=HS.out.1
        rw [List.take_of_length_le (by rw [HV.out.2.1];exact Nat.le_refl _)] at this
        exact this)
       go_wp2
       go_ret
       exact ⟨_,rfl,by rw [HF.out,HEND.out];exact HQ.out,HGW.out.trans HS.out.2⟩
  | false =>
    have q7:¬9223372036854775807<kd.size+fm.size:=by omega
    have HTF:Hid (kd++fm=bs (headT ty (tx fm))):=Lib.hid (tx_inj (by rw [tx_append,HKD.out,tx_bs];simp [headT]))
    have HL5:Hid ((L++[(⟨bs nCodec,s2⟩:AttrS)]).length≤1000000):=Lib.hid (by rw [List.length_append];simp;omega)
    have HN5:Hid (base≤w5.heap.size):=Lib.hid (by have:=HA5.out.2.only.size;have:=HBN.out;omega)
    go_upto_region 8 with (at_builtin;refine wpList_addA rfl (.tmp 35) (.tmp 41) rfl rfl rfl HA5.out.1 HL5.out HN5.out ?_;intro v6 w6 ho6 hg6;have HA6:Hid (AtO w6 base v6 (L++[(⟨bs nCodec,s2⟩:AttrS)]++[(⟨bs nFormat,kd++fm⟩:AttrS)])∧Grew w2 (.slice Av nv cv) w6 v6):=Lib.hid ⟨ho6,HA5.out.2.trans hg6⟩;clear ho6 hg6)
    obtain ⟨Ay,ny,cy,hvy⟩:∃A n c,v6=.slice A n c:=by
     obtain ⟨A,c,e,-⟩:=Own.form HA6.out.1
     exact ⟨A,_,c,e⟩
    subst hvy
    have HEND:Hid (L++(⟨bs nCodec,bs (decI ty++32 :: (tx nm++47 :: (decI ck++(if ch=2 then [47,50] else []))))⟩ :: ((if false=true then [] else [⟨bs nFormat,bs (headT ty (tx fm))⟩])++fb.map fun f=>(⟨bs nFeedback,bs (headT ty (tx f))⟩:AttrS)))=(L++[(⟨bs nCodec,s2⟩:AttrS)]++[(⟨bs nFormat,kd++fm⟩:AttrS)])++fb.map fun f=>⟨bs nFeedback,bs (headT ty (tx f))⟩):=Lib.hid (by rw [HS2.out,HTF.out];simp)
    have HLN:Hid ((L++[(⟨bs nCodec,s2⟩:AttrS)]++[(⟨bs nFormat,kd++fm⟩:AttrS)]).length≤900002):=Lib.hid (by rw [List.length_append,List.length_append];simp;omega)
    have k5:w6.cell? ⟨N,5,none⟩=some (.slice Af lf kf):=(HGX.out _ _ HA6.out.2).cell 5
    go_wp2
    go_loopw [46,0] (fun s46 s0 wr=>∃k:Nat,k≤lf∧s46=.int .i64 k∧(AtO wr base s0 ((L++[(⟨bs nCodec,s2⟩:AttrS)]++[(⟨bs nFormat,kd++fm⟩:AttrS)])++(fb.take k).map fun f=>⟨bs nFeedback,bs (headT ty (tx f))⟩)∧Grew w2 (.slice Av nv cv) wr s0)) (fun s46 _ _=>lf - (intOf s46).toNat)
    case atStart=>exact ⟨0,by omega,rfl,by simpa using HA6.out.1,HA6.out.2⟩
    case round =>
     obtain ⟨k,hk,rfl,hst⟩:=hrel
     have HS:=Lib.hid hst
     clear hst
     have HBL:Hid (Below base w wr):=Lib.hid ((HGW.out.trans HS.out.2).below HVB.out HNB0.out)
     by_cases hlt:k<lf
     · have hlt':k<fb.length:=by rw [HV.out.2.1];exact hlt
       obtain ⟨ad,c',e1,had,d0⟩:=(HVW.out.below HBL.out).at_ hlt'
       injection e1 with e1 e1n e1c
       clear e1n e1c
       subst e1
       have hfs:=HV.out.2.2 _ (getD_mem hlt')
       have HTK:Hid (((fb.take (k+1)).map fun f=>(⟨bs nFeedback,bs (headT ty (tx f))⟩:AttrS))=((fb.take k).map fun f=>⟨bs nFeedback,bs (headT ty (tx f))⟩)++[⟨bs nFeedback,bs (headT ty (tx (fb.getD k default)))⟩]):=Lib.hid (by rw [List.take_add_one,getD_of hlt'];simp)
       obtain ⟨f,hf⟩:∃f,fb.getD k default=f:=⟨_,rfl⟩
       rw [hf] at d0 hfs HTK
       have hk0':(0:Int)≤(k:Int):=by omega
       have hk1':(k:Int)<(lf:Int):=by omega
       have q9:¬9223372036854775807<kd.size+f.size:=by omega
       have HTX:Hid (kd++f=bs (headT ty (tx f))):=Lib.hid (tx_inj (by rw [tx_append,HKD.out,tx_bs];simp [headT]))
       have HLL:Hid (((L++[(⟨bs nCodec,s2⟩:AttrS)]++[(⟨bs nFormat,kd++fm⟩:AttrS)])++(fb.take k).map fun f=>(⟨bs nFeedback,bs (headT ty (tx f))⟩:AttrS)).length≤1000000):=Lib.hid (by
        rw [List.length_append,List.length_map,List.length_take]
        have:=HLN.out
        omega)
       have HNW:Hid (base≤wr.heap.size):=Lib.hid (by have:=HBL.out.size;have:=HNB0.out;omega)
       obtain ⟨Aw,nw,cw,hvw⟩:∃A n c,u0=.slice A n c:=by
        obtain ⟨A,c,e,-⟩:=Own.form HS.out.1
        exact ⟨A,_,c,e⟩
       subst hvw
       clear hf had hlt'
       go_wp2_with (at_builtin;refine wpList_addA rfl (.tmp 50) (.tmp 55) rfl rfl rfl HS.out.1 HLL.out HNW.out ?_;intro v9 w9 ho9 hg9;have HA9:Hid (AtO w9 base v9 ((L++[(⟨bs nCodec,s2⟩:AttrS)]++[(⟨bs nFormat,kd++fm⟩:AttrS)])++(fb.take (k+1)).map fun f=>⟨bs nFeedback,bs (headT ty (tx f))⟩)∧Grew w2 (.slice Av nv cv) w9 v9):=Lib.hid ⟨by rw [HTK.out,←List.append_assoc,←HTX.out];exact ho9,HS.out.2.trans hg9⟩;clear ho9 hg9)
       go_roundw
       case rel=>exact ⟨k+1,by omega,by go_num,HA9.out⟩
       case measure=>simp [intOf];omega
     · have e:k=lf:=by omega
       subst e
       have HQ:Hid (AtO wr base u0 ((L++[(⟨bs nCodec,s2⟩:AttrS)]++[(⟨bs nFormat,kd++fm⟩:AttrS)])++fb.map fun f=>⟨bs nFeedback,bs (headT ty (tx f))⟩)):=Lib.hid (by
        have:=HS.out.1
        rw [List.take_of_length_le (by rw [HV.out.2.1];exact Nat.le_refl _)] at this
        exact this)
       go_wp2
       go_ret
       exact ⟨_,rfl,by rw [HF.out,HEND.out];exact HQ.out,HGW.out.trans HS.out.2⟩
end Go.Proofs.YtgnpckelbokniaaGreatDoor
namespace Go.Proofs.YtgnpckelbokniaaGreatDoor
set_option linter.unusedVariables false
set_option linter.unusedSimpArgs false
def sixP (c:UInt8):Nat:=if Lib.indexByte wLetters c=-1 then 63 else (Lib.indexByte wLetters c).toNat
theorem sixP_lt (c:UInt8):sixP c<64:=by
 unfold sixP
 split
 · decide
 · next h =>
   have hge:=Lib.indexByte_ge wLetters c
   obtain ⟨k,hk⟩:∃k:Nat,Lib.indexByte wLetters c=k:=⟨(Lib.indexByte wLetters c).toNat,by omega⟩
   obtain ⟨h1,-⟩:=Lib.indexByte_some hk
   have:k<wLetters.length:=(List.getElem?_eq_some_iff.1 h1).1
   rw [hk]
   exact this
set_option maxRecDepth 100000 in
theorem sixP_letter:∀v,v<64→sixP (letter v)=v:=by
 decide +kernel
def num4 (a b c d:UInt8):Nat:=((sixP a * 64+sixP b) * 64+sixP c) * 64+sixP d
theorem num4_lt (a b c d:UInt8):num4 a b c d<16777216:=by
 have:=sixP_lt a
 have:=sixP_lt b
 have:=sixP_lt c
 have:=sixP_lt d
 unfold num4
 omega
def dec4 (a b c d:UInt8):Tx:=[UInt8.ofNat (num4 a b c d / 65536),UInt8.ofNat (num4 a b c d / 256),UInt8.ofNat (num4 a b c d)]
def decK:Tx→Tx
 | a :: b :: c :: d :: r=>dec4 a b c d++decK r
 | _=>[]
theorem u8_ne7 {n:Nat} {a:UInt8} (h:n % 256=a.toNat):UInt8.ofNat n=a:=by
 apply UInt8.toNat_inj.1
 rw [UInt8.toNat_ofNat']
 exact h
theorem dec4_enc3 (a b c:UInt8) (r:Tx):decK (enc3 a b c++r)=[a,b,c]++decK r:=by
 have h1:=a.toNat_lt
 have h2:=b.toNat_lt
 have h3:=c.toNat_lt
 have hn:=num3_lt a b c
 have e:num4 (letter (num3 a b c / 262144)) (letter (num3 a b c / 4096 % 64)) (letter (num3 a b c / 64 % 64)) (letter (num3 a b c % 64))=num3 a b c:=by
  unfold num4
  rw [sixP_letter _ (by omega),sixP_letter _ (by omega),sixP_letter _ (by omega),sixP_letter _ (by omega)]
  omega
 show dec4 (letter (num3 a b c / 262144)) (letter (num3 a b c / 4096 % 64)) (letter (num3 a b c / 64 % 64)) (letter (num3 a b c % 64))++decK r=_
 unfold dec4
 rw [e,u8_ne7 (a:=a) (by unfold num3;omega),u8_ne7 (a:=b) (by unfold num3;omega),u8_ne7 (a:=c) (by unfold num3;omega)]
theorem decK_encK:∀(t:Nat) (k:Tx),k.length=3 * t→decK (encK k)=k
 | 0,k,h=>by
   obtain rfl:k=[]:=List.eq_nil_of_length_eq_zero (by omega)
   rfl
 | t+1,k,h=>by
   match k,h with
   | a :: b :: c :: r,h =>
     have:=decK_encK t r (by simp at h;omega)
     show decK (enc3 a b c++encK r)=_
     rw [dec4_enc3,this]
     rfl
theorem decK_len:∀(t:Nat) (l:Tx),l.length=4 * t→(decK l).length=3 * t
 | 0,l,h=>by
   obtain rfl:l=[]:=List.eq_nil_of_length_eq_zero (by omega)
   rfl
 | t+1,l,h=>by
   match l,h with
   | a :: b :: c :: d :: r,h =>
     have:=decK_len t r (by simp at h;omega)
     show (dec4 a b c d++decK r).length=_
     rw [List.length_append,this]
     show 3+3 * t=_
     omega
theorem decK_snoc (a b c d:UInt8):∀(t:Nat) (l:Tx),l.length=4 * t→decK (l++[a,b,c,d])=decK l++dec4 a b c d
 | 0,l,h=>by
   obtain rfl:l=[]:=List.eq_nil_of_length_eq_zero (by omega)
   rfl
 | t+1,l,h=>by
   match l,h with
   | x :: y :: z :: u :: r,h =>
     have:=decK_snoc a b c d t r (by simp at h;omega)
     show dec4 x y z u++decK (r++[a,b,c,d])=(dec4 x y z u++decK r)++dec4 a b c d
     rw [this,List.append_assoc]
def keyP (l:Tx):Tx:=if l.length=40 then decK l else List.replicate 30 0
theorem keyP_enc {k:Tx} (h:k.length=30):keyP (encK k)=k:=by
 unfold keyP
 rw [if_pos (by rw [encK_len 10 k (by omega)]),decK_encK 10 k (by omega)]
abbrev wInl:Tx:=[105,110,108,105,110,101,58]
def cryP (l:Tx):CryptoS:=⟨numP (hd l),keyP (Lib.trimPrefix (tl (tl l)) wInl)⟩
def rP:Rdr:=⟨numP,srcP,cryP,fun _=>0⟩
theorem decI_le {n:Int} (h0:0≤n) (h1:n≤1000000):numP (decI n)=n:=by
 unfold decI
 rw [numP_dec (by omega)]
 omega
theorem rP_law:rP.Law where
 num n h:=numP_dec h
 src n h:=srcP_dec h
 cry c h1 h9 hk:=by
  have e1:hd (cryptoT c)=decI c.tag:=hd_at _ _ (decI_32 _)
  have e2:tl (cryptoT c)=wSuite++32 :: (wInl++encK c.key):=tl_at (decI c.tag) (wSuite++32 :: (wInl++encK c.key)) (decI_32 _)
  have e3:tl (tl (cryptoT c))=wInl++encK c.key:=by rw [e2];exact tl_at _ _ (by decide)
  have e4:Lib.trimPrefix (wInl++encK c.key) wInl=encK c.key:=by
   unfold Lib.trimPrefix
   rw [if_pos (by unfold Lib.hasPrefix;simp)]
   rfl
  show cryP (cryptoT c)=c
  unfold cryP
  rw [e1,e3,e4,keyP_enc hk,decI_le (by omega) (by omega)]
 still:=rfl
end Go.Proofs.YtgnpckelbokniaaGreatDoor
namespace Go.Proofs.YtgnpckelbokniaaGreatDoor
open Go.RowKit
set_option linter.unusedVariables false
set_option linter.unusedSimpArgs false
abbrev zKey:Array Value:=#[.int .u8 0,.int .u8 0,.int .u8 0,.int .u8 0,.int .u8 0,.int .u8 0,.int .u8 0,.int .u8 0,.int .u8 0,.int .u8 0,.int .u8 0,.int .u8 0,.int .u8 0,.int .u8 0,.int .u8 0,.int .u8 0,.int .u8 0,.int .u8 0,.int .u8 0,.int .u8 0,.int .u8 0,.int .u8 0,.int .u8 0,.int .u8 0,.int .u8 0,.int .u8 0,.int .u8 0,.int .u8 0,.int .u8 0,.int .u8 0]
def pre4 (l:Tx):Nat:=l.foldl (fun n c=>n * 64+sixP c) 0
theorem pre4_snoc (l:Tx) (c:UInt8):pre4 (l++[c])=pre4 l * 64+sixP c:=by unfold pre4;rw [List.foldl_append];rfl
theorem pre_lt:∀(l:Tx) (acc B:Nat),acc<B→l.foldl (fun n c=>n * 64+sixP c) acc<B * 64 ^ l.length
 | [],acc,B,h=>by simpa using h
 | c :: r,acc,B,h=>by
   have hc:=sixP_lt c
   have:=pre_lt r (acc * 64+sixP c) (B * 64) (by omega)
   rw [List.length_cons,Nat.pow_succ,Nat.mul_comm (64 ^ r.length) 64,←Nat.mul_assoc]
   exact this
theorem pre4_lt (l:Tx):pre4 l<64 ^ l.length:=by
 have:=pre_lt l 0 1 (by decide)
 rw [Nat.one_mul] at this
 exact this
theorem key_set (A:Tx) (k:Nat) (x y z:UInt8) :
 (((keyC (A++List.replicate (k+3) 0)).toArray.setIfInBounds A.length (.int .u8 (x.toNat:Int))).setIfInBounds (A.length+1) (.int .u8 (y.toNat:Int))).setIfInBounds (A.length+2) (.int .u8 (z.toNat:Int))=(keyC (A++[x,y,z]++List.replicate k 0)).toArray:=by
 have e:keyC (A++List.replicate (k+3) 0)=keyC A++(.int .u8 0 :: .int .u8 0 :: .int .u8 0 :: keyC (List.replicate k 0)):=by
  unfold keyC
  rw [List.map_append,List.replicate_succ,List.replicate_succ,List.replicate_succ]
  rfl
 have hl:(keyC A).length=A.length:=by simp [keyC]
 rw [e,List.setIfInBounds_toArray,List.setIfInBounds_toArray,List.setIfInBounds_toArray]
 congr 1
 rw [←hl,List.set_append_right _ _ (Nat.le_refl _),List.set_append_right _ _ (by omega),List.set_append_right _ _ (by omega)]
 rw [Nat.sub_self,show (keyC A).length+1 - (keyC A).length=1 by omega,show (keyC A).length+2 - (keyC A).length=2 by omega]
 unfold keyC
 simp
def mcell (m:MediaS) (vC vE vR vS vY:Value):Array Value:=#[.int .i64 m.kind,.int .i64 m.port,.string m.mid,.int .i64 m.dir,vC,vE,vR,.bool m.sending,vS,vY,.int .i64 m.sctp]
def ccell (c:CodecS) (v:Value):List Value:=[.int .i64 c.type,.string c.name,.int .i64 c.clock,.int .i64 c.chans,.string c.format,v]
def tcell (s:ByteArray):List Value:=[.string s]
def ecell (x:ExtS):List Value:=[.int .i64 x.id,.string x.uri]
def ucell (n:Nat):List Value:=[.int .u32 n]
structure MW (base bm n:Nat) (w:World) (m:MediaS) (cs:List (CodecS×Value)) (vC vE vR vS vY:Value):Prop where
 eqC:m.codecs=cs.map (·.1)
 box:Whole w bm 28 (mcell m vC vE vR vS vY)
 hC:Own w base 31 6 vC (cs.map fun c=>ccell c.1 c.2)
 hF:∀c∈cs,Own w base 9 1 c.2 (c.1.feedback.map tcell)
 hE:Own w base 71 2 vE (m.exts.map ecell)
 hR:Own w base 9 1 vR (m.rids.map tcell)
 hS:Own w base 72 1 vS (m.sources.map ucell)
 hY:Own w base 75 31 vY (m.crypto.map cryC)
 ap:(vR :: cs.map (·.2)).Pairwise fun a b=>a.ownBlock=none∨a.ownBlock≠b.ownBlock
 hbm:base≤bm
 siz:SizM m
 lens:m.codecs.length≤n∧m.exts.length≤n∧m.rids.length≤n∧m.sources.length≤n∧m.crypto.length≤n∧∀c∈m.codecs,c.feedback.length≤n
structure Rdt (base bm:Nat) (w w':World):Prop where
 low:Below base w w'
 kept:∀(g:Nat) (t:TypeId) (cs:Array Value),Whole w g t cs→t≠31→t≠71→t≠9→t≠72→t≠75→g≠bm→Whole w' g t cs
 rest:Go.KeepsOthers w w'
theorem Own.others {w w':World} {base sz:Nat} {e:TypeId} {v:Value} {rs:List (List Value)} (h:Own w base e sz v rs) (hg:w.grownBy w' v.ownBlock):Go.KeepsOthers w w':=Go.KeepsOthers.of_grownBy hg fun j o hj ho=>by
 obtain ⟨cs,hc⟩:=h.whole hj
 rw [show w.heap[j]? = _ from hc] at ho
 cases ho
 rfl
theorem others_under {w w':World} (hb:Below w.heap.size w w'):Go.KeepsOthers w w':=⟨hb.size,fun k o hk _=>(hb.block k (Array.getElem?_eq_some_iff.1 hk).1).trans hk⟩
section
variable {base bm n:Nat} {w w' w2:World} {m:MediaS} {cs:List (CodecS×Value)} {vC vE vR vS vY:Value}
theorem Rdt.refl (base bm:Nat) (w:World):Rdt base bm w w:=⟨Below.refl _ _,fun _ _ _ h _ _ _ _ _ _=>h,Go.KeepsOthers.refl _⟩
theorem Rdt.trans (h:Rdt base bm w w') (k:Rdt base bm w' w2):Rdt base bm w w2:=⟨h.low.trans k.low,fun g t cs hw h1 h2 h3 h4 h5 h6=>k.kept g t cs (h.kept g t cs hw h1 h2 h3 h4 h5 h6) h1 h2 h3 h4 h5 h6,h.rest.trans k.rest⟩
theorem Rdt.under (h:Rdt base bm w w') (hb:Below w'.heap.size w' w2) (hB:base≤w'.heap.size):Rdt base bm w w2:=h.trans ⟨hb.mono hB,fun g t cs hw _ _ _ _ _ _=>hw.under hb,others_under hb⟩
theorem Rdt.cell (h:Rdt base bm w w') (hbm:base≤bm) (i:Nat) (u:Value):Rdt base bm w (w'.setCell ⟨bm,i,none⟩ u):=h.trans ⟨(Below.refl _ _).setCell (p:=⟨bm,i,none⟩) hbm _,fun g t cs hw _ _ _ _ _ h6=>hw.far (p:=⟨bm,i,none⟩) h6 _,Go.KeepsOthers.setCell _ _ _⟩
theorem MW.under (h:MW base bm n w m cs vC vE vR vS vY) (hb:Below w.heap.size w w'):MW base bm n w' m cs vC vE vR vS vY :=
 ⟨h.eqC,h.box.under hb,h.hC.under hb,fun c hc=>(h.hF c hc).under hb,h.hE.under hb,h.hR.under hb,h.hS.under hb,h.hY.under hb,h.ap,h.hbm,h.siz,h.lens⟩
theorem MW.drewN (h:MW base bm n w m cs vC vE vR vS vY) (k:Nat):MW base bm n (w.drewN k) m cs vC vE vR vS vY :=
 ⟨h.eqC,h.box,h.hC,h.hF,h.hE,h.hR,h.hS,h.hY,h.ap,h.hbm,h.siz,h.lens⟩
theorem MW.drew (h:MW base bm n w m cs vC vE vR vS vY):MW base bm n w.drew m cs vC vE vR vS vY :=
 ⟨h.eqC,h.box,h.hC,h.hF,h.hE,h.hR,h.hS,h.hY,h.ap,h.hbm,h.siz,h.lens⟩
theorem MW.cell (h:MW base bm n w m cs vC vE vR vS vY) {m':MediaS} (i:Nat) (u:Value) (hx:(mcell m vC vE vR vS vY).setIfInBounds i u=mcell m' vC vE vR vS vY)
 (h1:m'.codecs=m.codecs) (h2:m'.exts=m.exts) (h3:m'.rids=m.rids) (h4:m'.sources=m.sources) (h5:m'.crypto=m.crypto) (hz:m'.mid.size≤140737488355328):MW base bm n (w.setCell ⟨bm,i,none⟩ u) m' cs vC vE vR vS vY:=by
 refine ⟨by rw [h1];exact h.eqC,?_,h.hC.far (p:=⟨bm,i,none⟩) (h.hC.apart h.box (by decide)) u,fun c hc=>(h.hF c hc).far (p:=⟨bm,i,none⟩) ((h.hF c hc).apart h.box (by decide)) u,?_,?_,?_,?_,h.ap,h.hbm,?_,by rw [h1,h2,h3,h4,h5];exact h.lens⟩
 · rw [←hx]
   exact h.box.set i u
 · rw [h2]
   exact h.hE.far (p:=⟨bm,i,none⟩) (h.hE.apart h.box (by decide)) u
 · rw [h3]
   exact h.hR.far (p:=⟨bm,i,none⟩) (h.hR.apart h.box (by decide)) u
 · rw [h4]
   exact h.hS.far (p:=⟨bm,i,none⟩) (h.hS.apart h.box (by decide)) u
 · rw [h5]
   exact h.hY.far (p:=⟨bm,i,none⟩) (h.hY.apart h.box (by decide)) u
 · obtain ⟨z1,z2,z3,z4,z5,⟨z6,z7⟩,z8⟩:=h.siz
   exact ⟨hz,by rw [h1];exact z2,by rw [h1];exact z3,by rw [h2];exact z4,by rw [h3];exact z5,⟨by rw [h4];exact z6,by rw [h5];exact z7⟩,by rw [h1,h2,h3,h4,h5];exact z8⟩
theorem MW.media (h:MW base bm n w m cs vC vE vR vS vY):MediaV w w.heap.size (mcell m vC vE vR vS vY) m vC vE vR vS vY:=by
 refine ⟨rfl,?_,?_,?_,?_,?_⟩
 · refine h.hC.rows (L:=m.codecs) (Nat.le_refl _) (by rw [h.eqC];simp) (fun i r x f hr hx hf=> ?_)
   rw [h.eqC,List.getElem?_map] at hx
   rw [List.getElem?_map] at hr
   cases hc:cs[i]? with
   | none=>rw [hc] at hx;cases hx
   | some c =>
     rw [hc] at hx hr
     obtain rfl:c.1=x:=by simpa using hx
     obtain rfl:ccell c.1 c.2=r:=by simpa using hr
     refine ⟨hf 0 (by decide),hf 1 (by decide),hf 2 (by decide),hf 3 (by decide),hf 4 (by decide),c.2,hf 5 (by decide),?_⟩
     refine (h.hF c (List.mem_of_getElem? hc)).rows (L:=c.1.feedback) (Nat.le_refl _) (by simp) (fun i r x f hr hx hf=> ?_)
     rw [List.getElem?_map,hx] at hr
     obtain rfl:tcell x=r:=by simpa using hr
     exact hf 0 (by decide)
 · refine h.hE.rows (L:=m.exts) (Nat.le_refl _) (by simp) (fun i r x f hr hx hf=> ?_)
   rw [List.getElem?_map,hx] at hr
   obtain rfl:ecell x=r:=by simpa using hr
   exact ⟨hf 0 (by decide),hf 1 (by decide)⟩
 · refine h.hR.rows (L:=m.rids) (Nat.le_refl _) (by simp) (fun i r x f hr hx hf=> ?_)
   rw [List.getElem?_map,hx] at hr
   obtain rfl:tcell x=r:=by simpa using hr
   exact hf 0 (by decide)
 · refine h.hS.rows (L:=m.sources) (Nat.le_refl _) (by simp) (fun i r x f hr hx hf=> ?_)
   rw [List.getElem?_map,hx] at hr
   obtain rfl:ucell x=r:=by simpa using hr
   exact hf 0 (by decide)
 · refine h.hY.rows (L:=m.crypto) (Nat.le_refl _) (by simp) (fun i r x f hr hx hf=> ?_)
   rw [List.getElem?_map,hx] at hr
   obtain rfl:cryC x=r:=by simpa using hr
   exact ⟨h.siz.typed.2 x (List.mem_of_getElem? hx),fun j hj=>hf j hj⟩
end
def RdO (base bm n:Nat) (w:World) (m':MediaS) (e:Ending) (w':World):Prop:=e=.returned (.tuple #[])∧(∃cs vC vE vR vS vY,MW base bm n w' m' cs vC vE vR vS vY)∧Rdt base bm w w'
set_option maxHeartbeats 800000 in
theorem readMid_any (base bm n:Nat) (s:ByteArray) (m:MediaS) (cs:List (CodecS×Value)) (vC vE vR vS vY:Value) (w:World) (h:MW base bm n w m cs vC vE vR vS vY) (hs:s.size≤140737488355328) :
 Calls Tryz.prog 114 #[.pointer (some ⟨bm,0,none⟩),.string s] w (RdO base bm n w {m with mid:=s}):=by
 have e0:w.cell? ⟨bm,2,none⟩=some (.string m.mid):=h.box.cell 2
 have q0:=h.box.frz
 have HF:=Lib.hid (h.cell (m':={m with mid:=s}) 2 (.string s) rfl rfl rfl rfl rfl rfl hs)
 have HR:=Lib.hid ((Rdt.refl base bm w).cell h.hbm 2 (.string s))
 clear h
 go_enter Tryz.func114,Tryz.ntmps114
 go_wp2
 go_end0
 exact ⟨rfl,⟨_,_,_,_,_,_,HF.out⟩,HR.out⟩
set_option maxHeartbeats 800000 in
theorem readNothing_any (base bm n:Nat) (s:ByteArray) (m:MediaS) (cs:List (CodecS×Value)) (vC vE vR vS vY:Value) (w:World) (h:MW base bm n w m cs vC vE vR vS vY) :
 Calls Tryz.prog 120 #[.pointer (some ⟨bm,0,none⟩),.string s] w (RdO base bm n w m):=by
 have HF:=Lib.hid h
 clear h
 go_enter Tryz.func120,Tryz.ntmps120
 go_wp2
 go_end0
 exact ⟨rfl,⟨_,_,_,_,_,_,HF.out⟩,Rdt.refl _ _ _⟩
set_option maxHeartbeats 800000 in
theorem readSctp_any (base bm n:Nat) (s:ByteArray) (m:MediaS) (cs:List (CodecS×Value)) (vC vE vR vS vY:Value) (w:World) (h:MW base bm n w m cs vC vE vR vS vY) (hE:EnvR w) (hs:s.size≤281474976710656) :
 Calls Tryz.prog 123 #[.pointer (some ⟨bm,0,none⟩),.string s] w (RdO base bm n w {m with sctp:=numP (tx s)}):=by
 have HN:=Lib.hid (number_any s w hE hs)
 have HM:=Lib.hid h
 have hbw:base≤w.heap.size:=Nat.le_trans h.hbm (Nat.le_of_lt h.box.lt)
 have HX:Hid (∀w1,Below w.heap.size w w1→(∃cs vC vE vR vS vY,MW base bm n (w1.setCell ⟨bm,10,none⟩ (.int .i64 (numP (tx s)))) {m with sctp:=numP (tx s)} cs vC vE vR vS vY)∧Rdt base bm w (w1.setCell ⟨bm,10,none⟩ (.int .i64 (numP (tx s))))):=Lib.hid fun w1 hb =>
  ⟨⟨_,_,_,_,_,_,(HM.out.under hb).cell (m':={m with sctp:=numP (tx s)}) 10 _ rfl rfl rfl rfl rfl rfl HM.out.siz.mid⟩,(((Rdt.refl base bm w).under hb hbw).cell HM.out.hbm 10 _)⟩
 have HC:Hid (∀w1,Below w.heap.size w w1→w1.cell? ⟨bm,10,none⟩=some (.int .i64 m.sctp)∧∀i,w1.frozen? ⟨bm,i,none⟩=false):=Lib.hid fun w1 hb=>⟨(HM.out.under hb).box.cell 10,(HM.out.under hb).box.frz⟩
 generalize numP (tx s)=k at *
 clear h hE
 go_enter Tryz.func123,Tryz.ntmps123
 go_wp2_with (go_at_call 54;(with_reducible refine HN.out.mono ?_);rintro e w1 ⟨rfl,hb1⟩;have H1:=Lib.hid (HX.out w1 hb1);obtain ⟨c0,q0⟩:=HC.out w1 hb1;clear hb1;dsimp only)
 go_end0
 exact ⟨rfl,H1.out.1,H1.out.2⟩
theorem EnvR.low8 {w w':World} {B:Nat} (h:EnvR w) (hb:Below B w w') (hB:7≤B):EnvR w':=by
 obtain ⟨e1,h1,k1⟩:=h.syn
 obtain ⟨e2,h2,k2⟩:=h.rng
 exact ⟨h.env.low hb hB,⟨e1,(hb.cell (p:=⟨4,0,Option.none⟩) (Nat.lt_of_lt_of_le (show 4<7 by decide) hB)).trans h1,k1⟩,⟨e2,(hb.cell (p:=⟨5,0,Option.none⟩) (Nat.lt_of_lt_of_le (show 5<7 by decide) hB)).trans h2,k2⟩⟩
structure EnvD (w:World):Prop where
 env:EnvR w
 max:MaxL w
 seven:7≤w.heap.size
theorem EnvD.low {w w':World} {B:Nat} (h:EnvD w) (hb:Below B w w') (hB:7≤B):EnvD w' :=
 ⟨h.env.low8 hb hB,h.max.below hb (Nat.lt_of_lt_of_le (by decide) hB),Nat.le_trans h.seven hb.size⟩
theorem EnvD.under {w w':World} (h:EnvD w) (hb:Below w.heap.size w w'):EnvD w':=h.low hb h.seven
theorem trim_any (s:ByteArray) (w:World):Calls Tryz.prog 137 #[.string s,.string ⟨#[45,32]⟩] w fun e w'=>e=.returned (.string (bs (Lib.trimPrefix (tx s) [45,32])))∧w=w' :=
 (Tryz.strings_TrimPrefix s ⟨#[45,32]⟩ w).mono fun _ _ ⟨h1,h2⟩=>⟨h1,h2.symm⟩
theorem trim_len (l p:Tx):(Lib.trimPrefix l p).length≤l.length:=by
 unfold Lib.trimPrefix
 split
 · rw [List.length_drop];omega
 · exact Nat.le_refl _
set_option maxHeartbeats 800000 in
theorem parse64_any (s:ByteArray) (w:World) (hE:EnvR w) (hs:s.size≤281474976710656):Calls Tryz.prog 169 #[.string s,.int .i64 10,.int .i64 64] w fun e w'=>(∃er,e=.returned (.tuple #[.int .u64 (numU (tx s):Nat),er]))∧Below w.heap.size w w':=by
 cases h:Lib.parseUintB 64 s.data.toList with
 | ok v =>
   have hn:numU (tx s)=v:=by
    show (match Lib.parseUintB 64 s.data.toList with | .ok v=>v | Lib.NumEnd.syntax=>0 | .range=>18446744073709551615)=v
    rw [h]
   rw [hn]
   refine (Tryz.strconv_ParseUint_10_at64_ok s (by omega) v h w).mono fun e w' hh=>⟨⟨_,hh.1⟩,?_⟩
   rcases hh.2 with rfl | rfl
   · exact Below.refl _ _
   · exact bytes_below w s
 | range =>
   have hn:numU (tx s)=18446744073709551615:=by
    show (match Lib.parseUintB 64 s.data.toList with | .ok v=>v | Lib.NumEnd.syntax=>0 | .range=>18446744073709551615)=18446744073709551615
    rw [h]
   rw [hn]
   obtain ⟨ev,hv,hev⟩:=hE.rng
   exact (Tryz.strconv_ParseUint_10_at64_range s hs h ev w hv hev).mono fun e w' ⟨N,h1,_,_,h4⟩=>⟨⟨_,h1⟩,h4⟩
 | _ =>
   have hn:numU (tx s)=0:=by
    show (match Lib.parseUintB 64 s.data.toList with | .ok v=>v | Lib.NumEnd.syntax=>0 | .range=>18446744073709551615)=0
    rw [h]
   rw [hn]
   obtain ⟨ev,hv,hev⟩:=hE.syn
   exact (Tryz.strconv_ParseUint_10_at64_syntax s hs h ev w hv hev).mono fun e w' ⟨N,h1,_,_,h4⟩=>⟨⟨_,h1⟩,h4⟩
set_option maxHeartbeats 800000 in
theorem deNumber_any (s:ByteArray) (w:World) (hE:EnvR w) (hs:s.size≤281474976710656):Calls Tryz.prog 138 #[.string s] w fun e w'=>e=.returned (.int .u64 (numU (tx s):Nat))∧Below w.heap.size w w':=by
 have HC:=Lib.hid (parse64_any s w hE hs)
 generalize numU (tx s)=n at *
 go_enter Tryz.func138,Tryz.ntmps138
 go_wp2_with (go_at_call 169;(with_reducible refine HC.out.mono ?_);rintro e w1 ⟨⟨er,rfl⟩,hb1⟩)
 go_ret
 exact ⟨rfl,hb1⟩
set_option maxHeartbeats 3200000 in
theorem readOrigin_any (N g:Nat) (a0 a1:Int) (a2 a3 a4 a5:Value) (s:ByteArray) (w:World) (h:Whole w g 45 #[.int .u64 a0,.int .u64 a1,a2,a3,a4,a5]) (hE:EnvD w) (hN:7≤N) (hg:N≤g) (hs:s.size≤8192) :
 Calls Tryz.prog 81 #[.pointer (some ⟨g,0,none⟩),.string s] w fun e w'=>e=.returned (.tuple #[])∧Whole w' g 45 #[.int .u64 (origP (tx s)).1,.int .u64 (origP (tx s)).2,a2,a3,a4,a5]∧Only (fun k=>k=g) w w':=by
 obtain ⟨t1,ht1⟩:∃t,bs (Lib.trimPrefix (tx s) [45,32])=t:=⟨_,rfl⟩
 have HT:=fun W=>trim_any s W
 rw [ht1] at HT
 have hz1:t1.size≤8192:=by rw [←ht1,bs_size];have:=trim_len (tx s) [45,32];rw [tx_length] at this;omega
 have hc1:=cutS_len [32] (tx t1)
 rw [tx_length] at hc1
 obtain ⟨i1,hi1⟩:∃t,bs (cutS [32] (tx t1)).1=t:=⟨_,rfl⟩
 obtain ⟨r1,hr1⟩:∃t,bs (cutS [32] (tx t1)).2.1=t:=⟨_,rfl⟩
 have hzi:i1.size≤8192:=by rw [←hi1,bs_size];omega
 have hzr:r1.size≤8192:=by rw [←hr1,bs_size];omega
 have hc2:=cutS_len [32] (tx r1)
 rw [tx_length] at hc2
 obtain ⟨i2,hi2⟩:∃t,bs (cutS [32] (tx r1)).1=t:=⟨_,rfl⟩
 have hz2:i2.size≤8192:=by rw [←hi2,bs_size];omega
 have HC1:Hid (∀W,Calls Tryz.prog 75 #[.string t1,.string ⟨#[32]⟩] W fun e w'=>(∃b,e=.returned (.tuple #[.string i1,.string r1,.bool b]))∧Below W.heap.size W w'):=Lib.hid fun W=>(cut1_any t1 32 W (by omega)).mono fun e w' ⟨h1,h2⟩=>⟨⟨(cutS [32] (tx t1)).2.2,by rw [←hi1,←hr1];exact h1⟩,h2⟩
 have HC2:Hid (∀W,Calls Tryz.prog 75 #[.string r1,.string ⟨#[32]⟩] W fun e w'=>(∃r b,e=.returned (.tuple #[.string i2,.string r,.bool b]))∧Below W.heap.size W w'):=Lib.hid fun W=>(cut1_any r1 32 W (by omega)).mono fun e w' ⟨h1,h2⟩=>⟨⟨bs (cutS [32] (tx r1)).2.1,(cutS [32] (tx r1)).2.2,by rw [←hi2];exact h1⟩,h2⟩
 have HO:Hid (origP (tx s)=(numU (tx i1),numU (tx i2))):=Lib.hid (by
  unfold origP
  rw [←hi1,←hi2,←hr1,←ht1,tx_bs,tx_bs,tx_bs,tx_bs])
 rw [HO.out]
 have HN1:Hid (∀W,Below w.heap.size w W→Calls Tryz.prog 138 #[.string i1] W fun e w'=>e=.returned (.int .u64 (numU (tx i1):Nat))∧Below W.heap.size W w'):=Lib.hid fun W hW=>deNumber_any i1 W (hE.under hW).env (by omega)
 have HN2:Hid (∀W,Below w.heap.size w W→Calls Tryz.prog 138 #[.string i2] W fun e w'=>e=.returned (.int .u64 (numU (tx i2):Nat))∧Below W.heap.size W w'):=Lib.hid fun W hW=>deNumber_any i2 W (hE.under hW).env (by omega)
 have HT1:=Lib.hid HT
 have HB:=Lib.hid h
 generalize numU (tx i1)=n1 at *
 generalize numU (tx i2)=n2 at *
 clear HT h hE hN hg hs ht1 hz1 hc1 hi1 hr1 hzi hzr hc2 hi2 hz2 HO
 go_enter Tryz.func81,Tryz.ntmps81
 go_upto_region 1 with (first | (go_at_call 137;(with_reducible refine (HT1.out _).mono ?_);rintro e w1 ⟨rfl,rfl⟩;dsimp only) | (go_at_call 75;(with_reducible refine (HC1.out _).mono ?_);rintro e w2 ⟨⟨b,rfl⟩,hb2⟩;have H2:=Lib.hid hb2;clear hb2;dsimp only))
 go_upto_region 2 with (go_at_call 75;(with_reducible refine (HC2.out _).mono ?_);rintro e w3 ⟨⟨r,b',rfl⟩,hb3⟩;have H3:Hid (Below w.heap.size w w3):=Lib.hid (below_chain (Nat.le_refl _) H2.out hb3);clear hb3;dsimp only)
 go_wp2_with (first | (go_at_call 138;(with_reducible refine (HN1.out _ H3.out).mono ?_);rintro e w4 ⟨rfl,hb4⟩;have H4:Hid (Below w.heap.size w w4):=Lib.hid (below_chain (Nat.le_refl _) H3.out hb4);clear hb4;dsimp only) | (go_at_call 138;(with_reducible refine (HN2.out _ H4.out).mono ?_);rintro e w5 ⟨rfl,hb5⟩;have H5:Hid (Below w.heap.size w w5):=Lib.hid (below_chain (Nat.le_refl _) H4.out hb5);have c0:w5.cell? ⟨g,0,none⟩=some (.int .u64 a0):=(HB.out.under H5.out).cell 0;have q0:=(HB.out.under H5.out).frz;have c1:(w5.setCell ⟨g,0,none⟩ (.int .u64 n1)).cell? ⟨g,1,none⟩=some (.int .u64 a1):=((HB.out.under H5.out).set 0 _).cell 1;have q1:=((HB.out.under H5.out).set 0 (.int .u64 n1)).frz;clear hb5;dsimp only))
 go_end0
 exact ⟨rfl,((HB.out.under H5.out).set 0 _).set 1 _,((under_only (fun k=>k=g) H5.out).setCell (p:=⟨g,0,none⟩) (.inl rfl) _).setCell (p:=⟨g,1,none⟩) (.inl rfl) _⟩
structure DW (T:Nat→Prop) (g:Nat) (w:World) (d:DescS) (vB vM:Value):Prop where
 box:Whole w g 45 #[.int .u64 d.id,.int .u64 d.ver,vB,.string d.name,.string d.pass,vM]
 bun:Held w T (fun W=>TextsV W W.heap.size vB d.bundle)
theorem texts_row {W:World} {g' n:Nat} {ss:List ByteArray} {x:ByteArray} {r:List ByteArray} (h:Whole W g' 9 (ss.map Value.string).toArray) (hs:ss=x :: r) (hn:r.length=n) (hm:n≤maxLen):TextsV W W.heap.size (.slice (some ⟨g',1,none⟩) n n) r:=by
 subst hn
 refine ⟨some ⟨g',1,none⟩,r.length,rfl,Nat.le_refl _,hm,fun e=>by (cases e),fun _=>⟨⟨g',1,none⟩,rfl,h.lt,fun i y hy=> ?_⟩⟩
 show W.cell? (Addr.add ⟨g',1,none⟩ (i * 1+0))=some (.string y)
 rw [Addr.add_lit,h.cell,hs]
 simp only [Nat.mul_one,Nat.add_zero,List.getElem?_toArray,List.map_cons]
 rw [show 1+i=i+1 by omega,List.getElem?_cons_succ,List.getElem?_map,hy]
 rfl
def SplitO (W:World) (s:ByteArray) (e:Ending) (w':World):Prop:=∃(x:ByteArray) (r:List ByteArray) (n:Nat),e=.returned (.slice (some ⟨W.heap.size,0,none⟩) (n+1) (n+1))∧r.length=n∧r=spW (tx s)∧n≤8192∧Whole w' W.heap.size 9 ((x :: r).map Value.string).toArray∧Below W.heap.size W w'
theorem split_rest {ss:List ByteArray} {l:Tx} (h:ss.map tx=wordsS l):∃x r,ss=x :: r∧r=spW l:=by
 cases ss with
 | nil=>exact absurd h.symm (wordsS_ne l)
 | cons x r =>
   refine ⟨x,r,rfl,?_⟩
   unfold spW
   rw [←h,List.map_cons,List.drop_succ_cons,List.drop_zero,List.map_map]
   conv=>lhs;rw [←List.map_id r]
   exact List.map_congr_left fun b _=>(bs_tx b).symm
theorem count_le (s:ByteArray):Lib.countB s ⟨#[32]⟩≤s.size:=by
 have h:Lib.countB s ⟨#[32]⟩=Lib.count s.data.toList [32]:=rfl
 rw [h,Lib.count_one]
 refine Nat.le_trans List.count_le_length ?_
 show s.data.toList.length≤s.data.size
 rw [Array.length_toList]
 exact Nat.le_refl _
theorem splitD_any (s:ByteArray) (w:World) (h:MaxL w) (hs:s.size≤8192):Calls Tryz.prog 139 #[.string s,.string ⟨#[32]⟩] w (SplitO w s):=by
 obtain ⟨m,hm⟩:=h
 refine (Tryz.strings_Split s ⟨#[32]⟩ m w (by omega) hm (by decide)).mono fun e w' ⟨he,hw⟩=> ?_
 subst hw
 obtain ⟨x,r,hss,hr⟩:=split_rest (split_words s)
 have hl:=Lib.splitB_all ⟨#[32]⟩ (by decide) 0 _ s rfl
 have hc:=count_le s
 rw [hss,List.length_cons] at hl
 refine ⟨x,r,r.length,?_,rfl,hr,by omega,?_,(Below.refl _ w).alloc (Nat.le_refl _) _⟩
 · rw [he,hl]
 · rw [←hss]
   exact Whole.new _ _ _
theorem slice_one (a:Option Addr) (n:Nat) (W:World):(Instr.slice 24 (.slice a (n+1) (n+1)) (some (.int .i64 1)) none none).run Tryz.prog W=.ok (.slice (if n=0 then a else a.map (·.add 1)) n n) W:=by
 rw [run_slice_l W 24 a (n+1) (n+1) (show Tryz.prog.underlying 24=some (.slice (Tryz.prog.elem 24)) by kernel_rfl) .i64 1 (by omega) (by omega)]
 rw [show (sizeOf (Tryz.prog.elem 24)).run Tryz.prog W=.ok 1 W by kernel_rfl]
 simp only [Result.andThen_ok,sliced,Int.toNat_one,Nat.mul_one,Nat.add_sub_cancel]
 congr 2
 by_cases h:n=0
 · rw [if_pos (by omega),if_pos h]
 · rw [if_neg (by omega),if_neg h]
theorem texts_rest {W:World} {g' n:Nat} {x:ByteArray} {r:List ByteArray} (h:Whole W g' 9 ((x :: r).map Value.string).toArray) (hn:r.length=n) (hm:n≤8192):TextsV W W.heap.size (.slice (if n=0 then some ⟨g',0,none⟩ else (some (⟨g',0,none⟩:Addr)).map (·.add 1)) n n) r:=by
 by_cases h0:n=0
 · subst h0
   obtain rfl:r=[]:=List.eq_nil_of_length_eq_zero hn
   exact ⟨_,0,rfl,Nat.le_refl _,Nat.zero_le _,fun _=>rfl,fun e=>by simp at e⟩
 · rw [if_neg h0]
   exact texts_row h rfl hn (by unfold maxLen;omega)
theorem held_rest {W:World} {T:Nat→Prop} {g' n:Nat} {x:ByteArray} {r:List ByteArray} (h:Whole W g' 9 ((x :: r).map Value.string).toArray) (hn:r.length=n) (hm:n≤8192) (hg:¬T g'):Held W T (fun W'=>TextsV W' W'.heap.size (.slice (if n=0 then some ⟨g',0,none⟩ else (some (⟨g',0,none⟩:Addr)).map (·.add 1)) n n) r):=fun W' hW=>texts_rest (h.only hW hg) hn hm
theorem rda_else {R:DRdr} {d:DescS} {a:AttrS} (h0:tx a.name≠nGroup) (h1:tx a.name≠nUfrag) (h2:tx a.name≠nPwd):rda R d a=d:=by
 unfold rda
 rw [if_neg h0,if_neg h1,if_neg h2]
set_option maxHeartbeats 6400000 in
set_option maxRecDepth 100000 in
theorem readAttr8_any (T:Nat→Prop) (N g:Nat) (a:AttrS) (d:DescS) (vB vM:Value) (w:World) (h:DW T g w d vB vM) (hTg:T g) (hTl:∀k,T k→k<w.heap.size) (hE:EnvD w) (hN:7≤N) (hg:N≤g) (hs:a.value.size≤8192) :
 Calls Tryz.prog 83 #[.pointer (some ⟨g,0,none⟩),.agg #[.string a.name,.string a.value]] w fun e w'=>e=.returned (.tuple #[])∧(∃vB',DW T g w' (rda dP d a) vB' vM)∧Only (fun k=>k=g) w w':=by
 have hb0:Below w.heap.size w (w.alloc (.cells #[.string a.name,.string a.value] 65)):=(Below.refl _ w).alloc (Nat.le_refl _) _
 have HSP:Hid (∀W,Below w.heap.size w W→Calls Tryz.prog 139 #[.string a.value,.string ⟨#[32]⟩] W (SplitO W a.value)):=Lib.hid fun W hW=>splitD_any _ W (hE.under hW).max hs
 have HTG:Hid (∀k,k=g→T k):=Lib.hid fun k e=>by rw [e];exact hTg
 have HTL:Hid (∀k,T k→k<(w.alloc (.cells #[.string a.name,.string a.value] 65)).heap.size):=Lib.hid fun k hk=>by rw [World.size_alloc];have:=hTl k hk;omega
 have H0:=Lib.hid (And.intro hb0 (And.intro (Whole.new w 65 #[.string a.name,.string a.value]) (h.box.alloc (.cells #[.string a.name,.string a.value] 65))))
 have HW0:=Lib.hid h
 have HG:Hid ((a.name.toList == [103,114,111,117,112])=true↔tx a.name=nGroup):=Lib.hid (by rw [beq_iff_eq,toList_tx])
 have HU:Hid ((a.name.toList == [105,99,101,45,117,102,114,97,103])=true↔tx a.name=nUfrag):=Lib.hid (by rw [beq_iff_eq,toList_tx])
 have HP:Hid ((a.name.toList == [105,99,101,45,112,119,100])=true↔tx a.name=nPwd):=Lib.hid (by rw [beq_iff_eq,toList_tx])
 have HRG:Hid (tx a.name=nGroup→rda dP d a={d with bundle:=spW (tx a.value)}):=Lib.hid fun e=>by unfold rda;rw [if_pos e];rfl
 have HRU:Hid (tx a.name≠nGroup→tx a.name=nUfrag→rda dP d a={d with name:=a.value}):=Lib.hid fun e1 e=>by unfold rda;rw [if_neg e1,if_pos e]
 have HRP:Hid (tx a.name≠nGroup→tx a.name≠nUfrag→tx a.name=nPwd→rda dP d a={d with pass:=a.value}):=Lib.hid fun e1 e2 e=>by unfold rda;rw [if_neg e1,if_neg e2,if_pos e]
 have HRE:Hid (tx a.name≠nGroup→tx a.name≠nUfrag→tx a.name≠nPwd→rda dP d a=d):=Lib.hid fun e1 e2 e=>rda_else e1 e2 e
 obtain ⟨nm,hnm⟩:∃x,a.name=x:=⟨_,rfl⟩
 obtain ⟨vl,hvl⟩:∃x,a.value=x:=⟨_,rfl⟩
 obtain ⟨d',hd'⟩:∃x,rda dP d a=x:=⟨_,rfl⟩
 rw [hnm,hvl] at H0 HTL
 rw [hnm] at HG HU HP HRG HRU HRP HRE
 rw [hvl] at HSP HRG HRU HRP
 rw [hd'] at HRG HRU HRP HRE
 rw [hnm,hvl,hd']
 have HO0:Hid (Only (fun k=>k=g) w (w.alloc (.cells #[.string nm,.string vl] 65))):=Lib.hid ((Only.refl (fun k=>k=g) w).alloc _)
 clear h hTg hTl hE hN hg hs hb0 hnm hvl hd'
 go_enter Tryz.func83,Tryz.ntmps83
 go_upto_region 1 with fail
 generalize w.alloc (.cells #[.string nm,.string vl] 65)=w0 at *
 generalize w.heap.size=b0 at *
 have e0:w0.cell? ⟨b0,0,none⟩=some (.string nm):=H0.out.2.1.cell 0
 have e1:w0.cell? ⟨b0,1,none⟩=some (.string vl):=H0.out.2.1.cell 1
 obtain ⟨qa,hqa⟩:∃q,(nm.toList == [103,114,111,117,112])=q:=⟨_,rfl⟩
 rw [hqa] at HG
 go_upto_if 6 with fail
 clear hqa
 cases qa with
 | true =>
   have hR:=HRG.out (HG.out.1 rfl)
   subst hR
   go_wp2_with (go_at_call 139;go_loud ((with_reducible refine (HSP.out _ H0.out.1).mono ?_);rintro e w2 ⟨x,r,n,rfl,hn,hr,h8,hw2,hb2⟩;obtain ⟨AS,hAS⟩:∃A,(if n=0 then some (⟨w0.heap.size,0,none⟩:Addr) else (some (⟨w0.heap.size,0,none⟩:Addr)).map (·.add 1))=A:=⟨_,rfl⟩;have hsl:∀W,(Instr.slice 24 (.slice (some ⟨w0.heap.size,0,none⟩) (n+1) (n+1)) (some (.int .i64 1)) none none).run Tryz.prog W=.ok (.slice AS n n) W:=(fun W=>by rw [slice_one,hAS]);have HF:Hid (DW T g (w2.setCell ⟨g,2,none⟩ (.slice AS n n)) {d with bundle:=spW (tx vl)} (.slice AS n n) vM∧Only (fun k=>k=g) w (w2.setCell ⟨g,2,none⟩ (.slice AS n n))):=Lib.hid ⟨⟨(H0.out.2.2.under hb2).set 2 _,by rw [←hAS,←hr];exact (held_rest hw2 hn h8 (fun e=>by have:=HTL.out _ e;omega)).turn ((Only.refl (fun k=>k=g) w2).setCell (p:=⟨g,2,none⟩) (.inl rfl) _) HTG.out⟩,(HO0.out.under hb2).setCell (p:=⟨g,2,none⟩) (.inl rfl) _⟩;have c2:w2.cell? ⟨g,2,none⟩=some vB:=(H0.out.2.2.under hb2).cell 2;have q2:=(H0.out.2.2.under hb2).frz 2;clear hn hr h8 hw2 hb2 hAS;dsimp only))
   go_end0
   exact ⟨rfl,⟨_,HF.out.1⟩,HF.out.2⟩
 | false =>
   have HNG:Hid (tx nm≠nGroup):=Lib.hid (fun h=>by have:=HG.out.2 h;cases this)
   obtain ⟨qb,hqb⟩:∃q,(nm.toList == [105,99,101,45,117,102,114,97,103])=q:=⟨_,rfl⟩
   rw [hqb] at HU
   go_upto_if 15 with fail
   clear hqb
   cases qb with
   | true =>
     have hR:=HRU.out HNG.out (HU.out.1 rfl)
     subst hR
     have HF:Hid (DW T g (w0.setCell ⟨g,3,none⟩ (.string vl)) {d with name:=vl} vB vM∧Only (fun k=>k=g) w (w0.setCell ⟨g,3,none⟩ (.string vl))):=Lib.hid ⟨⟨H0.out.2.2.set 3 _,HW0.out.bun.turn (HO0.out.setCell (p:=⟨g,3,none⟩) (.inl rfl) _) HTG.out⟩,HO0.out.setCell (p:=⟨g,3,none⟩) (.inl rfl) _⟩
     have c3:w0.cell? ⟨g,3,none⟩=some (.string d.name):=H0.out.2.2.cell 3
     have q3:=H0.out.2.2.frz 3
     go_wp2
     go_end0
     exact ⟨rfl,⟨_,HF.out.1⟩,HF.out.2⟩
   | false =>
     have HNU:Hid (tx nm≠nUfrag):=Lib.hid (fun h=>by have:=HU.out.2 h;cases this)
     obtain ⟨qc,hqc⟩:∃q,(nm.toList == [105,99,101,45,112,119,100])=q:=⟨_,rfl⟩
     rw [hqc] at HP
     go_upto_if 22 with fail
     clear hqc
     cases qc with
     | true =>
       have hR:=HRP.out HNG.out HNU.out (HP.out.1 rfl)
       subst hR
       have HF:Hid (DW T g (w0.setCell ⟨g,4,none⟩ (.string vl)) {d with pass:=vl} vB vM∧Only (fun k=>k=g) w (w0.setCell ⟨g,4,none⟩ (.string vl))):=Lib.hid ⟨⟨H0.out.2.2.set 4 _,HW0.out.bun.turn (HO0.out.setCell (p:=⟨g,4,none⟩) (.inl rfl) _) HTG.out⟩,HO0.out.setCell (p:=⟨g,4,none⟩) (.inl rfl) _⟩
       have c4:w0.cell? ⟨g,4,none⟩=some (.string d.pass):=H0.out.2.2.cell 4
       have q4:=H0.out.2.2.frz 4
       go_wp2
       go_end0
       exact ⟨rfl,⟨_,HF.out.1⟩,HF.out.2⟩
     | false =>
       have HNP:Hid (tx nm≠nPwd):=Lib.hid (fun h=>by have:=HP.out.2 h;cases this)
       have hR:=HRE.out HNG.out HNU.out HNP.out
       subst hR
       have HF:Hid (DW T g w0 d' vB vM∧Only (fun k=>k=g) w w0):=Lib.hid ⟨⟨H0.out.2.2,HW0.out.bun.turn HO0.out HTG.out⟩,HO0.out⟩
       go_wp2
       go_end0
       exact ⟨rfl,⟨_,HF.out.1⟩,HF.out.2⟩
theorem take_knownT {L:List AttrS} {k:Nat} {a:AttrS} (h:L[k]? = some a) (hk:knownD a=true):(L.take (k+1)).filter knownD=(L.take k).filter knownD++[a]:=by
 rw [List.take_add_one,h,List.filter_append]
 simp [hk]
theorem take_knownF {L:List AttrS} {k:Nat} {a:AttrS} (h:L[k]? = some a) (hk:knownD a=false):(L.take (k+1)).filter knownD=(L.take k).filter knownD:=by
 rw [List.take_add_one,h,List.filter_append]
 simp [hk]
theorem name_cases (nm:ByteArray) (vl:ByteArray):((nm.toList == [103,114,111,117,112])=true∧knownD ⟨nm,vl⟩=true)∨((nm.toList == [103,114,111,117,112])=false∧(nm.toList == [105,99,101,45,117,102,114,97,103])=true∧knownD ⟨nm,vl⟩=true) ∨
 ((nm.toList == [103,114,111,117,112])=false∧(nm.toList == [105,99,101,45,117,102,114,97,103])=false∧(nm.toList == [105,99,101,45,112,119,100])=true∧knownD ⟨nm,vl⟩=true) ∨
 ((nm.toList == [103,114,111,117,112])=false∧(nm.toList == [105,99,101,45,117,102,114,97,103])=false∧(nm.toList == [105,99,101,45,112,119,100])=false∧knownD ⟨nm,vl⟩=false):=by
 unfold knownD
 simp only [List.contains_cons,List.contains_nil,Bool.or_false,toList_tx]
 cases h1:(tx nm == nGroup) <;> cases h2:(tx nm == nUfrag) <;> cases h3:(tx nm == nPwd) <;> simp
set_option maxHeartbeats 6400000 in
set_option maxRecDepth 100000 in
theorem knownD_any (v:Value) (L:List AttrS) (w:World) (h:AttrsV w w.heap.size v L) (hl:L.length≤64) :
 Calls Tryz.prog 82 #[v] w fun e w'=>∃v',e=.returned v'∧AtO w' w.heap.size v' (L.filter knownD)∧Below w.heap.size w w':=by
 obtain ⟨A,c,rfl,hc,hm,-⟩:=h.form
 obtain ⟨N,hN⟩:∃N,w.heap.size=N:=⟨_,rfl⟩
 have HN:=Lib.hid hN
 have H:=Lib.hid h
 obtain ⟨n,hn⟩:∃n,L.length=n:=⟨_,rfl⟩
 have HNN:=Lib.hid hn
 rw [hn] at hc hl ⊢
 clear h hn hN
 unfold maxLen at hm
 have H0:Hid (Own w N 65 2 (.slice none 0 0) (([]:List AttrS).map acell)):=Lib.hid (Own.nil _ _ _ _)
 go_enter Tryz.func82,Tryz.ntmps82
 go_wp2
 go_loopw [3,8] (fun s3 s8 wr=>∃k:Nat,k≤n∧s8=.int .i64 k∧Own wr N 65 2 s3 (((L.take k).filter knownD).map acell)∧Below N w wr) (fun _ s8 _=>n - (intOf s8).toNat)
 case atStart=>exact ⟨0,Nat.zero_le _,rfl,by rw [List.take_zero];exact H0.out,Below.refl _ w⟩
 case round =>
  clear H0
  obtain ⟨k,hk,rfl,hown,hb⟩:=hrel
  obtain ⟨A3,c3,hv3,-⟩:=hown.form
  have HLE:Hid ((((L.take k).filter knownD).map acell).length≤64):=Lib.hid (by rw [List.length_map];have:=List.length_filter_le knownD (L.take k);rw [List.length_take] at this;omega)
  obtain ⟨l3,hl3⟩:∃l,(((L.take k).filter knownD).map acell).length=l:=⟨_,rfl⟩
  rw [hl3] at hv3
  subst hv3
  have HS:=Lib.hid (And.intro hown hb)
  clear hown hl3
  by_cases hlt:k<n
  · obtain ⟨ad,c',e1,b1,x0,x1⟩:=H.out.at_ (i:=k) (by rw [HNN.out];exact hlt)
    injection e1 with e1 e1n e1c
    clear e1n e1c
    subst e1
    have gL:=getD_of (L:=L) (i:=k) (by rw [HNN.out];exact hlt)
    obtain ⟨a,ha⟩:∃a,L.getD k default=a:=⟨_,rfl⟩
    rw [ha] at x0 x1 gL
    rw [HN.out] at b1
    have x0':=(hb.cell (p:=ad.add (k * 2)) (by rw [add_block];exact b1)).trans x0
    have x1':=(hb.cell (p:=⟨(ad.add (k * 2)).block,(ad.add (k * 2)).off+1,none⟩) (by show (ad.add (k * 2)).block<_;rw [add_block];exact b1)).trans x1
    have HG:=Lib.hid gL
    have hNr:N≤wr.heap.size:=by have:=hb.size;rw [HN.out] at this;exact this
    have hal:=(hb.alloc hNr (.cells #[.string ⟨#[]⟩,.string ⟨#[]⟩] 65))
    have hw1:Whole (wr.alloc (.cells #[.string ⟨#[]⟩,.string ⟨#[]⟩] 65)) wr.heap.size 65 #[.string ⟨#[]⟩,.string ⟨#[]⟩]:=Whole.new _ _ _
    have HW1:=Lib.hid hw1
    obtain ⟨nm,vl⟩:=a
    have H2:Hid (Own ((wr.alloc (.cells #[.string ⟨#[]⟩,.string ⟨#[]⟩] 65)).setRow wr.heap.size #[.string nm,.string vl]) N 65 2 (.slice A3 l3 c3) (((L.take k).filter knownD).map acell)∧Whole ((wr.alloc (.cells #[.string ⟨#[]⟩,.string ⟨#[]⟩] 65)).setRow wr.heap.size #[.string nm,.string vl]) wr.heap.size 65 #[.string nm,.string vl]∧Below N w ((wr.alloc (.cells #[.string ⟨#[]⟩,.string ⟨#[]⟩] 65)).setRow wr.heap.size #[.string nm,.string vl])∧N≤((wr.alloc (.cells #[.string ⟨#[]⟩,.string ⟨#[]⟩] 65)).setRow wr.heap.size #[.string nm,.string vl]).heap.size):=Lib.hid (by
     have hb2:=below_row hal hNr #[.string nm,.string vl]
     refine ⟨(HS.out.1.alloc _).farRow (fun e=> ?_) _,hw1.row _,hb2,by have:=hb2.size;rw [HN.out] at this;exact this⟩
     have:=(HS.out.1.lt e).2
     omega)
    have hk0:(0:Int)≤(k:Int):=by omega
    have hk1:(k:Int)<(n:Int):=by omega
    have e1:IntKind.i64.wrap ((k:Int)+1)=(k:Int)+1:=IntWalk.i64_in _ (by omega)
    clear x0 x1 gL ha b1 hb hNr hal hw1
    simp only at x0' x1'
    go_upto_region 5 with ((with_reducible refine wpList_storeS #[.string nm,.string vl] ?_ 65 (.tmp 5) (.tmp 11) ?_ ?_ ?_ HW1.out Tryz.sizeSAttr ?_ ?_ ?_ ?_);(with_reducible rfl);(with_reducible rfl);rfl;rfl;rfl;rfl;rfl)
    clear x0' x1' HW1
    generalize (wr.alloc (.cells #[.string ⟨#[]⟩,.string ⟨#[]⟩] 65)).setRow wr.heap.size #[.string nm,.string vl]=W2 at *
    generalize wr.heap.size=g at *
    have c0:W2.cell? ⟨g,0,none⟩=some (.string nm):=H2.out.2.1.cell 0
    have c1:W2.cell? ⟨g,1,none⟩=some (.string vl):=H2.out.2.1.cell 1
    have HA:Hid (Own (W2.alloc (.cells #[.string nm,.string vl] 65)) N 65 2 (.slice A3 l3 c3) (((L.take k).filter knownD).map acell)∧Whole (W2.alloc (.cells #[.string nm,.string vl] 65)) W2.heap.size 65 #[.string nm,.string vl]∧Below N w (W2.alloc (.cells #[.string nm,.string vl] 65))∧N≤(W2.alloc (.cells #[.string nm,.string vl] 65)).heap.size):=Lib.hid ⟨H2.out.1.alloc _,Whole.new _ _ _,H2.out.2.2.1.alloc H2.out.2.2.2 _,by rw [World.size_alloc];have:=H2.out.2.2.2;omega⟩
    have HKT:Hid (knownD ⟨nm,vl⟩=true→((L.take k).filter knownD).map acell++[[.string nm,.string vl]]=((L.take (k+1)).filter knownD).map acell):=Lib.hid fun e=>by rw [take_knownT HG.out e,List.map_append];rfl
    have HKF:Hid (knownD ⟨nm,vl⟩=false→((L.take (k+1)).filter knownD)=((L.take k).filter knownD)):=Lib.hid fun e=>take_knownF HG.out e
    rcases name_cases nm vl with ⟨q1,hk⟩ | ⟨q1,q2,hk⟩ | ⟨q1,q2,q3,hk⟩ | ⟨q1,q2,q3,hk⟩
    · have HKN:=Lib.hid (HKT.out hk)
      clear hk HKT HKF HG
      go_wp2_with (at_builtin;refine wpList_appendE (r:=[.string nm,.string vl]) rfl (.tmp 18) (.tmp 20) rfl Tryz.underlying32 Tryz.infoSAttr rfl (Nat.zero_lt_succ _) rfl HA.out.1 rfl HA.out.2.1 rfl (fun u hu=>by simp at hu;rcases hu with rfl | rfl <;> rfl) (by have:=HLE.out;omega) (by have:=HLE.out;omega) HA.out.2.2.2 ?_;intro v6 w6 ho6 hg6 hn6;have HFIN:Hid (Own w6 N 65 2 v6 (((L.take (k+1)).filter knownD).map acell)∧Below N w w6):=Lib.hid ⟨by rw [←HKN.out];exact ho6,HA.out.2.2.1.grown hg6 HA.out.2.2.2 (fun j hj=>(HA.out.1.lt hj).1)⟩;clear ho6 hg6 hn6)
      go_roundw
      case rel=>exact ⟨k+1,by omega,by go_num,HFIN.out.1,HFIN.out.2⟩
      case measure=>simp [intOf];omega
    · have HKN:=Lib.hid (HKT.out hk)
      clear hk HKT HKF HG
      go_wp2_with (at_builtin;refine wpList_appendE (r:=[.string nm,.string vl]) rfl (.tmp 18) (.tmp 20) rfl Tryz.underlying32 Tryz.infoSAttr rfl (Nat.zero_lt_succ _) rfl HA.out.1 rfl HA.out.2.1 rfl (fun u hu=>by simp at hu;rcases hu with rfl | rfl <;> rfl) (by have:=HLE.out;omega) (by have:=HLE.out;omega) HA.out.2.2.2 ?_;intro v6 w6 ho6 hg6 hn6;have HFIN:Hid (Own w6 N 65 2 v6 (((L.take (k+1)).filter knownD).map acell)∧Below N w w6):=Lib.hid ⟨by rw [←HKN.out];exact ho6,HA.out.2.2.1.grown hg6 HA.out.2.2.2 (fun j hj=>(HA.out.1.lt hj).1)⟩;clear ho6 hg6 hn6)
      go_roundw
      case rel=>exact ⟨k+1,by omega,by go_num,HFIN.out.1,HFIN.out.2⟩
      case measure=>simp [intOf];omega
    · have HKN:=Lib.hid (HKT.out hk)
      clear hk HKT HKF HG
      go_wp2_with (at_builtin;refine wpList_appendE (r:=[.string nm,.string vl]) rfl (.tmp 18) (.tmp 20) rfl Tryz.underlying32 Tryz.infoSAttr rfl (Nat.zero_lt_succ _) rfl HA.out.1 rfl HA.out.2.1 rfl (fun u hu=>by simp at hu;rcases hu with rfl | rfl <;> rfl) (by have:=HLE.out;omega) (by have:=HLE.out;omega) HA.out.2.2.2 ?_;intro v6 w6 ho6 hg6 hn6;have HFIN:Hid (Own w6 N 65 2 v6 (((L.take (k+1)).filter knownD).map acell)∧Below N w w6):=Lib.hid ⟨by rw [←HKN.out];exact ho6,HA.out.2.2.1.grown hg6 HA.out.2.2.2 (fun j hj=>(HA.out.1.lt hj).1)⟩;clear ho6 hg6 hn6)
      go_roundw
      case rel=>exact ⟨k+1,by omega,by go_num,HFIN.out.1,HFIN.out.2⟩
      case measure=>simp [intOf];omega
    · have HKN:=Lib.hid (HKF.out hk)
      clear hk HKT HKF HG HA
      go_wp2
      go_roundw
      case rel=>exact ⟨k+1,by omega,by go_num,by rw [HKN.out];exact H2.out.1,H2.out.2.2.1⟩
      case measure=>simp [intOf];omega
  · obtain rfl:k=n:=by omega
    have HT:Hid (L.take k=L):=Lib.hid (List.take_of_length_le (by rw [HNN.out];exact Nat.le_refl _))
    clear hb
    go_wp2
    go_ret
    exact ⟨_,rfl,by rw [HN.out,←HT.out];exact HS.out.1,by rw [HN.out];exact HS.out.2⟩
structure ML where
 m:MediaS
 c:Value
 e:Value
 r:Value
 s:Value
 y:Value
def ML.cells (x:ML):List Value:=[.int .i64 x.m.kind,.int .i64 x.m.port,.string x.m.mid,.int .i64 x.m.dir,x.c,x.e,x.r,.bool x.m.sending,x.s,x.y,.int .i64 x.m.sctp]
def ML.At (x:ML) (W:World):Prop:=MediaV W W.heap.size (mcell x.m x.c x.e x.r x.s x.y) x.m x.c x.e x.r x.s x.y
def TD (T:Nat→Prop) (vM:Value) (k:Nat):Prop:=T k∨vM.ownBlock=some k
structure DM (T:Nat→Prop) (N g:Nat) (w:World) (d:DescS) (xs:List ML) (vB vM:Value):Prop where
 box:Whole w g 45 #[.int .u64 d.id,.int .u64 d.ver,vB,.string d.name,.string d.pass,vM]
 bun:Held w (TD T vM) (fun W=>TextsV W W.heap.size vB d.bundle)
 row:Own w N 28 11 vM (xs.map ML.cells)
 med:∀x∈xs,Held w (TD T vM) x.At
theorem own_medias8 {W:World} {base:Nat} {v:Value} {rs:List (List Value)} {L:List MediaS} (h:Own W base 28 11 v rs) (hl:L.length=rs.length) (hv:∀(i:Nat) (r:List Value) (m:MediaS),rs[i]? = some r→L[i]? = some m→∃vC vE vR vS vY,MediaV W W.heap.size r.toArray m vC vE vR vS vY):MediasV W W.heap.size v L :=
 h.rows (Nat.le_refl _) hl fun i r x f hr hx hf=>by
  obtain ⟨vC,vE,vR,vS,vY,hM⟩:=hv i r x hr hx
  exact ⟨r.toArray,vC,vE,vR,vS,vY,hM,fun j hj=>by rw [hf j hj,List.getElem?_toArray]⟩
theorem MW.only {base bm n:Nat} {w W:World} {m:MediaS} {cs:List (CodecS×Value)} {vC vE vR vS vY:Value} {T:Nat→Prop} (h:MW base bm n w m cs vC vE vR vS vY) (k:Only T w W) (hT:∀j,T j→j<base):MW base bm n W m cs vC vE vR vS vY :=
 ⟨h.eqC,h.box.only k (fun e=>by have:=hT _ e;have:=h.hbm;omega),h.hC.keep fun g c hg hw=>hw.only k (fun e=>by have:=hT _ e;have:=(h.hC.lt hg).1;omega),fun c hc=>(h.hF c hc).keep fun g c' hg hw=>hw.only k (fun e=>by have:=hT _ e;have:=((h.hF c hc).lt hg).1;omega),h.hE.keep fun g c hg hw=>hw.only k (fun e=>by have:=hT _ e;have:=(h.hE.lt hg).1;omega),h.hR.keep fun g c hg hw=>hw.only k (fun e=>by have:=hT _ e;have:=(h.hR.lt hg).1;omega),h.hS.keep fun g c hg hw=>hw.only k (fun e=>by have:=hT _ e;have:=(h.hS.lt hg).1;omega),h.hY.keep fun g c hg hw=>hw.only k (fun e=>by have:=hT _ e;have:=(h.hY.lt hg).1;omega),h.ap,h.hbm,h.siz,h.lens⟩
theorem MW.held {base bm n:Nat} {w:World} {m:MediaS} {cs:List (CodecS×Value)} {vC vE vR vS vY:Value} {T:Nat→Prop} (h:MW base bm n w m cs vC vE vR vS vY) (hT:∀j,T j→j<base):Held w T (ML.At ⟨m,vC,vE,vR,vS,vY⟩):=fun W hW=>(h.only hW hT).media
theorem infoMedia8:(Tryz.prog.info? 28).map (fun i=>(i.zero,i.size,i.bytes))=some (some (.agg #[.int .i64 0,.int .i64 0,.string ⟨#[]⟩,.int .i64 0,.slice none 0 0,.slice none 0 0,.slice none 0 0,.bool false,.slice none 0 0,.slice none 0 0,.int .i64 0]),11,176):=by kernel_rfl
theorem fill_media8:∀(k p d t:Int) (n:ByteArray) (b:Bool) (A1 A2 A3 A4 A5:Option Addr) (l1 l2 l3 l4 l5 c1 c2 c3 c4 c5:Nat),Instr.fill (fun i=>some (i * 11,11)) ((Array.range (1 * 11)).map ((Value.agg #[.int .i64 0,.int .i64 0,.string ⟨#[]⟩,.int .i64 0,.slice none 0 0,.slice none 0 0,.slice none 0 0,.bool false,.slice none 0 0,.slice none 0 0,.int .i64 0]).cells[· % (Value.agg #[.int .i64 0,.int .i64 0,.string ⟨#[]⟩,.int .i64 0,.slice none 0 0,.slice none 0 0,.slice none 0 0,.bool false,.slice none 0 0,.slice none 0 0,.int .i64 0]).cells.size]!)) [(0,.agg #[.int .i64 k,.int .i64 p,.string n,.int .i64 d,.slice A1 l1 c1,.slice A2 l2 c2,.slice A3 l3 c3,.bool b,.slice A4 l4 c4,.slice A5 l5 c5,.int .i64 t])]=some #[.int .i64 k,.int .i64 p,.string n,.int .i64 d,.slice A1 l1 c1,.slice A2 l2 c2,.slice A3 l3 c3,.bool b,.slice A4 l4 c4,.slice A5 l5 c5,.int .i64 t]:=by intros;kernel_rfl
theorem slice_media8 (k p d t:Int) (n:ByteArray) (b:Bool) (A1 A2 A3 A4 A5:Option Addr) (l1 l2 l3 l4 l5 c1 c2 c3 c4 c5:Nat) (w:World):(Instr.buildSlice 43 1 #[(0,.agg #[.int .i64 k,.int .i64 p,.string n,.int .i64 d,.slice A1 l1 c1,.slice A2 l2 c2,.slice A3 l3 c3,.bool b,.slice A4 l4 c4,.slice A5 l5 c5,.int .i64 t])]).run Tryz.prog w=.ok (.slice (some ⟨w.heap.size,0,none⟩) 1 1) (w.alloc (.cells #[.int .i64 k,.int .i64 p,.string n,.int .i64 d,.slice A1 l1 c1,.slice A2 l2 c2,.slice A3 l3 c3,.bool b,.slice A4 l4 c4,.slice A5 l5 c5,.int .i64 t] 28)):=by
 obtain ⟨i0,hi,hz0,hz1,hz2⟩:=info_parts infoMedia8
 refine run_buildSlice w 43 28 1 _ _ i0 _ Tryz.underlying43 hi hz0 (by rw [hz1];decide) (by rw [hz1];decide) ?_
 rw [hz1]
 exact fill_media8 k p d t n b A1 A2 A3 A4 A5 l1 l2 l3 l4 l5 c1 c2 c3 c4 c5
section
variable {T:Nat→Prop} {N g:Nat} {w w':World} {d:DescS} {xs:List ML} {vB vM:Value}
theorem DM.under (h:DM T N g w d xs vB vM) (hb:Below w.heap.size w w'):DM T N g w' d xs vB vM:=⟨h.box.under hb,h.bun.under hb,h.row.under hb,fun x hx=>(h.med x hx).under hb⟩
theorem DM.desc (h:DM T N g w d xs vB vM) (hm:d.media=xs.map ML.m):DescV w w.heap.size #[.int .u64 d.id,.int .u64 d.ver,vB,.string d.name,.string d.pass,vM] d vB vM :=
 ⟨rfl,h.bun.now,own_medias8 h.row (by rw [hm,List.length_map,List.length_map]) fun i r m hr hm'=>by
  rw [hm,List.getElem?_map] at hm'
  rw [List.getElem?_map] at hr
  obtain ⟨x,hx,rfl⟩:=Option.map_eq_some_iff.1 hr
  rw [hx] at hm'
  obtain rfl:=Option.some.inj hm'
  exact ⟨x.c,x.e,x.r,x.s,x.y,(h.med x (List.mem_of_getElem? hx)).now⟩⟩
theorem DM.turn {U:Nat→Prop} (h:DM T N g w d xs vB vM) (k:Only U w w') (hu:∀j,U j→T j∧j≠g∧vM.ownBlock≠some j):DM T N g w' d xs vB vM :=
 ⟨h.box.only k (fun e=>(hu _ e).2.1 rfl),h.bun.step k (fun j hj=>.inl (.inl (hu j hj).1)) (fun j hj=>.inl hj),h.row.keep fun g' c hg hw=>hw.only k (fun e=>(hu _ e).2.2 hg),fun x hx=>(h.med x hx).step k (fun j hj=>.inl (.inl (hu j hj).1)) (fun j hj=>.inl hj)⟩
theorem DW.dm (h:DW T g w d vB (.slice none 0 0)):DM T N g w d [] vB (.slice none 0 0):=⟨h.box,h.bun.mono (fun j hj=>by
 rcases hj with hj | hj
 · exact .inl hj
 · cases hj),Own.nil _ _ _ _,fun x hx=>by cases hx⟩
theorem DM.push {v':Value} {x:ML} (h:DM T N g w d xs vB vM) (hTg:T g) (ho:Own w' N 28 11 v' (xs.map ML.cells++[x.cells])) (hg:w.grownBy w' vM.ownBlock) (hn:v'.ownBlock=vM.ownBlock∨v'.ownBlock=some w.heap.size) (hx:Held w (TD T vM) x.At):DM T N g (w'.setCell ⟨g,5,none⟩ v') d (xs++[x]) vB v':=by
 have hO:Only (TD T vM) w w':=⟨hg.os,hg.tape,hg.output,hg.size,fun k hk hT=>hg.block k hk (fun e=>hT (.inr e.symm))⟩
 have hS:Only (TD T vM) w (w'.setCell ⟨g,5,none⟩ v'):=hO.setCell (p:=⟨g,5,none⟩) (.inl (.inl hTg)) _
 have hs:∀j,TD T v' j→TD T vM j∨w.heap.size≤j:=fun j hj=>by
  rcases hj with hj | hj
  · exact .inl (.inl hj)
  · rcases hn with e | e
    · exact .inl (.inr (by rw [←e];exact hj))
    · refine .inr ?_
      rw [e] at hj
      injection hj with hj
      omega
 have hbx:Whole w' g 45 #[.int .u64 d.id,.int .u64 d.ver,vB,.string d.name,.string d.pass,vM]:=h.box.grown hg (fun e=>h.row.apart h.box (by decide) e.symm)
 refine ⟨hbx.set 5 v',h.bun.step hS (fun j hj=>.inl hj) hs,?_,fun y hy=> ?_⟩
 · rw [List.map_append]
   exact ho.far (p:=⟨g,5,none⟩) (ho.apart hbx (by decide)) _
 · rcases List.mem_append.1 hy with hy | hy
   · exact (h.med y hy).step hS (fun j hj=>.inl hj) hs
   · obtain rfl:=List.mem_singleton.1 hy
     exact hx.step hS (fun j hj=>.inl hj) hs
end
theorem semi_join:∀(R:List ByteArray),R≠[]→Lib.join (R.map (·.data.toList)) [59]=semi R
 | [],h=>(h rfl).elim
 | [a],_=>by
   rw [List.map_cons,List.map_nil,Lib.join_one]
   rfl
 | a :: b :: r,_=>by
   have e:Lib.join ((a :: b :: r).map (·.data.toList)) [59]=a.data.toList++[59]++Lib.join ((b :: r).map (·.data.toList)) [59]:=by
    rw [List.map_cons,List.map_cons,Lib.join_cons,Lib.join_cons]
    simp [Lib.joinTail]
   rw [e,semi_join (b :: r) (by simp)]
   show tx a++[59]++semi (b :: r)=tx a++59 :: semi (b :: r)
   simp
theorem semi_len:∀(R:List ByteArray),(∀r∈R,r.size≤8)→(semi R).length≤9 * R.length
 | [],_=>by simp [semi]
 | [a],h=>by
   have:=h a (by simp)
   show (tx a).length≤9
   rw [tx_length]
   omega
 | a :: b :: r,h=>by
   have h1:=h a (by simp)
   have h2:=semi_len (b :: r) (fun x hx=>h x (by simp at hx ⊢;rcases hx with hx | hx <;> simp [hx]))
   show (tx a++59 :: semi (b :: r)).length≤_
   rw [List.length_append,List.length_cons,tx_length]
   simp only [List.length_cons] at h2 ⊢
   omega
theorem join_any (R:List ByteArray) (v:Value) (w:World) (h:TextsV w w.heap.size v R) (h0:0<R.length) (hl:R.length≤1000) (hj:(semi R).length≤100000) :
 Calls Tryz.prog 84 #[v,.string ⟨#[59]⟩] w fun e w'=>e=.returned (.string (bs (semi R)))∧Below w.heap.size w w':=by
 obtain ⟨A,c,rfl,hc,hm,_,hr⟩:=h
 obtain ⟨ad,rfl,hb,hx⟩:=hr h0
 have hs:ad.spot=none:=by
  have h1:w.cell? (ad.add (0 * 1+0))=_:=hx 0 _ (getD_of h0)
  rw [Nat.zero_mul,Nat.zero_add] at h1
  have h1:w.cell? ad=_:=h1
  unfold World.cell? at h1
  split at h1
  · split at h1
    · cases h1
    · next hn=>simpa using hn
  · cases h1
 obtain ⟨bk,o,sp⟩:=ad
 simp only at hs hb
 subst hs
 have hne:R≠[]:=by rintro rfl;simp at h0
 have hj2:=semi_join R hne
 refine (Tryz.strings_Join bk o c R ⟨#[59]⟩ w (fun j s hs=> ?_) hb (by omega) hc (by show (Lib.join _ [59]).length≤_;rw [hj2];omega)).mono fun e w' h=>⟨?_,h.2⟩
 · have h2:w.cell? ((⟨bk,o,none⟩:Addr).add (j * 1+0))=some (.string s):=hx j s hs
   rw [Nat.mul_one,Nat.add_zero] at h2
   unfold Addr.add at h2
   split at h2
   · next e=>subst e;exact h2
   · exact h2
 · rw [h.1]
   show Ending.returned (.string ⟨(Lib.join (R.map (·.data.toList)) [59]).toArray⟩)=_
   rw [hj2]
   rfl
set_option maxHeartbeats 6400000 in
set_option maxRecDepth 100000 in
theorem addRids_any (base:Nat) (v:Value) (L:List AttrS) (R:List ByteArray) (b:Bool) (Ar:Option Addr) (nr kr:Nat) (w:World) (hown:AtO w base v L) (hl:L.length≤900000) (hbase:base≤w.heap.size) (h:TextsV w base (.slice Ar nr kr) R) (h3:R.length≤3) (hr:∀r∈R,r.size≤8) :
 Calls Tryz.prog 50 #[v,.slice Ar nr kr,.bool b] w (AddO base w v (L++attrsR b R)):=by
 have hnr:nr=R.length:=by
  obtain ⟨_,_,e,-⟩:=Rows.form h
  injection e
 obtain ⟨Av,nv,cv,hv⟩:∃Av nv cv,v=.slice Av nv cv:=by
  obtain ⟨A,c,e,-⟩:=Own.form hown
  exact ⟨A,_,c,e⟩
 have HOWN:=Lib.hid hown
 have HVB:Hid (∀k,v.ownBlock=some k→base≤k):=Lib.hid hown.base
 have HVW:Hid (TextsV w base (.slice Ar nr kr) R):=Lib.hid h
 have HSZ:Hid (∀r∈R,r.size≤8):=Lib.hid hr
 have HNB:Hid (base≤w.heap.size):=Lib.hid hbase
 have HL:Hid (R.length=nr):=Lib.hid hnr.symm
 by_cases h0:nr=0
 · have HR:Hid (L++attrsR b R=L):=Lib.hid (by
    have:R=[]:=List.eq_nil_of_length_eq_zero (by omega)
    rw [this]
    simp [attrsR])
   rw [HR.out]
   subst hv
   clear hnr h hown hr hbase
   subst h0
   go_enter Tryz.func50,Tryz.ntmps50
   go_wp2
   go_ret
   exact ⟨_,rfl,HOWN.out,Grew.refl _ _⟩
 · have h0:¬(nr:Int)=0:=by omega
   have hn0:0<nr:=by omega
   have hn3:nr≤3:=by omega
   have HEND:Hid (L++attrsR b R=(L++R.map (attrR b))++[⟨bs nSimulcast,bs (wayW b++32 :: semi R)⟩]):=Lib.hid (by
    unfold attrsR
    rw [if_neg (by rw [List.isEmpty_iff];intro e;rw [e] at hnr;simp at hnr;omega)]
    simp)
   have HSL:Hid ((semi R).length≤27):=Lib.hid (by have:=semi_len R hr;omega)
   have HLL:Hid (∀k,(L++(R.take k).map (attrR b)).length≤1000000):=Lib.hid fun k=>by rw [List.length_append,List.length_map,List.length_take];omega
   have HLX:Hid ((L++R.map (attrR b)).length≤1000000):=Lib.hid (by rw [List.length_append,List.length_map];omega)
   obtain ⟨T,hT⟩:∃T,L++attrsR b R=T:=⟨_,rfl⟩
   have HF:Hid (T=(L++R.map (attrR b))++[(⟨bs nSimulcast,bs (wayW b++32 :: semi R)⟩:AttrS)]):=Lib.hid (by rw [←hT];exact HEND.out)
   rw [hT]
   clear HEND hnr h hown hr hbase hl h3 hT
   subst hv
   obtain ⟨wy,hwy⟩:∃a:ByteArray,a=bs (wayW b):=⟨_,rfl⟩
   have HWY:Hid (tx wy=wayW b):=Lib.hid (by rw [hwy,tx_bs])
   have hws:wy.size=4:=by rw [hwy,bs_size];cases b <;> rfl
   go_enter Tryz.func50,Tryz.ntmps50
   go_upto_if 14 with fail
   go_cut [7] from 7 to 15 (fun s wc=>s=.string wy∧w=wc)
   case first =>
    subst hwy
    cases b
    · go_wp2
      go_meet
      exact ⟨rfl,rfl⟩
    · go_wp2
      go_meet
      exact ⟨rfl,rfl⟩
   case rest =>
    obtain ⟨rfl,rfl⟩:=hcut
    clear hwy
    go_wp2
    go_loopw [17,0] (fun s17 s0 wr=>∃k:Nat,k≤nr∧s17=.int .i64 k∧(AtO wr base s0 (L++(R.take k).map (attrR b))∧Grew w (.slice Av nv cv) wr s0)) (fun s17 _ _=>nr - (intOf s17).toNat)
    case atStart=>exact ⟨0,by omega,rfl,by simpa using HOWN.out,Grew.refl _ _⟩
    case round =>
     obtain ⟨k,hk,rfl,hst⟩:=hrel
     have HS:=Lib.hid hst
     clear hst
     have HBL:Hid (Below base w wr):=Lib.hid (HS.out.2.below HVB.out HNB.out)
     have HNW:Hid (base≤wr.heap.size):=Lib.hid (by have:=HBL.out.size;have:=HNB.out;omega)
     obtain ⟨Aw,nw,cw,hvw⟩:∃A n c,u0=.slice A n c:=by
      obtain ⟨A,c,e,-⟩:=Own.form HS.out.1
      exact ⟨A,_,c,e⟩
     subst hvw
     by_cases hlt:k<nr
     · have hlt':k<R.length:=by rw [HL.out];exact hlt
       obtain ⟨ad,c',e1,had,d0⟩:=(HVW.out.below HBL.out).at_ hlt'
       injection e1 with e1 e1n e1c
       clear e1n e1c
       subst e1
       have hfs:=HSZ.out _ (getD_mem hlt')
       have HTK:Hid ((R.take (k+1)).map (attrR b)=(R.take k).map (attrR b)++[attrR b (R.getD k default)]):=Lib.hid (by rw [List.take_add_one,getD_of hlt'];simp)
       obtain ⟨f,hf⟩:∃f,R.getD k default=f:=⟨_,rfl⟩
       rw [hf] at d0 hfs HTK
       have hk0':(0:Int)≤(k:Int):=by omega
       have hk1':(k:Int)<(nr:Int):=by omega
       have q8:¬9223372036854775807<f.size+1:=by omega
       have q9:¬9223372036854775807<f.size+1+wy.size:=by omega
       have HTX:Hid (attrR b f=⟨bs nRid,f++⟨#[32]⟩++wy⟩):=Lib.hid (by
        unfold attrR
        congr 1
        exact (tx_inj (by rw [tx_append,tx_append,HWY.out,tx_bs];simp [tx])).symm)
       clear hf had hlt'
       go_wp2_with (at_builtin;refine wpList_addA rfl (.tmp 21) (.tmp 27) rfl rfl rfl HS.out.1 (HLL.out k) HNW.out ?_;intro v9 w9 ho9 hg9;have HA9:Hid (AtO w9 base v9 (L++(R.take (k+1)).map (attrR b))∧Grew w (.slice Av nv cv) w9 v9):=Lib.hid ⟨by rw [HTK.out,←List.append_assoc,HTX.out];exact ho9,HS.out.2.trans hg9⟩;clear ho9 hg9)
       go_roundw
       case rel=>exact ⟨k+1,by omega,by go_num,HA9.out⟩
       case measure=>simp [intOf];omega
     · have e:k=nr:=by omega
       subst e
       have HQ:Hid (AtO wr base (.slice Aw nw cw) (L++R.map (attrR b))):=Lib.hid (by
        have:=HS.out.1
        rw [List.take_of_length_le (by rw [HL.out];exact Nat.le_refl _)] at this
        exact this)
       have HJ:Hid (Calls Tryz.prog 84 #[.slice Ar k kr,.string ⟨#[59]⟩] wr fun e w'=>e=.returned (.string (bs (semi R)))∧Below wr.heap.size wr w'):=Lib.hid (join_any R _ wr ((HVW.out.below HBL.out).more HNW.out) (by rw [HL.out];exact hn0) (by rw [HL.out];omega) (by have:=HSL.out;omega))
       obtain ⟨sj,hsj⟩:∃s,bs (semi R)=s:=⟨_,rfl⟩
       have HSJ:Hid (tx sj=semi R):=Lib.hid (by rw [←hsj,tx_bs])
       have hsz:sj.size≤27:=by rw [←hsj,bs_size];exact HSL.out
       rw [hsj] at HJ
       clear hsj
       have q5:¬9223372036854775807<wy.size+1:=by omega
       have q6:¬9223372036854775807<wy.size+1+sj.size:=by omega
       have HTX:Hid ((⟨bs nSimulcast,bs (wayW b++32 :: semi R)⟩:AttrS)=⟨bs nSimulcast,wy++⟨#[32]⟩++sj⟩):=Lib.hid (by
        congr 1
        exact (tx_inj (by rw [tx_append,tx_append,HWY.out,HSJ.out,tx_bs];simp [tx])).symm)
       go_wp2_with (first | (go_at_call 84;(with_reducible refine HJ.out.mono ?_);rintro e w1 ⟨rfl,hb1⟩;have H1:Hid (Below wr.heap.size wr w1∧AtO w1 base (.slice Aw nw cw) (L++R.map (attrR b))):=Lib.hid ⟨hb1,HQ.out.under hb1⟩;clear hb1) | (at_builtin;refine wpList_addA rfl (.tmp 30) (.tmp 37) rfl rfl rfl H1.out.2 HLX.out (by have:=H1.out.1.size;have:=HNW.out;omega) ?_;intro v9 w9 ho9 hg9;have HA9:Hid (AtO w9 base v9 ((L++R.map (attrR b))++[⟨bs nSimulcast,wy++⟨#[32]⟩++sj⟩])∧Grew w (.slice Av nv cv) w9 v9):=Lib.hid ⟨ho9,(HS.out.2.under H1.out.1).trans hg9⟩;clear ho9 hg9))
       go_ret
       exact ⟨_,rfl,by rw [HF.out,HTX.out];exact HA9.out.1,HA9.out.2⟩
end Go.Proofs.YtgnpckelbokniaaGreatDoor
