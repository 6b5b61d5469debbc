import Derived.Test.YtgnpckelbokniaaGreatDoorPkDescBackA10
import Derived.Test.YtgnpckelbokniaaGreatDoorPkDescBackA09
import Derived.Test.YtgnpckelbokniaaGreatDoorPkDescBackA01
import Derived.Test.YtgnpckelbokniaaGreatDoorPkDescBackA00
import Derived.Test.YtgnpckelbokniaaGreatDoorPkDescBackA08
import Derived.Test.YtgnpckelbokniaaGreatDoorPkDescBackA03
import Derived.Deep.CutBlock
import Derived.Great.Walk
namespace Go.Proofs.YtgnpckelbokniaaGreatDoor
open Go.RowKit
set_option linter.unusedVariables false
set_option linter.unusedSimpArgs false
def OkO (w:World) (x:SesS) (e:Ending) (w':World):Prop:=∃(A P:Option Addr) (ca cp:Nat),e=.returned (.tuple #[.agg #[.string x.origin,.string x.name,.string x.time,.slice A x.attrs.length ca,.slice P x.parts.length cp],.int .i64 0,.int .i64 0]) ∧
 AttrsV w' w'.heap.size (.slice A x.attrs.length ca) x.attrs∧PartsV w' w'.heap.size (.slice P x.parts.length cp) x.parts∧Below w.heap.size w w'
def ErrO (w:World) (k:Nat) (er:Int) (e:Ending) (w':World):Prop:=∃(A P:Option Addr) (ca cp:Nat),e=.returned (.tuple #[.agg #[.string (bs []),.string (bs []),.string (bs []),.slice A 0 ca,.slice P 0 cp],.int .i64 k,.int .i64 er]) ∧
 AttrsV w' w'.heap.size (.slice A 0 ca) []∧PartsV w' w'.heap.size (.slice P 0 cp) []∧(er=2∨er=3)∧Below w.heap.size w w'
theorem ParseO.ok {w w':World} {l:Tx} {e:Ending} {x:SesS} (h:ParseO w l e w') (hx:Parsed l (.ok x)):OkO w x e w':=by
 obtain ⟨M,y,vA,vP,k,er,rfl,⟨rfl,hA,hP⟩,hr,hb⟩:=h
 rcases hr with ⟨rfl,rfl,hy⟩ | ⟨_,_,hy⟩
 · have e:=hx.one hy
   injection e with e
   subst e
   obtain ⟨A,ca,rfl,-⟩:=hA.form
   obtain ⟨P,cp,rfl,-⟩:=hP.form
   exact ⟨A,P,ca,cp,rfl,hA,hP,hb⟩
 · have e:=hx.one hy
   cases e
theorem ParseO.err {w w':World} {l:Tx} {e:Ending} {k:Nat} {er:Int} (h:ParseO w l e w') (hx:Parsed l (.err k er)):ErrO w k er e w':=by
 obtain ⟨M,y,vA,vP,k',er',rfl,⟨rfl,hA,hP⟩,hr,hb⟩:=h
 rcases hr with ⟨rfl,rfl,hy⟩ | ⟨he,rfl,hy⟩
 · have e:=hx.one hy
   cases e
 · have e:=hx.one hy
   injection e with e1 e2
   subst e1 e2
   obtain ⟨A,ca,rfl,-⟩:=hA.form
   obtain ⟨P,cp,rfl,-⟩:=hP.form
   exact ⟨A,P,ca,cp,rfl,hA,hP,he,hb⟩
set_option maxHeartbeats 400000 in
theorem perhaps_any (s:ByteArray) (w:World) (hs:s.size≤maxLen):Calls Tryz.prog 143 #[.string s] w fun e w'=>e=.returned (.bool (maybeP (tx s)))∧w=w':=by
 have HV:=Lib.hid (value_any s w hs)
 clear hs
 have HE:Hid (maybeP (tx s)=(s.toList.isEmpty || valP (tx s))):=Lib.hid (by rw [toList_tx];rfl)
 generalize maybeP (tx s)=r at *
 generalize valP (tx s)=y at *
 cases hq:s.toList.isEmpty with
 | true =>
   have HR:Hid (true=r):=Lib.hid (by rw [HE.out,hq];rfl)
   clear HE
   go_enter Tryz.func143,Tryz.ntmps143
   go_wp2
   go_ret
   exact ⟨ret_bool HR.out,rfl⟩
 | false =>
   have HR:Hid (y=r):=Lib.hid (by rw [HE.out,hq];rfl)
   clear HE
   go_enter Tryz.func143,Tryz.ntmps143
   go_wp2_with (go_at_call 78;(with_reducible refine HV.out.mono ?_);rintro e w' ⟨rfl,rfl⟩)
   go_ret
   exact ⟨ret_bool HR.out,rfl⟩
theorem okA_bad {L:List AttrS} {k:Nat} {a:AttrS} (h:L[k]? = some a) (ha:okAt a=false):okA L=false:=by
 unfold okA
 rw [Bool.and_eq_false_iff]
 right
 rw [List.all_eq_false]
 exact ⟨a,List.mem_of_getElem? h,by rw [ha];decide⟩
theorem okA_many {L:List AttrS} (h:64<L.length):okA L=false:=by
 unfold okA
 rw [Bool.and_eq_false_iff]
 left
 exact decide_eq_false (by omega)
theorem okA_yes {L:List AttrS} (h:L.length≤64) (ha:∀(j:Nat) (a:AttrS),L[j]? = some a→okAt a=true):okA L=true:=by
 unfold okA
 rw [Bool.and_eq_true,List.all_eq_true]
 refine ⟨decide_eq_true h,fun a hm=> ?_⟩
 obtain ⟨j,hj⟩:=List.getElem?_of_mem hm
 exact ha j a hj
set_option maxHeartbeats 1600000 in
set_option maxRecDepth 100000 in
theorem validAttrs_any (v:Value) (L:List AttrS) (w:World) (h:AttrsV w w.heap.size v L) (hz:SizA L):Calls Tryz.prog 142 #[v] w fun e w'=>e=.returned (.bool (okA L))∧Below w.heap.size w w':=by
 obtain ⟨A,c,rfl,hc,hm,-⟩:=h.form
 obtain ⟨N,hN⟩:∃N,w.heap.size=N:=⟨_,rfl⟩
 have HN:=Lib.hid hN
 have H:=Lib.hid h
 have HZ:=Lib.hid hz
 obtain ⟨n,hn⟩:∃n,L.length=n:=⟨_,rfl⟩
 have HNN:=Lib.hid hn
 rw [hn] at hc ⊢
 clear h hn hN hz
 unfold maxLen at hm
 by_cases h64:64<n
 · have h64':(64:Int)<(n:Int):=by omega
   have HR:Hid (false=okA L):=Lib.hid (okA_many (by rw [HNN.out];exact h64)).symm
   generalize okA L=r at *
   go_enter Tryz.func142,Tryz.ntmps142
   go_wp2
   go_ret
   exact ⟨ret_bool HR.out,Below.refl _ _⟩
 have h64':¬(64:Int)<(n:Int):=by omega
 go_enter Tryz.func142,Tryz.ntmps142
 go_wp2
 go_loopw [10] (fun s10 wr=>∃k:Nat,k≤n∧s10=.int .i64 k∧(∀(j:Nat) (a:AttrS),j<k→L[j]? = some a→okAt a=true)∧Below N w wr) (fun s10 _=>n - (intOf s10).toNat)
 case atStart=>exact ⟨0,Nat.zero_le _,rfl,fun j a hj=>by omega,Below.refl _ w⟩
 case round =>
  obtain ⟨k,hk,rfl,hsame,hb⟩:=hrel
  have HS:=Lib.hid (And.intro hsame hb)
  by_cases hlt:k<n
  · obtain ⟨ad,c',e1,b1,x0,x1⟩:=H.out.at_ (i:=k) (by rw [HNN.out];exact hlt)
    injection e1 with e1 e1n e1c
    clear e1n e1c
    subst e1
    have gL:=getD_of (L:=L) (i:=k) (by rw [HNN.out];exact hlt)
    obtain ⟨a,ha⟩:∃a,L.getD k default=a:=⟨_,rfl⟩
    rw [ha] at x0 x1 gL
    rw [HN.out] at b1
    have x0':=(hb.cell (p:=ad.add (k * 2)) (by rw [add_block];exact b1)).trans x0
    have x1':=(hb.cell (p:=⟨(ad.add (k * 2)).block,(ad.add (k * 2)).off+1,none⟩) (by show (ad.add (k * 2)).block<_;rw [add_block];exact b1)).trans x1
    have HG:=Lib.hid gL
    have hza:=HZ.out k a gL
    have hNr:N≤wr.heap.size:=by have:=hb.size;rw [HN.out] at this;exact this
    have hal:=(hb.alloc hNr (.cells #[.string ⟨#[]⟩,.string ⟨#[]⟩] 65))
    have HW1:Hid (Whole (wr.alloc (.cells #[.string ⟨#[]⟩,.string ⟨#[]⟩] 65)) wr.heap.size 65 #[.string ⟨#[]⟩,.string ⟨#[]⟩]):=Lib.hid (Whole.new _ _ _)
    have HB1:=Lib.hid (And.intro hNr hal)
    have hk0:(0:Int)≤(k:Int):=by omega
    have hk1:(k:Int)<(n:Int):=by omega
    have e1:IntKind.i64.wrap ((k:Int)+1)=(k:Int)+1:=IntWalk.i64_in _ (by omega)
    clear x0 x1 gL ha b1 hb hsame hNr hal
    obtain ⟨nm,vl⟩:=a
    have HWD:Hid (∀W,Calls Tryz.prog 93 #[.string nm] W fun e w'=>e=.returned (.bool (wordP 1 32 (tx nm)))∧W=w'):=Lib.hid fun W=>word_any nm W (by have:=hza.1;unfold maxLen;simp only at this;omega)
    have HMB:Hid (∀W,Calls Tryz.prog 143 #[.string vl] W fun e w'=>e=.returned (.bool (maybeP (tx vl)))∧W=w'):=Lib.hid fun W=>perhaps_any vl W (by have:=hza.2;unfold maxLen;simp only at this;omega)
    have HO:Hid (okAt ⟨nm,vl⟩=(wordP 1 32 (tx nm) && maybeP (tx vl))):=Lib.hid rfl
    generalize wordP 1 32 (tx nm)=x at *
    generalize maybeP (tx vl)=y at *
    clear hza
    go_upto_region 6 with ((with_reducible refine wpList_storeS #[.string nm,.string vl] ?_ 65 (.tmp 4) (.tmp 13) ?_ ?_ ?_ HW1.out Tryz.sizeSAttr ?_ ?_ ?_ ?_);(with_reducible rfl);(with_reducible rfl);rfl;rfl;rfl;rfl;rfl)
    have hr:=HW1.out.row #[.string nm,.string vl]
    have hb2:=below_row HB1.out.2 HB1.out.1 #[.string nm,.string vl]
    generalize (wr.alloc (.cells #[.string ⟨#[]⟩,.string ⟨#[]⟩] 65)).setRow wr.heap.size #[.string nm,.string vl]=W2 at *
    generalize wr.heap.size=g at *
    have c0:=hr.cell 0
    have c1:=hr.cell 1
    simp only [List.getElem?_toArray,List.getElem?_cons_zero,List.getElem?_cons_succ] at c0 c1
    have HB2:=Lib.hid hb2
    clear hr hb2 HW1 HB1 x0' x1'
    cases x with
    | false =>
      have HR:Hid (false=okA L):=Lib.hid (okA_bad HG.out (by rw [HO.out];rfl)).symm
      go_wp2_with (go_at_call 93;(with_reducible refine (HWD.out _).mono ?_);rintro e w' ⟨rfl,rfl⟩)
      go_ret
      exact ⟨ret_bool HR.out,by rw [HN.out];exact HB2.out⟩
    | true =>
      cases y with
      | false =>
        have HR:Hid (false=okA L):=Lib.hid (okA_bad HG.out (by rw [HO.out];rfl)).symm
        go_wp2_with (first | (go_at_call 93;(with_reducible refine (HWD.out _).mono ?_);rintro e w' ⟨rfl,rfl⟩) | (go_at_call 143;(with_reducible refine (HMB.out _).mono ?_);rintro e w' ⟨rfl,rfl⟩))
        go_ret
        exact ⟨ret_bool HR.out,by rw [HN.out];exact HB2.out⟩
      | true =>
        have HR:Hid (∀(j:Nat) (a:AttrS),j<k+1→L[j]? = some a→okAt a=true):=Lib.hid fun j a hj e=>by
         by_cases e2:j=k
         · subst e2
           rw [HG.out] at e
           injection e with e
           subst e
           rw [HO.out]
           rfl
         · exact HS.out.1 j a (by omega) e
        go_wp2_with (first | (go_at_call 93;(with_reducible refine (HWD.out _).mono ?_);rintro e w' ⟨rfl,rfl⟩) | (go_at_call 143;(with_reducible refine (HMB.out _).mono ?_);rintro e w' ⟨rfl,rfl⟩))
        go_roundw
        case rel=>exact ⟨k+1,by omega,by go_num,HR.out,HB2.out⟩
        case measure=>simp [intOf];omega
  · obtain rfl:k=n:=by omega
    have HR:Hid (true=okA L):=Lib.hid (okA_yes (by rw [HNN.out];omega) fun j a e=>HS.out.1 j a (by have:=(List.getElem?_eq_some_iff.1 e).1;rw [HNN.out] at this;exact this) e).symm
    clear hsame hb
    go_wp2
    go_ret
    exact ⟨ret_bool HR.out,by rw [HN.out];exact HS.out.2⟩
theorem all_bad {L:List PartS} {k:Nat} {p:PartS} (h:L[k]? = some p) (ha:okP p=false):L.all okP=false:=by
 rw [List.all_eq_false]
 exact ⟨p,List.mem_of_getElem? h,by rw [ha];decide⟩
theorem all_yes {L:List PartS} (ha:∀(j:Nat) (p:PartS),L[j]? = some p→okP p=true):L.all okP=true:=by
 rw [List.all_eq_true]
 intro p hm
 obtain ⟨j,hj⟩:=List.getElem?_of_mem hm
 exact ha j p hj
set_option maxHeartbeats 3200000 in
set_option maxRecDepth 100000 in
theorem valid_any (X:Array Value) (x:SesS) (a1 p1:Value) (w:World) (h:SesV w w.heap.size X x a1 p1) (hz:SizS x):Calls Tryz.prog 85 #[.agg X] w fun e w'=>e=.returned (.bool (okS x))∧Below w.heap.size w w':=by
 obtain ⟨e1,va1,vp1⟩:=h
 subst e1
 obtain ⟨A,k1,rfl,-⟩:=va1.form
 obtain ⟨P,j1,rfl,hj1,hm1,-⟩:=vp1.form
 obtain ⟨n1,hn1⟩:∃n,x.attrs.length=n:=⟨_,rfl⟩
 obtain ⟨n,hn⟩:∃n,x.parts.length=n:=⟨_,rfl⟩
 rw [hn1] at va1
 rw [hn] at vp1 hj1
 rw [hn1,hn]
 unfold maxLen at hm1
 have hb:Below w.heap.size w (w.alloc (.cells #[.string x.origin,.string x.name,.string x.time,.slice A n1 k1,.slice P n j1] 96)):=(Below.refl _ w).alloc (Nat.le_refl _) _
 have g1:=Whole.new w 96 #[.string x.origin,.string x.name,.string x.time,.slice A n1 k1,.slice P n j1]
 have va:=(va1.below hb).more hb.size
 have vp:=(vp1.below hb).more hb.size
 have HNN:=Lib.hid hn
 have HZ:=Lib.hid hz
 obtain ⟨b1,hb1⟩:∃b,valP (tx x.origin)=b:=⟨_,rfl⟩
 obtain ⟨b2,hb2⟩:∃b,valP (tx x.name)=b:=⟨_,rfl⟩
 obtain ⟨b3,hb3⟩:∃b,valP (tx x.time)=b:=⟨_,rfl⟩
 obtain ⟨b4,hb4⟩:∃b,okA x.attrs=b:=⟨_,rfl⟩
 have HOK:Hid (okS x=(b1 && b2 && b3 && b4 && decide (n≤8) && x.parts.all okP)):=Lib.hid (by unfold okS;rw [hb1,hb2,hb3,hb4,hn])
 have HV1:Hid (∀W,Calls Tryz.prog 78 #[.string x.origin] W fun e w'=>e=.returned (.bool b1)∧W=w'):=Lib.hid fun W=>by rw [←hb1];exact value_any _ W (by have:=hz.1.1;unfold maxLen;omega)
 have HV2:Hid (∀W,Calls Tryz.prog 78 #[.string x.name] W fun e w'=>e=.returned (.bool b2)∧W=w'):=Lib.hid fun W=>by rw [←hb2];exact value_any _ W (by have:=hz.1.2.1;unfold maxLen;omega)
 have HV3:Hid (∀W,Calls Tryz.prog 78 #[.string x.time] W fun e w'=>e=.returned (.bool b3)∧W=w'):=Lib.hid fun W=>by rw [←hb3];exact value_any _ W (by have:=hz.1.2.2;unfold maxLen;omega)
 clear hn1 hn va1 vp1 hz hb1 hb2 hb3
 obtain ⟨B,hB⟩:∃B,w.heap.size=B:=⟨_,rfl⟩
 have HBE:=Lib.hid hB
 go_enter Tryz.func85,Tryz.ntmps85
 go_upto_region 1 with fail
 rw [hB] at g1 hb
 generalize hw0:w.alloc (.cells #[.string x.origin,.string x.name,.string x.time,.slice A n1 k1,.slice P n j1] 96)=w0 at *
 have HB0:=Lib.hid (And.intro (by rw [hB];exact hb:Below w.heap.size w w0) True.intro)
 clear hw0 hB
 obtain ⟨N,hN⟩:∃N,w0.heap.size=N:=⟨_,rfl⟩
 have HN:=Lib.hid hN
 rw [hN] at va vp
 have hBN:B<N:=by rw [←hN];exact g1.lt
 have HBN:=Lib.hid hBN
 have c0:=g1.cell 0
 have c1:=g1.cell 1
 have c2:=g1.cell 2
 have c3:=g1.cell 3
 have c4:=g1.cell 4
 simp only [List.getElem?_toArray,List.getElem?_cons_zero,List.getElem?_cons_succ] at c0 c1 c2 c3 c4
 have HVA:Hid (Calls Tryz.prog 142 #[.slice A n1 k1] w0 fun e w'=>e=.returned (.bool b4)∧Below w0.heap.size w0 w'):=Lib.hid (by rw [←hb4];exact validAttrs_any _ x.attrs w0 (va.more (by rw [hN];exact Nat.le_refl _)) HZ.out.2.1)
 have HVP:=Lib.hid vp
 clear va vp hN hBN hb hb4 g1
 cases b1 with
 | false =>
   have HR:Hid (false=okS x):=Lib.hid (by rw [HOK.out];simp)
   go_wp2_with (go_at_call 78;(with_reducible refine (HV1.out _).mono ?_);rintro e w' ⟨rfl,rfl⟩)
   go_ret
   exact ⟨ret_bool HR.out,HB0.out.1⟩
 | true =>
 cases b2 with
 | false =>
   have HR:Hid (false=okS x):=Lib.hid (by rw [HOK.out];simp)
   go_wp2_with (first | (go_at_call 78;(with_reducible refine (HV1.out _).mono ?_);rintro e w' ⟨rfl,rfl⟩) | (go_at_call 78;(with_reducible refine (HV2.out _).mono ?_);rintro e w' ⟨rfl,rfl⟩))
   go_ret
   exact ⟨ret_bool HR.out,HB0.out.1⟩
 | true =>
 cases b3 with
 | false =>
   have HR:Hid (false=okS x):=Lib.hid (by rw [HOK.out];simp)
   go_wp2_with (first | (go_at_call 78;(with_reducible refine (HV1.out _).mono ?_);rintro e w' ⟨rfl,rfl⟩) | (go_at_call 78;(with_reducible refine (HV2.out _).mono ?_);rintro e w' ⟨rfl,rfl⟩) | (go_at_call 78;(with_reducible refine (HV3.out _).mono ?_);rintro e w' ⟨rfl,rfl⟩))
   go_ret
   exact ⟨ret_bool HR.out,HB0.out.1⟩
 | true =>
 cases b4 with
 | false =>
   have HR:Hid (false=okS x):=Lib.hid (by rw [HOK.out];simp)
   go_wp2_with (first | (go_at_call 78;(with_reducible refine (HV1.out _).mono ?_);rintro e w' ⟨rfl,rfl⟩) | (go_at_call 78;(with_reducible refine (HV2.out _).mono ?_);rintro e w' ⟨rfl,rfl⟩) | (go_at_call 78;(with_reducible refine (HV3.out _).mono ?_);rintro e w' ⟨rfl,rfl⟩) | (go_at_call 142;(with_reducible refine HVA.out.mono ?_);rintro e w5 ⟨rfl,hb5⟩))
   go_ret
   exact ⟨ret_bool HR.out,HB0.out.1.trans (hb5.mono HB0.out.1.size)⟩
 | true =>
 by_cases h8:8<n
 · have h8':(8:Int)<(n:Int):=by omega
   have HR:Hid (false=okS x):=Lib.hid (by rw [HOK.out];have:decide (n≤8)=false:=decide_eq_false (by omega);rw [this];simp)
   clear h8
   go_wp2_with (first | (go_at_call 78;(with_reducible refine (HV1.out _).mono ?_);rintro e w' ⟨rfl,rfl⟩) | (go_at_call 78;(with_reducible refine (HV2.out _).mono ?_);rintro e w' ⟨rfl,rfl⟩) | (go_at_call 78;(with_reducible refine (HV3.out _).mono ?_);rintro e w' ⟨rfl,rfl⟩) | (go_at_call 142;(with_reducible refine HVA.out.mono ?_);rintro e w5 ⟨rfl,hb5⟩;have c4':=(hb5.cell (p:=⟨B,4,none⟩) (by show B<_;rw [HN.out];exact HBN.out)).trans c4))
   go_ret
   exact ⟨ret_bool HR.out,HB0.out.1.trans (hb5.mono HB0.out.1.size)⟩
 have h8':¬(8:Int)<(n:Int):=by omega
 have h8n:n≤8:=by omega
 have HOK2:Hid (okS x=x.parts.all okP):=Lib.hid (by rw [HOK.out,decide_eq_true h8n];simp)
 clear h8 HOK
 go_wp2_with (first | (go_at_call 78;(with_reducible refine (HV1.out _).mono ?_);rintro e w' ⟨rfl,rfl⟩) | (go_at_call 78;(with_reducible refine (HV2.out _).mono ?_);rintro e w' ⟨rfl,rfl⟩) | (go_at_call 78;(with_reducible refine (HV3.out _).mono ?_);rintro e w' ⟨rfl,rfl⟩) | (go_at_call 142;(with_reducible refine HVA.out.mono ?_);rintro e w5 ⟨rfl,hb5⟩;have c4':=(hb5.cell (p:=⟨B,4,none⟩) (by show B<_;rw [HN.out];exact HBN.out)).trans c4;have HB5:Hid (Below N w0 w5):=Lib.hid (by rw [←HN.out];exact hb5);clear hb5))
 clear c4' c0 c1 c2 c3 c4
 go_loopw [34] (fun s34 wr=>∃k:Nat,k≤n∧s34=.int .i64 k∧(∀(j:Nat) (p:PartS),j<k→x.parts[j]? = some p→okP p=true)∧Below N w0 wr) (fun s34 _=>n - (intOf s34).toNat)
 case atStart=>exact ⟨0,Nat.zero_le _,rfl,fun j a hj=>by omega,HB5.out⟩
 case round =>
  obtain ⟨k,hk,rfl,hsame,hbl⟩:=hrel
  have HS:=Lib.hid (And.intro hsame hbl)
  have HFB:Hid (∀W,Below N w0 W→Below w.heap.size w W):=Lib.hid fun W hW=>HB0.out.1.trans (hW.mono (by rw [HBE.out];have:=HBN.out;omega))
  by_cases hlt:k<n
  · obtain ⟨ad,c1',va,e1,b1,x0,x1,xa,xr⟩:=HVP.out.at_ (i:=k) (by rw [HNN.out];exact hlt)
    injection e1 with e1 e1n e1c
    clear e1n e1c
    subst e1
    have gL:=getD_of (L:=x.parts) (i:=k) (by rw [HNN.out];exact hlt)
    obtain ⟨p,hp⟩:∃p,x.parts.getD k default=p:=⟨_,rfl⟩
    rw [hp] at x0 x1 xr gL
    have x0':=(hbl.cell (p:=ad.add (k * 3)) (by rw [add_block];exact b1)).trans x0
    have x1':=(hbl.cell (p:=⟨(ad.add (k * 3)).block,(ad.add (k * 3)).off+1,none⟩) (by show (ad.add (k * 3)).block<_;rw [add_block];exact b1)).trans x1
    have x2':=(hbl.cell (p:=⟨(ad.add (k * 3)).block,(ad.add (k * 3)).off+2,none⟩) (by show (ad.add (k * 3)).block<_;rw [add_block];exact b1)).trans xa
    have HG:=Lib.hid gL
    have hzp:=HZ.out.2.2 k p gL
    have hNr:N≤wr.heap.size:=by have:=hbl.size;rw [HN.out] at this;exact this
    have hal:=(hbl.alloc hNr (.cells #[.string ⟨#[]⟩,.string ⟨#[]⟩,.slice none 0 0] 34))
    have HW1:Hid (Whole (wr.alloc (.cells #[.string ⟨#[]⟩,.string ⟨#[]⟩,.slice none 0 0] 34)) wr.heap.size 34 #[.string ⟨#[]⟩,.string ⟨#[]⟩,.slice none 0 0]):=Lib.hid (Whole.new _ _ _)
    have HB1:=Lib.hid (And.intro hNr hal)
    have hk0:(0:Int)≤(k:Int):=by omega
    have hk1:(k:Int)<(n:Int):=by omega
    have e1:IntKind.i64.wrap ((k:Int)+1)=(k:Int)+1:=IntWalk.i64_in _ (by omega)
    obtain ⟨Aq,lq,cq,rfl⟩:∃A l c,va=.slice A l c:=by
     obtain ⟨A,c,e,-⟩:=xr.form
     exact ⟨_,_,_,e⟩
    have HXR:=Lib.hid xr
    have hone:(#[.string p.line,.string p.conn,.slice Aq lq cq]:Array Value).toList.all (·.oneCell')=true:=rfl
    clear x0 x1 xa gL hp b1 hbl hsame hNr hal xr
    have HWD:Hid (∀W,Calls Tryz.prog 78 #[.string p.line] W fun e w'=>e=.returned (.bool (valP (tx p.line)))∧W=w'):=Lib.hid fun W=>value_any _ W (by have:=hzp.1;unfold maxLen;omega)
    have HMB:Hid (∀W,Calls Tryz.prog 143 #[.string p.conn] W fun e w'=>e=.returned (.bool (maybeP (tx p.conn)))∧W=w'):=Lib.hid fun W=>perhaps_any _ W (by have:=hzp.2.1;unfold maxLen;omega)
    have HVB:Hid (∀W,Below N w0 W→Calls Tryz.prog 142 #[.slice Aq lq cq] W fun e w'=>e=.returned (.bool (okA p.attrs))∧Below W.heap.size W w'):=Lib.hid fun W hW=>validAttrs_any _ p.attrs W ((HXR.out.below hW).more (by have:=hW.size;rw [HN.out] at this;exact this)) hzp.2.2.1
    have HO:Hid (okP p=(valP (tx p.line) && maybeP (tx p.conn) && okA p.attrs)):=Lib.hid rfl
    generalize valP (tx p.line)=y1 at *
    generalize maybeP (tx p.conn)=y2 at *
    generalize okA p.attrs=y3 at *
    clear hzp
    go_upto_region 8 with ((with_reducible refine wpList_storeS #[.string p.line,.string p.conn,.slice Aq lq cq] ?_ 34 (.tmp 4) (.tmp 37) ?_ ?_ ?_ HW1.out Tryz.sizeSPart ?_ ?_ ?_ ?_);(with_reducible rfl);(with_reducible rfl);rfl;rfl;rfl;rfl;rfl)
    have hr:=HW1.out.row #[.string p.line,.string p.conn,.slice Aq lq cq]
    have hb2:=below_row HB1.out.2 HB1.out.1 #[.string p.line,.string p.conn,.slice Aq lq cq]
    generalize (wr.alloc (.cells #[.string ⟨#[]⟩,.string ⟨#[]⟩,.slice none 0 0] 34)).setRow wr.heap.size #[.string p.line,.string p.conn,.slice Aq lq cq]=W2 at *
    generalize wr.heap.size=g at *
    have d0:=hr.cell 0
    have d1:=hr.cell 1
    have d2:=hr.cell 2
    simp only [List.getElem?_toArray,List.getElem?_cons_zero,List.getElem?_cons_succ] at d0 d1 d2
    have HB2:=Lib.hid hb2
    clear hr hb2 HW1 HB1 x0' x1' x2' hone
    cases y1 with
    | false =>
      have HR:Hid (false=okS x):=Lib.hid (by rw [HOK2.out,all_bad HG.out (by rw [HO.out];rfl)])
      go_wp2_with (go_at_call 78;(with_reducible refine (HWD.out _).mono ?_);rintro e w' ⟨rfl,rfl⟩)
      go_ret
      exact ⟨ret_bool HR.out,HFB.out _ HB2.out⟩
    | true =>
    cases y2 with
    | false =>
      have HR:Hid (false=okS x):=Lib.hid (by rw [HOK2.out,all_bad HG.out (by rw [HO.out];rfl)])
      go_wp2_with (first | (go_at_call 78;(with_reducible refine (HWD.out _).mono ?_);rintro e w' ⟨rfl,rfl⟩) | (go_at_call 143;(with_reducible refine (HMB.out _).mono ?_);rintro e w' ⟨rfl,rfl⟩))
      go_ret
      exact ⟨ret_bool HR.out,HFB.out _ HB2.out⟩
    | true =>
    have HVC:=Lib.hid (HVB.out _ HB2.out)
    cases y3 with
    | false =>
      have HR:Hid (false=okS x):=Lib.hid (by rw [HOK2.out,all_bad HG.out (by rw [HO.out];rfl)])
      go_wp2_with (first | (go_at_call 78;(with_reducible refine (HWD.out _).mono ?_);rintro e w' ⟨rfl,rfl⟩) | (go_at_call 143;(with_reducible refine (HMB.out _).mono ?_);rintro e w' ⟨rfl,rfl⟩) | (go_at_call 142;(with_reducible refine HVC.out.mono ?_);rintro e w6 ⟨rfl,hb6⟩;have HB3:Hid (Below N w0 w6):=Lib.hid (HB2.out.trans (hb6.mono (by have:=HB2.out.size;rw [HN.out] at this;exact this)));clear hb6))
      go_ret
      exact ⟨ret_bool HR.out,HFB.out _ HB3.out⟩
    | true =>
      have HR:Hid (∀(j:Nat) (a:PartS),j<k+1→x.parts[j]? = some a→okP a=true):=Lib.hid fun j a hj e=>by
       by_cases e2:j=k
       · subst e2
         rw [HG.out] at e
         injection e with e
         subst e
         rw [HO.out]
         rfl
       · exact HS.out.1 j a (by omega) e
      go_wp2_with (first | (go_at_call 78;(with_reducible refine (HWD.out _).mono ?_);rintro e w' ⟨rfl,rfl⟩) | (go_at_call 143;(with_reducible refine (HMB.out _).mono ?_);rintro e w' ⟨rfl,rfl⟩) | (go_at_call 142;(with_reducible refine HVC.out.mono ?_);rintro e w6 ⟨rfl,hb6⟩;have HB3:Hid (Below N w0 w6):=Lib.hid (HB2.out.trans (hb6.mono (by have:=HB2.out.size;rw [HN.out] at this;exact this)));clear hb6))
      go_roundw
      case rel=>exact ⟨k+1,by omega,by go_num,HR.out,HB3.out⟩
      case measure=>simp [intOf];omega
  · obtain rfl:k=n:=by omega
    have HR:Hid (true=okS x):=Lib.hid (by rw [HOK2.out,all_yes fun j a e=>HS.out.1 j a (by have:=(List.getElem?_eq_some_iff.1 e).1;rw [HNN.out] at this;exact this) e])
    clear hsame hbl
    go_wp2
    go_ret
    exact ⟨ret_bool HR.out,HFB.out _ HS.out.2⟩
inductive Cuts:Tx→List Tx→Tx→Prop
 | nil {l:Tx} (h:(cutS crlf l).2.2=false):Cuts l [] l
 | cons {l a b:Tx} {ls:List Tx} {rem:Tx} (h:cutS crlf l=(a,b,true)) (hr:Cuts b ls rem):Cuts l (a :: ls) rem
theorem Cuts.len {l:Tx} {ls:List Tx} {rem:Tx} (h:Cuts l ls rem):2 * ls.length+rem.length≤l.length:=by
 induction h with
 | nil=>simp
 | @cons l a b ls rem h hr ih =>
   have h1:=cutS_some crlf l (by rw [h])
   rw [h] at h1
   have:=congrArg List.length h1
   simp at this
   simp
   omega
def NoEnd (l:Tx) (i:Nat):Prop:=∀j,j<i→(l.drop j).take 2≠crlf
theorem cutS_at {l:Tx} {i:Nat} (h:NoEnd l i) (hi:(l.drop i).take 2=crlf):cutS crlf l=(l.take i,l.drop (i+2),true):=by
 induction l generalizing i with
 | nil=>simp at hi
 | cons c r ih =>
   cases i with
   | zero =>
     have hp:crlf.isPrefixOf (c :: r)=true:=by
      rw [List.isPrefixOf_iff_prefix,List.prefix_iff_eq_take]
      exact hi.symm
     unfold cutS
     rw [if_pos hp]
     rfl
   | succ i =>
     have h0:=h 0 (by omega)
     have hp:¬crlf.isPrefixOf (c :: r)=true:=fun e=>h0 (by
      rw [List.isPrefixOf_iff_prefix,List.prefix_iff_eq_take] at e
      exact e.symm)
     have:=ih (i:=i) (fun j hj=>h (j+1) (by omega)) (by simpa using hi)
     unfold cutS
     rw [if_neg hp,this]
     simp [Nat.add_right_comm]
def scell (s:ByteArray):List Value:=[.string s]
structure LK (w:World) (N:Nat) (l:Tx) (rest:ByteArray) (v:Value) (ss:List ByteArray) (wr:World):Prop where
 row:Own wr N 9 1 v (ss.map scell)
 most:2 * ss.length+rest.size≤l.length
 cuts:∀ls rem,Cuts (tx rest) ls rem→Cuts l (ss.map tx++ls) rem
 below:Below N w wr
theorem LK.next {w:World} {N:Nat} {l:Tx} {rest:ByteArray} {v v6:Value} {ss:List ByteArray} {wo w6:World} (h:LK w N l rest v ss wo) {k:Nat} (hk:k+1<rest.size) (hno:NoEnd (tx rest) k) (hq:((tx rest).drop k).take 2=crlf)
 (ho:Own w6 N 9 1 v6 (ss.map scell++[[.string (rest.extract 0 k)]])) (hg:(wo.alloc (.cells #[.string (rest.extract 0 k)] 9)).grownBy w6 v.ownBlock) (hN:N≤wo.heap.size) :
 LK w N l (rest.extract (k+2) rest.size) v6 (ss++[rest.extract 0 k]) w6:=by
 have hx:tx (rest.extract 0 k)=(tx rest).take k:=by rw [tx_extract];simp
 have hr:tx (rest.extract (k+2) rest.size)=(tx rest).drop (k+2):=by
  rw [tx_extract,List.take_of_length_le]
  rw [List.length_drop,tx_length]
  omega
 refine ⟨by simpa [scell] using ho,?_,fun ls rem hc=> ?_,(h.below.alloc hN _).grown hg (by rw [World.size_alloc];omega) (fun j hj=>(h.row.lt hj).1)⟩
 · have:=h.most
   have hl:=congrArg List.length hr
   rw [tx_length,List.length_drop,tx_length] at hl
   rw [List.length_append,hl]
   simp
   omega
 · have:=h.cuts (tx (rest.extract 0 k) :: ls) rem (.cons (by rw [hx];exact cutS_at hno hq) (by rw [←hr];exact hc))
   simpa using this
set_option maxHeartbeats 3200000 in
set_option maxRecDepth 100000 in
theorem addAttrs_any (N:Nat) (v0 va:Value) (ss:List ByteArray) (L:List AttrS) (w:World) (hN:N≤w.heap.size) (h0:Own w N 9 1 v0 (ss.map scell)) (h:AttrsV w N va L) (hz:SizA L) (hl:L.length≤64) (hs:ss.length≤1000) :
 Calls Tryz.prog 144 #[v0,va] w fun e w'=>∃(v:Value) (l:List ByteArray),e=.returned v∧Own w' N 9 1 v ((ss++l).map scell)∧l.map tx=linesA L∧Below N w w':=by
 obtain ⟨A,c,rfl,hc,hm,-⟩:=h.form
 have H:=Lib.hid h
 have HZ:=Lib.hid hz
 have H0:=Lib.hid h0
 have HW0:=Lib.hid hN
 obtain ⟨n,hn⟩:∃n,L.length=n:=⟨_,rfl⟩
 have HNN:=Lib.hid hn
 rw [hn] at hc hl ⊢
 clear h hn hz h0 hN
 unfold maxLen at hm
 go_enter Tryz.func144,Tryz.ntmps144
 go_wp2
 go_loopw [0,10] (fun s0 s10 wr=>∃(k:Nat) (lk:List ByteArray),k≤n∧s10=.int .i64 k∧Own wr N 9 1 s0 ((ss++lk).map scell)∧lk.map tx=linesA (L.take k)∧lk.length=k∧Below N w wr) (fun _ s10 _=>n - (intOf s10).toNat)
 case atStart=>exact ⟨0,[],Nat.zero_le _,rfl,by rw [List.append_nil];exact H0.out,rfl,rfl,Below.refl _ w⟩
 case round =>
  obtain ⟨k,lk,hk,rfl,hown,hlt,hlk,hb⟩:=hrel
  have HS:=Lib.hid (And.intro hown (And.intro hlt hb))
  have HLK:=Lib.hid hlk
  have HLL:Hid (((ss++lk).map scell).length=ss.length+k):=Lib.hid (by rw [List.length_map,List.length_append,hlk])
  clear hown hlt hlk
  by_cases hlt:k<n
  · obtain ⟨ad,c',e1,b1,x0,x1⟩:=H.out.at_ (i:=k) (by rw [HNN.out];exact hlt)
    injection e1 with e1 e1n e1c
    clear e1n e1c
    subst e1
    have gL:=getD_of (L:=L) (i:=k) (by rw [HNN.out];exact hlt)
    obtain ⟨a,ha⟩:∃a,L.getD k default=a:=⟨_,rfl⟩
    rw [ha] at x0 x1 gL
    have x0':=(hb.cell (p:=ad.add (k * 2)) (by rw [add_block];exact b1)).trans x0
    have x1':=(hb.cell (p:=⟨(ad.add (k * 2)).block,(ad.add (k * 2)).off+1,none⟩) (by show (ad.add (k * 2)).block<_;rw [add_block];exact b1)).trans x1
    have HG:=Lib.hid gL
    have hza:=HZ.out k a gL
    have hNr:N≤wr.heap.size:=Nat.le_trans HW0.out hb.size
    have hal:=(hb.alloc hNr (.cells #[.string ⟨#[]⟩,.string ⟨#[]⟩] 65))
    have hw1:Whole (wr.alloc (.cells #[.string ⟨#[]⟩,.string ⟨#[]⟩] 65)) wr.heap.size 65 #[.string ⟨#[]⟩,.string ⟨#[]⟩]:=Whole.new _ _ _
    have HW1:=Lib.hid hw1
    have HO1:=Lib.hid ((HS.out.1.alloc (.cells #[.string ⟨#[]⟩,.string ⟨#[]⟩] 65)).farRow ((HS.out.1.alloc _).apart hw1 (by decide)) #[.string a.name,.string a.value])
    have HB1:=Lib.hid (And.intro hNr hal)
    have hk0:(0:Int)≤(k:Int):=by omega
    have hk1:(k:Int)<(n:Int):=by omega
    have e1:IntKind.i64.wrap ((k:Int)+1)=(k:Int)+1:=IntWalk.i64_in _ (by omega)
    clear x0 x1 gL ha b1 hb hNr hal hw1
    obtain ⟨nm,vl⟩:=a
    simp only at x0' x1' hza HO1
    go_upto_region 4 with ((with_reducible refine wpList_storeS #[.string nm,.string vl] ?_ 65 (.tmp 6) (.tmp 13) ?_ ?_ ?_ HW1.out Tryz.sizeSAttr ?_ ?_ ?_ ?_);(with_reducible rfl);(with_reducible rfl);rfl;rfl;rfl;rfl;rfl)
    have hr:=HW1.out.row #[.string nm,.string vl]
    have hb2:=below_row HB1.out.2 HB1.out.1 #[.string nm,.string vl]
    have hns:N≤((wr.alloc (.cells #[.string ⟨#[]⟩,.string ⟨#[]⟩] 65)).setRow wr.heap.size #[.string nm,.string vl]).heap.size:=Nat.le_trans HW0.out hb2.size
    have ho1:=HO1.out
    generalize (wr.alloc (.cells #[.string ⟨#[]⟩,.string ⟨#[]⟩] 65)).setRow wr.heap.size #[.string nm,.string vl]=W2 at *
    generalize wr.heap.size=g at *
    have c0:=hr.cell 0
    have c1:=hr.cell 1
    simp only [List.getElem?_toArray,List.getElem?_cons_zero,List.getElem?_cons_succ] at c0 c1
    have HB2:=Lib.hid (And.intro ho1 (And.intro hb2 hns))
    clear hr hb2 HW1 HB1 x0' x1' ho1 hns HO1
    have hz1:¬(9223372036854775807<2+nm.size):=by omega
    have hz2:¬(9223372036854775807<1+vl.size):=by omega
    have hz3:¬(9223372036854775807<2+nm.size+(1+vl.size)):=by omega
    clear hza
    cases hq:vl.toList.isEmpty with
    | true =>
      have HLN:Hid (tx (⟨#[97,61]⟩++nm)=lineA ⟨nm,vl⟩):=Lib.hid (by
       rw [toList_tx] at hq
       unfold lineA valTail
       rw [if_pos hq,tx_append,List.append_nil]
       rfl)
      have HNX:Hid ((lk++[⟨#[97,61]⟩++nm]).map tx=linesA (L.take (k+1))):=Lib.hid (by
       rw [List.map_append,HS.out.2.1,List.take_add_one,HG.out,linesA_append]
       congr 1
       show [tx (⟨#[97,61]⟩++nm)]=[lineA ⟨nm,vl⟩]
       rw [HLN.out])
      have HA:Hid (Own (W2.alloc (.cells #[.string (⟨#[97,61]⟩++nm)] 9)) N 9 1 u0 ((ss++lk).map scell)∧Whole (W2.alloc (.cells #[.string (⟨#[97,61]⟩++nm)] 9)) W2.heap.size 9 #[.string (⟨#[97,61]⟩++nm)]∧Below N w (W2.alloc (.cells #[.string (⟨#[97,61]⟩++nm)] 9))∧N≤(W2.alloc (.cells #[.string (⟨#[97,61]⟩++nm)] 9)).heap.size):=Lib.hid ⟨HB2.out.1.alloc _,Whole.new _ _ _,HB2.out.2.1.alloc HB2.out.2.2 _,by rw [World.size_alloc];have:=HB2.out.2.2;omega⟩
      go_wp2_with (at_builtin;refine wpList_appendE (r:=[.string (⟨#[97,61]⟩++nm)]) rfl (.tmp 25) (.tmp 27) rfl Tryz.underlying24 Tryz.infoStr rfl (Nat.zero_lt_succ _) rfl HA.out.1 rfl HA.out.2.1 rfl (fun u hu=>by simp at hu;subst hu;rfl) (by rw [HLL.out];omega) (by rw [HLL.out];omega) HA.out.2.2.2 ?_;intro v6 w6 ho6 hg6 hn6;have HFIN:Hid (Own w6 N 9 1 v6 ((ss++(lk++[⟨#[97,61]⟩++nm])).map scell)∧Below N w w6):=Lib.hid ⟨by simpa [scell] using ho6,HA.out.2.2.1.grown hg6 HA.out.2.2.2 (fun j hj=>(HA.out.1.lt hj).1)⟩;clear ho6 hg6 hn6)
      go_roundw
      case rel=>exact ⟨k+1,_,by omega,by go_num,HFIN.out.1,HNX.out,by rw [List.length_append,HLK.out];rfl,HFIN.out.2⟩
      case measure=>simp [intOf];omega
    | false =>
      have HLN:Hid (tx (⟨#[97,61]⟩++nm++(⟨#[58]⟩++vl))=lineA ⟨nm,vl⟩):=Lib.hid (by
       rw [toList_tx] at hq
       unfold lineA valTail
       rw [if_neg (by rw [hq];decide),tx_append,tx_append,tx_append]
       rfl)
      have HNX:Hid ((lk++[⟨#[97,61]⟩++nm++(⟨#[58]⟩++vl)]).map tx=linesA (L.take (k+1))):=Lib.hid (by
       rw [List.map_append,HS.out.2.1,List.take_add_one,HG.out,linesA_append]
       congr 1
       show [tx (⟨#[97,61]⟩++nm++(⟨#[58]⟩++vl))]=[lineA ⟨nm,vl⟩]
       rw [HLN.out])
      have HA:Hid (Own (W2.alloc (.cells #[.string (⟨#[97,61]⟩++nm++(⟨#[58]⟩++vl))] 9)) N 9 1 u0 ((ss++lk).map scell)∧Whole (W2.alloc (.cells #[.string (⟨#[97,61]⟩++nm++(⟨#[58]⟩++vl))] 9)) W2.heap.size 9 #[.string (⟨#[97,61]⟩++nm++(⟨#[58]⟩++vl))]∧Below N w (W2.alloc (.cells #[.string (⟨#[97,61]⟩++nm++(⟨#[58]⟩++vl))] 9))∧N≤(W2.alloc (.cells #[.string (⟨#[97,61]⟩++nm++(⟨#[58]⟩++vl))] 9)).heap.size):=Lib.hid ⟨HB2.out.1.alloc _,Whole.new _ _ _,HB2.out.2.1.alloc HB2.out.2.2 _,by rw [World.size_alloc];have:=HB2.out.2.2;omega⟩
      go_wp2_with (at_builtin;refine wpList_appendE (r:=[.string (⟨#[97,61]⟩++nm++(⟨#[58]⟩++vl))]) rfl (.tmp 25) (.tmp 27) rfl Tryz.underlying24 Tryz.infoStr rfl (Nat.zero_lt_succ _) rfl HA.out.1 rfl HA.out.2.1 rfl (fun u hu=>by simp at hu;subst hu;rfl) (by rw [HLL.out];omega) (by rw [HLL.out];omega) HA.out.2.2.2 ?_;intro v6 w6 ho6 hg6 hn6;have HFIN:Hid (Own w6 N 9 1 v6 ((ss++(lk++[⟨#[97,61]⟩++nm++(⟨#[58]⟩++vl)])).map scell)∧Below N w w6):=Lib.hid ⟨by simpa [scell] using ho6,HA.out.2.2.1.grown hg6 HA.out.2.2.2 (fun j hj=>(HA.out.1.lt hj).1)⟩;clear ho6 hg6 hn6)
      go_roundw
      case rel=>exact ⟨k+1,_,by omega,by go_num,HFIN.out.1,HNX.out,by rw [List.length_append,HLK.out];rfl,HFIN.out.2⟩
      case measure=>simp [intOf];omega
  · obtain rfl:k=n:=by omega
    have HF:Hid (lk.map tx=linesA L):=Lib.hid (by rw [HS.out.2.1,List.take_of_length_le (by rw [HNN.out];exact Nat.le_refl _)])
    clear hb
    go_wp2
    go_ret
    exact ⟨_,lk,rfl,HS.out.1,HF.out,HS.out.2.2⟩
theorem val_size {s:ByteArray} (h:valP (tx s)=true):s.size≤200:=by have:=(valP_len h).2;rwa [tx_length] at this
theorem maybe_size {s:ByteArray} (h:maybeP (tx s)=true):s.size≤200:=by
 unfold maybeP at h
 rw [Bool.or_eq_true,List.isEmpty_iff] at h
 rcases h with h | h
 · rw [←tx_length,h];simp
 · exact val_size h
theorem okA_at {L:List AttrS} (h:okA L=true) {a:AttrS} (ha:a∈L):okAt a=true:=by
 unfold okA at h
 simp only [Bool.and_eq_true,decide_eq_true_eq,List.all_eq_true] at h
 exact h.2 a ha
theorem okAt_sizes {a:AttrS} (h:okAt a=true):a.name.size≤32∧a.value.size≤200:=by
 unfold okAt at h
 rw [Bool.and_eq_true] at h
 exact ⟨by have:=(wordP_len h.1).2;rwa [tx_length] at this,maybe_size h.2⟩
theorem okA_siz {L:List AttrS} (h:okA L=true):SizA L:=fun i a e=>by
 have:=okAt_sizes (okA_at h (List.mem_of_getElem? e))
 omega
theorem okS_siz {x:SesS} (h:okS x=true):SizS x:=by
 obtain ⟨h1,h2,h3,h4,h5,h6⟩:=okS_parts h
 refine ⟨⟨by have:=val_size h1;omega,by have:=val_size h2;omega,by have:=val_size h3;omega⟩,okA_siz h4,fun i p e=> ?_⟩
 obtain ⟨q1,q2,q3⟩:=okP_parts (h6 p (List.mem_of_getElem? e))
 refine ⟨by have:=val_size q1;omega,by have:=maybe_size q2;omega,okA_siz q3,by have:=okA_len q3;omega⟩
theorem own_four {w:World} {g N:Nat} {a b c d:ByteArray} (h:Whole w g 9 #[.string a,.string b,.string c,.string d]) (hg:N≤g):Own w N 9 1 (.slice (some ⟨g,0,none⟩) 4 4) ([a,b,c,d].map scell) :=
 ⟨⟨rfl,.inr ⟨g,4,_,rfl,hg,h,Nat.le_refl _,by unfold maxLen;omega,rfl,rfl⟩⟩,fun r hr=>by
   simp [scell] at hr
   rcases hr with rfl | rfl | rfl | rfl <;> rfl⟩
set_option maxHeartbeats 3200000 in
set_option maxRecDepth 100000 in
theorem plines_any (X:Array Value) (x:SesS) (a1 p1:Value) (w:World) (h:SesV w w.heap.size X x a1 p1) (hok:okS x=true) :
 Calls Tryz.prog 86 #[.agg X] w fun e w'=>∃(v:Value) (ls:List ByteArray),e=.returned v∧Own w' w.heap.size 9 1 v (ls.map scell)∧ls.map tx=linesS x∧Below w.heap.size w w':=by
 obtain ⟨e1,va1,vp1⟩:=h
 subst e1
 obtain ⟨A,k1,rfl,-⟩:=va1.form
 obtain ⟨P,j1,rfl,hj1,hm1,-⟩:=vp1.form
 obtain ⟨n1,hn1⟩:∃n,x.attrs.length=n:=⟨_,rfl⟩
 obtain ⟨n,hn⟩:∃n,x.parts.length=n:=⟨_,rfl⟩
 rw [hn1] at va1
 rw [hn] at vp1 hj1
 rw [hn1,hn]
 unfold maxLen at hm1
 have hb:Below w.heap.size w (w.alloc (.cells #[.string x.origin,.string x.name,.string x.time,.slice A n1 k1,.slice P n j1] 96)):=(Below.refl _ w).alloc (Nat.le_refl _) _
 have g1:=Whole.new w 96 #[.string x.origin,.string x.name,.string x.time,.slice A n1 k1,.slice P n j1]
 have va:=(va1.below hb).more hb.size
 have vp:=(vp1.below hb).more hb.size
 have HNN:=Lib.hid hn
 have HOK:=Lib.hid (okS_parts hok)
 have hz:=okS_siz hok
 have HZ:=Lib.hid hz
 have hn8:n≤8:=by rw [←hn];exact HOK.out.2.2.2.2.1
 have hq1:¬(9223372036854775807<2+x.origin.size):=by have:=hz.1.1;omega
 have hq2:¬(9223372036854775807<2+x.name.size):=by have:=hz.1.2.1;omega
 have hq3:¬(9223372036854775807<2+x.time.size):=by have:=hz.1.2.2;omega
 clear hn1 hn va1 vp1 hz hok
 obtain ⟨B,hB⟩:∃B,w.heap.size=B:=⟨_,rfl⟩
 have HBE:=Lib.hid hB
 go_enter Tryz.func86,Tryz.ntmps86
 go_upto_region 1 with fail
 rw [hB] at g1
 generalize hw0:w.alloc (.cells #[.string x.origin,.string x.name,.string x.time,.slice A n1 k1,.slice P n j1] 96)=w0 at *
 try rw [hB]
 have HB0:=Lib.hid hb
 clear hw0 hB
 obtain ⟨N,hN⟩:∃N,w0.heap.size=N:=⟨_,rfl⟩
 have HN:=Lib.hid hN
 rw [hN] at va vp
 have hBN:B<N:=by rw [←hN];exact g1.lt
 have HBN:=Lib.hid hBN
 have c0:=g1.cell 0
 have c1:=g1.cell 1
 have c2:=g1.cell 2
 simp only [List.getElem?_toArray,List.getElem?_cons_zero,List.getElem?_cons_succ] at c0 c1 c2
 have HA1:Hid (Own (w0.alloc (.cells #[.string ⟨#[118,61,48]⟩,.string (⟨#[111,61]⟩++x.origin),.string (⟨#[115,61]⟩++x.name),.string (⟨#[116,61]⟩++x.time)] 9)) N 9 1 (.slice (some ⟨N,0,none⟩) 4 4) ([⟨#[118,61,48]⟩,⟨#[111,61]⟩++x.origin,⟨#[115,61]⟩++x.name,⟨#[116,61]⟩++x.time].map scell)∧Below N w0 (w0.alloc (.cells #[.string ⟨#[118,61,48]⟩,.string (⟨#[111,61]⟩++x.origin),.string (⟨#[115,61]⟩++x.name),.string (⟨#[116,61]⟩++x.time)] 9))∧(w0.alloc (.cells #[.string ⟨#[118,61,48]⟩,.string (⟨#[111,61]⟩++x.origin),.string (⟨#[115,61]⟩++x.name),.string (⟨#[116,61]⟩++x.time)] 9)).cell? ⟨B,3,none⟩=some (.slice A n1 k1)∧(w0.alloc (.cells #[.string ⟨#[118,61,48]⟩,.string (⟨#[111,61]⟩++x.origin),.string (⟨#[115,61]⟩++x.name),.string (⟨#[116,61]⟩++x.time)] 9)).cell? ⟨B,4,none⟩=some (.slice P n j1)):=Lib.hid (by
  have hw:=Whole.new w0 9 #[.string ⟨#[118,61,48]⟩,.string (⟨#[111,61]⟩++x.origin),.string (⟨#[115,61]⟩++x.name),.string (⟨#[116,61]⟩++x.time)]
  rw [hN] at hw
  have hg:=g1.alloc (.cells #[.string ⟨#[118,61,48]⟩,.string (⟨#[111,61]⟩++x.origin),.string (⟨#[115,61]⟩++x.name),.string (⟨#[116,61]⟩++x.time)] 9)
  exact ⟨own_four hw (Nat.le_refl _),(Below.refl _ _).alloc (by rw [hN];exact Nat.le_refl _) _,hg.cell 3,hg.cell 4⟩)
 have HV:=Lib.hid (And.intro va vp)
 go_upto_region 2 with fail
 try rw [hN]
 have c3:=HA1.out.2.2.1
 have c4:=HA1.out.2.2.2
 generalize (w0.alloc (.cells #[.string ⟨#[118,61,48]⟩,.string (⟨#[111,61]⟩++x.origin),.string (⟨#[115,61]⟩++x.name),.string (⟨#[116,61]⟩++x.time)] 9))=w1 at *
 clear hN va vp hBN hb g1 c0 c1 c2 hq1 hq2 hq3
 have HC2:Hid (Calls Tryz.prog 144 #[.slice (some ⟨N,0,none⟩) 4 4,.slice A n1 k1] w1 fun e w'=>∃(v:Value) (l:List ByteArray),e=.returned v∧Own w' N 9 1 v (([⟨#[118,61,48]⟩,⟨#[111,61]⟩++x.origin,⟨#[115,61]⟩++x.name,⟨#[116,61]⟩++x.time]++l).map scell)∧l.map tx=linesA x.attrs∧Below N w1 w'):=Lib.hid
  (addAttrs_any N _ _ _ x.attrs w1 (by have:=HA1.out.2.1.size;rw [HN.out] at this;exact this) HA1.out.1 (HV.out.1.below HA1.out.2.1) HZ.out.2.1 (okA_len HOK.out.2.2.2.1) (by simp))
 go_wp2_with (go_at_call 144;(with_reducible refine HC2.out.mono ?_);rintro e w2 ⟨v2,l2,rfl,ho2,hl2,hb2⟩;have c4':=(hb2.cell (p:=⟨B,4,none⟩) HBN.out).trans c4;have H2:Hid (Own w2 N 9 1 v2 (([⟨#[118,61,48]⟩,⟨#[111,61]⟩++x.origin,⟨#[115,61]⟩++x.name,⟨#[116,61]⟩++x.time]++l2).map scell)∧l2.map tx=linesA x.attrs∧Below N w0 w2):=Lib.hid ⟨ho2,hl2,HA1.out.2.1.trans hb2⟩;clear ho2 hl2 hb2)
 clear c4' c3 c4
 have HHD:Hid (([⟨#[118,61,48]⟩,⟨#[111,61]⟩++x.origin,⟨#[115,61]⟩++x.name,⟨#[116,61]⟩++x.time]++l2).map tx=headL x.origin x.name x.time++linesA x.attrs∧([⟨#[118,61,48]⟩,⟨#[111,61]⟩++x.origin,⟨#[115,61]⟩++x.name,⟨#[116,61]⟩++x.time]++l2:List ByteArray).length≤4+64):=Lib.hid (by
  constructor
  · rw [List.map_append,H2.out.2.1]
    simp only [List.map_cons,List.map_nil,tx_append]
    rfl
  · have h1:=congrArg List.length H2.out.2.1
    rw [List.length_map] at h1
    simp only [linesA,List.length_map] at h1
    have:=okA_len HOK.out.2.2.2.1
    simp
    omega)
 generalize hg0:([⟨#[118,61,48]⟩,⟨#[111,61]⟩++x.origin,⟨#[115,61]⟩++x.name,⟨#[116,61]⟩++x.time]++l2:List ByteArray)=l3 at *
 clear hg0
 go_loopw [3,23] (fun s3 s23 wr=>∃(k:Nat) (lk:List ByteArray),k≤n∧s23=.int .i64 k∧Own wr N 9 1 s3 (lk.map scell)∧lk.map tx=headL x.origin x.name x.time++(linesA x.attrs++(x.parts.take k).flatMap linesP)∧lk.length≤4+64+k * 66∧Below N w0 wr) (fun _ s23 _=>n - (intOf s23).toNat)
 case atStart=>exact ⟨0,l3,Nat.zero_le _,rfl,H2.out.1,by rw [HHD.out.1];simp,HHD.out.2,H2.out.2.2⟩
 case round =>
  obtain ⟨k,lk,hk,rfl,hown,hlt,hlk,hbl⟩:=hrel
  have HS:=Lib.hid (And.intro hown (And.intro hlt hbl))
  have HLK:=Lib.hid hlk
  clear hown hlt hlk
  by_cases hlt:k<n
  · obtain ⟨ad,c1',va,e1,b1,x0,x1,xa,xr⟩:=HV.out.2.at_ (i:=k) (by rw [HNN.out];exact hlt)
    injection e1 with e1 e1n e1c
    clear e1n e1c
    subst e1
    have gL:=getD_of (L:=x.parts) (i:=k) (by rw [HNN.out];exact hlt)
    obtain ⟨p,hp⟩:∃p,x.parts.getD k default=p:=⟨_,rfl⟩
    rw [hp] at x0 x1 xr gL
    have x0':=(hbl.cell (p:=ad.add (k * 3)) (by rw [add_block];exact b1)).trans x0
    have x1':=(hbl.cell (p:=⟨(ad.add (k * 3)).block,(ad.add (k * 3)).off+1,none⟩) (by show (ad.add (k * 3)).block<_;rw [add_block];exact b1)).trans x1
    have x2':=(hbl.cell (p:=⟨(ad.add (k * 3)).block,(ad.add (k * 3)).off+2,none⟩) (by show (ad.add (k * 3)).block<_;rw [add_block];exact b1)).trans xa
    have HG:=Lib.hid gL
    have hzp:=HZ.out.2.2 k p gL
    have HPL:Hid (p.attrs.length≤64):=Lib.hid (okA_len (okP_parts (HOK.out.2.2.2.2.2 p (List.mem_of_getElem? gL))).2.2)
    have hNr:N≤wr.heap.size:=by have:=hbl.size;rw [HN.out] at this;exact this
    have hal:=(hbl.alloc hNr (.cells #[.string ⟨#[]⟩,.string ⟨#[]⟩,.slice none 0 0] 34))
    have hw1:Whole (wr.alloc (.cells #[.string ⟨#[]⟩,.string ⟨#[]⟩,.slice none 0 0] 34)) wr.heap.size 34 #[.string ⟨#[]⟩,.string ⟨#[]⟩,.slice none 0 0]:=Whole.new _ _ _
    have HW1:=Lib.hid hw1
    have hk0:(0:Int)≤(k:Int):=by omega
    have hk1:(k:Int)<(n:Int):=by omega
    have e1:IntKind.i64.wrap ((k:Int)+1)=(k:Int)+1:=IntWalk.i64_in _ (by omega)
    obtain ⟨Aq,lq,cq,rfl⟩:∃A l c,va=.slice A l c:=by
     obtain ⟨A,c,e,-⟩:=xr.form
     exact ⟨_,_,_,e⟩
    have HO1:=Lib.hid ((HS.out.1.alloc (.cells #[.string ⟨#[]⟩,.string ⟨#[]⟩,.slice none 0 0] 34)).farRow ((HS.out.1.alloc _).apart hw1 (by decide)) #[.string p.line,.string p.conn,.slice Aq lq cq])
    have HB1:=Lib.hid (And.intro hNr hal)
    have HADD:Hid (∀(W:World) (v:Value) (ss:List ByteArray),Own W N 9 1 v (ss.map scell)→Below N w0 W→ss.length≤1000→Calls Tryz.prog 144 #[v,.slice Aq lq cq] W fun e w'=>∃(u:Value) (l:List ByteArray),e=.returned u∧Own w' N 9 1 u ((ss++l).map scell)∧l.map tx=linesA p.attrs∧Below N W w'):=Lib.hid fun W v ss ho hW hl =>
     addAttrs_any N v _ ss p.attrs W (by have:=hW.size;rw [HN.out] at this;exact this) ho (xr.below hW) hzp.2.2.1 HPL.out hl
    have hq4:¬(9223372036854775807<2+p.line.size):=by have:=hzp.1;omega
    have hq5:¬(9223372036854775807<2+p.conn.size):=by have:=hzp.2.1;omega
    have HCN:Hid ((tx p.conn).isEmpty=p.conn.toList.isEmpty):=Lib.hid (by rw [toList_tx])
    clear x0 x1 xa gL hp b1 hbl hNr hal xr hw1 hzp
    go_upto_region 6 with ((with_reducible refine wpList_storeS #[.string p.line,.string p.conn,.slice Aq lq cq] ?_ 34 (.tmp 5) (.tmp 26) ?_ ?_ ?_ HW1.out Tryz.sizeSPart ?_ ?_ ?_ ?_);(with_reducible rfl);(with_reducible rfl);rfl;rfl;rfl;rfl;rfl)
    have hr:=HW1.out.row #[.string p.line,.string p.conn,.slice Aq lq cq]
    have hb2:=below_row HB1.out.2 HB1.out.1 #[.string p.line,.string p.conn,.slice Aq lq cq]
    have ho1:=HO1.out
    generalize (wr.alloc (.cells #[.string ⟨#[]⟩,.string ⟨#[]⟩,.slice none 0 0] 34)).setRow wr.heap.size #[.string p.line,.string p.conn,.slice Aq lq cq]=W2 at *
    generalize wr.heap.size=g at *
    have d0:=hr.cell 0
    simp only [List.getElem?_toArray,List.getElem?_cons_zero,List.getElem?_cons_succ] at d0
    have HP2:Hid (Own W2 N 9 1 u3 (lk.map scell)∧Below N w0 W2∧Whole W2 g 34 #[.string p.line,.string p.conn,.slice Aq lq cq]):=Lib.hid ⟨ho1,hb2,hr⟩
    clear hr hb2 HW1 HB1 x0' x1' x2' ho1 HO1
    have HLN0:Hid (lk.length≤900):=Lib.hid (by have:=HLK.out;omega)
    have HA2:Hid (Own (W2.alloc (.cells #[.string (⟨#[109,61]⟩++p.line)] 9)) N 9 1 u3 ((lk).map scell)∧Whole (W2.alloc (.cells #[.string (⟨#[109,61]⟩++p.line)] 9)) W2.heap.size 9 #[.string (⟨#[109,61]⟩++p.line)]∧Below N w0 (W2.alloc (.cells #[.string (⟨#[109,61]⟩++p.line)] 9))∧N≤(W2.alloc (.cells #[.string (⟨#[109,61]⟩++p.line)] 9)).heap.size∧Whole (W2.alloc (.cells #[.string (⟨#[109,61]⟩++p.line)] 9)) g 34 #[.string p.line,.string p.conn,.slice Aq lq cq]):=Lib.hid (by
     have hs:=HP2.out.2.1.size
     rw [HN.out] at hs
     exact ⟨HP2.out.1.alloc _,Whole.new _ _ _,HP2.out.2.1.alloc hs _,by rw [World.size_alloc];omega,HP2.out.2.2.alloc _⟩)
    go_upto_region 7 with (at_builtin;refine wpList_appendE (r:=[.string (⟨#[109,61]⟩++p.line)]) rfl (.tmp 27) (.tmp 31) rfl Tryz.underlying24 Tryz.infoStr rfl (Nat.zero_lt_succ _) rfl HA2.out.1 rfl HA2.out.2.1 rfl (fun u hu=>by simp at hu;subst hu;rfl) (by rw [List.length_map];have:=HLN0.out;omega) (by rw [List.length_map];have:=HLN0.out;omega) HA2.out.2.2.2.1 ?_;intro v6 w6 ho6 hg6 hn6;have HF6:Hid (Own w6 N 9 1 v6 ((lk++[⟨#[109,61]⟩++p.line]).map scell)∧Below N w0 w6∧Whole w6 g 34 #[.string p.line,.string p.conn,.slice Aq lq cq]):=Lib.hid ⟨by simpa [scell] using ho6,HA2.out.2.2.1.grown hg6 HA2.out.2.2.2.1 (fun j hj=>(HA2.out.1.lt hj).1),HA2.out.2.2.2.2.grown hg6 (fun e=>(HA2.out.1.apart HA2.out.2.2.2.2 (by decide)) e.symm)⟩;clear ho6 hg6 hn6)
    have d1:=HF6.out.2.2.cell 1
    have d2:=HF6.out.2.2.cell 2
    simp only [List.getElem?_toArray,List.getElem?_cons_zero,List.getElem?_cons_succ] at d1 d2
    have HLN1:Hid ((lk++[⟨#[109,61]⟩++p.line]).length≤1000):=Lib.hid (by rw [List.length_append];have:=HLN0.out;simp;omega)
    clear HP2 d0
    cases hq:p.conn.toList.isEmpty with
    | true =>
      have hqt:(p.conn.toList.isEmpty=true)=True:=by simp [hq]
      go_wp2_with (go_at_call 144;(with_reducible refine (HADD.out _ _ _ HF6.out.1 HF6.out.2.1 HLN1.out).mono ?_);rintro e w9 ⟨v9,l9,rfl,ho9,hl9,hb9⟩;have HF9:Hid (Own w9 N 9 1 v9 ((lk++[⟨#[109,61]⟩++p.line]++l9).map scell)∧l9.map tx=linesA p.attrs∧Below N w0 w9):=Lib.hid ⟨ho9,hl9,HF6.out.2.1.trans hb9⟩;clear ho9 hl9 hb9)
      have HNX:Hid ((lk++[⟨#[109,61]⟩++p.line]++l9).map tx=headL x.origin x.name x.time++(linesA x.attrs++(x.parts.take (k+1)).flatMap linesP)∧(lk++[⟨#[109,61]⟩++p.line]++l9).length≤4+64+(k+1) * 66):=Lib.hid (by
       constructor
       · rw [List.take_add_one,HG.out,List.flatMap_append]
         simp only [List.map_append,HS.out.2.1,HF9.out.2.1,Option.toList,List.flatMap_cons,List.flatMap_nil,List.append_nil,linesP,connL,HCN.out,hqt,List.map_cons,List.map_nil,tx_append,List.append_assoc,List.cons_append,List.nil_append,if_true,if_false]
         rfl
       · have h1:=congrArg List.length HF9.out.2.1
         rw [List.length_map] at h1
         simp only [linesA,List.length_map] at h1
         simp only [List.length_append,List.length_cons,List.length_nil,h1]
         have:=HLK.out
         have:=HPL.out
         omega)
      go_roundw
      case rel=>exact ⟨k+1,_,by omega,by go_num,HF9.out.1,HNX.out.1,HNX.out.2,HF9.out.2.2⟩
      case measure=>simp [intOf];omega
    | false =>
      have hqt:(p.conn.toList.isEmpty=true)=False:=by rw [hq];simp
      have HA3:Hid (Own (w6.alloc (.cells #[.string (⟨#[99,61]⟩++p.conn)] 9)) N 9 1 v6 ((lk++[⟨#[109,61]⟩++p.line]).map scell)∧Whole (w6.alloc (.cells #[.string (⟨#[99,61]⟩++p.conn)] 9)) w6.heap.size 9 #[.string (⟨#[99,61]⟩++p.conn)]∧Below N w0 (w6.alloc (.cells #[.string (⟨#[99,61]⟩++p.conn)] 9))∧N≤(w6.alloc (.cells #[.string (⟨#[99,61]⟩++p.conn)] 9)).heap.size∧Whole (w6.alloc (.cells #[.string (⟨#[99,61]⟩++p.conn)] 9)) g 34 #[.string p.line,.string p.conn,.slice Aq lq cq]):=Lib.hid (by
       have hs:=HF6.out.2.1.size
       rw [HN.out] at hs
       exact ⟨HF6.out.1.alloc _,Whole.new _ _ _,HF6.out.2.1.alloc hs _,by rw [World.size_alloc];omega,HF6.out.2.2.alloc _⟩)
      go_upto_region 9 with (at_builtin;refine wpList_appendE (r:=[.string (⟨#[99,61]⟩++p.conn)]) rfl (.tmp 36) (.tmp 40) rfl Tryz.underlying24 Tryz.infoStr rfl (Nat.zero_lt_succ _) rfl HA3.out.1 rfl HA3.out.2.1 rfl (fun u hu=>by simp at hu;subst hu;rfl) (by rw [List.length_map];have:=HLN1.out;omega) (by rw [List.length_map];have:=HLN1.out;omega) HA3.out.2.2.2.1 ?_;intro v7 w7 ho6 hg6 hn6;have HF7:Hid (Own w7 N 9 1 v7 ((lk++[⟨#[109,61]⟩++p.line]++[⟨#[99,61]⟩++p.conn]).map scell)∧Below N w0 w7∧Whole w7 g 34 #[.string p.line,.string p.conn,.slice Aq lq cq]):=Lib.hid ⟨by simpa [scell] using ho6,HA3.out.2.2.1.grown hg6 HA3.out.2.2.2.1 (fun j hj=>(HA3.out.1.lt hj).1),HA3.out.2.2.2.2.grown hg6 (fun e=>(HA3.out.1.apart HA3.out.2.2.2.2 (by decide)) e.symm)⟩;clear ho6 hg6 hn6)
      have d3:=HF7.out.2.2.cell 2
      simp only [List.getElem?_toArray,List.getElem?_cons_zero,List.getElem?_cons_succ] at d3
      have HLN2:Hid ((lk++[⟨#[109,61]⟩++p.line]++[⟨#[99,61]⟩++p.conn]).length≤1000):=Lib.hid (by simp only [List.length_append,List.length_cons,List.length_nil];have:=HLN0.out;omega)
      go_wp2_with (go_at_call 144;(with_reducible refine (HADD.out _ _ _ HF7.out.1 HF7.out.2.1 HLN2.out).mono ?_);rintro e w9 ⟨v9,l9,rfl,ho9,hl9,hb9⟩;have HF9:Hid (Own w9 N 9 1 v9 ((lk++[⟨#[109,61]⟩++p.line]++[⟨#[99,61]⟩++p.conn]++l9).map scell)∧l9.map tx=linesA p.attrs∧Below N w0 w9):=Lib.hid ⟨ho9,hl9,HF7.out.2.1.trans hb9⟩;clear ho9 hl9 hb9)
      have HNX:Hid ((lk++[⟨#[109,61]⟩++p.line]++[⟨#[99,61]⟩++p.conn]++l9).map tx=headL x.origin x.name x.time++(linesA x.attrs++(x.parts.take (k+1)).flatMap linesP)∧(lk++[⟨#[109,61]⟩++p.line]++[⟨#[99,61]⟩++p.conn]++l9).length≤4+64+(k+1) * 66):=Lib.hid (by
       constructor
       · rw [List.take_add_one,HG.out,List.flatMap_append]
         simp only [List.map_append,HS.out.2.1,HF9.out.2.1,Option.toList,List.flatMap_cons,List.flatMap_nil,List.append_nil,linesP,connL,HCN.out,hqt,List.map_cons,List.map_nil,tx_append,List.append_assoc,List.cons_append,List.nil_append,if_true,if_false]
         rfl
       · have h1:=congrArg List.length HF9.out.2.1
         rw [List.length_map] at h1
         simp only [linesA,List.length_map] at h1
         simp only [List.length_append,List.length_cons,List.length_nil,h1]
         have:=HLK.out
         have:=HPL.out
         omega)
      go_roundw
      case rel=>exact ⟨k+1,_,by omega,by go_num,HF9.out.1,HNX.out.1,HNX.out.2,HF9.out.2.2⟩
      case measure=>simp [intOf];omega
  · obtain rfl:k=n:=by omega
    have HF:Hid (lk.map tx=linesS x):=Lib.hid (by rw [HS.out.2.1,List.take_of_length_le (by rw [HNN.out];exact Nat.le_refl _)];rfl)
    have HBW:Hid (w.heap.size≤N∧Below w.heap.size w wr):=Lib.hid (by
     have h1:w.heap.size≤N:=by rw [HBE.out];have:=HBN.out;omega
     exact ⟨h1,HB0.out.trans (HS.out.2.2.mono h1)⟩)
    clear hbl
    go_wp2
    go_ret
    exact ⟨_,lk,rfl,HS.out.1.base_le HBW.out.1,HF.out,HBW.out.2⟩
theorem join_lines:∀(ls:List ByteArray),ls≠[]→Lib.join (ls.map (·.data.toList)) crlf++crlf=textL (ls.map tx)
 | [],h=>(h rfl).elim
 | [a],_=>by
   rw [List.map_cons,List.map_nil,Lib.join_one,List.map_cons,List.map_nil,textL_cons,textL_nil,List.append_nil]
   rfl
 | a :: b :: r,_=>by
   have ih:=join_lines (b :: r) (by simp)
   have e:Lib.join ((a :: b :: r).map (·.data.toList)) crlf=a.data.toList++crlf++Lib.join ((b :: r).map (·.data.toList)) crlf:=by
    rw [List.map_cons,List.map_cons,Lib.join_cons,Lib.join_cons]
    simp [Lib.joinTail]
   rw [e,List.append_assoc,ih,List.map_cons (l:=b :: r),textL_cons]
   rfl
theorem textL_le {m:Nat}:∀(ls:List Tx),(∀a∈ls,a.length≤m)→(textL ls).length≤ls.length * (m+2)
 | [],_=>by simp [textL]
 | a :: r,h=>by
   have ih:=textL_le r (fun b hb=>h b (by simp [hb]))
   have ha:=h a (by simp)
   have e:=congrArg List.length (textL_cons a r)
   simp only [List.length_append,List.length_cons,List.length_nil] at e
   rw [e,List.length_cons,Nat.succ_mul]
   omega
theorem flat_le {α β:Type} {m:Nat} {f:α→List β}:∀(ls:List α),(∀a∈ls,(f a).length≤m)→(ls.flatMap f).length≤ls.length * m
 | [],_=>by simp
 | a :: r,h=>by
   have ih:=flat_le r (fun b hb=>h b (by simp [hb]))
   have ha:=h a (by simp)
   rw [List.flatMap_cons,List.length_append,List.length_cons,Nat.succ_mul]
   omega
theorem lineA_len {a:AttrS} (h:okAt a=true):(lineA a).length≤235:=by
 have:=okAt_sizes h
 unfold lineA valTail
 split
 · simp only [List.length_append,List.length_cons,List.length_nil,tx_length];omega
 · simp only [List.length_append,List.length_cons,List.length_nil,tx_length];omega
theorem linesP_len {p:PartS} (h:okP p=true):(linesP p).length≤66∧∀a∈linesP p,a.length≤235:=by
 obtain ⟨h1,h2,h3⟩:=okP_parts h
 have h64:=okA_len h3
 have hc:(connL p.conn).length≤1:=by unfold connL;split <;> simp
 refine ⟨?_,fun a ha=> ?_⟩
 · unfold linesP
   rw [List.length_cons,List.length_append]
   simp only [linesA,List.length_map]
   omega
 · unfold linesP connL at ha
   rw [List.mem_cons,List.mem_append] at ha
   rcases ha with rfl | ha | ha
   · have:=val_size h1
     rw [List.length_append,tx_length]
     simp;omega
   · split at ha
     · cases ha
     · rw [List.mem_singleton] at ha
       subst ha
       have:=maybe_size h2
       rw [List.length_append,tx_length]
       simp;omega
   · obtain ⟨b,hb,rfl⟩:=List.mem_map.1 ha
     exact lineA_len (okA_at h3 hb)
theorem linesS_few {x:SesS} (h:okS x=true):(linesS x).length≤596∧(textS x).length≤141252:=by
 obtain ⟨h1,h2,h3,h4,h5,h6⟩:=okS_parts h
 have h64:=okA_len h4
 have hf:=flat_le (f:=linesP) (m:=66) x.parts (fun p hp=>(linesP_len (h6 p hp)).1)
 have hn:(linesS x).length≤596:=by
  unfold linesS headL
  rw [List.length_append,List.length_append]
  simp only [linesA,List.length_map,List.length_cons,List.length_nil]
  omega
 refine ⟨hn,?_⟩
 have:=textL_le (m:=235) (linesS x) (fun a ha=>by
  unfold linesS headL at ha
  simp only [List.mem_append,List.mem_cons,List.not_mem_nil,or_false,List.mem_flatMap] at ha
  have hs:∀{s:ByteArray} {u v:UInt8},valP (tx s)=true→([u,v]++tx s).length≤235:=fun hv=>by
   have:=val_size hv
   rw [List.length_append,tx_length]
   simp;omega
  rcases ha with (rfl | rfl | rfl | rfl) | ha | ⟨p,hp,ha⟩
  · simp
  · exact hs h1
  · exact hs h2
  · exact hs h3
  · obtain ⟨b,hb,rfl⟩:=List.mem_map.1 ha
    exact lineA_len (okA_at h4 hb)
  · exact (linesP_len (h6 p hp)).2 a ha)
 show (textL (linesS x)).length≤_
 omega
def HasText (x:SesS):Prop:=okS x=true∧(textS x).length≤8192
def PrO (x:SesS) (t:ByteArray) (er:Int):Prop:=(HasText x∧er=0∧tx t=textS x)∨(¬HasText x∧er=1∧t=⟨#[]⟩)
def PrintO (w:World) (x:SesS) (e:Ending) (w':World):Prop:=∃(t:ByteArray) (er:Int),e=.returned (.tuple #[.string t,.int .i64 er])∧PrO x t er∧Below w.heap.size w w'
theorem join_row (ls:List ByteArray) (v:Value) (N:Nat) (w:World) (ho:Own w N 9 1 v (ls.map scell)) (h0:0<ls.length) (hl:ls.length≤140737488355328) (hj:(Lib.join (ls.map (·.data.toList)) crlf).length≤140737488355328) :
 Calls Tryz.prog 84 #[v,.string ⟨#[13,10]⟩] w fun e w'=>e=.returned (.string ⟨(Lib.join (ls.map (·.data.toList)) crlf).toArray⟩)∧Below w.heap.size w w':=by
 obtain ⟨g,c,hv,hg,_,hlt,hc,_,_,_⟩:=ho.at_ (i:=0) (r:=scell ls[0]) (by rw [List.getElem?_map,List.getElem?_eq_getElem h0];rfl)
 rw [List.length_map] at hv hc
 subst hv
 refine Tryz.strings_Join g 0 c ls ⟨#[13,10]⟩ w (fun j s hs=> ?_) hlt hl hc hj
 obtain ⟨g2,c2,hv2,hg2,_,_,_,_,hcell,_⟩:=ho.at_ (i:=j) (r:=scell s) (by rw [List.getElem?_map,hs];rfl)
 have:g2=g:=by rw [hg] at hg2;exact (Option.some.inj hg2).symm
 subst this
 have:=hcell 0 (by decide)
 rw [Nat.mul_one,Nat.add_zero] at this
 rw [Nat.zero_add,this]
 rfl
set_option maxHeartbeats 3200000 in
set_option maxRecDepth 100000 in
theorem print_any (X:Array Value) (x:SesS) (a1 p1:Value) (w:World) (h:SesV w w.heap.size X x a1 p1) (hz:SizS x):Calls Tryz.prog 39 #[.agg X] w (PrintO w x):=by
 obtain ⟨e1,va1,vp1⟩:=h
 subst e1
 obtain ⟨A,k1,rfl,-⟩:=va1.form
 obtain ⟨P,j1,rfl,hj1,hm1,-⟩:=vp1.form
 obtain ⟨n1,hn1⟩:∃n,x.attrs.length=n:=⟨_,rfl⟩
 obtain ⟨n,hn⟩:∃n,x.parts.length=n:=⟨_,rfl⟩
 rw [hn1] at va1
 rw [hn] at vp1 hj1
 rw [hn1,hn]
 have hb:Below w.heap.size w (w.alloc (.cells #[.string x.origin,.string x.name,.string x.time,.slice A n1 k1,.slice P n j1] 96)):=(Below.refl _ w).alloc (Nat.le_refl _) _
 have g1:=Whole.new w 96 #[.string x.origin,.string x.name,.string x.time,.slice A n1 k1,.slice P n j1]
 have va:=(va1.below hb).more hb.size
 have vp:=(vp1.below hb).more hb.size
 have HZ:=Lib.hid hz
 clear hn1 hn va1 vp1 hz
 obtain ⟨B,hB⟩:∃B,w.heap.size=B:=⟨_,rfl⟩
 go_enter Tryz.func39,Tryz.ntmps39
 go_upto_region 1 with fail
 rw [hB] at g1
 generalize hw0:w.alloc (.cells #[.string x.origin,.string x.name,.string x.time,.slice A n1 k1,.slice P n j1] 96)=w0 at *
 try rw [hB]
 clear hw0 hB
 have HB0:=Lib.hid (And.intro hb g1)
 have HVA:Hid (Calls Tryz.prog 85 #[.agg #[.string x.origin,.string x.name,.string x.time,.slice A n1 k1,.slice P n j1]] w0 fun e w'=>e=.returned (.bool (okS x))∧Below w0.heap.size w0 w'):=Lib.hid (valid_any _ x _ _ w0 ⟨by rw [],va,vp⟩ HZ.out)
 have HV:=Lib.hid (And.intro va vp)
 clear va vp hb g1
 obtain ⟨b,hbb⟩:∃b,okS x=b:=⟨_,rfl⟩
 rw [hbb] at HVA
 cases b with
 | false =>
   have HR:Hid (∀W,Below w.heap.size w W→PrintO w x (.returned (.tuple #[.string ⟨#[]⟩,.int .i64 1])) W):=Lib.hid fun W hW=>⟨_,_,rfl,.inr ⟨fun hh=>(by rw [hh.1] at hbb;cases hbb),rfl,rfl⟩,hW⟩
   clear hbb
   go_wp2_with (first | ((with_reducible refine wpList_load_all ?_ 96 (.tmp 1) ?_ HB0.out.2 ?_ Tryz.sizeSSes ?_ Tryz.underlying96 ?_ ?_);(with_reducible rfl);(with_reducible rfl);rfl;rfl;rfl) | (go_at_call 85;(with_reducible refine HVA.out.mono ?_);rintro e w2 ⟨rfl,hb2⟩;have HF:=Lib.hid (HR.out _ (HB0.out.1.trans (hb2.mono HB0.out.1.size)));clear hb2))
   go_ret2
   exact HF.out
 | true =>
   have HFW:=Lib.hid (linesS_few hbb)
   have HL:Hid (∀W,Below w0.heap.size w0 W→Calls Tryz.prog 86 #[.agg #[.string x.origin,.string x.name,.string x.time,.slice A n1 k1,.slice P n j1]] W fun e w'=>∃(v:Value) (ls:List ByteArray),e=.returned v∧Own w' W.heap.size 9 1 v (ls.map scell)∧ls.map tx=linesS x∧Below W.heap.size W w'):=Lib.hid fun W hW=>plines_any _ x _ _ W ⟨by rw [],(HV.out.1.below hW).more hW.size,(HV.out.2.below hW).more hW.size⟩ hbb
   have HJ:Hid (∀(ls:List ByteArray) (v:Value) (N:Nat) (W:World),Own W N 9 1 v (ls.map scell)→ls.map tx=linesS x→Calls Tryz.prog 84 #[v,.string ⟨#[13,10]⟩] W fun e w'=>∃t:ByteArray,e=.returned (.string t)∧tx t++crlf=textS x∧Below W.heap.size W w'):=Lib.hid fun ls v N W ho hl=>by
    have hlen:ls.length=(linesS x).length:=by rw [←hl,List.length_map]
    have h4:=linesS_len x
    have hj:=join_lines ls (fun e=>by rw [e] at hlen;simp at hlen;omega)
    rw [hl] at hj
    have hjl:=congrArg List.length hj
    rw [List.length_append] at hjl
    have hfew:=HFW.out
    have hts:(textL (linesS x)).length≤141252:=hfew.2
    refine (join_row ls v N W ho (by omega) (by omega) (by omega)).mono fun e w' ⟨h1,h2⟩=>⟨_,h1,?_,h2⟩
    show (Lib.join (ls.map (·.data.toList)) crlf).toArray.toList++crlf=_
    rw [List.toList_toArray]
    exact hj
   have HOK:=Lib.hid hbb
   clear hbb
   by_cases hbig:8192<(textS x).length
   · have HR:Hid (∀W,Below w.heap.size w W→PrintO w x (.returned (.tuple #[.string ⟨#[]⟩,.int .i64 1])) W):=Lib.hid fun W hW=>⟨_,_,rfl,.inr ⟨fun hh=>(by have:=hh.2;omega),rfl,rfl⟩,hW⟩
     go_wp2_with (first | ((with_reducible refine wpList_load_all ?_ 96 (.tmp 1) ?_ HB0.out.2 ?_ Tryz.sizeSSes ?_ Tryz.underlying96 ?_ ?_);(with_reducible rfl);(with_reducible rfl);rfl;rfl;rfl) | ((with_reducible refine wpList_load_all ?_ 96 (.tmp 1) ?_ HW2.out ?_ Tryz.sizeSSes ?_ Tryz.underlying96 ?_ ?_);(with_reducible rfl);(with_reducible rfl);rfl;rfl;rfl) | (go_at_call 85;(with_reducible refine HVA.out.mono ?_);rintro e w2 ⟨rfl,hb2⟩;have HB2:=Lib.hid hb2;have HW2:=Lib.hid (HB0.out.2.under hb2);clear hb2) | (go_at_call 86;(with_reducible refine (HL.out _ HB2.out).mono ?_);rintro e w3 ⟨v3,ls,rfl,ho3,hl3,hb3⟩;have H3:=Lib.hid (And.intro ho3 (And.intro hl3 hb3));clear ho3 hl3 hb3) | (go_at_call 84;(with_reducible refine (HJ.out _ _ _ _ H3.out.1 H3.out.2.1).mono ?_);rintro e w4 ⟨t,rfl,ht,hb4⟩;have hzt:t.size+2=(textS x).length:=(by rw [←ht,List.length_append,tx_length];rfl);have hz2:¬(9223372036854775807<t.size+2):=(by have:=HFW.out.2;omega);have H4:Hid (Below w.heap.size w w4∧tx (t++⟨#[13,10]⟩)=textS x):=Lib.hid ⟨HB0.out.1.trans ((HB2.out.trans ((H3.out.2.2.trans (hb4.mono H3.out.2.2.size)).mono HB2.out.size)).mono HB0.out.1.size),by rw [tx_append,←ht];rfl⟩;have HZT:=Lib.hid hzt;have hbg:(8192:Int)<(t.size:Int)+2:=(by omega);clear ht hb4 hzt))
     go_ret2
     exact HR.out _ H4.out.1
   · have HR:Hid (∀W t,Below w.heap.size w W→tx t=textS x→PrintO w x (.returned (.tuple #[.string t,.int .i64 0])) W):=Lib.hid fun W t hW ht=>⟨_,_,rfl,.inl ⟨⟨HOK.out,by omega⟩,rfl,ht⟩,hW⟩
     go_wp2_with (first | ((with_reducible refine wpList_load_all ?_ 96 (.tmp 1) ?_ HB0.out.2 ?_ Tryz.sizeSSes ?_ Tryz.underlying96 ?_ ?_);(with_reducible rfl);(with_reducible rfl);rfl;rfl;rfl) | ((with_reducible refine wpList_load_all ?_ 96 (.tmp 1) ?_ HW2.out ?_ Tryz.sizeSSes ?_ Tryz.underlying96 ?_ ?_);(with_reducible rfl);(with_reducible rfl);rfl;rfl;rfl) | (go_at_call 85;(with_reducible refine HVA.out.mono ?_);rintro e w2 ⟨rfl,hb2⟩;have HB2:=Lib.hid hb2;have HW2:=Lib.hid (HB0.out.2.under hb2);clear hb2) | (go_at_call 86;(with_reducible refine (HL.out _ HB2.out).mono ?_);rintro e w3 ⟨v3,ls,rfl,ho3,hl3,hb3⟩;have H3:=Lib.hid (And.intro ho3 (And.intro hl3 hb3));clear ho3 hl3 hb3) | (go_at_call 84;(with_reducible refine (HJ.out _ _ _ _ H3.out.1 H3.out.2.1).mono ?_);rintro e w4 ⟨t,rfl,ht,hb4⟩;have hzt:t.size+2=(textS x).length:=(by rw [←ht,List.length_append,tx_length];rfl);have hz2:¬(9223372036854775807<t.size+2):=(by have:=HFW.out.2;omega);have H4:Hid (Below w.heap.size w w4∧tx (t++⟨#[13,10]⟩)=textS x):=Lib.hid ⟨HB0.out.1.trans ((HB2.out.trans ((H3.out.2.2.trans (hb4.mono H3.out.2.2.size)).mono HB2.out.size)).mono HB0.out.1.size),by rw [tx_append,←ht];rfl⟩;have HZT:=Lib.hid hzt;have hbg:¬(8192:Int)<(t.size:Int)+2:=(by omega);clear ht hb4 hzt))
     go_ret2
     exact HR.out _ _ H4.out.1 H4.out.2
def TextD (d:DescS):Prop:=goodD d=true∧(∀m∈d.media,mayM m=true)∧HasText (sesD d)
def PrD (d:DescS) (t:ByteArray) (er:Int):Prop:=(TextD d∧er=0∧tx t=textS (sesD d))∨(¬TextD d∧er=1∧t=⟨#[]⟩)
def PrintDO (w:World) (d:DescS) (e:Ending) (w':World):Prop:=∃(t:ByteArray) (er:Int),e=.returned (.tuple #[.string t,.int .i64 er])∧PrD d t er∧Below w.heap.size w w'
theorem PrD.one {d:DescS} {t t':ByteArray} {er er':Int} (h:PrD d t er) (h':PrD d t' er'):t=t'∧er=er':=by
 rcases h with ⟨h1,h2,h3⟩ | ⟨h1,h2,h3⟩ <;> rcases h' with ⟨k1,k2,k3⟩ | ⟨k1,k2,k3⟩
 · exact ⟨tx_inj (by rw [h3,k3]),by rw [h2,k2]⟩
 · exact absurd h1 k1
 · exact absurd k1 h1
 · exact ⟨by rw [h3,k3],by rw [h2,k2]⟩
theorem blanks_join:∀(R:List ByteArray),R≠[]→32 :: Lib.join (R.map (·.data.toList)) [32]=R.flatMap fun b=>32 :: tx b
 | [],h=>(h rfl).elim
 | [a],_=>by
   rw [List.map_cons,List.map_nil,Lib.join_one]
   simp [tx]
 | a :: b :: r,_=>by
   have e:Lib.join ((a :: b :: r).map (·.data.toList)) [32]=a.data.toList++[32]++Lib.join ((b :: r).map (·.data.toList)) [32]:=by
    rw [List.map_cons,List.map_cons,Lib.join_cons,Lib.join_cons]
    simp [Lib.joinTail]
   have h2:=blanks_join (b :: r) (by simp)
   rw [e,List.flatMap_cons,←h2]
   simp [tx]
theorem joinB_any (R:List ByteArray) (v:Value) (w:World) (h:TextsV w w.heap.size v R) (h0:0<R.length) (hl:R.length≤1000000) (hj:(R.flatMap fun b=>32 :: tx b).length≤1000000000) :
 Calls Tryz.prog 84 #[v,.string ⟨#[32]⟩] w fun e w'=>∃s:ByteArray,e=.returned (.string s)∧(32 :: tx s=R.flatMap fun b=>32 :: tx b)∧Below w.heap.size w w':=by
 obtain ⟨A,c,rfl,hc,hm,_,hr⟩:=h
 obtain ⟨ad,rfl,hb,hx⟩:=hr h0
 have hs:ad.spot=none:=by
  have h1:w.cell? (ad.add (0 * 1+0))=_:=hx 0 _ (getD_of h0)
  rw [Nat.zero_mul,Nat.zero_add] at h1
  have h1:w.cell? ad=_:=h1
  unfold World.cell? at h1
  split at h1
  · split at h1
    · cases h1
    · next hn=>simpa using hn
  · cases h1
 obtain ⟨bk,o,sp⟩:=ad
 simp only at hs hb
 subst hs
 have hne:R≠[]:=by rintro rfl;simp at h0
 have hj2:=blanks_join R hne
 have hj3:(Lib.join (R.map (·.data.toList)) [32]).length≤1000000000:=by
  have:=congrArg List.length hj2
  rw [List.length_cons] at this
  omega
 refine (Tryz.strings_Join bk o c R ⟨#[32]⟩ w (fun j s hs=> ?_) hb (by omega) hc (by show (Lib.join _ [32]).length≤_;omega)).mono fun e w' h=>⟨⟨(Lib.join (R.map (·.data.toList)) [32]).toArray⟩,h.1,?_,h.2⟩
 · have h2:w.cell? ((⟨bk,o,none⟩:Addr).add (j * 1+0))=some (.string s):=hx j s hs
   rw [Nat.mul_one,Nat.add_zero] at h2
   unfold Addr.add at h2
   split at h2
   · next e=>subst e;exact h2
   · exact h2
 · rw [←hj2]
   simp [tx]
theorem bundle_fl {B:List ByteArray} {m:Nat} (h:∀b∈B,b.size≤m):(B.flatMap fun b=>32 :: tx b).length≤B.length * (m+1):=by
 refine flat_le B fun b hb=> ?_
 rw [List.length_cons,tx_length]
 have:=h b hb
 omega
theorem dec_1:dec 1=[49]:=by
 unfold dec
 rfl
abbrev l08:Tx:=[118,61,48,13,10,111,61,45,32,49,32,49,32,73,78,32,73,80,52,32,49,50,55,46,48,46,48,46,49,13,10,115,61,45,13,10,116,61,48,32,48,13,10,97,61,105,99,101,45,117,102,114,97,103,58,97,98,99,100,13,10,97,61,105,99,101,45,112,119,100,58,48,49,50,51,52,53,54,55,56,57,48,49,50,51,52,53,54,55,56,57,48,49,13,10]
def d08:DescS:=⟨1,1,[],bs [97,98,99,100],bs [48,49,50,51,52,53,54,55,56,57,48,49,50,51,52,53,54,55,56,57,48,49],[]⟩
theorem org08:originT 1 1=[45,32,49,32,49,32,73,78,32,73,80,52,32,49,50,55,46,48,46,48,46,49]:=by
 unfold originT
 rw [dec_1]
 rfl
theorem ses08:sesD d08=⟨bs [45,32,49,32,49,32,73,78,32,73,80,52,32,49,50,55,46,48,46,48,46,49],bs [45],bs [48,32,48],[⟨bs nUfrag,bs [97,98,99,100]⟩,⟨bs nPwd,bs [48,49,50,51,52,53,54,55,56,57,48,49,50,51,52,53,54,55,56,57,48,49]⟩],[]⟩:=by
 show (⟨bs (originT 1 1),bs [45],bs [48,32,48],headA d08,[]⟩:SesS)=_
 rw [org08]
 rfl
theorem good08:goodD d08=true:=by decide +kernel
theorem lit08:textS (sesD d08)=l08:=by
 rw [ses08]
 decide +kernel
theorem text08:TextD d08:=by
 refine ⟨good08,fun m hm=>(by cases hm),?_,?_⟩
 · rw [ses08]
   decide +kernel
 · rw [lit08]
   decide
theorem siz08:SizD d08:=by
 refine ⟨by decide,by decide,fun b hb=>(by cases hb),by decide,by decide,fun m hm=>(by cases hm),by decide,by decide⟩
theorem wpList_appendLL {ops:Array Oper} {rest:List Oper} {o:Oper} {a:Act} {w:World} {Q:Exit→Act→World→Prop} {base:Nat} {v:Value} {K L:List AttrS} {ad:Addr} {n c:Nat} (hgd:o.guard=none) (s y:Operand) (ho:o.op=.call {callee:=.builtin .append,args:=#[s,y],argTypes:=#[32,32]})
 (hs:a.eval s=v) (hown:Own w base 65 2 v (K.map acell)) (hy:a.eval y=.slice (some ad) n c) (hn:L.length=n) (hL:∀i x,L[i]? = some x→w.cell? (ad.add (i * 2))=some (.string x.name)∧w.cell? (ad.add (i * 2+1))=some (.string x.value)) (hk:K.length+L.length≤1000000) (hbase:base≤w.heap.size)
 (h:∀v' w',Own w' base 65 2 v' ((K++L).map acell)→w.grownBy w' v.ownBlock→(v'.ownBlock=v.ownBlock∨v'.ownBlock=some w.heap.size)→wpList Tryz.prog ops Q rest (a.put o.dst v') w'):wpList Tryz.prog ops Q (o :: rest) a w:=by
 obtain ⟨i0,hi0,hz0,hz1,hz2⟩:=info_parts Tryz.infoSAttr
 have hfl:((L.map acell).flatten).length=n * 2:=by
  rw [flatten_len (sz:=2) (fun r hr=>by obtain ⟨x,_,rfl⟩:=List.mem_map.1 hr;rfl),List.length_map,hn]
 obtain ⟨v',w',hrun,h2,h3,_,h5⟩:=run_append_own_at (P:=Tryz.prog) w base 32 o.type 65 i0 _ 2 32 Tryz.underlying32 hi0 hz0 hz1 hz2 rfl (by omega) v (K.map acell).length (K.map acell).flatten hown.1 ad n c (L.map acell).flatten hfl
  (fun j u hj=>by
    have hjl:j<n * 2:=by rw [←hfl];exact (List.getElem?_eq_some_iff.1 hj).1
    have hi:j / 2<L.length:=by omega
    have hx:=List.getElem?_eq_getElem hi
    have hm:(L.map acell)[j / 2]? = some (acell L[j / 2]):=by rw [List.getElem?_map,hx];rfl
    have hf:=flatten_at (sz:=2) (rs:=L.map acell) (fun r hr=>by obtain ⟨x,_,rfl⟩:=List.mem_map.1 hr;rfl) hm (Nat.mod_lt j (by omega:0<2))
    rw [show j / 2 * 2+j % 2=j by omega] at hf
    rw [hf] at hj
    obtain ⟨c0,c1⟩:=hL (j / 2) _ hx
    have e2:j=j / 2 * 2+j % 2:=by omega
    rcases (show j % 2=0∨j % 2=1 by omega) with h0 | h0
    · rw [h0] at hj
      obtain rfl:=Option.some.inj hj
      rw [h0,Nat.add_zero] at e2
      rw [congrArg ad.add e2]
      exact c0
    · rw [h0] at hj
      obtain rfl:=Option.some.inj hj
      rw [h0] at e2
      rw [congrArg ad.add e2]
      exact c1)
  (fun u hu=>by
    obtain ⟨r,hr,hur⟩:=List.mem_flatten.1 hu
    obtain ⟨x,_,rfl⟩:=List.mem_map.1 hr
    simp [acell] at hur
    rcases hur with rfl | rfl <;> rfl)
  (by unfold maxLen;rw [List.length_map];omega) (by rw [List.length_map];omega) hbase
 refine wpList_plain hgd fun _ hK=> ?_
 unfold Oper.wp execOp
 simp only [ho,resolve,invoke,builtin,Sem.run_bind,Sem.run_pure,Result.andThen_ok,List.map_toArray,List.map_cons,List.map_nil,hs,hy,hrun]
 refine hK _ _ (h v' w' ⟨?_,fun r hr=>by obtain ⟨x,_,rfl⟩:=List.mem_map.1 hr;rfl⟩ h3 h5)
 rw [List.map_append,List.flatten_append,List.length_append,List.length_map,List.length_map,hn]
 rw [List.length_map] at h2
 exact h2
theorem step_storeS {ops:Array Oper} {o:Oper} {a:Act} {w:World} {K:Act→World→Prop} {Q:Exit→Act→World→Prop} {E:Prop} {g n:Nat} {t:TypeId} {old:Array Value} (cs:Array Value) (hgd:o.guard=none) (ty:TypeId) (x y:Operand) (ho:o.op=.store ty x y) (hx:a.eval x=.pointer (some ⟨g,0,none⟩)) (hy:a.eval y=.agg cs) (hg:Whole w g t old)
 (hi:(Tryz.prog.info? ty).map (·.size)=some n) (hn:cs.size=n) (hold:old.size=n) (h1:cs.toList.all (·.oneCell')=true)
 (h:K (a.put o.dst undef) (w.setRow g cs)):if Region.wanted o (yielded ops a.tmps)=true then Oper.wp Tryz.prog o a w K Q else E :=
 step_store_whole hgd ty x y ho hx hy hg hi hn hold (all_list h1) h
theorem AtO.nil (w:World) (base:Nat):AtO w base (.slice none 0 0) []:=Own.nil _ _ _ _
theorem Grew.belowNone {w w1 w':World} {v':Value} {B:Nat} (h:Grew w (.slice none 0 0) w' v') (hb:Below B w1 w) (hB:B≤w.heap.size):Below B w1 w' :=
 hb.trans (h.only.below (fun k hk=>by cases hk) hB)
theorem two_attrs {W:World} {g:Nat} {a b c d:ByteArray} (h:Whole W g 65 #[.string a,.string b,.string c,.string d]):∀(i:Nat) (x:AttrS),([⟨a,b⟩,⟨c,d⟩]:List AttrS)[i]? = some x→W.cell? ((⟨g,0,none⟩:Addr).add (i * 2))=some (.string x.name)∧W.cell? ((⟨g,0,none⟩:Addr).add (i * 2+1))=some (.string x.value):=fun i x hx=>by
 rw [Addr.add_lit,Addr.add_lit,Nat.zero_add,Nat.zero_add]
 match i,hx with
 | 0,hx =>
   obtain rfl:=Option.some.inj hx
   exact ⟨h.cell 0,h.cell 1⟩
 | 1,hx =>
   obtain rfl:=Option.some.inj hx
   exact ⟨h.cell 2,h.cell 3⟩
theorem head_step {W w9 w:World} {N g:Nat} {d:DescS} {pre:List AttrS} {AA:Option Addr} {lA cA:Nat} {v9:Value} {o:Obj} {zs:Array Value} (hp:headA d=pre++([⟨bs nUfrag,d.name⟩,⟨bs nPwd,d.pass⟩]:List AttrS))
 (ho:Own w9 N 65 2 v9 ((pre++([⟨⟨#[105,99,101,45,117,102,114,97,103]⟩,d.name⟩,⟨⟨#[105,99,101,45,112,119,100]⟩,d.pass⟩]:List AttrS)).map acell)) (hg:(W.alloc o).grownBy w9 (Value.slice AA lA cA).ownBlock) (hw:Whole W g 96 zs) (ha:AtO W N (.slice AA lA cA) pre) {ys:Array Value} (hz:Whole W (N+1) 96 ys) (hb:Below N w W) (hN:N≤W.heap.size) :
 Own w9 N 65 2 v9 ((headA d).map acell)∧Whole w9 g 96 zs∧Whole w9 (N+1) 96 ys∧Below N w w9:=by
 refine ⟨by rw [hp];exact ho,(hw.alloc o).grown hg (fun e=>(Own.apart ha hw (by decide)) e.symm),(hz.alloc o).grown hg (fun e=>(Own.apart ha hz (by decide)) e.symm),?_⟩
 exact (hb.alloc hN o).grown hg (by rw [World.size_alloc];omega) (fun j hj=>(Own.lt ha hj).1)
def DHeadO (w:World) (d:DescS) (e:Ending) (w':World):Prop:=∃vA:Value,e=.returned (.agg #[.string (bs (originT d.id d.ver)),.string (bs [45]),.string (bs [48,32,48]),vA,.slice none 0 0])∧AtO w' w.heap.size vA (headA d)∧Below w.heap.size w w'
set_option maxHeartbeats 6400000 in
set_option maxRecDepth 100000 in
theorem head_any (D:Array Value) (d:DescS) (vB vM:Value) (w:World) (h:DescV w w.heap.size D d vB vM) (hE:Env w) (hi:d.id<18446744073709551616) (hv:d.ver<18446744073709551616) (hl:d.bundle.length≤1000000) (hj:(d.bundle.flatMap fun b=>32 :: tx b).length≤1000000000) :
 Calls Tryz.prog 38 #[.agg D] w (DHeadO w d):=by
 obtain ⟨AB,cB,hvB,-⟩:=Rows.form h.bundle
 obtain ⟨AM,cM,hvM,-⟩:=Rows.form h.media
 obtain rfl:=h.form
 have hb0:Below w.heap.size w (w.alloc (.cells #[.int .u64 d.id,.int .u64 d.ver,vB,.string d.name,.string d.pass,vM] 45)):=(Below.refl _ w).alloc (Nat.le_refl _) _
 have HTV:=Lib.hid h.bundle
 obtain ⟨n,hn⟩:∃n,d.bundle.length=n:=⟨_,rfl⟩
 obtain ⟨nM,hnM⟩:∃n,d.media.length=n:=⟨_,rfl⟩
 rw [hn] at hvB
 rw [hnM] at hvM
 subst hvB hvM
 have HNB:=Lib.hid hn
 have hn6:n≤1000000:=by omega
 have HFM:=Lib.hid hj
 have HENV:=Lib.hid hE
 have HIV:=Lib.hid (And.intro hi hv)
 have hdi:(bs (dec d.id)).size≤20:=by rw [bs_size];exact dec_len 19 _ (by rw [show (10:Nat) ^ (19+1)=100000000000000000000 by decide];omega)
 have hdv:(bs (dec d.ver)).size≤20:=by rw [bs_size];exact dec_len 19 _ (by rw [show (10:Nat) ^ (19+1)=100000000000000000000 by decide];omega)
 have HFI:Hid (∀W,Below w.heap.size w W→Calls Tryz.prog 51 #[.int .u64 d.id,.int .i64 10] W fun e w'=>e=.returned (.string (bs (dec d.id)))∧Below W.heap.size W w'):=Lib.hid fun W hW=>formatUint_any d.id W (HENV.out.under hW) HIV.out.1
 have HFV:Hid (∀W,Below w.heap.size w W→Calls Tryz.prog 51 #[.int .u64 d.ver,.int .i64 10] W fun e w'=>e=.returned (.string (bs (dec d.ver)))∧Below W.heap.size W w'):=Lib.hid fun W hW=>formatUint_any d.ver W (HENV.out.under hW) HIV.out.2
 obtain ⟨dI,hdI⟩:∃s,bs (dec d.id)=s:=⟨_,rfl⟩
 obtain ⟨dV,hdV⟩:∃s,bs (dec d.ver)=s:=⟨_,rfl⟩
 rw [hdI] at hdi HFI
 rw [hdV] at hdv HFV
 have HTX:Hid (((((⟨#[45,32]⟩++dI)++⟨#[32]⟩)++dV)++⟨#[32,73,78,32,73,80,52,32,49,50,55,46,48,46,48,46,49]⟩)=bs (originT d.id d.ver)):=Lib.hid (by
  rw [←hdI,←hdV]
  refine tx_inj ?_
  simp only [tx_append,tx_bs]
  simp [originT,tx])
 have q1:¬9223372036854775807<2+dI.size:=by omega
 have q2:¬9223372036854775807<2+dI.size+1:=by omega
 have q3:¬9223372036854775807<2+dI.size+1+dV.size:=by omega
 have q4:¬9223372036854775807<2+dI.size+1+dV.size+17:=by omega
 have hb0:=two_new (w:=w) 45 96 #[.int .u64 d.id,.int .u64 d.ver,.slice AB n cB,.string d.name,.string d.pass,.slice AM nM cM] #[.string ⟨#[]⟩,.string ⟨#[]⟩,.string ⟨#[]⟩,.slice none 0 0,.slice none 0 0]
 have H0:=Lib.hid (And.intro hb0 (And.intro ((Whole.new w 45 #[.int .u64 d.id,.int .u64 d.ver,.slice AB n cB,.string d.name,.string d.pass,.slice AM nM cM]).alloc (.cells #[.string ⟨#[]⟩,.string ⟨#[]⟩,.string ⟨#[]⟩,.slice none 0 0,.slice none 0 0] 96)) (Whole.new2 w (.cells #[.int .u64 d.id,.int .u64 d.ver,.slice AB n cB,.string d.name,.string d.pass,.slice AM nM cM] 45) 96 #[.string ⟨#[]⟩,.string ⟨#[]⟩,.string ⟨#[]⟩,.slice none 0 0,.slice none 0 0])))
 obtain ⟨N,hN⟩:∃N,w.heap.size=N:=⟨_,rfl⟩
 have HN:=Lib.hid hN
 rw [hN] at H0 HFI HFV HTV
 have HHO:Hid (DHeadO w d=fun e w'=>∃vA:Value,e=.returned (.agg #[.string (bs (originT d.id d.ver)),.string (bs [45]),.string (bs [48,32,48]),vA,.slice none 0 0])∧AtO w' N vA (headA d)∧Below N w w'):=Lib.hid (by unfold DHeadO;rw [hN])
 clear hb0 h hE hi hv hl hj hn hnM hdI hdV hN
 go_enter Tryz.func38,Tryz.ntmps38
 go_upto_region 1 with fail
 simp only [HN.out]
 generalize ((w.alloc (.cells #[.int .u64 d.id,.int .u64 d.ver,.slice AB n cB,.string d.name,.string d.pass,.slice AM nM cM] 45)).alloc (.cells #[.string ⟨#[]⟩,.string ⟨#[]⟩,.string ⟨#[]⟩,.slice none 0 0,.slice none 0 0] 96))=w0 at *
 obtain ⟨B0,hB0⟩:∃B,w0.heap.size=B:=⟨_,rfl⟩
 have HB0:=Lib.hid hB0
 clear hB0
 have HNB0:Hid (N≤B0):=Lib.hid (by have:=H0.out.1.size;rw [HN.out,HB0.out] at this;exact this)
 have HKB:Hid (∀W W',Below B0 w0 W→Below W.heap.size W W'→Below B0 w0 W'):=Lib.hid fun W W' h1 h2=>h1.trans (h2.mono (by have:=h1.size;rw [HB0.out] at this;exact this))
 have HUP:Hid (∀W,Below B0 w0 W→Below N w W):=Lib.hid fun W hW=>H0.out.1.trans (hW.mono HNB0.out)
 have HSZ:Hid (∀W,Below B0 w0 W→B0≤W.heap.size):=Lib.hid fun W hW=>by have:=hW.size;rw [HB0.out] at this;exact this
 have HX:Hid (∀W,Below B0 w0 W→Whole W N 45 #[.int .u64 d.id,.int .u64 d.ver,.slice AB n cB,.string d.name,.string d.pass,.slice AM nM cM]∧Whole W (N+1) 96 #[.string ⟨#[]⟩,.string ⟨#[]⟩,.string ⟨#[]⟩,.slice none 0 0,.slice none 0 0]):=Lib.hid fun W hW=>⟨H0.out.2.1.below hW (by have:=H0.out.2.1.lt;rw [HB0.out] at this;exact this),H0.out.2.2.below hW (by have:=H0.out.2.2.lt;rw [HB0.out] at this;exact this)⟩
 have HG0:Hid (∀W,Below B0 w0 W→W.cell? ⟨N,0,none⟩=some (.int .u64 d.id)):=Lib.hid fun W hW=>(HX.out W hW).1.cell 0
 have HG1:Hid (∀W,Below B0 w0 W→W.cell? ⟨N,1,none⟩=some (.int .u64 d.ver)):=Lib.hid fun W hW=>(HX.out W hW).1.cell 1
 have HFA:Hid (∀W,Below B0 w0 W→Calls Tryz.prog 51 #[.int .u64 d.id,.int .i64 10] W fun e w'=>e=.returned (.string dI)∧Below W.heap.size W w'):=Lib.hid fun W hW=>HFI.out W (HUP.out W hW)
 have HFB:Hid (∀W,Below B0 w0 W→Calls Tryz.prog 51 #[.int .u64 d.ver,.int .i64 10] W fun e w'=>e=.returned (.string dV)∧Below W.heap.size W w'):=Lib.hid fun W hW=>HFV.out W (HUP.out W hW)
 have HR0:Hid (Below B0 w0 w0.drew):=Lib.hid (Below.refl _ _).drew
 clear HFI HFV
 go_cut [3] from 3 to 15 (fun s3 wc=>∃(g:Nat) (O:ByteArray),s3=.pointer (some ⟨g,0,none⟩)∧O=bs (originT d.id d.ver)∧Whole wc g 96 #[.string O,.string ⟨#[45]⟩,.string ⟨#[48,32,48]⟩,.slice none 0 0,.slice none 0 0]∧B0≤g∧Below B0 w0 wc)
 case first =>
  refine wp_region_held_drew (S:=fun W=>Below B0 w0 W) (by kernel_rfl) HR0.out (fun hHeld=> ?_)
  generalize w0.drew=w1 at hHeld ⊢
  refine wpAnyH_take (i:=0) (v:=_) rfl (by as_aux_lemma=>kernel_rfl) (by as_aux_lemma=>kernel_rfl) (by as_aux_lemma=>kernel_rfl) (fun _ _ _ h=>h) (Or.inl ⟨by rfl,fun w h=>by have e0:=HG0.out w h;have e1:=HG1.out w h;clear h;go_simp;(try with_reducible rfl)⟩) (by assumption) ?_
  simp only [Act.put,List.getElem_toArray,List.getElem_cons_succ,List.getElem_cons_zero,List.setIfInBounds_toArray,List.set_cons_succ,List.set_cons_zero]
  refine wpAnyH_take (i:=1) (v:=_) rfl (by as_aux_lemma=>kernel_rfl) (by as_aux_lemma=>kernel_rfl) (by as_aux_lemma=>kernel_rfl) (fun _ _ _ h=>h) (Or.inl ⟨by rfl,fun w h=>by have e0:=HG0.out w h;have e1:=HG1.out w h;clear h;go_simp;(try with_reducible rfl)⟩) (by assumption) ?_
  simp only [Act.put,List.getElem_toArray,List.getElem_cons_succ,List.getElem_cons_zero,List.setIfInBounds_toArray,List.set_cons_succ,List.set_cons_zero]
  refine wpAnyH_take (i:=5) (v:=_) rfl (by as_aux_lemma=>kernel_rfl) (by as_aux_lemma=>kernel_rfl) (by as_aux_lemma=>kernel_rfl) (fun _ _ _ h=>h) (Or.inl ⟨by rfl,fun w h=>by have e0:=HG0.out w h;have e1:=HG1.out w h;clear h;go_simp;(try with_reducible rfl)⟩) (by assumption) ?_
  simp only [Act.put,List.getElem_toArray,List.getElem_cons_succ,List.getElem_cons_zero,List.setIfInBounds_toArray,List.set_cons_succ,List.set_cons_zero]
  refine wpAnyH_take (i:=6) (v:=_) rfl (by as_aux_lemma=>kernel_rfl) (by as_aux_lemma=>kernel_rfl) (by as_aux_lemma=>kernel_rfl) (fun _ _ _ h=>h) (Or.inl ⟨by rfl,fun w h=>by have e0:=HG0.out w h;have e1:=HG1.out w h;clear h;go_simp;(try with_reducible rfl)⟩) (by assumption) ?_
  simp only [Act.put,List.getElem_toArray,List.getElem_cons_succ,List.getElem_cons_zero,List.setIfInBounds_toArray,List.set_cons_succ,List.set_cons_zero]
  refine wpAnyH_ready (rs:=[2,11]) (by as_aux_lemma=>kernel_rfl) (by simp) ?_
  refine (AllReadyH.cons (i:=2) rfl (fun K hK=> ?_) (AllReadyH.cons (i:=11) rfl (fun K hK=> ?_) AllReadyH.nil))
  · go_simp
    refine (HFA.out _ hHeld).mono ?_
    rintro e w2 ⟨rfl,hb5⟩
    have hbn:=HKB.out _ _ hHeld hb5
    refine hK.out _ _ hbn (fun hHeld'=> ?_)
    clear hb5 hbn
    clear hK K hHeld
    have hHeld:=hHeld'
    clear hHeld'
    try simp only [Act.put]
    refine wpAnyH_take (i:=3) (v:=_) rfl (by as_aux_lemma=>kernel_rfl) (by as_aux_lemma=>kernel_rfl) (by as_aux_lemma=>kernel_rfl) (fun _ _ _ h=>h) (Or.inl ⟨by rfl,fun w h=>by have e0:=HG0.out w h;have e1:=HG1.out w h;clear h;go_simp;(try with_reducible rfl)⟩) (by assumption) ?_
    simp only [Act.put,List.getElem_toArray,List.getElem_cons_succ,List.getElem_cons_zero,List.setIfInBounds_toArray,List.set_cons_succ,List.set_cons_zero]
    refine wpAnyH_take (i:=4) (v:=_) rfl (by as_aux_lemma=>kernel_rfl) (by as_aux_lemma=>kernel_rfl) (by as_aux_lemma=>kernel_rfl) (fun _ _ _ h=>h) (Or.inl ⟨by rfl,fun w h=>by have e0:=HG0.out w h;have e1:=HG1.out w h;clear h;go_simp;(try with_reducible rfl)⟩) (by assumption) ?_
    simp only [Act.put,List.getElem_toArray,List.getElem_cons_succ,List.getElem_cons_zero,List.setIfInBounds_toArray,List.set_cons_succ,List.set_cons_zero]
    refine wpAnyH_ready (rs:=[7,11]) (by as_aux_lemma=>kernel_rfl) (by simp) ?_
    refine (AllReadyH.cons (i:=7) rfl (fun K hK=> ?_) (AllReadyH.cons (i:=11) rfl (fun K hK=> ?_) AllReadyH.nil))
    · go_simp
      refine (HFB.out _ hHeld).mono ?_
      rintro e w7 ⟨rfl,hb5⟩
      have hbn:=HKB.out _ _ hHeld hb5
      refine hK.out _ _ hbn (fun hHeld'=> ?_)
      clear hb5 hbn
      clear hK K hHeld
      have hHeld:=hHeld'
      clear hHeld'
      try simp only [Act.put]
      refine wpAnyH_take (i:=8) (v:=_) rfl (by as_aux_lemma=>kernel_rfl) (by as_aux_lemma=>kernel_rfl) (by as_aux_lemma=>kernel_rfl) (fun _ _ _ h=>h) (Or.inl ⟨by rfl,fun w h=>by have e0:=HG0.out w h;have e1:=HG1.out w h;clear h;go_simp;(try with_reducible rfl)⟩) (by assumption) ?_
      simp only [Act.put,List.getElem_toArray,List.getElem_cons_succ,List.getElem_cons_zero,List.setIfInBounds_toArray,List.set_cons_succ,List.set_cons_zero]
      refine wpAnyH_take (i:=9) (v:=_) rfl (by as_aux_lemma=>kernel_rfl) (by as_aux_lemma=>kernel_rfl) (by as_aux_lemma=>kernel_rfl) (fun _ _ _ h=>h) (Or.inl ⟨by rfl,fun w h=>by have e0:=HG0.out w h;have e1:=HG1.out w h;clear h;go_simp;(try with_reducible rfl)⟩) (by assumption) ?_
      simp only [Act.put,List.getElem_toArray,List.getElem_cons_succ,List.getElem_cons_zero,List.setIfInBounds_toArray,List.set_cons_succ,List.set_cons_zero]
      refine wpAnyH_take (i:=10) (v:=_) rfl (by as_aux_lemma=>kernel_rfl) (by as_aux_lemma=>kernel_rfl) (by as_aux_lemma=>kernel_rfl) (fun _ _ _ h=>h) (Or.inl ⟨by rfl,fun w h=>by have e0:=HG0.out w h;have e1:=HG1.out w h;clear h;go_simp;(try with_reducible rfl)⟩) (by assumption) ?_
      simp only [Act.put,List.getElem_toArray,List.getElem_cons_succ,List.getElem_cons_zero,List.setIfInBounds_toArray,List.set_cons_succ,List.set_cons_zero]
      refine wpAnyH_ready (rs:=[11]) (by as_aux_lemma=>kernel_rfl) (by simp) ?_
      refine (AllReadyH.cons (i:=11) rfl (fun K hK=> ?_) AllReadyH.nil)
      go_simp
      have HW:=Lib.hid (And.intro (Whole.new w7 96 #[.string ⟨#[]⟩,.string ⟨#[]⟩,.string ⟨#[]⟩,.slice none 0 0,.slice none 0 0]) (HSZ.out _ hHeld))
      have hbn:=hHeld.alloc (HSZ.out _ hHeld) (.cells #[.string ⟨#[]⟩,.string ⟨#[]⟩,.string ⟨#[]⟩,.slice none 0 0,.slice none 0 0] 96)
      refine hK.out _ _ hbn (fun hHeld'=> ?_)
      clear hbn
      clear hK K hHeld
      have hHeld:=hHeld'
      clear hHeld'
      try simp only [Act.put]
      refine wpAnyH_ready (rs:=[12]) (by as_aux_lemma=>kernel_rfl) (by simp) ?_
      refine (AllReadyH.cons (i:=12) rfl (fun K hK=> ?_) AllReadyH.nil)
      refine step_storeS #[.string ((((⟨#[45,32]⟩++dI)++⟨#[32]⟩)++dV)++⟨#[32,73,78,32,73,80,52,32,49,50,55,46,48,46,48,46,49]⟩),.string ⟨#[45]⟩,.string ⟨#[48,32,48]⟩,.slice none 0 0,.slice none 0 0] rfl 96 (.tmp 3) (.tmp 14) rfl rfl rfl HW.out.1 Tryz.sizeSSes rfl rfl rfl ?_
      have hbn:=below_row hHeld HW.out.2 #[.string ((((⟨#[45,32]⟩++dI)++⟨#[32]⟩)++dV)++⟨#[32,73,78,32,73,80,52,32,49,50,55,46,48,46,48,46,49]⟩),.string ⟨#[45]⟩,.string ⟨#[48,32,48]⟩,.slice none 0 0,.slice none 0 0]
      have hWn:=HW.out.1.row #[.string ((((⟨#[45,32]⟩++dI)++⟨#[32]⟩)++dV)++⟨#[32,73,78,32,73,80,52,32,49,50,55,46,48,46,48,46,49]⟩),.string ⟨#[45]⟩,.string ⟨#[48,32,48]⟩,.slice none 0 0,.slice none 0 0]
      have HX:=Lib.hid (And.intro hWn hbn)
      refine hK.out _ _ hbn (fun hHeld'=> ?_)
      clear hbn hWn
      clear hK K hHeld
      have hHeld:=hHeld'
      clear hHeld'
      try simp only [Act.put]
      refine wpAnyH_done (by as_aux_lemma=>kernel_rfl) ?_ _
      clear hHeld
      go_wp2
      go_meet
      exact ⟨_,_,rfl,HTX.out,HX.out.1,HW.out.2,HX.out.2⟩
    · go_simp
      have HW:=Lib.hid (And.intro (Whole.new w2 96 #[.string ⟨#[]⟩,.string ⟨#[]⟩,.string ⟨#[]⟩,.slice none 0 0,.slice none 0 0]) (HSZ.out _ hHeld))
      have hbn:=hHeld.alloc (HSZ.out _ hHeld) (.cells #[.string ⟨#[]⟩,.string ⟨#[]⟩,.string ⟨#[]⟩,.slice none 0 0,.slice none 0 0] 96)
      refine hK.out _ _ hbn (fun hHeld'=> ?_)
      clear hbn
      clear hK K hHeld
      have hHeld:=hHeld'
      clear hHeld'
      try simp only [Act.put]
      refine wpAnyH_ready (rs:=[7]) (by as_aux_lemma=>kernel_rfl) (by simp) ?_
      refine (AllReadyH.cons (i:=7) rfl (fun K hK=> ?_) AllReadyH.nil)
      go_simp
      refine (HFB.out _ hHeld).mono ?_
      rintro e w7 ⟨rfl,hb5⟩
      have hWn:=And.intro (HW.out.1.under hb5) HW.out.2
      clear HW
      have HW:=Lib.hid hWn
      clear hWn
      have hbn:=HKB.out _ _ hHeld hb5
      refine hK.out _ _ hbn (fun hHeld'=> ?_)
      clear hb5 hbn
      clear hK K hHeld
      have hHeld:=hHeld'
      clear hHeld'
      try simp only [Act.put]
      refine wpAnyH_take (i:=8) (v:=_) rfl (by as_aux_lemma=>kernel_rfl) (by as_aux_lemma=>kernel_rfl) (by as_aux_lemma=>kernel_rfl) (fun _ _ _ h=>h) (Or.inl ⟨by rfl,fun w h=>by have e0:=HG0.out w h;have e1:=HG1.out w h;clear h;go_simp;(try with_reducible rfl)⟩) (by assumption) ?_
      simp only [Act.put,List.getElem_toArray,List.getElem_cons_succ,List.getElem_cons_zero,List.setIfInBounds_toArray,List.set_cons_succ,List.set_cons_zero]
      refine wpAnyH_take (i:=9) (v:=_) rfl (by as_aux_lemma=>kernel_rfl) (by as_aux_lemma=>kernel_rfl) (by as_aux_lemma=>kernel_rfl) (fun _ _ _ h=>h) (Or.inl ⟨by rfl,fun w h=>by have e0:=HG0.out w h;have e1:=HG1.out w h;clear h;go_simp;(try with_reducible rfl)⟩) (by assumption) ?_
      simp only [Act.put,List.getElem_toArray,List.getElem_cons_succ,List.getElem_cons_zero,List.setIfInBounds_toArray,List.set_cons_succ,List.set_cons_zero]
      refine wpAnyH_take (i:=10) (v:=_) rfl (by as_aux_lemma=>kernel_rfl) (by as_aux_lemma=>kernel_rfl) (by as_aux_lemma=>kernel_rfl) (fun _ _ _ h=>h) (Or.inl ⟨by rfl,fun w h=>by have e0:=HG0.out w h;have e1:=HG1.out w h;clear h;go_simp;(try with_reducible rfl)⟩) (by assumption) ?_
      simp only [Act.put,List.getElem_toArray,List.getElem_cons_succ,List.getElem_cons_zero,List.setIfInBounds_toArray,List.set_cons_succ,List.set_cons_zero]
      refine wpAnyH_ready (rs:=[12]) (by as_aux_lemma=>kernel_rfl) (by simp) ?_
      refine (AllReadyH.cons (i:=12) rfl (fun K hK=> ?_) AllReadyH.nil)
      refine step_storeS #[.string ((((⟨#[45,32]⟩++dI)++⟨#[32]⟩)++dV)++⟨#[32,73,78,32,73,80,52,32,49,50,55,46,48,46,48,46,49]⟩),.string ⟨#[45]⟩,.string ⟨#[48,32,48]⟩,.slice none 0 0,.slice none 0 0] rfl 96 (.tmp 3) (.tmp 14) rfl rfl rfl HW.out.1 Tryz.sizeSSes rfl rfl rfl ?_
      have hbn:=below_row hHeld HW.out.2 #[.string ((((⟨#[45,32]⟩++dI)++⟨#[32]⟩)++dV)++⟨#[32,73,78,32,73,80,52,32,49,50,55,46,48,46,48,46,49]⟩),.string ⟨#[45]⟩,.string ⟨#[48,32,48]⟩,.slice none 0 0,.slice none 0 0]
      have hWn:=HW.out.1.row #[.string ((((⟨#[45,32]⟩++dI)++⟨#[32]⟩)++dV)++⟨#[32,73,78,32,73,80,52,32,49,50,55,46,48,46,48,46,49]⟩),.string ⟨#[45]⟩,.string ⟨#[48,32,48]⟩,.slice none 0 0,.slice none 0 0]
      have HX:=Lib.hid (And.intro hWn hbn)
      refine hK.out _ _ hbn (fun hHeld'=> ?_)
      clear hbn hWn
      clear hK K hHeld
      have hHeld:=hHeld'
      clear hHeld'
      try simp only [Act.put]
      refine wpAnyH_done (by as_aux_lemma=>kernel_rfl) ?_ _
      clear hHeld
      go_wp2
      go_meet
      exact ⟨_,_,rfl,HTX.out,HX.out.1,HW.out.2,HX.out.2⟩
  · go_simp
    have HW:=Lib.hid (And.intro (Whole.new w1 96 #[.string ⟨#[]⟩,.string ⟨#[]⟩,.string ⟨#[]⟩,.slice none 0 0,.slice none 0 0]) (HSZ.out _ hHeld))
    have hbn:=hHeld.alloc (HSZ.out _ hHeld) (.cells #[.string ⟨#[]⟩,.string ⟨#[]⟩,.string ⟨#[]⟩,.slice none 0 0,.slice none 0 0] 96)
    refine hK.out _ _ hbn (fun hHeld'=> ?_)
    clear hbn
    clear hK K hHeld
    have hHeld:=hHeld'
    clear hHeld'
    try simp only [Act.put]
    refine wpAnyH_ready (rs:=[2]) (by as_aux_lemma=>kernel_rfl) (by simp) ?_
    refine (AllReadyH.cons (i:=2) rfl (fun K hK=> ?_) AllReadyH.nil)
    go_simp
    refine (HFA.out _ hHeld).mono ?_
    rintro e w2 ⟨rfl,hb5⟩
    have hWn:=And.intro (HW.out.1.under hb5) HW.out.2
    clear HW
    have HW:=Lib.hid hWn
    clear hWn
    have hbn:=HKB.out _ _ hHeld hb5
    refine hK.out _ _ hbn (fun hHeld'=> ?_)
    clear hb5 hbn
    clear hK K hHeld
    have hHeld:=hHeld'
    clear hHeld'
    try simp only [Act.put]
    refine wpAnyH_take (i:=3) (v:=_) rfl (by as_aux_lemma=>kernel_rfl) (by as_aux_lemma=>kernel_rfl) (by as_aux_lemma=>kernel_rfl) (fun _ _ _ h=>h) (Or.inl ⟨by rfl,fun w h=>by have e0:=HG0.out w h;have e1:=HG1.out w h;clear h;go_simp;(try with_reducible rfl)⟩) (by assumption) ?_
    simp only [Act.put,List.getElem_toArray,List.getElem_cons_succ,List.getElem_cons_zero,List.setIfInBounds_toArray,List.set_cons_succ,List.set_cons_zero]
    refine wpAnyH_take (i:=4) (v:=_) rfl (by as_aux_lemma=>kernel_rfl) (by as_aux_lemma=>kernel_rfl) (by as_aux_lemma=>kernel_rfl) (fun _ _ _ h=>h) (Or.inl ⟨by rfl,fun w h=>by have e0:=HG0.out w h;have e1:=HG1.out w h;clear h;go_simp;(try with_reducible rfl)⟩) (by assumption) ?_
    simp only [Act.put,List.getElem_toArray,List.getElem_cons_succ,List.getElem_cons_zero,List.setIfInBounds_toArray,List.set_cons_succ,List.set_cons_zero]
    refine wpAnyH_ready (rs:=[7]) (by as_aux_lemma=>kernel_rfl) (by simp) ?_
    refine (AllReadyH.cons (i:=7) rfl (fun K hK=> ?_) AllReadyH.nil)
    go_simp
    refine (HFB.out _ hHeld).mono ?_
    rintro e w7 ⟨rfl,hb5⟩
    have hWn:=And.intro (HW.out.1.under hb5) HW.out.2
    clear HW
    have HW:=Lib.hid hWn
    clear hWn
    have hbn:=HKB.out _ _ hHeld hb5
    refine hK.out _ _ hbn (fun hHeld'=> ?_)
    clear hb5 hbn
    clear hK K hHeld
    have hHeld:=hHeld'
    clear hHeld'
    try simp only [Act.put]
    refine wpAnyH_take (i:=8) (v:=_) rfl (by as_aux_lemma=>kernel_rfl) (by as_aux_lemma=>kernel_rfl) (by as_aux_lemma=>kernel_rfl) (fun _ _ _ h=>h) (Or.inl ⟨by rfl,fun w h=>by have e0:=HG0.out w h;have e1:=HG1.out w h;clear h;go_simp;(try with_reducible rfl)⟩) (by assumption) ?_
    simp only [Act.put,List.getElem_toArray,List.getElem_cons_succ,List.getElem_cons_zero,List.setIfInBounds_toArray,List.set_cons_succ,List.set_cons_zero]
    refine wpAnyH_take (i:=9) (v:=_) rfl (by as_aux_lemma=>kernel_rfl) (by as_aux_lemma=>kernel_rfl) (by as_aux_lemma=>kernel_rfl) (fun _ _ _ h=>h) (Or.inl ⟨by rfl,fun w h=>by have e0:=HG0.out w h;have e1:=HG1.out w h;clear h;go_simp;(try with_reducible rfl)⟩) (by assumption) ?_
    simp only [Act.put,List.getElem_toArray,List.getElem_cons_succ,List.getElem_cons_zero,List.setIfInBounds_toArray,List.set_cons_succ,List.set_cons_zero]
    refine wpAnyH_take (i:=10) (v:=_) rfl (by as_aux_lemma=>kernel_rfl) (by as_aux_lemma=>kernel_rfl) (by as_aux_lemma=>kernel_rfl) (fun _ _ _ h=>h) (Or.inl ⟨by rfl,fun w h=>by have e0:=HG0.out w h;have e1:=HG1.out w h;clear h;go_simp;(try with_reducible rfl)⟩) (by assumption) ?_
    simp only [Act.put,List.getElem_toArray,List.getElem_cons_succ,List.getElem_cons_zero,List.setIfInBounds_toArray,List.set_cons_succ,List.set_cons_zero]
    refine wpAnyH_ready (rs:=[12]) (by as_aux_lemma=>kernel_rfl) (by simp) ?_
    refine (AllReadyH.cons (i:=12) rfl (fun K hK=> ?_) AllReadyH.nil)
    refine step_storeS #[.string ((((⟨#[45,32]⟩++dI)++⟨#[32]⟩)++dV)++⟨#[32,73,78,32,73,80,52,32,49,50,55,46,48,46,48,46,49]⟩),.string ⟨#[45]⟩,.string ⟨#[48,32,48]⟩,.slice none 0 0,.slice none 0 0] rfl 96 (.tmp 3) (.tmp 14) rfl rfl rfl HW.out.1 Tryz.sizeSSes rfl rfl rfl ?_
    have hbn:=below_row hHeld HW.out.2 #[.string ((((⟨#[45,32]⟩++dI)++⟨#[32]⟩)++dV)++⟨#[32,73,78,32,73,80,52,32,49,50,55,46,48,46,48,46,49]⟩),.string ⟨#[45]⟩,.string ⟨#[48,32,48]⟩,.slice none 0 0,.slice none 0 0]
    have hWn:=HW.out.1.row #[.string ((((⟨#[45,32]⟩++dI)++⟨#[32]⟩)++dV)++⟨#[32,73,78,32,73,80,52,32,49,50,55,46,48,46,48,46,49]⟩),.string ⟨#[45]⟩,.string ⟨#[48,32,48]⟩,.slice none 0 0,.slice none 0 0]
    have HX:=Lib.hid (And.intro hWn hbn)
    refine hK.out _ _ hbn (fun hHeld'=> ?_)
    clear hbn hWn
    clear hK K hHeld
    have hHeld:=hHeld'
    clear hHeld'
    try simp only [Act.put]
    refine wpAnyH_done (by as_aux_lemma=>kernel_rfl) ?_ _
    clear hHeld
    go_wp2
    go_meet
    exact ⟨_,_,rfl,HTX.out,HX.out.1,HW.out.2,HX.out.2⟩
 case rest =>
  obtain ⟨g,O,rfl,hO,hw,hgB,hb⟩:=hcut
  have HO:=Lib.hid hO
  have HGB:=Lib.hid hgB
  have HWC:=Lib.hid (And.intro hw hb)
  have HNW:Hid (∀W,Below B0 w0 W→N≤W.heap.size):=Lib.hid fun W hW=>Nat.le_trans HNB0.out (HSZ.out W hW)
  have HJZ:Hid (∀s:ByteArray,(32 :: tx s=d.bundle.flatMap fun b=>32 :: tx b)→s.size≤1000000000):=Lib.hid fun s hs=>by
   have:=congrArg List.length hs
   rw [List.length_cons,tx_length] at this
   have:=HFM.out
   omega
  obtain ⟨pre,hpre⟩:∃L:List AttrS,(if d.bundle.isEmpty then [] else [(⟨bs nGroup,bs (groupT d.bundle)⟩:AttrS)])=L:=⟨_,rfl⟩
  have HPA:Hid (headA d=pre++[⟨bs nUfrag,d.name⟩,⟨bs nPwd,d.pass⟩]):=Lib.hid (by unfold headA;rw [hpre])
  have HP0:Hid (n=0→pre=[]):=Lib.hid fun e=>by
   rw [←hpre,if_pos (by rw [List.isEmpty_iff];exact List.eq_nil_of_length_eq_zero (by rw [HNB.out];exact e))]
  have HP1:Hid (n≠0→pre=[⟨bs nGroup,bs (groupT d.bundle)⟩]):=Lib.hid fun e=>by
   rw [←hpre,if_neg (by rw [List.isEmpty_iff];intro e2;apply e;rw [←HNB.out,e2];rfl)]
  have HPL:Hid (pre.length≤1):=Lib.hid (by
   rw [←hpre]
   split <;> simp)
  have p2:wc.cell? ⟨N,2,none⟩=some (.slice AB n cB):=(HX.out _ hb).1.cell 2
  clear hO hw hgB hb hpre q1 q2 q3 q4 hdi hdv HG0 HG1 HFA HFB HR0 HTX HIV
  go_upto_if 18 with fail
  clear p2
  go_cut [] from 18 to 29 (fun wd=>∃vA:Value,Whole wd g 96 #[.string O,.string ⟨#[45]⟩,.string ⟨#[48,32,48]⟩,vA,.slice none 0 0]∧AtO wd N vA pre∧Below B0 w0 wd)
  case first =>
   by_cases h0:n=0
   · have HF:Hid (Whole wc g 96 #[.string O,.string ⟨#[45]⟩,.string ⟨#[48,32,48]⟩,.slice none 0 0,.slice none 0 0]∧AtO wc N (.slice none 0 0) pre∧Below B0 w0 wc):=Lib.hid ⟨HWC.out.1,by rw [HP0.out h0];exact AtO.nil _ _,HWC.out.2⟩
     have hd:decide (0<(n:Int))=false:=by simp;omega
     have hd2:¬(0:Int)<(n:Int):=by omega
     clear h0
     go_wp2
     go_meet
     exact ⟨_,HF.out⟩
   · have hd:decide (0<(n:Int))=true:=by simp;omega
     have hd2:(0:Int)<(n:Int):=by omega
     have HJ:Hid (∀W,Below B0 w0 W→Calls Tryz.prog 84 #[.slice AB n cB,.string ⟨#[32]⟩] W fun e w'=>∃s:ByteArray,e=.returned (.string s)∧(32 :: tx s=d.bundle.flatMap fun b=>32 :: tx b)∧Below W.heap.size W w'):=Lib.hid fun W hW=>joinB_any d.bundle _ W ((HTV.out.below (HUP.out W hW)).more (HNW.out W hW)) (by rw [HNB.out];omega) (by rw [HNB.out];exact hn6) HFM.out
     have HP:=Lib.hid (HP1.out h0)
     have HGW:=Lib.hid HWC.out.1
     have HR1:Hid (Below B0 w0 wc.drew):=Lib.hid HWC.out.2.drew
     have HS0:Hid (∀L,(TillOne (fun W=>Below B0 w0 W) (fun W=>W.cell? ⟨g,3,none⟩=some (.slice none 0 0)) 10) L wc.drew):=Lib.hid fun L=>TillOne.mk HR1.out (HGW.out.drew.cell 3)
     have HQ0:Hid (∀W,Ahead (TillOne (fun W=>Below B0 w0 W) (fun W=>W.cell? ⟨g,3,none⟩=some (.slice none 0 0)) 10) 10 W→W.cell? ⟨g,3,none⟩=some (.slice none 0 0)):=Lib.hid fun W h=>(TillOne.get h).2
     have HQ1:Hid (∀W,Ahead (TillOne (fun W=>Below B0 w0 W) (fun W=>W.cell? ⟨g,3,none⟩=some (.slice none 0 0)) 10) 10 W→W.cell? ⟨N,2,none⟩=some (.slice AB n cB)):=Lib.hid fun W h=>(HX.out _ (TillOne.get h).1).1.cell 2
     clear h0
     go_upto_region 3 with fail
     clear hd hd2
     refine wp_region_late (TillOne (fun W=>Below B0 w0 W) (fun W=>W.cell? ⟨g,3,none⟩=some (.slice none 0 0)) 10) (by as_aux_lemma=>kernel_rfl) ?_
     change wpLate Tryz.prog .any _ _ _ 11 #[false,false,false,false,false,false,false,false,false,false,false] _ _
     refine wpLate.take (i:=0) (q:=10) (oi:=_) (v:= ?_) rfl (by as_aux_lemma=>kernel_rfl) (by as_aux_lemma=>kernel_rfl) (by as_aux_lemma=>kernel_rfl) (by as_aux_lemma=>kernel_rfl) (by rfl) (fun _ _ _ h=>h) (TillOne.set (by decide)) (HS0.out _) (Or.inl ⟨by rfl,?_⟩) ?_
     case refine_2=>intro W hw;have e0:=HQ0.out W hw;have e1:=HQ1.out W hw;clear hw;go_simp;(try with_reducible rfl)
     simp only [Act.put,List.setIfInBounds_toArray,List.set_cons_succ,List.set_cons_zero]
     refine wpLate.take (i:=1) (q:=10) (oi:=_) (v:= ?_) rfl (by as_aux_lemma=>kernel_rfl) (by as_aux_lemma=>kernel_rfl) (by as_aux_lemma=>kernel_rfl) (by as_aux_lemma=>kernel_rfl) (by rfl) (fun _ _ _ h=>h) (TillOne.set (by decide)) (HS0.out _) (Or.inl ⟨by rfl,?_⟩) ?_
     case refine_2=>intro W hw;have e0:=HQ0.out W hw;have e1:=HQ1.out W hw;clear hw;go_simp;(try with_reducible rfl)
     simp only [Act.put,List.setIfInBounds_toArray,List.set_cons_succ,List.set_cons_zero]
     refine wpLate.take (i:=2) (q:=10) (oi:=_) (v:= ?_) rfl (by as_aux_lemma=>kernel_rfl) (by as_aux_lemma=>kernel_rfl) (by as_aux_lemma=>kernel_rfl) (by as_aux_lemma=>kernel_rfl) (by rfl) (fun _ _ _ h=>h) (TillOne.set (by decide)) (HS0.out _) (Or.inl ⟨by rfl,?_⟩) ?_
     case refine_2=>intro W hw;have e0:=HQ0.out W hw;have e1:=HQ1.out W hw;clear hw;go_simp;(try with_reducible rfl)
     simp only [Act.put,List.setIfInBounds_toArray,List.set_cons_succ,List.set_cons_zero]
     refine wpLate.take (i:=3) (q:=10) (oi:=_) (v:= ?_) rfl (by as_aux_lemma=>kernel_rfl) (by as_aux_lemma=>kernel_rfl) (by as_aux_lemma=>kernel_rfl) (by as_aux_lemma=>kernel_rfl) (by rfl) (fun _ _ _ h=>h) (TillOne.set (by decide)) (HS0.out _) (Or.inl ⟨by rfl,?_⟩) ?_
     case refine_2=>intro W hw;have e0:=HQ0.out W hw;have e1:=HQ1.out W hw;clear hw;go_simp;(try with_reducible rfl)
     simp only [Act.put,List.setIfInBounds_toArray,List.set_cons_succ,List.set_cons_zero]
     refine wpLate.ready (rs:=[4]) (by as_aux_lemma=>kernel_rfl) (by simp) (eachLate.cons rfl (fun K hK=> ?_) eachLate.nil)
     go_simp
     refine (HJ.out _ HR1.out).mono ?_
     rintro e w4 ⟨sj,rfl,hsj,hb4⟩
     have hsz:=HJZ.out sj hsj
     have q7:¬9223372036854775807<7+sj.size:=by omega
     have q7':¬9223372036854775807<sj.size+7:=by omega
     have HGT:Hid (tx (⟨#[66,85,78,68,76,69,32]⟩++sj)=groupT d.bundle):=Lib.hid (by rw [tx_append];show [66,85,78,68,76,69]++(32 :: tx sj)=_;rw [hsj];rfl)
     have H4:Hid (Below B0 w0 w4∧Whole w4 g 96 #[.string O,.string ⟨#[45]⟩,.string ⟨#[48,32,48]⟩,.slice none 0 0,.slice none 0 0]):=Lib.hid ⟨HKB.out _ _ HR1.out hb4,(HGW.out.drew).under hb4⟩
     have HT4:Hid (∀L,(TillOne (fun W=>Below B0 w0 W) (fun W=>W.cell? ⟨g,3,none⟩=some (.slice none 0 0)) 10) L w4):=Lib.hid fun L=>TillOne.mk H4.out.1 (H4.out.2.cell 3)
     refine hK.out _ _ (HT4.out _) ?_
     clear hK K hb4 hsj hsz
     try simp only [Act.put]
     refine wpLate.take (i:=5) (q:=10) (oi:=_) (v:= ?_) rfl (by as_aux_lemma=>kernel_rfl) (by as_aux_lemma=>kernel_rfl) (by as_aux_lemma=>kernel_rfl) (by as_aux_lemma=>kernel_rfl) (by rfl) (fun _ _ _ h=>h) (TillOne.set (by decide)) (HT4.out _) (Or.inl ⟨by rfl,?_⟩) ?_
     case refine_2=>intro W hw;have e0:=HQ0.out W hw;have e1:=HQ1.out W hw;clear hw;go_simp;(try with_reducible rfl)
     simp only [Act.put,List.setIfInBounds_toArray,List.set_cons_succ,List.set_cons_zero]
     refine wpLate.take (i:=6) (q:=10) (oi:=_) (v:= ?_) rfl (by as_aux_lemma=>kernel_rfl) (by as_aux_lemma=>kernel_rfl) (by as_aux_lemma=>kernel_rfl) (by as_aux_lemma=>kernel_rfl) (by rfl) (fun _ _ _ h=>h) (TillOne.set (by decide)) (HT4.out _) (Or.inl ⟨by rfl,?_⟩) ?_
     case refine_2=>intro W hw;have e0:=HQ0.out W hw;have e1:=HQ1.out W hw;clear hw;go_simp;(try with_reducible rfl)
     simp only [Act.put,List.setIfInBounds_toArray,List.set_cons_succ,List.set_cons_zero]
     refine wpLate.ready (rs:=[7]) (by as_aux_lemma=>kernel_rfl) (by simp) (eachLate.cons rfl (fun K hK=> ?_) eachLate.nil)
     have HT5:Hid (∀L,(TillOne (fun W=>Below B0 w0 W) (fun W=>W.cell? ⟨g,3,none⟩=some (.slice none 0 0)) 10) L (w4.alloc (.cells #[.string ⟨#[103,114,111,117,112]⟩,.string (⟨#[66,85,78,68,76,69,32]⟩++sj)] 65))):=Lib.hid fun L=>TillOne.mk (H4.out.1.alloc (HSZ.out _ H4.out.1) _) ((H4.out.2.alloc _).cell 3)
     go_simp
     refine hK.out _ _ (HT5.out _) ?_
     clear hK K
     try simp only [Act.put]
     refine wpLate.ready (rs:=[8]) (by as_aux_lemma=>kernel_rfl) (by simp) (eachLate.cons rfl (fun K hK=> ?_) eachLate.nil)
     refine step_of rfl (wp_addA (L:=[]) (base:=N) (.tmp 20) (.tmp 26) rfl rfl rfl (AtO.nil _ _) (by decide) (HNW.out _ H4.out.1) ?_)
     intro v8 w8 ho8 hg8
     have hx8:Whole w8 g 96 #[.string O,.string ⟨#[45]⟩,.string ⟨#[48,32,48]⟩,.slice none 0 0,.slice none 0 0]:=hg8.whole H4.out.2 (fun e=>by cases e)
     have hbl8:Below B0 w0 w8:=hg8.belowNone H4.out.1 (HSZ.out _ H4.out.1)
     obtain ⟨A8,k8,hv8,-⟩:=Own.form ho8
     simp only [List.nil_append,List.length_map,List.length_cons,List.length_nil] at hv8
     subst hv8
     have HFIN:Hid (Whole (w8.setCell ⟨g,3,none⟩ (.slice A8 1 k8)) g 96 #[.string O,.string ⟨#[45]⟩,.string ⟨#[48,32,48]⟩,.slice A8 1 k8,.slice none 0 0]∧AtO (w8.setCell ⟨g,3,none⟩ (.slice A8 1 k8)) N (.slice A8 1 k8) [⟨bs nGroup,bs (groupT d.bundle)⟩]∧Below B0 w0 (w8.setCell ⟨g,3,none⟩ (.slice A8 1 k8))):=Lib.hid ⟨hx8.set 3 _,by
      have e:(⟨bs nGroup,bs (groupT d.bundle)⟩:AttrS)=⟨⟨#[103,114,111,117,112]⟩,⟨#[66,85,78,68,76,69,32]⟩++sj⟩:=by
       rw [←HGT.out,bs_tx]
       rfl
      rw [e]
      exact Own.far (p:=⟨g,3,none⟩) ho8 (Own.apart ho8 hx8 (by decide)) _,hbl8.setCell (p:=⟨g,3,none⟩) HGB.out _⟩
     have c8:w8.cell? ⟨g,3,none⟩=some (.slice none 0 0):=hx8.cell 3
     have f8:=hx8.frz 3
     have HT8:Hid (∀L,(TillOne (fun W=>Below B0 w0 W) (fun W=>W.cell? ⟨g,3,none⟩=some (.slice none 0 0)) 10) L w8):=Lib.hid fun L=>TillOne.mk hbl8 c8
     have HS9:Hid (∀L,L.getD 10 true=true→(TillOne (fun W=>Below B0 w0 W) (fun W=>W.cell? ⟨g,3,none⟩=some (.slice none 0 0)) 10) L (w8.setCell ⟨g,3,none⟩ (.slice A8 1 k8))):=Lib.hid fun L hL=>TillOne.past HFIN.out.2.2 hL
     clear ho8 hg8 hx8 hbl8
     refine hK.out _ _ (HT8.out _) ?_
     clear hK K
     try simp only [Act.put]
     refine wpLate.take (i:=9) (q:=10) (oi:=_) (v:= ?_) rfl (by as_aux_lemma=>kernel_rfl) (by as_aux_lemma=>kernel_rfl) (by as_aux_lemma=>kernel_rfl) (by as_aux_lemma=>kernel_rfl) (by rfl) (fun _ _ _ h=>h) (TillOne.set (by decide)) (HT8.out _) (Or.inl ⟨by rfl,?_⟩) ?_
     case refine_2=>intro W hw;have e0:=HQ0.out W hw;have e1:=HQ1.out W hw;clear hw;go_simp;(try with_reducible rfl)
     simp only [Act.put,List.setIfInBounds_toArray,List.set_cons_succ,List.set_cons_zero]
     refine wpLate.ready (rs:=[10]) (by as_aux_lemma=>kernel_rfl) (by simp) (eachLate.cons rfl (fun K hK=> ?_) eachLate.nil)
     go_simp
     refine hK.out _ _ (HS9.out _ rfl) ?_
     clear hK K
     try simp only [Act.put]
     refine wpLate.done (by as_aux_lemma=>kernel_rfl) ?_ _
     go_wp2
     go_meet
     exact ⟨_,HFIN.out.1,by rw [HP.out];exact HFIN.out.2.1,HFIN.out.2.2⟩
  case rest =>
   obtain ⟨vA,hw,ha,hb⟩:=hcut
   obtain ⟨AA,cA,hvA,-⟩:=Own.form ha
   generalize (pre.map acell).length=lA at hvA
   subst hvA
   have H5:=Lib.hid (And.intro hw (And.intro ha (And.intro (HUP.out _ hb) (And.intro (HX.out _ hb) (HNW.out _ hb)))))
   have HNE:Hid (g≠N+1):=Lib.hid (by have:=H0.out.2.2.lt;rw [HB0.out] at this;have:=HGB.out;omega)
   have c0:wc.cell? ⟨g,3,none⟩=some (.slice AA lA cA):=hw.cell 3
   have c3:wc.cell? ⟨N,3,none⟩=some (.string d.name):=(HX.out _ hb).1.cell 3
   have c4:wc.cell? ⟨N,4,none⟩=some (.string d.pass):=(HX.out _ hb).1.cell 4
   have HTW:Hid (∀(i:Nat) (x:AttrS),([⟨⟨#[105,99,101,45,117,102,114,97,103]⟩,d.name⟩,⟨⟨#[105,99,101,45,112,119,100]⟩,d.pass⟩]:List AttrS)[i]? = some x→(wc.alloc (.cells #[.string ⟨#[105,99,101,45,117,102,114,97,103]⟩,.string d.name,.string ⟨#[105,99,101,45,112,119,100]⟩,.string d.pass] 65)).cell? ((⟨wc.heap.size,0,none⟩:Addr).add (i * 2))=some (.string x.name)∧(wc.alloc (.cells #[.string ⟨#[105,99,101,45,117,102,114,97,103]⟩,.string d.name,.string ⟨#[105,99,101,45,112,119,100]⟩,.string d.pass] 65)).cell? ((⟨wc.heap.size,0,none⟩:Addr).add (i * 2+1))=some (.string x.value)):=Lib.hid (two_attrs (Whole.new _ _ _))
   have HNA:Hid (N≤(wc.alloc (.cells #[.string ⟨#[105,99,101,45,117,102,114,97,103]⟩,.string d.name,.string ⟨#[105,99,101,45,112,119,100]⟩,.string d.pass] 65)).heap.size):=Lib.hid (by rw [World.size_alloc];have:=H5.out.2.2.2.2;omega)
   clear hw ha hb
   go_upto_region 5 with (at_builtin;refine wpList_appendLL (K:=pre) (L:=[⟨⟨#[105,99,101,45,117,102,114,97,103]⟩,d.name⟩,⟨⟨#[105,99,101,45,112,119,100]⟩,d.pass⟩]) (ad:=⟨wc.heap.size,0,none⟩) (base:=N) rfl (.tmp 30) (.tmp 37) rfl rfl (Own.alloc H5.out.2.1 _) rfl rfl HTW.out (by have:=HPL.out;simp;omega) HNA.out ?_;intro v9 w9 ho9 hg9 hn9;have H9:Hid (Own w9 N 65 2 v9 ((headA d).map acell)∧Whole w9 g 96 #[.string O,.string ⟨#[45]⟩,.string ⟨#[48,32,48]⟩,.slice AA lA cA,.slice none 0 0]∧Whole w9 (N+1) 96 #[.string ⟨#[]⟩,.string ⟨#[]⟩,.string ⟨#[]⟩,.slice none 0 0,.slice none 0 0]∧Below N w w9):=Lib.hid (head_step HPA.out ho9 hg9 H5.out.1 H5.out.2.1 H5.out.2.2.2.1.2 H5.out.2.2.1 H5.out.2.2.2.2);obtain ⟨A9,k9,hv9,-⟩:=Own.form H9.out.1;generalize ((headA d).map acell).length=l9 at hv9;subst hv9;have x9:w9.cell? ⟨g,3,none⟩=some (.slice AA lA cA):=H9.out.2.1.cell 3;have y9:=H9.out.2.1.frz 3;clear ho9 hg9 hn9)
   have H10:Hid (Whole (w9.setCell ⟨g,3,none⟩ (.slice A9 l9 k9)) g 96 #[.string O,.string ⟨#[45]⟩,.string ⟨#[48,32,48]⟩,.slice A9 l9 k9,.slice none 0 0]∧Whole (w9.setCell ⟨g,3,none⟩ (.slice A9 l9 k9)) (N+1) 96 #[.string ⟨#[]⟩,.string ⟨#[]⟩,.string ⟨#[]⟩,.slice none 0 0,.slice none 0 0]∧AtO (w9.setCell ⟨g,3,none⟩ (.slice A9 l9 k9)) N (.slice A9 l9 k9) (headA d)∧Below N w (w9.setCell ⟨g,3,none⟩ (.slice A9 l9 k9))):=Lib.hid
    ⟨H9.out.2.1.set 3 _,H9.out.2.2.1.far (p:=⟨g,3,none⟩) (Ne.symm HNE.out) _,H9.out.1.far (p:=⟨g,3,none⟩) (H9.out.1.apart H9.out.2.1 (by decide)) _,H9.out.2.2.2.setCell (p:=⟨g,3,none⟩) (Nat.le_trans HNB0.out HGB.out) _⟩
   clear x9 y9 c0 c3 c4 HTW HNA H9 H5
   generalize w9.setCell ⟨g,3,none⟩ (.slice A9 l9 k9)=w10 at *
   have HFIN:Hid (DHeadO w d (.returned (.agg #[.string O,.string ⟨#[45]⟩,.string ⟨#[48,32,48]⟩,.slice A9 l9 k9,.slice none 0 0])) (w10.setRow (N+1) #[.string O,.string ⟨#[45]⟩,.string ⟨#[48,32,48]⟩,.slice A9 l9 k9,.slice none 0 0])):=Lib.hid (by
    rw [HHO.out]
    exact ⟨_,by rw [←HO.out];rfl,Own.farRow H10.out.2.2.1 (Own.apart H10.out.2.2.1 H10.out.2.1 (by decide)) _,below_row H10.out.2.2.2 (Nat.le_succ N) _⟩)
   go_wp2_with (first | ((with_reducible refine wpList_load_all ?_ 96 (.tmp 3) ?_ H10.out.1 ?_ Tryz.sizeSSes ?_ Tryz.underlying96 ?_ ?_);(with_reducible rfl);(with_reducible rfl);rfl;rfl;rfl) | ((with_reducible refine wpList_storeS #[.string O,.string ⟨#[45]⟩,.string ⟨#[48,32,48]⟩,.slice A9 l9 k9,.slice none 0 0] ?_ 96 (.tmp 2) (.tmp 40) ?_ ?_ ?_ H10.out.2.1 Tryz.sizeSSes ?_ ?_ ?_ ?_);(with_reducible rfl);(with_reducible rfl);rfl;rfl;rfl;rfl;rfl) | ((with_reducible show bodyPost _ _ _ _ _ _);exact bodyPost_ret (ret_struct rfl rfl (H10.out.2.1.row _) Tryz.underlying96 rfl Tryz.sizeSSes rfl) rfl HFIN.out))
structure RX (w0:World) (P:Array Value) (ln cn:ByteArray) (L:List AttrS) (W:World):Prop where
 low:Below w0.heap.size w0 W
 part:Whole W w0.heap.size 88 P
 res:Whole W (w0.heap.size+1) 28 zeroM
 bare:∃vb,Whole W (w0.heap.size+2) 88 #[.string ln,.string cn,vb]∧Own W w0.heap.size 85 2 vb (L.map acell)
def RRI (w0:World) (P:Array Value) (ln cn:ByteArray) (m0:MediaS) (L:List AttrS) (W:World):Prop:=RX w0 P ln cn L W∧L.length≤64∧∃cs vC vE vR vS vY,MW w0.heap.size (w0.heap.size+3) L.length W (L.foldl (rd rR) m0) cs vC vE vR vS vY
section
variable {w0 W W':World} {P:Array Value} {ln cn:ByteArray} {L:List AttrS} {m0:MediaS}
theorem RX.under (h:RX w0 P ln cn L W) (hb:Below W.heap.size W W'):RX w0 P ln cn L W':=by
 obtain ⟨vb,h1,h2⟩:=h.bare
 exact ⟨h.low.trans (hb.mono h.low.size),h.part.under hb,h.res.under hb,vb,h1.under hb,h2.under hb⟩
theorem RX.rdt (h:RX w0 P ln cn L W) (hr:Rdt w0.heap.size (w0.heap.size+3) W W') {X:Array Value} (hbx:Whole W (w0.heap.size+3) 28 X):RX w0 P ln cn L W':=by
 obtain ⟨vb,h1,h2⟩:=h.bare
 refine ⟨h.low.trans hr.low,?_,?_,vb,?_,?_⟩
 · exact hr.kept _ _ _ h.part (by decide) (by decide) (by decide) (by decide) (by decide) (by omega)
 · exact hr.kept _ _ _ h.res (by decide) (by decide) (by decide) (by decide) (by decide) (by omega)
 · exact hr.kept _ _ _ h1 (by decide) (by decide) (by decide) (by decide) (by decide) (by omega)
 · exact h2.keep fun g cs hg hw=>hr.kept _ _ _ hw (by decide) (by decide) (by decide) (by decide) (by decide) (fun e=>h2.apart hbx (by decide) (by rw [hg,e]))
theorem RRI.next {a:AttrS} (hx:RX w0 P ln cn (L++[a]) W) (hl:L.length<64) {m':MediaS} (hm:rd rR (L.foldl (rd rR) m0) a=m') {n:Nat} (hn:n≤L.length+1) {X:Array Value} (hbx:Whole W (w0.heap.size+3) 28 X)
 (hr:(∃cs vC vE vR vS vY,MW w0.heap.size (w0.heap.size+3) n W' m' cs vC vE vR vS vY)∧Rdt w0.heap.size (w0.heap.size+3) W W'):RRI w0 P ln cn m0 (L++[a]) W':=by
 obtain ⟨⟨cs,vC,vE,vR,vS,vY,hM⟩,hR⟩:=hr
 refine ⟨hx.rdt hR hbx,by rw [List.length_append,List.length_singleton];omega,cs,vC,vE,vR,vS,vY,?_⟩
 rw [List.foldl_append,List.length_append]
 show MW _ _ _ _ (rd rR (L.foldl (rd rR) m0) a) _ _ _ _ _ _
 rw [hm]
 exact hM.wider hn
theorem RRI.under (h:RRI w0 P ln cn m0 L W) (hb:Below W.heap.size W W'):RRI w0 P ln cn m0 L W':=by
 obtain ⟨h1,h2,cs,vC,vE,vR,vS,vY,hM⟩:=h
 exact ⟨h1.under hb,h2,cs,vC,vE,vR,vS,vY,hM.under hb⟩
theorem RX.laid {vb v':Value} {a:AttrS} (h:RX w0 P ln cn L W) (h1:Whole W (w0.heap.size+2) 88 #[.string ln,.string cn,vb]) (h2:Own W w0.heap.size 85 2 vb (L.map acell)) (ho:Own W' w0.heap.size 85 2 v' (L.map acell++[acell a])) (hg:W.grownBy W' vb.ownBlock) :
 RX w0 P ln cn (L++[a]) (W'.setCell ⟨w0.heap.size+2,2,none⟩ v')∧Whole W' (w0.heap.size+2) 88 #[.string ln,.string cn,vb] ∧
 (∀g t cs,t≠85→t≠88→Whole W g t cs→Whole (W'.setCell ⟨w0.heap.size+2,2,none⟩ v') g t cs):=by
 have hk:∀g t cs,t≠85→Whole W g t cs→Whole W' g t cs:=fun g t cs ht hw=>hw.grown hg (fun e=>(h2.apart hw (fun e2=>ht e2.symm)) e.symm)
 have hb2:=hk _ _ _ (by decide) h1
 refine ⟨⟨(h.low.grown hg h.low.size (fun j hj=>(h2.lt hj).1)).setCell (p:=⟨w0.heap.size+2,2,none⟩) (by show w0.heap.size≤w0.heap.size+2;omega) _,(hk _ _ _ (by decide) h.part).far (p:=⟨w0.heap.size+2,2,none⟩) (by show w0.heap.size≠w0.heap.size+2;omega) _,(hk _ _ _ (by decide) h.res).far (p:=⟨w0.heap.size+2,2,none⟩) (by show w0.heap.size+1≠w0.heap.size+2;omega) _,v',hb2.set 2 v',?_⟩,hb2,fun g t cs h1 h2 hw=>(hk g t cs h1 hw).far (p:=⟨w0.heap.size+2,2,none⟩) ((hk g t cs h1 hw).ne hb2 h2) _⟩
 rw [List.map_append]
 exact ho.far (p:=⟨w0.heap.size+2,2,none⟩) (ho.apart hb2 (by decide)) _
end
theorem wpList_sliceOne {ops:Array Oper} {rest:List Oper} {op:Oper} {a:Act} {w:World} {Q:Exit→Act→World→Prop} (hgd:op.guard=none) {t:TypeId} {n i:Nat} {x:Operand} (ho:op.op=.buildSlice t n #[(i,x)]) {u v:Value} {w':World} (hx:a.eval x=u) (hr:(Instr.buildSlice t n #[(i,u)]).run Tryz.prog w=.ok v w')
 (h:wpList Tryz.prog ops Q rest (a.put op.dst v) w'):wpList Tryz.prog ops Q (op :: rest) a w :=
 wpList_plain hgd fun _ hK=>wp_sliceOne ho hx hr (hK _ _ h)
section
variable {m:MediaS} {nm vl:ByteArray}
end
def TN (N:Nat) (k:Nat):Prop:=k<N+3
def zeroD:Array Value:=#[.int .u64 0,.int .u64 0,.slice none 0 0,.string ⟨#[]⟩,.string ⟨#[]⟩,.slice none 0 0]
def DescO (x:SesS) (w w':World) (D:Array Value) (d:DescS) (vB vM:Value) (er:Int):Prop:=Below w.heap.size w w'∧((er=0∧IsD x d∧SizD d∧∀T:Nat→Prop,(∀j,T j→j<w.heap.size)→Held w' T (fun W=>DescV W W.heap.size D d vB vM))∨(er=2∧D=zeroD∧d=DescS.zero∧vB=.slice none 0 0∧vM=.slice none 0 0∧∀d',TypedD d'→¬IsD x d'))
def TypedO (x:SesS) (w:World) (e:Ending) (w':World):Prop:=∃(D:Array Value) (d:DescS) (vB vM:Value) (er:Int),e=.returned (.tuple #[.agg D,.int .i64 er])∧DescO x w w' D d vB vM er
theorem ses_three (w:World) (X D:Array Value) (t t':TypeId):Below w.heap.size w (((w.alloc (.cells X t)).alloc (.cells D t')).alloc (.cells D t'))∧Whole (((w.alloc (.cells X t)).alloc (.cells D t')).alloc (.cells D t')) w.heap.size t X∧Whole (((w.alloc (.cells X t)).alloc (.cells D t')).alloc (.cells D t')) (w.heap.size+1) t' D∧Whole (((w.alloc (.cells X t)).alloc (.cells D t')).alloc (.cells D t')) (w.heap.size+2) t' D:=by
 have h2:=Whole.new2 w (.cells X t) t' D
 have h3:=Whole.new ((w.alloc (.cells X t)).alloc (.cells D t')) t' D
 rw [World.size_alloc,World.size_alloc] at h3
 exact ⟨(two_new _ _ _ _).alloc (two_new t t' X D).size _,((Whole.new w _ _).alloc _).alloc _,h2.alloc _,h3⟩
theorem DW.under {T:Nat→Prop} {g:Nat} {w w':World} {d:DescS} {vB vM:Value} (h:DW T g w d vB vM) (hb:Below w.heap.size w w'):DW T g w' d vB vM:=⟨h.box.under hb,h.bun.under hb⟩
structure TI (N:Nat) (w:World) (X:Array Value) (v5:Value) (L:List AttrS) (W:World):Prop where
 low:Below N w W
 x:Whole W N 96 X
 res:Whole W (N+1) 45 zeroD
 known:Own W N 65 2 v5 (L.map acell)
section
variable {N:Nat} {w W W':World} {X:Array Value} {v5:Value} {L:List AttrS}
theorem TI.under (h:TI N w X v5 L W) (hN:N≤W.heap.size) (hb:Below W.heap.size W W'):TI N w X v5 L W':=⟨h.low.trans (hb.mono hN),h.x.under hb,h.res.under hb,h.known.under hb⟩
theorem TI.le (h:TI N w X v5 L W):N≤W.heap.size:=Nat.le_of_lt h.x.lt
theorem TI.only (h:TI N w X v5 L W) {S:Nat→Prop} (k:Only S W W') (hS:∀j,S j→N≤j∧j≠N∧j≠N+1∧v5.ownBlock≠some j):TI N w X v5 L W' :=
 ⟨h.low.trans (k.below (fun j hj=>(hS j hj).1) h.le),h.x.only k (fun e=>(hS _ e).2.1 rfl),h.res.only k (fun e=>(hS _ e).2.2.1 rfl),h.known.keep fun g c hg hw=>hw.only k (fun e=>(hS _ e).2.2.2 hg)⟩
end
theorem okAt_len {a:AttrS} (h:okAt a=true):a.name.size≤200∧a.value.size≤200:=by
 unfold okAt maybeP at h
 rw [Bool.and_eq_true,Bool.or_eq_true] at h
 have h1:=(wordP_len h.1).2
 rw [tx_length] at h1
 refine ⟨by omega,?_⟩
 rcases h.2 with h2 | h2
 · have:(tx a.value).length=0:=by rw [List.isEmpty_iff.1 h2];rfl
   rw [tx_length] at this
   omega
 · have:=(valP_len h2).2
   rw [tx_length] at this
   exact this
theorem okA_all {L:List AttrS} (h:okA L=true):L.length≤64∧∀a∈L,okAt a=true:=by
 unfold okA at h
 rw [Bool.and_eq_true,decide_eq_true_eq,List.all_eq_true] at h
 exact h
theorem okP_siz {p:PartS} (h:okP p=true):SizR p:=by
 obtain ⟨h1,h2,h3⟩:=okP_parts h
 obtain ⟨h4,h5⟩:=okA_all h3
 have:=(valP_len h1).2
 rw [tx_length] at this
 exact ⟨by omega,fun a ha=>by have:=(okAt_len (h5 a ha)).2;omega,by omega⟩
def ReadH (p:PartS) (w:World) (e:Ending) (w':World):Prop:=∃m AC lC kC AE lE kE AR lR kR AS lS kS AY lY kY er,e=.returned (.tuple #[.agg #[.int .i64 m.kind,.int .i64 m.port,.string m.mid,.int .i64 m.dir,.slice AC lC kC,.slice AE lE kE,.slice AR lR kR,.bool m.sending,.slice AS lS kS,.slice AY lY kY,.int .i64 m.sctp],.int .i64 er])∧Below w.heap.size w w'∧((er=0∧IsM p m∧SizM m∧∀T:Nat→Prop,(∀j,T j→j<w.heap.size)→Held w' T (ML.At ⟨m,.slice AC lC kC,.slice AE lE kE,.slice AR lR kR,.slice AS lS kS,.slice AY lY kY⟩))∨(er=2∧∀m',TypedM m'→¬IsM p m'))
theorem MediaV.forms8 {w:World} {B:Nat} {M:Array Value} {m:MediaS} {vC vE vR vS vY:Value} (h:MediaV w B M m vC vE vR vS vY):(∃A l k,vC=.slice A l k)∧(∃A l k,vE=.slice A l k)∧(∃A l k,vR=.slice A l k)∧(∃A l k,vS=.slice A l k)∧(∃A l k,vY=.slice A l k):=by
 refine ⟨?_,?_,?_,?_,?_⟩
 · obtain ⟨A,k,h,-⟩:=Rows.form h.codecs;exact ⟨_,_,_,h⟩
 · obtain ⟨A,k,h,-⟩:=Rows.form h.exts;exact ⟨_,_,_,h⟩
 · obtain ⟨A,k,h,-⟩:=Rows.form h.rids;exact ⟨_,_,_,h⟩
 · obtain ⟨A,k,h,-⟩:=Rows.form h.sources;exact ⟨_,_,_,h⟩
 · obtain ⟨A,k,h,-⟩:=Rows.form h.crypto;exact ⟨_,_,_,h⟩
theorem ReadO.held {p:PartS} {w w':World} {e:Ending} (h:ReadO p w e w'):ReadH p w e w':=by
 obtain ⟨m,vC,vE,vR,vS,vY,er,rfl,hb,h⟩:=h
 rcases h with ⟨rfl,h1,bm,cs,hM⟩ | ⟨rfl,hz,h2⟩
 · obtain ⟨⟨AC,lC,kC,rfl⟩,⟨AE,lE,kE,rfl⟩,⟨AR,lR,kR,rfl⟩,⟨AS,lS,kS,rfl⟩,⟨AY,lY,kY,rfl⟩⟩:=hM.media.forms8
   exact ⟨m,AC,lC,kC,AE,lE,kE,AR,lR,kR,AS,lS,kS,AY,lY,kY,0,rfl,hb,.inl ⟨rfl,h1,hM.siz,fun T hT=>hM.held hT⟩⟩
 · exact ⟨MediaS.zero,none,0,0,none,0,0,none,0,0,none,0,0,none,0,0,2,by rw [hz];rfl,hb,.inr ⟨rfl,h2⟩⟩
theorem media_box8 (w:World) (Y:Array Value):Below w.heap.size w ((w.alloc (.cells #[.int .i64 0,.int .i64 0,.string ⟨#[]⟩,.int .i64 0,.slice none 0 0,.slice none 0 0,.slice none 0 0,.bool false,.slice none 0 0,.slice none 0 0,.int .i64 0] 28)).setRow w.heap.size Y)∧Whole ((w.alloc (.cells #[.int .i64 0,.int .i64 0,.string ⟨#[]⟩,.int .i64 0,.slice none 0 0,.slice none 0 0,.slice none 0 0,.bool false,.slice none 0 0,.slice none 0 0,.int .i64 0] 28)).setRow w.heap.size Y) w.heap.size 28 Y :=
 ⟨below_row ((Below.refl _ w).alloc (Nat.le_refl _) _) (Nat.le_refl _) _,(Whole.new w 28 _).row _⟩
theorem part_box8 (w:World) (Y:Array Value):Below w.heap.size w ((w.alloc (.cells #[.string ⟨#[]⟩,.string ⟨#[]⟩,.slice none 0 0] 34)).setRow w.heap.size Y)∧Whole ((w.alloc (.cells #[.string ⟨#[]⟩,.string ⟨#[]⟩,.slice none 0 0] 34)).setRow w.heap.size Y) w.heap.size 34 Y :=
 ⟨below_row ((Below.refl _ w).alloc (Nat.le_refl _) _) (Nat.le_refl _) _,(Whole.new w 34 _).row _⟩
theorem under_row8 {g:Nat} {w w':World} {v:Value} (h:w.grownBy w' v.ownBlock):Only (fun k=>k=g∨v.ownBlock=some k) w w':=⟨h.os,h.tape,h.output,h.size,fun k hk hT=>h.block k hk (fun e=>hT (.inr e.symm))⟩
theorem only_row8 (w:World) (g:Nat) (cs:Array Value):Only (fun k=>k=g) w (w.setRow g cs):=by
 have hb:=below_row (Below.refl 0 w) (g:=g) (Nat.zero_le _) cs
 exact ⟨hb.os,hb.tape,hb.output,hb.size,fun k hk hn=>setRow_other w g k cs hn⟩
structure RP (x:SesS) (k:Nat) (xs:List ML):Prop where
 len:xs.length=k
 is:∀(i:Nat) (p:PartS) (y:ML),x.parts[i]? = some p→xs[i]? = some y→IsM p y.m
 siz:∀y∈xs,SizM y.m
theorem RP.nil (x:SesS):RP x 0 []:=⟨rfl,fun i p y _ h=>by simp at h,fun y h=>by cases h⟩
theorem RP.next {x:SesS} {k:Nat} {xs:List ML} {p:PartS} {y:ML} (h:RP x k xs) (hp:x.parts[k]? = some p) (h1:IsM p y.m) (h2:SizM y.m):RP x (k+1) (xs++[y]):=by
 refine ⟨by rw [List.length_append,h.len];rfl,fun i q z hq hz=> ?_,fun z hz=> ?_⟩
 · rw [List.getElem?_append] at hz
   split at hz
   · exact h.is i q z hq hz
   · next hlt =>
     rw [h.len] at hz hlt
     have hi:i=k:=by
      have:=(List.getElem?_eq_some_iff.1 hz).1
      simp at this
      omega
     subst hi
     rw [Nat.sub_self] at hz
     obtain rfl:y=z:=by simpa using hz
     rw [hp] at hq
     obtain rfl:=Option.some.inj hq
     exact h1
 · rcases List.mem_append.1 hz with hz | hz
   · exact h.siz z hz
   · obtain rfl:=List.mem_singleton.1 hz
     exact h2
set_option maxHeartbeats 12800000 in
set_option maxRecDepth 100000 in
theorem typed_any (X:Array Value) (x:SesS) (vA vP:Value) (w:World) (h:SesV w w.heap.size X x vA vP) (hok:okS x=true) (hE:EnvD w):Calls Tryz.prog 37 #[.agg X] w (TypedO x w):=by
 obtain ⟨AA,cA,hvA,-⟩:=h.attrs.form
 obtain ⟨AP,cP,hvP,-⟩:=Rows.form h.parts
 obtain rfl:=h.form
 obtain ⟨nA,hnA⟩:∃n,x.attrs.length=n:=⟨_,rfl⟩
 obtain ⟨nP,hnP⟩:∃n,x.parts.length=n:=⟨_,rfl⟩
 rw [hnA] at hvA
 rw [hnP] at hvP
 subst hvA hvP
 obtain ⟨ok1,ok2,ok3,ok4,ok5,ok6⟩:=okS_parts hok
 have hzo:x.origin.size≤200:=by have:=(valP_len ok1).2;rw [tx_length] at this;exact this
 obtain ⟨og,hog⟩:∃o,x.origin=o:=⟨_,rfl⟩
 obtain ⟨sn,hsn⟩:∃o,x.name=o:=⟨_,rfl⟩
 obtain ⟨st,hst⟩:∃o,x.time=o:=⟨_,rfl⟩
 obtain ⟨L,hL⟩:∃L,x.attrs.filter knownD=L:=⟨_,rfl⟩
 have hL64:L.length≤64:=by rw [←hL];exact Nat.le_trans (List.length_filter_le _ _) (okA_len ok4)
 have hLok:∀a∈L,okAt a=true:=fun a ha=>by rw [←hL] at ha;exact (okA_all ok4).2 a (List.mem_filter.1 ha).1
 have HX:=Lib.hid (And.intro hog (And.intro hsn (And.intro hst (And.intro hL (And.intro hnA hnP)))))
 have HLK:=Lib.hid (And.intro hL64 hLok)
 have HA64:=Lib.hid (okA_len ok4)
 have HPK:=Lib.hid (And.intro ok5 ok6)
 rw [hog] at hzo h
 rw [hsn,hst] at h
 rw [hog,hsn,hst]
 have HSV:=Lib.hid h
 have HE:=Lib.hid hE
 have H0:=Lib.hid (ses_three w #[.string og,.string sn,.string st,.slice AA nA cA,.slice AP nP cP] zeroD 96 45)
 obtain ⟨N,hN⟩:∃N,w.heap.size=N:=⟨_,rfl⟩
 have HN:=Lib.hid hN
 have hN7:7≤N:=by rw [←hN];exact hE.seven
 have HN7:=Lib.hid hN7
 rw [hN] at H0 HSV
 unfold zeroD at H0
 have HZO:=Lib.hid hzo
 clear h hok hE hog hsn hst hL hnA hnP hN hN7 ok1 ok2 ok3 ok4 ok5 ok6 hL64 hLok hzo
 go_enter Tryz.func37,Tryz.ntmps37
 go_upto_region 2 with fail
 simp only [HN.out,Nat.add_assoc,Nat.reduceAdd]
 generalize ((w.alloc (.cells #[.string og,.string sn,.string st,.slice AA nA cA,.slice AP nP cP] 96)).alloc (.cells #[.int .u64 0,.int .u64 0,.slice none 0 0,.string ⟨#[]⟩,.string ⟨#[]⟩,.slice none 0 0] 45)).alloc (.cells #[.int .u64 0,.int .u64 0,.slice none 0 0,.string ⟨#[]⟩,.string ⟨#[]⟩,.slice none 0 0] 45)=w0 at *
 have HR0:Hid (Calls Tryz.prog 81 #[.pointer (some ⟨N+2,0,none⟩),.string og] w0 fun e w'=>e=.returned (.tuple #[])∧Whole w' (N+2) 45 #[.int .u64 (origP (tx og)).1,.int .u64 (origP (tx og)).2,.slice none 0 0,.string ⟨#[]⟩,.string ⟨#[]⟩,.slice none 0 0]∧Only (fun k=>k=N+2) w0 w'):=Lib.hid (readOrigin_any N (N+2) _ _ _ _ _ _ og w0 H0.out.2.2.2 (HE.out.low H0.out.1 HN7.out) HN7.out (by omega) (by have:=HZO.out;omega))
 have e0:w0.cell? ⟨N,0,none⟩=some (.string og):=H0.out.2.1.cell 0
 go_upto_region 3 with (go_at_call 81;(with_reducible refine HR0.out.mono ?_);rintro e w1 ⟨rfl,hd1,ho1⟩;have H1:Hid (Below N w w1∧Whole w1 N 96 #[.string og,.string sn,.string st,.slice AA nA cA,.slice AP nP cP]∧Whole w1 (N+1) 45 zeroD∧DW (TN N) (N+2) w1 (startD dP (tx og)) (.slice none 0 0) (.slice none 0 0)):=Lib.hid ⟨H0.out.1.trans (ho1.below (fun k hk=>by omega) (Nat.le_of_lt H0.out.2.1.lt)),H0.out.2.1.only ho1 (by omega),H0.out.2.2.1.only ho1 (by omega),hd1,fun W _=>Rows.nil _ _ _ _⟩;clear hd1 ho1;dsimp only)
 clear e0 HR0 H0
 have HKN:Hid (Calls Tryz.prog 82 #[.slice AA nA cA] w1 fun e w'=>∃v',e=.returned v'∧AtO w' w1.heap.size v' L∧Below w1.heap.size w1 w'):=Lib.hid (by
  rw [←HX.out.2.2.2.1]
  refine knownD_any _ x.attrs w1 ((HSV.out.attrs.below H1.out.1).more (Nat.le_of_lt H1.out.2.1.lt)) HA64.out)
 have e3:w1.cell? ⟨N,3,none⟩=some (.slice AA nA cA):=H1.out.2.1.cell 3
 go_upto_region 4 with (go_at_call 82;(with_reducible refine HKN.out.mono ?_);rintro e w2 ⟨v5,rfl,ho2,hb2⟩;obtain ⟨A5,c5,hv5,-⟩:=Own.form ho2;rw [List.length_map] at hv5;obtain ⟨n5,hn5⟩:∃n,L.length=n:=⟨_,rfl⟩;rw [hn5] at hv5;subst hv5;have HN5:=Lib.hid hn5;have H2:Hid (TI N w #[.string og,.string sn,.string st,.slice AA nA cA,.slice AP nP cP] (.slice A5 n5 c5) L w2∧DW (TN N) (N+2) w2 (startD dP (tx og)) (.slice none 0 0) (.slice none 0 0)):=Lib.hid ⟨⟨H1.out.1.trans (hb2.mono (Nat.le_of_lt H1.out.2.1.lt)),H1.out.2.1.under hb2,H1.out.2.2.1.under hb2,Own.base_le ho2 (Nat.le_of_lt H1.out.2.1.lt)⟩,H1.out.2.2.2.under hb2⟩;clear ho2 hb2 hn5;dsimp only)
 clear e3 HKN H1
 obtain ⟨d0,hd0⟩:∃d,startD dP (tx og)=d:=⟨_,rfl⟩
 have HD0:=Lib.hid hd0
 rw [hd0] at H2
 clear hd0
 have hn64:n5≤64:=by have:=HLK.out.1;rw [HN5.out] at this;exact this
 go_upto_block 0 with fail
 go_cut [] from 7 to 28 (fun wc=>∃vB,DW (TN N) (N+2) wc (L.foldl (rda dP) d0) vB (.slice none 0 0)∧TI N w #[.string og,.string sn,.string st,.slice AA nA cA,.slice AP nP cP] (.slice A5 n5 c5) L wc)
 case first =>
  go_wp2
  go_loopw [21] (fun s21 wr=>∃(k:Nat) (vB:Value),k≤n5∧s21=.int .i64 k∧DW (TN N) (N+2) wr ((L.take k).foldl (rda dP) d0) vB (.slice none 0 0)∧TI N w #[.string og,.string sn,.string st,.slice AA nA cA,.slice AP nP cP] (.slice A5 n5 c5) L wr) (fun s21 _=>n5 - (intOf s21).toNat)
  case atStart=>exact ⟨0,_,Nat.zero_le _,rfl,H2.out.2,H2.out.1⟩
  case round =>
   clear H2
   obtain ⟨k,vB,hk,rfl,hdw,hti⟩:=hrel
   have HS:=Lib.hid (And.intro hdw hti)
   clear hdw hti
   by_cases hlt:k<n5
   · obtain ⟨ad,c',e1,b1,x0,x1⟩:=(HS.out.2.known.reads (Nat.le_refl _)).at_ (i:=k) (by rw [HN5.out];exact hlt)
     injection e1 with e1 e1n e1c
     clear e1n e1c
     subst e1
     have gL:=getD_of (L:=L) (i:=k) (by rw [HN5.out];exact hlt)
     obtain ⟨a,ha⟩:∃a,L.getD k default=a:=⟨_,rfl⟩
     rw [ha] at x0 x1 gL
     obtain ⟨nm,vl⟩:=a
     have hva:=(okAt_len (HLK.out.2 _ (List.mem_of_getElem? gL))).2
     have HG:Hid ((L.take (k+1)).foldl (rda dP) d0=rda dP ((L.take k).foldl (rda dP) d0) ⟨nm,vl⟩):=Lib.hid (by rw [List.take_add_one,gL,List.foldl_append];rfl)
     have hbA:Below wr.heap.size wr ((wr.alloc (.cells #[.string ⟨#[]⟩,.string ⟨#[]⟩] 65)).setRow wr.heap.size #[.string nm,.string vl]):=below_row ((Below.refl _ wr).alloc (Nat.le_refl _) _) (Nat.le_refl _) _
     have hw1:Whole (wr.alloc (.cells #[.string ⟨#[]⟩,.string ⟨#[]⟩] 65)) wr.heap.size 65 #[.string ⟨#[]⟩,.string ⟨#[]⟩]:=Whole.new _ _ _
     have HW1:=Lib.hid hw1
     have H3:Hid (DW (TN N) (N+2) ((wr.alloc (.cells #[.string ⟨#[]⟩,.string ⟨#[]⟩] 65)).setRow wr.heap.size #[.string nm,.string vl]) ((L.take k).foldl (rda dP) d0) vB (.slice none 0 0)∧TI N w #[.string og,.string sn,.string st,.slice AA nA cA,.slice AP nP cP] (.slice (some ad) n5 c5) L ((wr.alloc (.cells #[.string ⟨#[]⟩,.string ⟨#[]⟩] 65)).setRow wr.heap.size #[.string nm,.string vl])∧Whole ((wr.alloc (.cells #[.string ⟨#[]⟩,.string ⟨#[]⟩] 65)).setRow wr.heap.size #[.string nm,.string vl]) wr.heap.size 65 #[.string nm,.string vl]):=Lib.hid ⟨HS.out.1.under hbA,HS.out.2.under HS.out.2.le hbA,hw1.row _⟩
     have hk0:(0:Int)≤(k:Int):=by omega
     have hk1:(k:Int)<(n5:Int):=by omega
     have e1:IntKind.i64.wrap ((k:Int)+1)=(k:Int)+1:=IntWalk.i64_in _ (by omega)
     clear gL ha b1 hbA hw1
     simp only at x0 x1
     go_upto_region 7 with ((with_reducible refine wpList_storeS #[.string nm,.string vl] ?_ 65 (.tmp 7) (.tmp 24) ?_ ?_ ?_ HW1.out Tryz.sizeSAttr ?_ ?_ ?_ ?_);(with_reducible rfl);(with_reducible rfl);rfl;rfl;rfl;rfl;rfl)
     clear x0 x1 HW1
     generalize (wr.alloc (.cells #[.string ⟨#[]⟩,.string ⟨#[]⟩] 65)).setRow wr.heap.size #[.string nm,.string vl]=W2 at *
     generalize wr.heap.size=g7 at *
     have c0:W2.cell? ⟨g7,0,none⟩=some (.string nm):=H3.out.2.2.cell 0
     have c1:W2.cell? ⟨g7,1,none⟩=some (.string vl):=H3.out.2.2.cell 1
     have HRA:Hid (Calls Tryz.prog 83 #[.pointer (some ⟨N+2,0,none⟩),.agg #[.string nm,.string vl]] W2 fun e w'=>e=.returned (.tuple #[])∧(∃vB',DW (TN N) (N+2) w' ((L.take (k+1)).foldl (rda dP) d0) vB' (.slice none 0 0))∧TI N w #[.string og,.string sn,.string st,.slice AA nA cA,.slice AP nP cP] (.slice (some ad) n5 c5) L w'):=Lib.hid ((readAttr8_any (TN N) N (N+2) ⟨nm,vl⟩ _ vB _ W2 H3.out.1 (show N+2<N+3 by omega) (fun j hj=>by have h1:=H3.out.1.box.lt;have h2:j<N+3:=hj;omega) (HE.out.low H3.out.2.1.low HN7.out) HN7.out (by omega) (by omega)).mono fun e w' ⟨h1,h2,h3⟩=>⟨h1,by rw [HG.out];exact h2,H3.out.2.1.only h3 fun j hj=>by
      subst hj
      exact ⟨by omega,by omega,by omega,H3.out.2.1.known.apart H3.out.1.box (by decide)⟩⟩)
     go_wp2_with (go_at_call 83;(with_reducible refine HRA.out.mono ?_);rintro e w4 ⟨rfl,⟨vB',hd4⟩,ht4⟩;have H4:=Lib.hid (And.intro hd4 ht4);clear hd4 ht4;dsimp only)
     go_roundw
     case rel=>exact ⟨k+1,vB',by omega,by go_num,H4.out.1,H4.out.2⟩
     case measure=>simp [intOf];omega
   · obtain rfl:k=n5:=by omega
     have HT:Hid (L.take k=L):=Lib.hid (List.take_of_length_le (by rw [HN5.out];exact Nat.le_refl _))
     go_wp2
     go_meet
     rw [HT.out] at HS
     exact ⟨_,HS.out.1,HS.out.2⟩
 case rest =>
  have hbun:=hcut
  obtain ⟨vB,hdw,hti⟩:=hcut
  clear hbun H2
  obtain ⟨dA,hdA⟩:∃d,L.foldl (rda dP) d0=d:=⟨_,rfl⟩
  rw [hdA] at hdw
  have HDA:=Lib.hid hdA
  obtain ⟨AB,lB,kB,hvB⟩:∃A l k,vB=.slice A l k:=by
   obtain ⟨A,k,h,-⟩:=Rows.form hdw.bun.now
   exact ⟨_,_,_,h⟩
  subst hvB
  have H3:Hid (DM (TN N) N (N+2) wc dA [] (.slice AB lB kB) (.slice none 0 0)∧TI N w #[.string og,.string sn,.string st,.slice AA nA cA,.slice AP nP cP] (.slice A5 n5 c5) L wc):=Lib.hid ⟨hdw.dm,hti⟩
  clear hdw hti hdA
  have e4:wc.cell? ⟨N,4,none⟩=some (.slice AP nP cP):=H3.out.2.x.cell 4
  have hn8:nP≤8:=by have:=HPK.out.1;rw [HX.out.2.2.2.2.2] at this;exact this
  go_wp2
  go_loopw [31] (fun s31 wr=>∃(k:Nat) (xs:List ML) (vM:Value),k≤nP∧s31=.int .i64 k∧DM (TN N) N (N+2) wr dA xs (.slice AB lB kB) vM∧RP x k xs∧TI N w #[.string og,.string sn,.string st,.slice AA nA cA,.slice AP nP cP] (.slice A5 n5 c5) L wr) (fun s31 _=>nP - (intOf s31).toNat)
  case atStart=>exact ⟨0,[],_,Nat.zero_le _,rfl,H3.out.1,RP.nil x,H3.out.2⟩
  case round =>
   clear H3 e4
   obtain ⟨k,xs,vM,hk,rfl,hdm,hrp,hti⟩:=hrel
   obtain ⟨AM,cM,hvM,-⟩:=Own.form hdm.row
   rw [List.length_map,hrp.len] at hvM
   subst hvM
   have HS:=Lib.hid (And.intro hdm (And.intro hrp hti))
   clear hdm hrp hti
   by_cases hlt:k<nP
   · obtain ⟨ad,c1',va,e1,b1,x0,x1,xa,xr⟩:=HSV.out.parts.at_ (i:=k) (by rw [HX.out.2.2.2.2.2];exact hlt)
     injection e1 with e1 e1n e1c
     clear e1n e1c
     subst e1
     have gL:=getD_of (L:=x.parts) (i:=k) (by rw [HX.out.2.2.2.2.2];exact hlt)
     obtain ⟨p,hp⟩:∃p,x.parts.getD k default=p:=⟨_,rfl⟩
     rw [hp] at x0 x1 xr gL
     have hbl:=HS.out.2.2.low
     have x0':=(hbl.cell (p:=ad.add (k * 3)) (by rw [add_block];exact b1)).trans x0
     have x1':=(hbl.cell (p:=⟨(ad.add (k * 3)).block,(ad.add (k * 3)).off+1,none⟩) (by show (ad.add (k * 3)).block<_;rw [add_block];exact b1)).trans x1
     have x2':=(hbl.cell (p:=⟨(ad.add (k * 3)).block,(ad.add (k * 3)).off+2,none⟩) (by show (ad.add (k * 3)).block<_;rw [add_block];exact b1)).trans xa
     have HG:=Lib.hid gL
     have HPZ:Hid (SizR p):=Lib.hid (okP_siz (HPK.out.2 p (List.mem_of_getElem? gL)))
     obtain ⟨Aq,lq,cq,rfl⟩:∃A l c,va=.slice A l c:=by
      obtain ⟨A,c,e,-⟩:=xr.form
      exact ⟨_,_,_,e⟩
     have HPA:=Lib.hid xr
     have hw1:Whole (wr.alloc (.cells #[.string ⟨#[]⟩,.string ⟨#[]⟩,.slice none 0 0] 34)) wr.heap.size 34 #[.string ⟨#[]⟩,.string ⟨#[]⟩,.slice none 0 0]:=Whole.new _ _ _
     have HW1:=Lib.hid hw1
     have hbx:=part_box8 wr #[.string p.line,.string p.conn,.slice Aq lq cq]
     have H4:Hid (DM (TN N) N (N+2) ((wr.alloc (.cells #[.string ⟨#[]⟩,.string ⟨#[]⟩,.slice none 0 0] 34)).setRow wr.heap.size #[.string p.line,.string p.conn,.slice Aq lq cq]) dA xs (.slice AB lB kB) (.slice AM k cM)∧TI N w #[.string og,.string sn,.string st,.slice AA nA cA,.slice (some ad) nP cP] (.slice A5 n5 c5) L ((wr.alloc (.cells #[.string ⟨#[]⟩,.string ⟨#[]⟩,.slice none 0 0] 34)).setRow wr.heap.size #[.string p.line,.string p.conn,.slice Aq lq cq])∧Whole ((wr.alloc (.cells #[.string ⟨#[]⟩,.string ⟨#[]⟩,.slice none 0 0] 34)).setRow wr.heap.size #[.string p.line,.string p.conn,.slice Aq lq cq]) wr.heap.size 34 #[.string p.line,.string p.conn,.slice Aq lq cq]):=Lib.hid ⟨HS.out.1.under hbx.1,HS.out.2.2.under HS.out.2.2.le hbx.1,hbx.2⟩
     have hk0:(0:Int)≤(k:Int):=by omega
     have hk1:(k:Int)<(nP:Int):=by omega
     have e1:IntKind.i64.wrap ((k:Int)+1)=(k:Int)+1:=IntWalk.i64_in _ (by omega)
     clear x0 x1 xa gL hp b1 hbl xr hw1 hbx
     go_upto_region 12 with ((with_reducible refine wpList_storeS #[.string p.line,.string p.conn,.slice Aq lq cq] ?_ 34 (.tmp 9) (.tmp 34) ?_ ?_ ?_ HW1.out Tryz.sizeSPart ?_ ?_ ?_ ?_);(with_reducible rfl);(with_reducible rfl);rfl;rfl;rfl;rfl;rfl)
     clear x0' x1' x2' HW1
     generalize (wr.alloc (.cells #[.string ⟨#[]⟩,.string ⟨#[]⟩,.slice none 0 0] 34)).setRow wr.heap.size #[.string p.line,.string p.conn,.slice Aq lq cq]=W2 at *
     generalize wr.heap.size=g9 at *
     have p0:W2.cell? ⟨g9,0,none⟩=some (.string p.line):=H4.out.2.2.cell 0
     have p1:W2.cell? ⟨g9,1,none⟩=some (.string p.conn):=H4.out.2.2.cell 1
     have p2:W2.cell? ⟨g9,2,none⟩=some (.slice Aq lq cq):=H4.out.2.2.cell 2
     have HRD:Hid (Calls Tryz.prog 9 #[.agg #[.string p.line,.string p.conn,.slice Aq lq cq]] W2 (ReadO p W2)):=Lib.hid (read_any p _ W2 ((HPA.out.below H4.out.2.1.low).more H4.out.2.1.le) HPZ.out (HE.out.low H4.out.2.1.low HN7.out).env (HE.out.low H4.out.2.1.low HN7.out).seven)
     have HLO:Hid (∀j,TD (TN N) (.slice AM k cM) j→j<W2.heap.size):=Lib.hid fun j hj=>by
      rcases hj with hj | hj
      · have h1:=H4.out.1.box.lt
        have h2:j<N+3:=hj
        omega
      · exact (H4.out.1.row.lt hj).2
     go_upto_region 13 with (first | (go_at_call 9;(with_reducible refine HRD.out.mono ?_);rintro e w3 hw3;obtain ⟨m,AC,lC,kC,AE,lE,kE,AR,lR,kR,AS,lS,kS,AY,lY,kY,er,rfl,hb3,hc3⟩:=hw3.held;clear hw3;have H5:=Lib.hid (And.intro hb3 hc3);clear hb3 hc3;dsimp only) | ((with_reducible refine wpList_storeS #[.int .i64 m.kind,.int .i64 m.port,.string m.mid,.int .i64 m.dir,.slice AC lC kC,.slice AE lE kE,.slice AR lR kR,.bool m.sending,.slice AS lS kS,.slice AY lY kY,.int .i64 m.sctp] ?_ 28 (.tmp 10) (.tmp 38) ?_ ?_ ?_ (Whole.new _ _ _) Tryz.sizeMedia ?_ ?_ ?_ ?_);(with_reducible rfl);(with_reducible rfl);rfl;rfl;rfl;rfl;rfl))
     clear p0 p1 p2 HRD
     have hbx:=media_box8 w3 #[.int .i64 m.kind,.int .i64 m.port,.string m.mid,.int .i64 m.dir,.slice AC lC kC,.slice AE lE kE,.slice AR lR kR,.bool m.sending,.slice AS lS kS,.slice AY lY kY,.int .i64 m.sctp]
     have H6:Hid (DM (TN N) N (N+2) ((w3.alloc (.cells #[.int .i64 0,.int .i64 0,.string ⟨#[]⟩,.int .i64 0,.slice none 0 0,.slice none 0 0,.slice none 0 0,.bool false,.slice none 0 0,.slice none 0 0,.int .i64 0] 28)).setRow w3.heap.size #[.int .i64 m.kind,.int .i64 m.port,.string m.mid,.int .i64 m.dir,.slice AC lC kC,.slice AE lE kE,.slice AR lR kR,.bool m.sending,.slice AS lS kS,.slice AY lY kY,.int .i64 m.sctp]) dA xs (.slice AB lB kB) (.slice AM k cM)∧TI N w #[.string og,.string sn,.string st,.slice AA nA cA,.slice (some ad) nP cP] (.slice A5 n5 c5) L ((w3.alloc (.cells #[.int .i64 0,.int .i64 0,.string ⟨#[]⟩,.int .i64 0,.slice none 0 0,.slice none 0 0,.slice none 0 0,.bool false,.slice none 0 0,.slice none 0 0,.int .i64 0] 28)).setRow w3.heap.size #[.int .i64 m.kind,.int .i64 m.port,.string m.mid,.int .i64 m.dir,.slice AC lC kC,.slice AE lE kE,.slice AR lR kR,.bool m.sending,.slice AS lS kS,.slice AY lY kY,.int .i64 m.sctp])∧Whole ((w3.alloc (.cells #[.int .i64 0,.int .i64 0,.string ⟨#[]⟩,.int .i64 0,.slice none 0 0,.slice none 0 0,.slice none 0 0,.bool false,.slice none 0 0,.slice none 0 0,.int .i64 0] 28)).setRow w3.heap.size #[.int .i64 m.kind,.int .i64 m.port,.string m.mid,.int .i64 m.dir,.slice AC lC kC,.slice AE lE kE,.slice AR lR kR,.bool m.sending,.slice AS lS kS,.slice AY lY kY,.int .i64 m.sctp]) w3.heap.size 28 #[.int .i64 m.kind,.int .i64 m.port,.string m.mid,.int .i64 m.dir,.slice AC lC kC,.slice AE lE kE,.slice AR lR kR,.bool m.sending,.slice AS lS kS,.slice AY lY kY,.int .i64 m.sctp]):=Lib.hid (by
      have hb:=below_chain (Nat.le_refl _) H5.out.1 hbx.1
      exact ⟨H4.out.1.under hb,H4.out.2.1.under H4.out.2.1.le hb,hbx.2⟩)
     have HC6:Hid ((er=0∧IsM p m∧SizM m∧Held ((w3.alloc (.cells #[.int .i64 0,.int .i64 0,.string ⟨#[]⟩,.int .i64 0,.slice none 0 0,.slice none 0 0,.slice none 0 0,.bool false,.slice none 0 0,.slice none 0 0,.int .i64 0] 28)).setRow w3.heap.size #[.int .i64 m.kind,.int .i64 m.port,.string m.mid,.int .i64 m.dir,.slice AC lC kC,.slice AE lE kE,.slice AR lR kR,.bool m.sending,.slice AS lS kS,.slice AY lY kY,.int .i64 m.sctp]) (TD (TN N) (.slice AM k cM)) (ML.At ⟨m,.slice AC lC kC,.slice AE lE kE,.slice AR lR kR,.slice AS lS kS,.slice AY lY kY⟩))∨(er=2∧∀m',TypedM m'→¬IsM p m')):=Lib.hid (by
      rcases H5.out.2 with ⟨h1,h2,h3,h4⟩ | h
      · exact .inl ⟨h1,h2,h3,(h4 _ HLO.out).under hbx.1⟩
      · exact .inr h)
     clear hbx H5 H4 HLO
     generalize (w3.alloc (.cells #[.int .i64 0,.int .i64 0,.string ⟨#[]⟩,.int .i64 0,.slice none 0 0,.slice none 0 0,.slice none 0 0,.bool false,.slice none 0 0,.slice none 0 0,.int .i64 0] 28)).setRow w3.heap.size #[.int .i64 m.kind,.int .i64 m.port,.string m.mid,.int .i64 m.dir,.slice AC lC kC,.slice AE lE kE,.slice AR lR kR,.bool m.sending,.slice AS lS kS,.slice AY lY kY,.int .i64 m.sctp]=w6 at *
     generalize w3.heap.size=g6 at *
     have HC7:=HC6.out
     clear HC6
     rcases HC7 with ⟨rfl,hi,hz,hh⟩ | ⟨rfl,hno⟩
     · have HI:=Lib.hid (And.intro hi hz)
       have HH:=Lib.hid hh
       clear hi hz hh
       have HA:Hid (DM (TN N) N (N+2) (w6.alloc (.cells #[.int .i64 m.kind,.int .i64 m.port,.string m.mid,.int .i64 m.dir,.slice AC lC kC,.slice AE lE kE,.slice AR lR kR,.bool m.sending,.slice AS lS kS,.slice AY lY kY,.int .i64 m.sctp] 28)) dA xs (.slice AB lB kB) (.slice AM k cM)∧TI N w #[.string og,.string sn,.string st,.slice AA nA cA,.slice (some ad) nP cP] (.slice A5 n5 c5) L (w6.alloc (.cells #[.int .i64 m.kind,.int .i64 m.port,.string m.mid,.int .i64 m.dir,.slice AC lC kC,.slice AE lE kE,.slice AR lR kR,.bool m.sending,.slice AS lS kS,.slice AY lY kY,.int .i64 m.sctp] 28))∧Whole (w6.alloc (.cells #[.int .i64 m.kind,.int .i64 m.port,.string m.mid,.int .i64 m.dir,.slice AC lC kC,.slice AE lE kE,.slice AR lR kR,.bool m.sending,.slice AS lS kS,.slice AY lY kY,.int .i64 m.sctp] 28)) w6.heap.size 28 #[.int .i64 m.kind,.int .i64 m.port,.string m.mid,.int .i64 m.dir,.slice AC lC kC,.slice AE lE kE,.slice AR lR kR,.bool m.sending,.slice AS lS kS,.slice AY lY kY,.int .i64 m.sctp]∧N≤(w6.alloc (.cells #[.int .i64 m.kind,.int .i64 m.port,.string m.mid,.int .i64 m.dir,.slice AC lC kC,.slice AE lE kE,.slice AR lR kR,.bool m.sending,.slice AS lS kS,.slice AY lY kY,.int .i64 m.sctp] 28)).heap.size∧Held (w6.alloc (.cells #[.int .i64 m.kind,.int .i64 m.port,.string m.mid,.int .i64 m.dir,.slice AC lC kC,.slice AE lE kE,.slice AR lR kR,.bool m.sending,.slice AS lS kS,.slice AY lY kY,.int .i64 m.sctp] 28)) (TD (TN N) (.slice AM k cM)) (ML.At ⟨m,.slice AC lC kC,.slice AE lE kE,.slice AR lR kR,.slice AS lS kS,.slice AY lY kY⟩)):=Lib.hid (by
        have hb:=(Below.refl w6.heap.size w6).alloc (Nat.le_refl _) (.cells #[.int .i64 m.kind,.int .i64 m.port,.string m.mid,.int .i64 m.dir,.slice AC lC kC,.slice AE lE kE,.slice AR lR kR,.bool m.sending,.slice AS lS kS,.slice AY lY kY,.int .i64 m.sctp] 28)
        exact ⟨H6.out.1.under hb,H6.out.2.1.under H6.out.2.1.le hb,Whole.new _ _ _,by rw [World.size_alloc];have:=H6.out.2.1.le;omega,HH.out.under hb⟩)
       have HTD:Hid (∀j,(j=N+2∨(Value.slice AM k cM).ownBlock=some j)→N≤j∧j≠N∧j≠N+1∧(Value.slice A5 n5 c5).ownBlock≠some j):=Lib.hid fun j hj=>by
        rcases hj with rfl | hj
        · exact ⟨by omega,by omega,by omega,HA.out.2.1.known.apart HA.out.1.box (by decide)⟩
        · refine ⟨(HA.out.1.row.lt hj).1,fun e=>HA.out.1.row.apart HA.out.2.1.x (by decide) (by rw [hj,e]),fun e=>HA.out.1.row.apart HA.out.2.1.res (by decide) (by rw [hj,e]),fun e=> ?_⟩
          rcases HA.out.1.row.apart2 HA.out.2.1.known (by decide) with h | h
          · rw [h] at hj;cases hj
          · exact h (hj.trans e.symm)
       have e5:w6.cell? ⟨N+2,5,none⟩=some (.slice AM k cM):=H6.out.1.box.cell 5
       have HXL:Hid ((xs.map ML.cells).length=k):=Lib.hid (by rw [List.length_map,HS.out.2.1.len])
       have HSM:=Lib.hid (slice_media8 m.kind m.port m.dir m.sctp m.mid m.sending AC AE AR AS AY lC lE lR lS lY kC kE kR kS kY w6)
       go_wp2_with (first | ((with_reducible refine wpList_load_all ?_ 28 (.tmp 10) ?_ H6.out.2.2 ?_ Tryz.sizeMedia ?_ Tryz.underlying28 ?_ ?_);(with_reducible rfl);(with_reducible rfl);rfl;rfl;rfl) | ((with_reducible refine wpList_sliceOne ?_ (t:=43) (n:=1) (i:=0) (x:=.tmp 46) ?_ ?_ HSM.out ?_);(with_reducible rfl);(with_reducible rfl);rfl) | (at_builtin;go_loud (refine wpList_appendE (r:=[.int .i64 m.kind,.int .i64 m.port,.string m.mid,.int .i64 m.dir,.slice AC lC kC,.slice AE lE kE,.slice AR lR kR,.bool m.sending,.slice AS lS kS,.slice AY lY kY,.int .i64 m.sctp]) rfl (.tmp 45) (.tmp 47) rfl Tryz.underlying43 infoMedia8 rfl (Nat.zero_lt_succ _) rfl HA.out.1.row rfl HA.out.2.2.1 rfl (fun u hu=>by simp at hu;rcases hu with rfl | rfl | rfl | rfl | rfl | rfl | rfl | rfl | rfl | rfl | rfl <;> rfl) (by rw [HXL.out];omega) (by rw [HXL.out];omega) HA.out.2.2.2.1 ?_;intro v8 w8 ho8 hg8 hn8;have HD8:=Lib.hid (HA.out.1.push (hTg:=(show N+2<N+3 by omega)) (x:=⟨m,.slice AC lC kC,.slice AE lE kE,.slice AR lR kR,.slice AS lS kS,.slice AY lY kY⟩) ho8 hg8 hn8 HA.out.2.2.2.2);have hbx8:Whole w8 (N+2) 45 #[.int .u64 dA.id,.int .u64 dA.ver,.slice AB lB kB,.string dA.name,.string dA.pass,.slice AM k cM]:=HA.out.1.box.grown hg8 (fun e=>HA.out.1.row.apart HA.out.1.box (by decide) e.symm);have HT8:Hid (TI N w #[.string og,.string sn,.string st,.slice AA nA cA,.slice (some ad) nP cP] (.slice A5 n5 c5) L (w8.setCell ⟨N+2,5,none⟩ v8)):=Lib.hid (HA.out.2.1.only (((under_row8 (g:=N+2) hg8).setCell (p:=⟨N+2,5,none⟩) (.inl (.inl rfl)) v8)) HTD.out);obtain ⟨A8,l8,k8,hv8⟩:∃A l k,v8=.slice A l k:=(by obtain ⟨A,k,h,-⟩:=ho8.form;exact ⟨_,_,_,h⟩);subst hv8;have c8:w8.cell? ⟨N+2,5,none⟩=some (.slice AM k cM):=hbx8.cell 5;have q8:=hbx8.frz 5;clear ho8 hg8 hn8 hbx8)))
       go_roundw
       case rel=>exact ⟨k+1,xs++[⟨m,.slice AC lC kC,.slice AE lE kE,.slice AR lR kR,.slice AS lS kS,.slice AY lY kY⟩],_,by omega,by go_num,HD8.out,HS.out.2.1.next HG.out HI.out.1 HI.out.2,HT8.out⟩
       case measure=>simp [intOf];omega
     · have HNO:Hid (∀d',TypedD d'→¬IsD x d'):=Lib.hid (none_part HG.out hno)
       have HFI:Hid (Whole (w6.setRow (N+1) #[.int .u64 0,.int .u64 0,.slice none 0 0,.string ⟨#[]⟩,.string ⟨#[]⟩,.slice none 0 0]) (N+1) 45 #[.int .u64 0,.int .u64 0,.slice none 0 0,.string ⟨#[]⟩,.string ⟨#[]⟩,.slice none 0 0]∧Below N w (w6.setRow (N+1) #[.int .u64 0,.int .u64 0,.slice none 0 0,.string ⟨#[]⟩,.string ⟨#[]⟩,.slice none 0 0])):=Lib.hid ⟨H6.out.2.1.res.row _,below_row H6.out.2.1.low (by omega) _⟩
       clear hno
       go_wp2_with (first | ((with_reducible refine wpList_storeS #[.int .u64 0,.int .u64 0,.slice none 0 0,.string ⟨#[]⟩,.string ⟨#[]⟩,.slice none 0 0] ?_ 45 (.tmp 2) (.tmp 42) ?_ ?_ ?_ H6.out.2.1.res Tryz.sizeDesc ?_ ?_ ?_ ?_);(with_reducible rfl);(with_reducible rfl);rfl;rfl;rfl;rfl;rfl))
       (try simp only [Exit.inBlock,Exit.then])
       exact bodyPost_ret (ret_struct2 rfl rfl HFI.out.1 Tryz.underlying45 rfl Tryz.sizeDesc rfl) rfl ⟨zeroD,DescS.zero,.slice none 0 0,.slice none 0 0,2,rfl,by rw [HN.out];exact HFI.out.2,.inr ⟨rfl,rfl,rfl,rfl,rfl,HNO.out⟩⟩
   · obtain rfl:k=nP:=by omega
     obtain ⟨d,hd⟩:∃d,({dA with media:=xs.map ML.m}:DescS)=d:=⟨_,rfl⟩
     have hf:FewD dA:=by
      rw [←HDA.out,←HD0.out]
      exact FewD.fold (R:=dP) rfl (FewD.start dP (tx og)) fun a ha=>by have:=(okAt_len (HLK.out.2 a ha)).2;omega
     have hids:=fold_ids dP L (tx og)
     rw [HD0.out,HDA.out] at hids
     have hz:SizD d:=by
      rw [←hd]
      exact ⟨by have:=hf.name;show dA.name.size≤_;omega,by have:=hf.pass;show dA.pass.size≤_;omega,fun b hb=>by have:=hf.words b hb;omega,by have:=hf.count;show dA.bundle.length≤_;omega,by show (xs.map ML.m).length≤_;rw [List.length_map,HS.out.2.1.len];omega,fun m hm=>by
       obtain ⟨y,hy,rfl⟩:=List.mem_map.1 hm
       exact HS.out.2.1.siz y hy,by
       show dA.id<_∧dA.ver<_
       rw [hids.1,hids.2.1]
       exact ⟨numU_lt _,numU_lt _⟩⟩
     have hdm:DM (TN N) N (N+2) wr d xs (.slice AB lB kB) (.slice AM k cM):=by
      rw [←hd]
      exact ⟨HS.out.1.box,HS.out.1.bun,HS.out.1.row,HS.out.1.med⟩
     have hrd:({readD dP x with media:=xs.map ML.m}:DescS)=d:=by
      rw [←hd]
      unfold readD
      rw [HX.out.1,HX.out.2.2.2.1,HD0.out,HDA.out]
     have hds:d.media=xs.map ML.m:=by rw [←hd]
     have hbl:d.bundle.length≤1000000∧(d.bundle.flatMap fun b=>32 :: tx b).length≤1000000000:=by
      rw [←hd]
      exact ⟨by have:=hf.count;show dA.bundle.length≤_;omega,by have:=hf.sum;show (dA.bundle.flatMap fun b=>32 :: tx b).length≤_;omega⟩
     have HD:=Lib.hid (And.intro hz (And.intro hrd (And.intro hds hbl)))
     have HS2:Hid (DM (TN N) N (N+2) wr d xs (.slice AB lB kB) (.slice AM k cM)∧RP x k xs∧TI N w #[.string og,.string sn,.string st,.slice AA nA cA,.slice AP k cP] (.slice A5 n5 c5) L wr):=Lib.hid ⟨hdm,HS.out.2⟩
     have HDV:Hid (∀W,Below wr.heap.size wr W→DescV W W.heap.size #[.int .u64 d.id,.int .u64 d.ver,.slice AB lB kB,.string d.name,.string d.pass,.slice AM k cM] d (.slice AB lB kB) (.slice AM k cM)):=Lib.hid fun W hW=>(HS2.out.1.under hW).desc HD.out.2.2.1
     have HEV:Hid (∀W,Below wr.heap.size wr W→EnvD W):=Lib.hid fun W hW=>(HE.out.low HS2.out.2.2.low HN7.out).under hW
     have HHD:Hid (Calls Tryz.prog 38 #[.agg #[.int .u64 d.id,.int .u64 d.ver,.slice AB lB kB,.string d.name,.string d.pass,.slice AM k cM]] wr (DHeadO wr d)):=Lib.hid (head_any _ d _ _ wr (HDV.out wr (Below.refl _ _)) (HEV.out wr (Below.refl _ _)).env.env HD.out.1.ids.1 HD.out.1.ids.2 HD.out.2.2.2.1 HD.out.2.2.2.2)
     clear HS hd hf hids hz hdm hrd hds hbl HDA
     have d0':wr.cell? ⟨N+2,0,none⟩=some (.int .u64 d.id):=HS2.out.1.box.cell 0
     go_upto_region 18 with (first | ((with_reducible refine wpList_load_all ?_ 45 (.tmp 4) ?_ HS2.out.1.box ?_ Tryz.sizeDesc ?_ Tryz.underlying45 ?_ ?_);(with_reducible rfl);(with_reducible rfl);rfl;rfl;rfl) | (go_at_call 38;go_loud ((with_reducible refine HHD.out.mono ?_);rintro e w17 ⟨vH,rfl,hoH,hbH⟩;obtain ⟨AH,cH,hvH,-⟩:=Own.form hoH;rw [List.length_map] at hvH;obtain ⟨lH,hlH⟩:∃n,(headA d).length=n:=⟨_,rfl⟩;rw [hlH] at hvH;subst hvH;have H17:=Lib.hid (And.intro hoH hbH);have HLH:=Lib.hid hlH;clear hoH hbH hlH;dsimp only)) | ((with_reducible refine wpList_storeS #[.string (bs (originT d.id d.ver)),.string (bs [45]),.string (bs [48,32,48]),.slice AH lH cH,.slice none 0 0] ?_ 96 (.tmp 12) (.tmp 52) ?_ ?_ ?_ (Whole.new _ _ _) Tryz.sizeSSes ?_ ?_ ?_ ?_);(with_reducible rfl);(with_reducible rfl);rfl;rfl;rfl;rfl;rfl))
     have H18:Hid (Below wr.heap.size wr ((w17.alloc (.cells #[.string ⟨#[]⟩,.string ⟨#[]⟩,.string ⟨#[]⟩,.slice none 0 0,.slice none 0 0] 96)).setRow w17.heap.size #[.string (bs (originT d.id d.ver)),.string (bs [45]),.string (bs [48,32,48]),.slice AH lH cH,.slice none 0 0])∧DM (TN N) N (N+2) ((w17.alloc (.cells #[.string ⟨#[]⟩,.string ⟨#[]⟩,.string ⟨#[]⟩,.slice none 0 0,.slice none 0 0] 96)).setRow w17.heap.size #[.string (bs (originT d.id d.ver)),.string (bs [45]),.string (bs [48,32,48]),.slice AH lH cH,.slice none 0 0]) d xs (.slice AB lB kB) (.slice AM k cM)∧TI N w #[.string og,.string sn,.string st,.slice AA nA cA,.slice AP k cP] (.slice A5 n5 c5) L ((w17.alloc (.cells #[.string ⟨#[]⟩,.string ⟨#[]⟩,.string ⟨#[]⟩,.slice none 0 0,.slice none 0 0] 96)).setRow w17.heap.size #[.string (bs (originT d.id d.ver)),.string (bs [45]),.string (bs [48,32,48]),.slice AH lH cH,.slice none 0 0])∧Whole ((w17.alloc (.cells #[.string ⟨#[]⟩,.string ⟨#[]⟩,.string ⟨#[]⟩,.slice none 0 0,.slice none 0 0] 96)).setRow w17.heap.size #[.string (bs (originT d.id d.ver)),.string (bs [45]),.string (bs [48,32,48]),.slice AH lH cH,.slice none 0 0]) w17.heap.size 96 #[.string (bs (originT d.id d.ver)),.string (bs [45]),.string (bs [48,32,48]),.slice AH lH cH,.slice none 0 0]∧AtO ((w17.alloc (.cells #[.string ⟨#[]⟩,.string ⟨#[]⟩,.string ⟨#[]⟩,.slice none 0 0,.slice none 0 0] 96)).setRow w17.heap.size #[.string (bs (originT d.id d.ver)),.string (bs [45]),.string (bs [48,32,48]),.slice AH lH cH,.slice none 0 0]) wr.heap.size (.slice AH lH cH) (headA d)):=Lib.hid (by
      have hb:Below w17.heap.size w17 ((w17.alloc (.cells #[.string ⟨#[]⟩,.string ⟨#[]⟩,.string ⟨#[]⟩,.slice none 0 0,.slice none 0 0] 96)).setRow w17.heap.size #[.string (bs (originT d.id d.ver)),.string (bs [45]),.string (bs [48,32,48]),.slice AH lH cH,.slice none 0 0]):=below_row ((Below.refl _ w17).alloc (Nat.le_refl _) _) (Nat.le_refl _) _
      have hb2:=below_chain (Nat.le_refl _) H17.out.2 hb
      exact ⟨hb2,HS2.out.1.under hb2,HS2.out.2.2.under HS2.out.2.2.le hb2,(Whole.new w17 96 _).row _,Own.under H17.out.1 hb⟩)
     have HR0:=Lib.hid HS2.out.2.1
     clear H17 HHD d0' HS2
     generalize ((w17.alloc (.cells #[.string ⟨#[]⟩,.string ⟨#[]⟩,.string ⟨#[]⟩,.slice none 0 0,.slice none 0 0] 96)).setRow w17.heap.size #[.string (bs (originT d.id d.ver)),.string (bs [45]),.string (bs [48,32,48]),.slice AH lH cH,.slice none 0 0])=w18 at *
     generalize w17.heap.size=g12 at *
     obtain ⟨O,hO⟩:∃O,bs (originT d.id d.ver)=O:=⟨_,rfl⟩
     obtain ⟨O2,hO2⟩:∃O,bs [45]=O:=⟨_,rfl⟩
     obtain ⟨O3,hO3⟩:∃O,bs [48,32,48]=O:=⟨_,rfl⟩
     rw [hO,hO2,hO3] at H18
     have HO1:Hid ((O.toList == og.toList)=true↔tx x.origin=originT d.id d.ver):=Lib.hid (by rw [beq_iff_eq,←hO,toList_tx,toList_tx,tx_bs,HX.out.1];exact eq_comm)
     have HO2:Hid ((O2.toList == sn.toList)=true↔tx x.name=[45]):=Lib.hid (by rw [beq_iff_eq,←hO2,toList_tx,toList_tx,tx_bs,HX.out.2.1];exact eq_comm)
     have HO3:Hid ((O3.toList == st.toList)=true↔tx x.time=[48,32,48]):=Lib.hid (by rw [beq_iff_eq,←hO3,toList_tx,toList_tx,tx_bs,HX.out.2.2.1];exact eq_comm)
     clear hO hO2 hO3
     have HTW:Hid (∀W,Below w18.heap.size w18 W→TI N w #[.string og,.string sn,.string st,.slice AA nA cA,.slice AP k cP] (.slice A5 n5 c5) L W):=Lib.hid fun W hW=>H18.out.2.2.1.under H18.out.2.2.1.le hW
     have HCE:Hid (∀W,Below w18.heap.size w18 W→W.cell? ⟨N,0,none⟩=some (.string og)∧W.cell? ⟨N,1,none⟩=some (.string sn)∧W.cell? ⟨N,2,none⟩=some (.string st)∧W.cell? ⟨g12,3,none⟩=some (.slice AH lH cH)∧W.cell? ⟨g12,0,none⟩=some (.string O)∧W.cell? ⟨g12,1,none⟩=some (.string O2)∧W.cell? ⟨g12,2,none⟩=some (.string O3)):=Lib.hid fun W hW=>⟨(HTW.out W hW).x.cell 0,(HTW.out W hW).x.cell 1,(HTW.out W hW).x.cell 2,(H18.out.2.2.2.1.under hW).cell 3,(H18.out.2.2.2.1.under hW).cell 0,(H18.out.2.2.2.1.under hW).cell 1,(H18.out.2.2.2.1.under hW).cell 2⟩
     have HGD:Hid (Calls Tryz.prog 27 #[.agg #[.int .u64 d.id,.int .u64 d.ver,.slice AB lB kB,.string d.name,.string d.pass,.slice AM k cM]] w18 fun e w'=>e=.returned (.bool (goodD d))∧Below w18.heap.size w18 w'):=Lib.hid (deGood_any _ d _ _ w18 (HDV.out w18 H18.out.1) HD.out.1)
     have HEQ:Hid (∀W,Below w18.heap.size w18 W→Calls Tryz.prog 25 #[.slice AH lH cH,.slice A5 n5 c5] W (SameB W (headA d) L)):=Lib.hid fun W hW=>slEqual_any _ _ _ _ W ((Own.under H18.out.2.2.2.2 hW).reads (Nat.le_refl _)) ((HTW.out W hW).known.reads (Nat.le_refl _))
     have HNF:Hid (¬Fits8 x d→∀d',TypedD d'→¬IsD x d'):=Lib.hid fun hn=>fits_no dP_law (M:=xs.map ML.m) (by rw [HD.out.2.1];exact hn) (by rw [List.length_map,HR0.out.len,HX.out.2.2.2.2.2]) (fun i p m hp hm=>by
      rw [List.getElem?_map] at hm
      obtain ⟨y,hy,rfl⟩:=Option.map_eq_some_iff.1 hm
      exact HR0.out.is i p y hp hy) (fun m hm=>by
      obtain ⟨y,hy,rfl⟩:=List.mem_map.1 hm
      exact (HR0.out.siz y hy).typed)
     have HYF:Hid (Fits8 x d→IsD x d):=Lib.hid fun hf=>fits_yes hf (by rw [HD.out.2.2.1,List.length_map,HR0.out.len,HX.out.2.2.2.2.2]) (fun i p m hp hm=>by
      rw [HD.out.2.2.1,List.getElem?_map] at hm
      obtain ⟨y,hy,rfl⟩:=Option.map_eq_some_iff.1 hm
      exact HR0.out.is i p y hp hy)
     obtain ⟨gd,hgd⟩:∃b,goodD d=b:=⟨_,rfl⟩
     have HGB:=Lib.hid hgd
     rw [hgd] at HGD
     obtain ⟨q1,hq1⟩:∃b,(O.toList == og.toList)=b:=⟨_,rfl⟩
     obtain ⟨q2,hq2⟩:∃b,(O2.toList == sn.toList)=b:=⟨_,rfl⟩
     obtain ⟨q3,hq3⟩:∃b,(O3.toList == st.toList)=b:=⟨_,rfl⟩
     rw [hq1] at HO1
     rw [hq2] at HO2
     rw [hq3] at HO3
     have hn1:(O.toList != og.toList) = !q1:=by rw [bne,hq1]
     have hn2:(O2.toList != sn.toList) = !q2:=by rw [bne,hq2]
     have hn3:(O3.toList != st.toList) = !q3:=by rw [bne,hq3]
     clear hgd
     cases gd with
     | false =>
       have HNO:Hid (∀d',TypedD d'→¬IsD x d'):=Lib.hid (HNF.out (fun hf=>by have:=hf.1;rw [HGB.out] at this;cases this))
       go_upto_if 83 with (first | ((with_reducible refine wpList_load_all ?_ 45 (.tmp 4) ?_ H18.out.2.1.box ?_ Tryz.sizeDesc ?_ Tryz.underlying45 ?_ ?_);(with_reducible rfl);(with_reducible rfl);rfl;rfl;rfl) | (go_at_call 27;go_loud ((with_reducible refine HGD.out.mono ?_);rintro e w20 ⟨rfl,hb20⟩;have H20:=Lib.hid hb20;obtain ⟨a0,a1,a2,a3,b0,b1,b2⟩:=HCE.out _ hb20;clear hb20;dsimp only)))
       have HFI:Hid (Whole (w20.setRow (N+1) #[.int .u64 0,.int .u64 0,.slice none 0 0,.string ⟨#[]⟩,.string ⟨#[]⟩,.slice none 0 0]) (N+1) 45 #[.int .u64 0,.int .u64 0,.slice none 0 0,.string ⟨#[]⟩,.string ⟨#[]⟩,.slice none 0 0]∧Below N w (w20.setRow (N+1) #[.int .u64 0,.int .u64 0,.slice none 0 0,.string ⟨#[]⟩,.string ⟨#[]⟩,.slice none 0 0])):=Lib.hid ⟨(HTW.out _ H20.out).res.row _,below_row (HTW.out _ H20.out).low (by omega) _⟩
       go_wp2_with ((with_reducible refine wpList_storeS #[.int .u64 0,.int .u64 0,.slice none 0 0,.string ⟨#[]⟩,.string ⟨#[]⟩,.slice none 0 0] ?_ 45 (.tmp 2) (.tmp 84) ?_ ?_ ?_ (HTW.out _ H20.out).res Tryz.sizeDesc ?_ ?_ ?_ ?_);(with_reducible rfl);(with_reducible rfl);rfl;rfl;rfl;rfl;rfl)
       (try simp only [Exit.inBlock,Exit.then])
       exact bodyPost_ret (ret_struct2 rfl rfl HFI.out.1 Tryz.underlying45 rfl Tryz.sizeDesc rfl) rfl ⟨zeroD,DescS.zero,.slice none 0 0,.slice none 0 0,2,rfl,by rw [HN.out];exact HFI.out.2,.inr ⟨rfl,rfl,rfl,rfl,rfl,HNO.out⟩⟩
     | true =>
       cases q1 with
       | false =>
         have HNO:Hid (∀d',TypedD d'→¬IsD x d'):=Lib.hid (HNF.out (fun hf=>by have:=HO1.out.2 hf.2.1;cases this))
         go_upto_if 83 with (first | ((with_reducible refine wpList_load_all ?_ 45 (.tmp 4) ?_ H18.out.2.1.box ?_ Tryz.sizeDesc ?_ Tryz.underlying45 ?_ ?_);(with_reducible rfl);(with_reducible rfl);rfl;rfl;rfl) | (go_at_call 27;go_loud ((with_reducible refine HGD.out.mono ?_);rintro e w20 ⟨rfl,hb20⟩;have H20:=Lib.hid hb20;obtain ⟨a0,a1,a2,a3,b0,b1,b2⟩:=HCE.out _ hb20;clear hb20;dsimp only)))
         have HFI:Hid (Whole (w20.setRow (N+1) #[.int .u64 0,.int .u64 0,.slice none 0 0,.string ⟨#[]⟩,.string ⟨#[]⟩,.slice none 0 0]) (N+1) 45 #[.int .u64 0,.int .u64 0,.slice none 0 0,.string ⟨#[]⟩,.string ⟨#[]⟩,.slice none 0 0]∧Below N w (w20.setRow (N+1) #[.int .u64 0,.int .u64 0,.slice none 0 0,.string ⟨#[]⟩,.string ⟨#[]⟩,.slice none 0 0])):=Lib.hid ⟨(HTW.out _ H20.out).res.row _,below_row (HTW.out _ H20.out).low (by omega) _⟩
         go_wp2_with ((with_reducible refine wpList_storeS #[.int .u64 0,.int .u64 0,.slice none 0 0,.string ⟨#[]⟩,.string ⟨#[]⟩,.slice none 0 0] ?_ 45 (.tmp 2) (.tmp 84) ?_ ?_ ?_ (HTW.out _ H20.out).res Tryz.sizeDesc ?_ ?_ ?_ ?_);(with_reducible rfl);(with_reducible rfl);rfl;rfl;rfl;rfl;rfl)
         (try simp only [Exit.inBlock,Exit.then])
         exact bodyPost_ret (ret_struct2 rfl rfl HFI.out.1 Tryz.underlying45 rfl Tryz.sizeDesc rfl) rfl ⟨zeroD,DescS.zero,.slice none 0 0,.slice none 0 0,2,rfl,by rw [HN.out];exact HFI.out.2,.inr ⟨rfl,rfl,rfl,rfl,rfl,HNO.out⟩⟩
       | true =>
         cases q2 with
         | false =>
           have HNO:Hid (∀d',TypedD d'→¬IsD x d'):=Lib.hid (HNF.out (fun hf=>by have:=HO2.out.2 hf.2.2.1;cases this))
           go_upto_if 83 with (first | ((with_reducible refine wpList_load_all ?_ 45 (.tmp 4) ?_ H18.out.2.1.box ?_ Tryz.sizeDesc ?_ Tryz.underlying45 ?_ ?_);(with_reducible rfl);(with_reducible rfl);rfl;rfl;rfl) | (go_at_call 27;go_loud ((with_reducible refine HGD.out.mono ?_);rintro e w20 ⟨rfl,hb20⟩;have H20:=Lib.hid hb20;obtain ⟨a0,a1,a2,a3,b0,b1,b2⟩:=HCE.out _ hb20;clear hb20;dsimp only)))
           have HFI:Hid (Whole (w20.setRow (N+1) #[.int .u64 0,.int .u64 0,.slice none 0 0,.string ⟨#[]⟩,.string ⟨#[]⟩,.slice none 0 0]) (N+1) 45 #[.int .u64 0,.int .u64 0,.slice none 0 0,.string ⟨#[]⟩,.string ⟨#[]⟩,.slice none 0 0]∧Below N w (w20.setRow (N+1) #[.int .u64 0,.int .u64 0,.slice none 0 0,.string ⟨#[]⟩,.string ⟨#[]⟩,.slice none 0 0])):=Lib.hid ⟨(HTW.out _ H20.out).res.row _,below_row (HTW.out _ H20.out).low (by omega) _⟩
           go_wp2_with ((with_reducible refine wpList_storeS #[.int .u64 0,.int .u64 0,.slice none 0 0,.string ⟨#[]⟩,.string ⟨#[]⟩,.slice none 0 0] ?_ 45 (.tmp 2) (.tmp 84) ?_ ?_ ?_ (HTW.out _ H20.out).res Tryz.sizeDesc ?_ ?_ ?_ ?_);(with_reducible rfl);(with_reducible rfl);rfl;rfl;rfl;rfl;rfl)
           (try simp only [Exit.inBlock,Exit.then])
           exact bodyPost_ret (ret_struct2 rfl rfl HFI.out.1 Tryz.underlying45 rfl Tryz.sizeDesc rfl) rfl ⟨zeroD,DescS.zero,.slice none 0 0,.slice none 0 0,2,rfl,by rw [HN.out];exact HFI.out.2,.inr ⟨rfl,rfl,rfl,rfl,rfl,HNO.out⟩⟩
         | true =>
           cases q3 with
           | false =>
             have HNO:Hid (∀d',TypedD d'→¬IsD x d'):=Lib.hid (HNF.out (fun hf=>by have:=HO3.out.2 hf.2.2.2.1;cases this))
             go_upto_if 83 with (first | ((with_reducible refine wpList_load_all ?_ 45 (.tmp 4) ?_ H18.out.2.1.box ?_ Tryz.sizeDesc ?_ Tryz.underlying45 ?_ ?_);(with_reducible rfl);(with_reducible rfl);rfl;rfl;rfl) | (go_at_call 27;go_loud ((with_reducible refine HGD.out.mono ?_);rintro e w20 ⟨rfl,hb20⟩;have H20:=Lib.hid hb20;obtain ⟨a0,a1,a2,a3,b0,b1,b2⟩:=HCE.out _ hb20;clear hb20;dsimp only)))
             have HFI:Hid (Whole (w20.setRow (N+1) #[.int .u64 0,.int .u64 0,.slice none 0 0,.string ⟨#[]⟩,.string ⟨#[]⟩,.slice none 0 0]) (N+1) 45 #[.int .u64 0,.int .u64 0,.slice none 0 0,.string ⟨#[]⟩,.string ⟨#[]⟩,.slice none 0 0]∧Below N w (w20.setRow (N+1) #[.int .u64 0,.int .u64 0,.slice none 0 0,.string ⟨#[]⟩,.string ⟨#[]⟩,.slice none 0 0])):=Lib.hid ⟨(HTW.out _ H20.out).res.row _,below_row (HTW.out _ H20.out).low (by omega) _⟩
             go_wp2_with ((with_reducible refine wpList_storeS #[.int .u64 0,.int .u64 0,.slice none 0 0,.string ⟨#[]⟩,.string ⟨#[]⟩,.slice none 0 0] ?_ 45 (.tmp 2) (.tmp 84) ?_ ?_ ?_ (HTW.out _ H20.out).res Tryz.sizeDesc ?_ ?_ ?_ ?_);(with_reducible rfl);(with_reducible rfl);rfl;rfl;rfl;rfl;rfl)
             (try simp only [Exit.inBlock,Exit.then])
             exact bodyPost_ret (ret_struct2 rfl rfl HFI.out.1 Tryz.underlying45 rfl Tryz.sizeDesc rfl) rfl ⟨zeroD,DescS.zero,.slice none 0 0,.slice none 0 0,2,rfl,by rw [HN.out];exact HFI.out.2,.inr ⟨rfl,rfl,rfl,rfl,rfl,HNO.out⟩⟩
           | true =>
             go_upto_if 83 with (first | ((with_reducible refine wpList_load_all ?_ 45 (.tmp 4) ?_ H18.out.2.1.box ?_ Tryz.sizeDesc ?_ Tryz.underlying45 ?_ ?_);(with_reducible rfl);(with_reducible rfl);rfl;rfl;rfl) | (go_at_call 27;go_loud ((with_reducible refine HGD.out.mono ?_);rintro e w20 ⟨rfl,hb20⟩;have H20:=Lib.hid hb20;obtain ⟨a0,a1,a2,a3,b0,b1,b2⟩:=HCE.out _ hb20;clear hb20;dsimp only)) | (go_at_call 25;go_loud ((with_reducible refine (HEQ.out _ H20.out).mono ?_);rintro e w21 ⟨bq,rfl,hbq,hb21⟩;have H21:Hid (Below w18.heap.size w18 w21∧(bq=true↔headA d=L)):=Lib.hid ⟨below_chain (Nat.le_refl _) H20.out hb21,hbq⟩;clear hb21 hbq;dsimp only)))
             cases bq with
             | false =>
               have HNO:Hid (∀d',TypedD d'→¬IsD x d'):=Lib.hid (HNF.out (fun hf=>by have:=H21.out.2.2 (by rw [←HX.out.2.2.2.1];exact hf.2.2.2.2.symm);cases this))
               have HFI:Hid (Whole (w21.setRow (N+1) #[.int .u64 0,.int .u64 0,.slice none 0 0,.string ⟨#[]⟩,.string ⟨#[]⟩,.slice none 0 0]) (N+1) 45 #[.int .u64 0,.int .u64 0,.slice none 0 0,.string ⟨#[]⟩,.string ⟨#[]⟩,.slice none 0 0]∧Below N w (w21.setRow (N+1) #[.int .u64 0,.int .u64 0,.slice none 0 0,.string ⟨#[]⟩,.string ⟨#[]⟩,.slice none 0 0])):=Lib.hid ⟨(HTW.out _ H21.out.1).res.row _,below_row (HTW.out _ H21.out.1).low (by omega) _⟩
               go_wp2_with ((with_reducible refine wpList_storeS #[.int .u64 0,.int .u64 0,.slice none 0 0,.string ⟨#[]⟩,.string ⟨#[]⟩,.slice none 0 0] ?_ 45 (.tmp 2) (.tmp 84) ?_ ?_ ?_ (HTW.out _ H21.out.1).res Tryz.sizeDesc ?_ ?_ ?_ ?_);(with_reducible rfl);(with_reducible rfl);rfl;rfl;rfl;rfl;rfl)
               (try simp only [Exit.inBlock,Exit.then])
               exact bodyPost_ret (ret_struct2 rfl rfl HFI.out.1 Tryz.underlying45 rfl Tryz.sizeDesc rfl) rfl ⟨zeroD,DescS.zero,.slice none 0 0,.slice none 0 0,2,rfl,by rw [HN.out];exact HFI.out.2,.inr ⟨rfl,rfl,rfl,rfl,rfl,HNO.out⟩⟩
             | true =>
               have HIS:Hid (IsD x d):=Lib.hid (HYF.out ⟨HGB.out,HO1.out.1 rfl,HO2.out.1 rfl,HO3.out.1 rfl,by rw [HX.out.2.2.2.1];exact (H21.out.2.1 rfl).symm⟩)
               have HFI:Hid (Whole (w21.setRow (N+1) #[.int .u64 d.id,.int .u64 d.ver,.slice AB lB kB,.string d.name,.string d.pass,.slice AM k cM]) (N+1) 45 #[.int .u64 d.id,.int .u64 d.ver,.slice AB lB kB,.string d.name,.string d.pass,.slice AM k cM]∧Below N w (w21.setRow (N+1) #[.int .u64 d.id,.int .u64 d.ver,.slice AB lB kB,.string d.name,.string d.pass,.slice AM k cM])∧∀T:Nat→Prop,(∀j,T j→j<N)→Held (w21.setRow (N+1) #[.int .u64 d.id,.int .u64 d.ver,.slice AB lB kB,.string d.name,.string d.pass,.slice AM k cM]) T (fun W=>DescV W W.heap.size #[.int .u64 d.id,.int .u64 d.ver,.slice AB lB kB,.string d.name,.string d.pass,.slice AM k cM] d (.slice AB lB kB) (.slice AM k cM))):=Lib.hid (by
                have hti:=HTW.out _ H21.out.1
                have hdm:=H18.out.2.1.under H21.out.1
                refine ⟨hti.res.row _,below_row hti.low (by omega) _,?_⟩
                have hdn:=hdm.turn (only_row8 w21 (N+1) #[.int .u64 d.id,.int .u64 d.ver,.slice AB lB kB,.string d.name,.string d.pass,.slice AM k cM]) (fun j hj=>by
                 subst hj
                 exact ⟨show N+1<N+3 by omega,by omega,hdm.row.apart hti.res (by decide)⟩)
                exact fun T hT W hW=>(hdn.turn hW (fun j hj=>by
                 have h1:=hT j hj
                 refine ⟨show j<N+3 by omega,by omega,fun e=> ?_⟩
                 have:=(hdn.row.lt e).1
                 omega)).desc HD.out.2.2.1)
               go_wp2_with (first | ((with_reducible refine wpList_load_all ?_ 45 (.tmp 4) ?_ (H18.out.2.1.under H21.out.1).box ?_ Tryz.sizeDesc ?_ Tryz.underlying45 ?_ ?_);(with_reducible rfl);(with_reducible rfl);rfl;rfl;rfl) | ((with_reducible refine wpList_storeS #[.int .u64 d.id,.int .u64 d.ver,.slice AB lB kB,.string d.name,.string d.pass,.slice AM k cM] ?_ 45 (.tmp 2) (.tmp 85) ?_ ?_ ?_ (HTW.out _ H21.out.1).res Tryz.sizeDesc ?_ ?_ ?_ ?_);(with_reducible rfl);(with_reducible rfl);rfl;rfl;rfl;rfl;rfl))
               (try simp only [Exit.inBlock,Exit.then])
               exact bodyPost_ret (ret_struct2 rfl rfl HFI.out.1 Tryz.underlying45 rfl Tryz.sizeDesc rfl) rfl ⟨_,d,_,_,0,rfl,by rw [HN.out];exact HFI.out.2.1,.inl ⟨rfl,HIS.out,HD.out.1,by rw [HN.out];exact HFI.out.2.2⟩⟩
def DReadIs (l:Tx) (k:Nat) (er:Int) (d:DescS):Prop:=(∃x,Parsed l (.ok x)∧k=0∧((er=0∧IsD x d∧TypedD d)∨(er=2∧d=DescS.zero∧∀d',TypedD d'→¬IsD x d')))∨(Parsed l (.err k er)∧d=DescS.zero)
theorem DReadIs.uniq {l:Tx} {k k':Nat} {er er':Int} {d d':DescS} (h:DReadIs l k er d) (h':DReadIs l k' er' d'):k=k'∧er=er'∧d=d':=by
 rcases h with ⟨x,hx,rfl,h⟩ | ⟨hx,rfl⟩ <;> rcases h' with ⟨y,hy,rfl,h'⟩ | ⟨hy,rfl⟩
 · have e:=hx.one hy
   injection e with e
   subst e
   refine ⟨rfl,?_⟩
   rcases h with ⟨rfl,h1,h2⟩ | ⟨rfl,rfl,h2⟩ <;> rcases h' with ⟨rfl,k1,k2⟩ | ⟨rfl,rfl,k2⟩
   · exact ⟨rfl,IsD.one dP_law rR_law h1 k1 h2 k2⟩
   · exact absurd h1 (k2 _ h2)
   · exact absurd k1 (h2 _ k2)
   · exact ⟨rfl,rfl⟩
 · cases hx.one hy
 · cases hx.one hy
 · have e:=hx.one hy
   injection e with e1 e2
   exact ⟨e1,e2,rfl⟩
def DReadO (l:Tx) (w:World) (e:Ending) (w':World):Prop:=∃(D:Array Value) (d:DescS) (vB vM:Value) (k:Nat) (er:Int),e=.returned (.tuple #[.agg D,.int .i64 k,.int .i64 er])∧Below w.heap.size w w'∧DReadIs l k er d∧SizD d∧DescV w' w'.heap.size D d vB vM
theorem zero_desc (w:World) (B:Nat):DescV w B zeroD DescS.zero (.slice none 0 0) (.slice none 0 0):=⟨rfl,Rows.nil _ _ _ _,Rows.nil _ _ _ _⟩
theorem zero_sizD:SizD DescS.zero:=⟨by simp [DescS.zero,bs,ByteArray.size],by simp [DescS.zero,bs,ByteArray.size],by simp [DescS.zero],by simp [DescS.zero],by simp [DescS.zero],by simp [DescS.zero],by simp [DescS.zero]⟩
theorem DescO.read {l:Tx} {x:SesS} {w w':World} {D:Array Value} {d:DescS} {vB vM:Value} {er:Int} (h:DescO x w w' D d vB vM er) (hp:Parsed l (.ok x)):DReadIs l 0 er d∧SizD d∧∀T:Nat→Prop,(∀j,T j→j<w.heap.size)→Held w' T (fun W=>DescV W W.heap.size D d vB vM):=by
 rcases h.2 with ⟨rfl,h1,h2,h3⟩ | ⟨rfl,rfl,rfl,rfl,rfl,h2⟩
 · exact ⟨.inl ⟨x,hp,rfl,.inl ⟨rfl,h1,h2.typed⟩⟩,h2,h3⟩
 · exact ⟨.inl ⟨x,hp,rfl,.inr ⟨rfl,rfl,h2⟩⟩,zero_sizD,fun T hT W hW=>zero_desc _ _⟩
set_option maxHeartbeats 6400000 in
set_option maxRecDepth 100000 in
theorem deRead_any (s:ByteArray) (w:World) (hE:EnvD w) (hs:s.size≤maxLen):Calls Tryz.prog 13 #[.string s] w (DReadO (tx s) w):=by
 have hb0:Below w.heap.size w (w.alloc (.cells zeroD 45)):=(Below.refl _ w).alloc (Nat.le_refl _) _
 have HP:=Lib.hid (parse_any s (w.alloc (.cells zeroD 45)) (hE.under hb0).max hs)
 have H0:=Lib.hid (And.intro hb0 (Whole.new w 45 zeroD))
 have HE:=Lib.hid hE
 obtain ⟨N,hN⟩:∃N,w.heap.size=N:=⟨_,rfl⟩
 have HN:=Lib.hid hN
 rw [hN] at H0
 unfold zeroD at H0 HP
 clear hb0 hE hs hN
 go_enter Tryz.func13,Tryz.ntmps13
 go_upto_region 1 with fail
 simp only [HN.out]
 generalize w.alloc (.cells #[.int .u64 0,.int .u64 0,.slice none 0 0,.string ⟨#[]⟩,.string ⟨#[]⟩,.slice none 0 0] 45)=w0 at *
 go_upto_region 2 with (first | (go_at_call 36;go_loud ((with_reducible refine HP.out.mono ?_);rintro e w1 ⟨X,x,vA,vP,k,er,rfl,hV,hR,hb⟩;obtain ⟨AA,cA,hvA,-⟩:=hV.attrs.form;obtain ⟨AP,cP,hvP,-⟩:=Rows.form hV.parts;obtain rfl:=hV.form;obtain ⟨nA,hnA⟩:∃n,x.attrs.length=n:=⟨_,rfl⟩;obtain ⟨nP,hnP⟩:∃n,x.parts.length=n:=⟨_,rfl⟩;rw [hnA] at hvA;rw [hnP] at hvP;subst hvA hvP;have H1:=Lib.hid (And.intro hV (And.intro hR hb));clear hV hR hb hnA hnP;dsimp only)) | ((with_reducible refine wpList_storeS #[.string x.origin,.string x.name,.string x.time,.slice AA nA cA,.slice AP nP cP] ?_ 96 (.tmp 5) (.tmp 12) ?_ ?_ ?_ (Whole.new _ _ _) Tryz.sizeSSes ?_ ?_ ?_ ?_);(with_reducible rfl);(with_reducible rfl);rfl;rfl;rfl;rfl;rfl))
 have H2:Hid (Below N w ((w1.alloc (.cells #[.string ⟨#[]⟩,.string ⟨#[]⟩,.string ⟨#[]⟩,.slice none 0 0,.slice none 0 0] 96)).setRow w1.heap.size #[.string x.origin,.string x.name,.string x.time,.slice AA nA cA,.slice AP nP cP])∧Whole ((w1.alloc (.cells #[.string ⟨#[]⟩,.string ⟨#[]⟩,.string ⟨#[]⟩,.slice none 0 0,.slice none 0 0] 96)).setRow w1.heap.size #[.string x.origin,.string x.name,.string x.time,.slice AA nA cA,.slice AP nP cP]) N 45 zeroD∧Whole ((w1.alloc (.cells #[.string ⟨#[]⟩,.string ⟨#[]⟩,.string ⟨#[]⟩,.slice none 0 0,.slice none 0 0] 96)).setRow w1.heap.size #[.string x.origin,.string x.name,.string x.time,.slice AA nA cA,.slice AP nP cP]) w1.heap.size 96 #[.string x.origin,.string x.name,.string x.time,.slice AA nA cA,.slice AP nP cP]∧SesV ((w1.alloc (.cells #[.string ⟨#[]⟩,.string ⟨#[]⟩,.string ⟨#[]⟩,.slice none 0 0,.slice none 0 0] 96)).setRow w1.heap.size #[.string x.origin,.string x.name,.string x.time,.slice AA nA cA,.slice AP nP cP]) ((w1.alloc (.cells #[.string ⟨#[]⟩,.string ⟨#[]⟩,.string ⟨#[]⟩,.slice none 0 0,.slice none 0 0] 96)).setRow w1.heap.size #[.string x.origin,.string x.name,.string x.time,.slice AA nA cA,.slice AP nP cP]).heap.size #[.string x.origin,.string x.name,.string x.time,.slice AA nA cA,.slice AP nP cP] x (.slice AA nA cA) (.slice AP nP cP)):=Lib.hid (by
  have hb:Below w1.heap.size w1 ((w1.alloc (.cells #[.string ⟨#[]⟩,.string ⟨#[]⟩,.string ⟨#[]⟩,.slice none 0 0,.slice none 0 0] 96)).setRow w1.heap.size #[.string x.origin,.string x.name,.string x.time,.slice AA nA cA,.slice AP nP cP]):=below_row ((Below.refl _ w1).alloc (Nat.le_refl _) _) (Nat.le_refl _) _
  have hb2:=below_chain (Nat.le_refl _) H1.out.2.2 hb
  exact ⟨H0.out.1.trans (hb2.mono (Nat.le_of_lt H0.out.2.lt)),H0.out.2.under hb2,(Whole.new w1 96 _).row _,H1.out.1.under hb⟩)
 have HR:=Lib.hid H1.out.2.1
 clear H0 H1 HP
 generalize (w1.alloc (.cells #[.string ⟨#[]⟩,.string ⟨#[]⟩,.string ⟨#[]⟩,.slice none 0 0,.slice none 0 0] 96)).setRow w1.heap.size #[.string x.origin,.string x.name,.string x.time,.slice AA nA cA,.slice AP nP cP]=w2 at *
 generalize w1.heap.size=g5 at *
 have hR:=HR.out
 clear HR
 rcases hR with ⟨rfl,rfl,hp⟩ | ⟨he,hx,hp⟩
 · have HPO:=Lib.hid hp
   have HTY:Hid (Calls Tryz.prog 37 #[.agg #[.string x.origin,.string x.name,.string x.time,.slice AA nA cA,.slice AP nP cP]] w2 (TypedO x w2)):=Lib.hid (typed_any _ x _ _ w2 H2.out.2.2.2 hp.text.1 (HE.out.low H2.out.1 (by rw [←HN.out];exact HE.out.seven)))
   clear hp
   go_upto_region 5 with (first | ((with_reducible refine wpList_load_all ?_ 96 (.tmp 5) ?_ H2.out.2.2.1 ?_ Tryz.sizeSSes ?_ Tryz.underlying96 ?_ ?_);(with_reducible rfl);(with_reducible rfl);rfl;rfl;rfl) | (go_at_call 37;go_loud ((with_reducible refine HTY.out.mono ?_);rintro e w3 ⟨D,d,vB,vM,er,rfl,hd3⟩;have hrd:=hd3.read HPO.out;have hrv:=(hrd.2.2 (fun _=>False) (fun _ e=>e.elim)).now;obtain ⟨AB,lB,hvB,-⟩:=Rows.form hrv.bundle;obtain ⟨AM,cM,hvM,-⟩:=Rows.form hrv.media;obtain rfl:=hrv.form;obtain ⟨nB,hnB⟩:∃n,d.bundle.length=n:=⟨_,rfl⟩;obtain ⟨nM,hnM⟩:∃n,d.media.length=n:=⟨_,rfl⟩;rw [hnB] at hvB;rw [hnM] at hvM;subst hvB hvM;have H3:=Lib.hid (And.intro hd3.1 hrd);clear hd3 hrd hrv hnB hnM;dsimp only)) | ((with_reducible refine wpList_storeS #[.int .u64 d.id,.int .u64 d.ver,.slice AB nB lB,.string d.name,.string d.pass,.slice AM nM cM] ?_ 45 (.tmp 8) (.tmp 23) ?_ ?_ ?_ (Whole.new _ _ _) Tryz.sizeDesc ?_ ?_ ?_ ?_);(with_reducible rfl);(with_reducible rfl);rfl;rfl;rfl;rfl;rfl))
   have H4:Hid (Below N w ((w3.alloc (.cells #[.int .u64 0,.int .u64 0,.slice none 0 0,.string ⟨#[]⟩,.string ⟨#[]⟩,.slice none 0 0] 45)).setRow w3.heap.size #[.int .u64 d.id,.int .u64 d.ver,.slice AB nB lB,.string d.name,.string d.pass,.slice AM nM cM])∧Whole ((w3.alloc (.cells #[.int .u64 0,.int .u64 0,.slice none 0 0,.string ⟨#[]⟩,.string ⟨#[]⟩,.slice none 0 0] 45)).setRow w3.heap.size #[.int .u64 d.id,.int .u64 d.ver,.slice AB nB lB,.string d.name,.string d.pass,.slice AM nM cM]) N 45 #[.int .u64 0,.int .u64 0,.slice none 0 0,.string ⟨#[]⟩,.string ⟨#[]⟩,.slice none 0 0]∧Whole ((w3.alloc (.cells #[.int .u64 0,.int .u64 0,.slice none 0 0,.string ⟨#[]⟩,.string ⟨#[]⟩,.slice none 0 0] 45)).setRow w3.heap.size #[.int .u64 d.id,.int .u64 d.ver,.slice AB nB lB,.string d.name,.string d.pass,.slice AM nM cM]) w3.heap.size 45 #[.int .u64 d.id,.int .u64 d.ver,.slice AB nB lB,.string d.name,.string d.pass,.slice AM nM cM]∧DReadIs (tx s) 0 er d∧SizD d∧Held ((w3.alloc (.cells #[.int .u64 0,.int .u64 0,.slice none 0 0,.string ⟨#[]⟩,.string ⟨#[]⟩,.slice none 0 0] 45)).setRow w3.heap.size #[.int .u64 d.id,.int .u64 d.ver,.slice AB nB lB,.string d.name,.string d.pass,.slice AM nM cM]) (fun k=>k=N) (fun W=>DescV W W.heap.size #[.int .u64 d.id,.int .u64 d.ver,.slice AB nB lB,.string d.name,.string d.pass,.slice AM nM cM] d (.slice AB nB lB) (.slice AM nM cM))):=Lib.hid (by
    have hb:Below w3.heap.size w3 ((w3.alloc (.cells #[.int .u64 0,.int .u64 0,.slice none 0 0,.string ⟨#[]⟩,.string ⟨#[]⟩,.slice none 0 0] 45)).setRow w3.heap.size #[.int .u64 d.id,.int .u64 d.ver,.slice AB nB lB,.string d.name,.string d.pass,.slice AM nM cM]):=below_row ((Below.refl _ w3).alloc (Nat.le_refl _) _) (Nat.le_refl _) _
    have hb2:=below_chain (Nat.le_refl _) H3.out.1 hb
    exact ⟨H2.out.1.trans (hb2.mono (Nat.le_of_lt H2.out.2.1.lt)),H2.out.2.1.under hb2,(Whole.new w3 45 _).row _,H3.out.2.1,H3.out.2.2.1,(H3.out.2.2.2 (fun k=>k=N) (fun j e=>by rw [e];exact H2.out.2.1.lt)).under hb⟩)
   clear H3 H2 HTY HPO
   generalize ((w3.alloc (.cells #[.int .u64 0,.int .u64 0,.slice none 0 0,.string ⟨#[]⟩,.string ⟨#[]⟩,.slice none 0 0] 45)).setRow w3.heap.size #[.int .u64 d.id,.int .u64 d.ver,.slice AB nB lB,.string d.name,.string d.pass,.slice AM nM cM])=w4 at *
   generalize w3.heap.size=g8 at *
   have HFI:Hid (Whole (w4.setRow N #[.int .u64 d.id,.int .u64 d.ver,.slice AB nB lB,.string d.name,.string d.pass,.slice AM nM cM]) N 45 #[.int .u64 d.id,.int .u64 d.ver,.slice AB nB lB,.string d.name,.string d.pass,.slice AM nM cM]∧Below N w (w4.setRow N #[.int .u64 d.id,.int .u64 d.ver,.slice AB nB lB,.string d.name,.string d.pass,.slice AM nM cM])∧DescV (w4.setRow N #[.int .u64 d.id,.int .u64 d.ver,.slice AB nB lB,.string d.name,.string d.pass,.slice AM nM cM]) (w4.setRow N #[.int .u64 d.id,.int .u64 d.ver,.slice AB nB lB,.string d.name,.string d.pass,.slice AM nM cM]).heap.size #[.int .u64 d.id,.int .u64 d.ver,.slice AB nB lB,.string d.name,.string d.pass,.slice AM nM cM] d (.slice AB nB lB) (.slice AM nM cM)):=Lib.hid ⟨H4.out.2.1.row _,below_row H4.out.1 (Nat.le_refl _) _,H4.out.2.2.2.2.2 _ (only_row8 w4 N _)⟩
   go_wp2_with (first | ((with_reducible refine wpList_load_all ?_ 45 (.tmp 8) ?_ H4.out.2.2.1 ?_ Tryz.sizeDesc ?_ Tryz.underlying45 ?_ ?_);(with_reducible rfl);(with_reducible rfl);rfl;rfl;rfl) | ((with_reducible refine wpList_storeS #[.int .u64 d.id,.int .u64 d.ver,.slice AB nB lB,.string d.name,.string d.pass,.slice AM nM cM] ?_ 45 (.tmp 2) (.tmp 25) ?_ ?_ ?_ H4.out.2.1 Tryz.sizeDesc ?_ ?_ ?_ ?_);(with_reducible rfl);(with_reducible rfl);rfl;rfl;rfl;rfl;rfl))
   (try simp only [Exit.inBlock,Exit.then])
   exact bodyPost_ret (ret_struct3 rfl rfl HFI.out.1 Tryz.underlying45 rfl Tryz.sizeDesc rfl) rfl ⟨_,d,_,_,0,er,rfl,by rw [HN.out];exact HFI.out.2.1,H4.out.2.2.2.1,H4.out.2.2.2.2.1,HFI.out.2.2⟩
 · have HFI:Hid (Whole (w2.setRow N #[.int .u64 0,.int .u64 0,.slice none 0 0,.string ⟨#[]⟩,.string ⟨#[]⟩,.slice none 0 0]) N 45 #[.int .u64 0,.int .u64 0,.slice none 0 0,.string ⟨#[]⟩,.string ⟨#[]⟩,.slice none 0 0]∧Below N w (w2.setRow N #[.int .u64 0,.int .u64 0,.slice none 0 0,.string ⟨#[]⟩,.string ⟨#[]⟩,.slice none 0 0])):=Lib.hid ⟨H2.out.2.1.row _,below_row H2.out.1 (Nat.le_refl _) _⟩
   have HPE:=Lib.hid hp
   clear hp hx
   have hne:er≠0:=by rcases he with rfl | rfl <;> decide
   have hne1:(er == 0)=false:=by simpa using hne
   have hne2:(er != 0)=true:=by simpa using hne
   go_wp2_with ((with_reducible refine wpList_storeS #[.int .u64 0,.int .u64 0,.slice none 0 0,.string ⟨#[]⟩,.string ⟨#[]⟩,.slice none 0 0] ?_ 45 (.tmp 2) (.tmp 17) ?_ ?_ ?_ H2.out.2.1 Tryz.sizeDesc ?_ ?_ ?_ ?_);(with_reducible rfl);(with_reducible rfl);rfl;rfl;rfl;rfl;rfl)
   (try simp only [Exit.inBlock,Exit.then])
   exact bodyPost_ret (ret_struct3 rfl rfl HFI.out.1 Tryz.underlying45 rfl Tryz.sizeDesc rfl) rfl ⟨zeroD,DescS.zero,_,_,k,er,rfl,by rw [HN.out];exact HFI.out.2,.inr ⟨HPE.out,rfl⟩,zero_sizD,zero_desc _ _⟩
end Go.Proofs.YtgnpckelbokniaaGreatDoor
