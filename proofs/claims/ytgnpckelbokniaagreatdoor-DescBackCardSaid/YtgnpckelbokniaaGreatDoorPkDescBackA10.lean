import Derived.Test.YtgnpckelbokniaaGreatDoorPkDescBackA09
import Derived.WalkMore
namespace Go.Proofs.YtgnpckelbokniaaGreatDoor
open Go.RowKit
set_option linter.unusedVariables false
set_option linter.unusedSimpArgs false
abbrev TS:Ty3:=⟨96,34,65⟩
theorem TS.ok:TS.Ok:=by unfold Ty3.Ok;decide
theorem Tryz.infoSPart:(Tryz.prog.info? 34).map (fun i=>(i.zero,i.size,i.bytes))=some (some (.agg #[.string ⟨#[]⟩,.string ⟨#[]⟩,.slice none 0 0]),3,56):=by kernel_rfl
theorem Tryz.built0:Tryz.prog.built 96 []=some #[.string ⟨#[]⟩,.string ⟨#[]⟩,.string ⟨#[]⟩,.slice none 0 0,.slice none 0 0]:=by kernel_rfl
def zSes:Array Value:=#[.string ⟨#[]⟩,.string ⟨#[]⟩,.string ⟨#[]⟩,.slice none 0 0,.slice none 0 0]
def SesS.none:SesS:=⟨bs [],bs [],bs [],[],[]⟩
theorem zSes_v (w:World) (B:Nat):SesV w B zSes SesS.none (.slice .none 0 0) (.slice .none 0 0):=⟨rfl,AttrsV.nil _ _,PartsV.nil _ _⟩
def ResO (l:Tx) (x:SesS) (k:Nat) (er:Int):Prop:=(er=0∧k=0∧Parsed l (.ok x))∨((er=2∨er=3)∧x=SesS.none∧Parsed l (.err k er))
def ParseO (w:World) (l:Tx) (e:Ending) (w':World):Prop:=∃(M:Array Value) (x:SesS) (vA vP:Value) (k:Nat) (er:Int),e=.returned (.tuple #[.agg M,.int .i64 k,.int .i64 er])∧SesV w' w'.heap.size M x vA vP∧ResO l x k er∧Below w.heap.size w w'
structure PK (T:Ty3) (w:World) (N:Nat) (l:Tx) (st:PSt) (k:Nat) (rest:ByteArray) (q:Addr) (pp cur vA vP:Value) (us:List Value) (wr:World):Prop where
 pv:PV T N (N+1) st q pp cur vA vP us wr
 k1:1≤k
 fits:k+rest.size≤8193
 runs:∀r,Runs st k (tx rest) r→Runs PSt.init 1 l r
 ok:st.Ok k
 res:Whole wr N T.s zSes
 below:Below N w wr
def PL (T:Ty3) (w:World) (N:Nat) (l:Tx) (s6 s7 s8 s9 s10:Value) (wr:World):Prop :=
 ∃(st:PSt) (k:Nat) (rest:ByteArray) (q:Addr) (cur vA vP:Value) (us:List Value),s7=.pointer (some q)∧s8=.int .i64 k∧s9=.int .i64 0∧s10=.string rest∧PK T w N l st k rest q s6 cur vA vP us wr
def strLen:Value→Nat
 | .string s=>s.size
 | _=>0
theorem PL.start {T:Ty3} {w w1 w2:World} {N:Nat} {s:ByteArray} (hs:s.size≤8192) (h0:Whole w1 N T.s zSes) (h1:Whole w1 (N+1) T.s zSes) (hb:Below N w w1) (h2:Below w1.heap.size w1 w2) :
 PL T w N (tx s) (.pointer none) (.pointer (some ⟨N+1,3,none⟩)) (.int .i64 1) (.int .i64 0) (.string s) w2 :=
 ⟨PSt.init,1,s,_,_,_,_,_,rfl,rfl,rfl,rfl,(PV.start (Nat.le_succ N) h1).under h2,Nat.le_refl _,by omega,fun r h=>h,PSt.Ok.start,h0.under h2,hb.trans (h2.mono (by have:=h0.lt;omega))⟩
theorem PK.fin {T:Ty3} {w w':World} {N:Nat} {l:Tx} {st:PSt} {k:Nat} {rest:ByteArray} {q:Addr} {pp cur vA vP:Value} {us:List Value} {wr:World} (h:PK T w N l st k rest q pp cur vA vP us wr) (hN:w.heap.size=N) (hl:l.length≤8192) {er:Int} (he:er=2∨er=3) (hr:Runs st k (tx rest) (.err k er)) (hb:Below N w w') :
 ParseO w l (.returned (.tuple #[.agg zSes,.int .i64 k,.int .i64 er])) w':=by
 subst hN
 exact ⟨zSes,SesS.none,_,_,k,er,rfl,zSes_v _ _,.inr ⟨he,rfl,.inr ⟨hl,h.runs _ hr⟩⟩,hb⟩
theorem PK.all {T:Ty3} (hT:T.Ok) {w:World} {N:Nat} {l:Tx} {st:PSt} {k:Nat} {rest:ByteArray} {q:Addr} {pp cur vA vP:Value} {us:List Value} {wr:World} (h:PK T w N l st k rest q pp cur vA vP us wr) (hN:w.heap.size=N) (hl:l.length≤8192) (hk:4<k) (hr:rest.size=0) :
 ParseO w l (.returned (.tuple #[.agg #[.string st.o,.string st.n,.string st.t,vA,vP],.int .i64 0,.int .i64 0])) (wr.setRow N #[.string st.o,.string st.n,.string st.t,vA,vP]):=by
 subst hN
 have hp:=h.pv.res hT h.res (by omega) #[.string st.o,.string st.n,.string st.t,vA,vP]
 have he:tx rest=[]:=List.eq_nil_of_length_eq_zero (by rw [tx_length];exact hr)
 refine ⟨_,st.ses,vA,vP,0,0,rfl,hp.sesV (Nat.le_refl _),.inl ⟨rfl,rfl,.inr ⟨hl,h.runs _ ?_⟩⟩,below_row h.below (Nat.le_refl _) _⟩
 rw [he]
 exact .done hk
theorem cut_sizes {rest a b:ByteArray} (h:cutS crlf (tx rest)=(tx a,tx b,true)):b.size+2≤rest.size∧a.size≤rest.size:=by
 have h1:=cutS_some crlf (tx rest) (by rw [h])
 rw [h] at h1
 have:=congrArg List.length h1
 simp [tx_length] at this
 omega
theorem crlf_sizes {rest a b:ByteArray} {f:Bool} (h:cutS crlf (tx rest)=(tx a,tx b,f)):a.size≤rest.size:=by
 have:=(cutS_len crlf (tx rest)).1
 rw [h,tx_length,tx_length] at this
 exact this
theorem PK.head {T:Ty3} (hT:T.Ok) {w:World} {N:Nat} {l:Tx} {st:PSt} {k:Nat} {rest a b:ByteArray} {q:Addr} {pp cur vA vP:Value} {us:List Value} {wr w4 w5:World} (h:PK T w N l st k rest q pp cur vA vP us wr) (h4:Below wr.heap.size wr w4)
 (hc:cutS crlf (tx rest)=(tx a,tx b,true)) {o n t:ByteArray} (hs:stepP st k (tx a)=.go {st with o:=o,n:=n,t:=t}) (hw:Whole w5 (N+1) T.s #[.string o,.string n,.string t,vA,vP]) (ho:Only (·=N+1) w4 w5) :
 PK T w N l {st with o:=o,n:=n,t:=t} (k+1) b q pp cur vA vP us w5:=by
 have hr4:=h.res.under h4
 refine ⟨(h.pv.under h4).head hT hw ho,by omega,?_,fun r hr=>h.runs r (.step hc hs hr),(stepP_ok h.k1 h.ok hs).1,hr4.only ho (by omega),?_⟩
 · have:=(cut_sizes hc).1
   have:=h.fits
   omega
 · exact (h.below.trans (h4.mono (Nat.le_of_lt h.res.lt))).trans (ho.below (fun j e=>by omega) (Nat.le_of_lt hr4.lt))
theorem step_body {st:PSt} {k:Nat} (hk:4<k) (l:Tx):stepP st k l=bodyP st l:=by
 unfold stepP
 rw [if_neg (by omega),if_neg (by omega),if_neg (by omega),if_neg (by omega)]
theorem step_m {st:PSt} {k:Nat} (hk:4<k) {l:Tx} (h:l.take 2=[109,61]):(valP (l.drop 2)=false→stepP st k l=.bad 2)∧(valP (l.drop 2)=true→8≤st.parts.length→stepP st k l=.bad 3)∧(valP (l.drop 2)=true→¬8≤st.parts.length→stepP st k l=.go (st.part (l.drop 2))):=by
 rw [step_body hk]
 unfold bodyP
 rw [if_pos h]
 refine ⟨fun h1=>by simp [h1],fun h1 h2=>by simp [h1,h2],fun h1 h2=> ?_⟩
 rw [if_pos h1,if_neg h2]
theorem step_c {st:PSt} {k:Nat} (hk:4<k) {l:Tx} (h:l.take 2=[99,61]):((valP (l.drop 2)=false∨st.bare=false)→stepP st k l=.bad 2)∧(valP (l.drop 2)=true→st.bare=true→stepP st k l=.go (st.conn (l.drop 2))):=by
 rw [step_body hk]
 unfold bodyP
 rw [if_neg (by rw [h];decide),if_pos h]
 refine ⟨fun h1=> ?_,fun h1 h2=>by simp [h1,h2]⟩
 rcases h1 with h1 | h1 <;> simp [h1]
theorem step_a {st:PSt} {k:Nat} (hk:4<k) {l:Tx} (h:l.take 2=[97,61]):(attrP (l.drop 2)=none→stepP st k l=.bad 2)∧(∀x,attrP (l.drop 2)=some x→64≤st.here.length→stepP st k l=.bad 3)∧(∀x,attrP (l.drop 2)=some x→¬64≤st.here.length→stepP st k l=.go (st.push x)):=by
 rw [step_body hk]
 unfold bodyP
 rw [if_neg (by rw [h];decide),if_neg (by rw [h];decide),if_pos h]
 refine ⟨fun h1=>by simp [h1],fun x h1 h2=>by simp [h1,h2],fun x h1 h2=> ?_⟩
 rw [h1]
 simp only
 rw [if_neg h2]
theorem step_no {st:PSt} {k:Nat} (hk:4<k) {l:Tx} (h1:l.take 2≠[109,61]) (h2:l.take 2≠[99,61]) (h3:l.take 2≠[97,61]):stepP st k l=.bad 2:=by
 rw [step_body hk]
 unfold bodyP
 rw [if_neg h1,if_neg h2,if_neg h3]
theorem PK.next {T:Ty3} {w:World} {N:Nat} {l:Tx} {st st':PSt} {k:Nat} {rest a b:ByteArray} {q q':Addr} {pp pp' cur cur' vA vA' vP vP':Value} {us us':List Value} {wr w5:World} (h:PK T w N l st k rest q pp cur vA vP us wr)
 (hc:cutS crlf (tx rest)=(tx a,tx b,true)) (hs:stepP st k (tx a)=.go st') (hp:PV T N (N+1) st' q' pp' cur' vA' vP' us' w5) (hres:Whole w5 N T.s zSes) (hb:Below N w w5):PK T w N l st' (k+1) b q' pp' cur' vA' vP' us' w5:=by
 refine ⟨hp,by omega,?_,fun r hr=>h.runs r (.step hc hs hr),(stepP_ok h.k1 h.ok hs).1,hres,hb⟩
 have:=(cut_sizes hc).1
 have:=h.fits
 omega
theorem oneA {T:Ty3} {base g:Nat} {st:PSt} {q:Addr} {pp cur vA vP:Value} {us:List Value} {w:World} (h:PV T base g st q pp cur vA vP us w):(#[Value.string st.o,.string st.n,.string st.t,vA,vP]:Array Value).toList.all (·.oneCell')=true:=by
 have h1:vP.oneCell'=true:=h.par.one
 have h2:vA.oneCell'=true:=by
  cases hc:st.cur with
  | none=>rw [(h.first hc).2.1];exact h.now.one
  | some p=>exact (h.oth (vA,st.attrs) (by unfold others;rw [hc];simp)).1.one
 show ([Value.string st.o,.string st.n,.string st.t,vA,vP]:List Value).all (·.oneCell')=true
 simp only [List.all_cons,List.all_nil,h1,h2,Bool.and_true]
 rfl
set_option maxHeartbeats 3200000 in
set_option maxRecDepth 100000 in
theorem parse_any (s:ByteArray) (w:World) (h:MaxL w) (hs:s.size≤maxLen):Calls Tryz.prog 36 #[.string s] w (ParseO w (tx s)):=by
 unfold maxLen at hs
 obtain ⟨N,hN⟩:∃N,w.heap.size=N:=⟨_,rfl⟩
 have a0:=Whole.new w 96 zSes
 have a1:=Whole.new2 w (.cells zSes 96) 96 zSes
 have a2:=two_new (w:=w) 96 96 zSes zSes
 have HB:=Lib.hid (And.intro a0 (And.intro (a0.alloc (.cells zSes 96)) (And.intro a1 (And.intro a2 h))))
 clear a0 a1 a2
 rw [hN] at HB
 obtain ⟨Z,hZ⟩:∃Z,zSes=Z:=⟨_,rfl⟩
 have hz:∀W,(zeroValue 96).run Tryz.prog W=.ok (.agg Z) W:=fun W=>by rw [←hZ];kernel_rfl
 rw [hZ] at HB
 by_cases hbig:8192<s.size
 · have hb:(8192:Int)<(s.size:Int):=by omega
   have HRES:Hid (Whole (w.alloc (.cells Z 96)) N 96 zSes∧ParseO w (tx s) (.returned (.tuple #[.agg zSes,.int .i64 0,.int .i64 3])) ((w.alloc (.cells Z 96)).setRow N zSes)):=Lib.hid (by
    subst hZ hN
    exact ⟨HB.out.1,zSes,SesS.none,_,_,0,3,rfl,zSes_v _ _,.inr ⟨.inr rfl,rfl,.inl ⟨by rw [tx_length];exact hbig,rfl⟩⟩,below_row ((Below.refl _ w).alloc (Nat.le_refl _) _) (Nat.le_refl _) _⟩)
   clear hbig HB hZ
   go_enter Tryz.func36,Tryz.ntmps36
   go_wp2
   go_step3
   go_upto_region 1 with fail
   generalize w.alloc (.cells Z 96)=w1 at *
   clear hN hz
   go_wp2_with (first | (refine wpList_buildG rfl 96 #[] rfl (us:=[]) rfl Tryz.built0 ?_) | (refine wpList_storeS #[.string ⟨#[]⟩,.string ⟨#[]⟩,.string ⟨#[]⟩,.slice none 0 0,.slice none 0 0] rfl 96 (.tmp 2) (.tmp 21) rfl rfl rfl HRES.out.1 Tryz.sizeSSes rfl rfl rfl ?_))
   (try simp only [Exit.inBlock,Exit.then])
   (try rw [Exit.noGoto_ret])
   exact bodyPost_ret (ret_struct3 rfl rfl (HRES.out.1.row _) Tryz.underlying96 rfl Tryz.sizeSSes rfl) rfl HRES.out.2
 · have hb:(s.size:Int)≤8192:=by omega
   have HSZ:Hid (s.size≤8192):=Lib.hid (by omega)
   have HN:=Lib.hid hN
   have HZ:=Lib.hid hZ
   have HC:=Lib.hid (fun W=>cloneS_any s W (by omega))
   clear hbig
   go_enter Tryz.func36,Tryz.ntmps36
   go_wp2
   go_step3
   go_upto_region 7 with fail
   generalize (w.alloc (.cells Z 96)).alloc (.cells Z 96)=w1 at *
   clear hN hZ hz
   go_wp2_with (go_at_call 24;(with_reducible refine (HC.out _).mono ?_);rintro e w2 ⟨rfl,hb2⟩)
   have HP:Hid (PL TS w N (tx s) (.pointer none) (.pointer (some ⟨N+1,3,none⟩)) (.int .i64 1) (.int .i64 0) (.string s) w2):=Lib.hid (by
    have b:=HB.out
    rw [←HZ.out] at b
    exact PL.start HSZ.out b.2.1 b.2.2.1 b.2.2.2.1 hb2)
   have HML:Hid (∀W,Below N w W→MaxL W):=Lib.hid fun W hW=>HB.out.2.2.2.2.under (by rw [HN.out];exact hW)
   clear hb2 HB HC h
   go_step3
   go_wp2
   go_loopw [6,7,8,9,10] (fun s6 s7 s8 s9 s10 wr=>PL TS w N (tx s) s6 s7 s8 s9 s10 wr) (fun _ _ _ _ s10 _=>strLen s10)
   case atStart=>exact HP.out
   case round =>
    clear HP
    obtain ⟨st,k,rest,q,cur,vA,vP,us,rfl,rfl,rfl,rfl,hpk⟩:=hrel
    have HK:=Lib.hid hpk
    have hk1:=hpk.k1
    have hfit:=hpk.fits
    clear hpk
    obtain ⟨be,hbe⟩:∃b,rest.toList.isEmpty=b:=⟨_,rfl⟩
    have HE:Hid (be=true↔rest.size=0):=Lib.hid (by rw [←hbe,toList_tx,←tx_length];cases tx rest <;> simp)
    have HCUT:=Lib.hid (cut_any rest ⟨#[13,10]⟩ wr (HML.out _ HK.out.below) (by omega))
    have HSZT:Hid ((tx s).length≤8192):=Lib.hid (by rw [tx_length];exact HSZ.out)
    by_cases h4:k≤4
    · have h4':(k:Int)≤4:=by omega
      go_upto_region 11 with (go_at_call 75;(with_reducible refine HCUT.out.mono ?_);rintro e w3 ⟨a,b,f,rfl,hcut,hb3⟩)
      have hcut:cutS crlf (tx rest)=(tx a,tx b,f):=hcut
      have H3:=Lib.hid (And.intro hcut hb3)
      have HRES:Hid (Whole w3 N 96 zSes∧Below N w w3):=Lib.hid ⟨HK.out.res.under hb3,HK.out.below.trans (hb3.mono (Nat.le_of_lt HK.out.res.lt))⟩
      have hasz:=crlf_sizes hcut
      have HSP:=Lib.hid (split_any a w3 (by unfold maxLen;omega))
      clear hcut hb3 HCUT hbe
      cases f with
      | false =>
        have HF:Hid (∀W,Below N w W→ParseO w (tx s) (.returned (.tuple #[.agg zSes,.int .i64 k,.int .i64 2])) W):=Lib.hid fun W hW=>HK.out.fin HN.out HSZT.out (.inl rfl) (.torn (fun e=>by omega) (by rw [H3.out.1])) hW
        go_upto_region 13 with (go_at_call 76;(with_reducible refine HSP.out.mono ?_);rintro e w4 ⟨ka,va,rfl,hka,hva,hb4⟩)
        have HR4:Hid (Whole w4 N 96 zSes∧ParseO w (tx s) (.returned (.tuple #[.agg zSes,.int .i64 k,.int .i64 2])) (w4.setRow N zSes)):=Lib.hid ⟨HRES.out.1.under hb4,HF.out _ (below_row (HRES.out.2.trans (hb4.mono (Nat.le_of_lt HRES.out.1.lt))) (Nat.le_refl _) _)⟩
        clear hka hva hb4 HF HRES HSP HK
        go_wp2_with (first | (refine wpList_buildG rfl 96 #[] rfl (us:=[]) rfl Tryz.built0 ?_) | (refine wpList_storeS #[.string ⟨#[]⟩,.string ⟨#[]⟩,.string ⟨#[]⟩,.slice none 0 0,.slice none 0 0] rfl 96 (.tmp 2) (.tmp 120) rfl rfl rfl HR4.out.1 Tryz.sizeSSes rfl rfl rfl ?_))
        (try simp only [Exit.inBlock,Exit.then])
        (try rw [Exit.noGoto_ret])
        exact bodyPost_ret (ret_struct3 rfl rfl (HR4.out.1.row _) Tryz.underlying96 rfl Tryz.sizeSSes rfl) rfl HR4.out.2
      | true =>
        go_upto_region 13 with (go_at_call 76;(with_reducible refine HSP.out.mono ?_);rintro e w4 ⟨ka,va,rfl,hka,hva,hb4⟩)
        have hb4':Below wr.heap.size wr w4:=H3.out.2.trans (hb4.mono H3.out.2.size)
        have hvs:va.size≤8192:=by
         have:=congrArg List.length hva
         rw [tx_length,List.length_drop,tx_length] at this
         omega
        have HSH:=Lib.hid (setHead_any (N+1) st k hk1 h4 ka va (tx a) vA vP w4 hka hva hvs (HK.out.pv.box.under hb4'))
        have H4:=Lib.hid hb4'
        clear hka hva hb4 hb4' HRES HSP hvs
        go_upto_if 54 with (go_at_call 77;(with_reducible refine HSH.out.mono ?_);rintro e w5 ⟨b5,o5,n5,t5,rfl,hho,hw5,ho5⟩)
        cases b5 with
        | true =>
          have hs:stepP st k (tx a)=.go {st with o:=o5,n:=n5,t:=t5}:=by
           rcases hho with ⟨_,h⟩ | ⟨h,_⟩
           · exact h
           · cases h
          have HNEW:=Lib.hid (HK.out.head TS.ok H4.out H3.out.1 hs hw5 ho5)
          have HCS:=Lib.hid (cut_sizes H3.out.1)
          clear hho hw5 ho5 hs H4 H3 HK HSH
          go_wp2
          go_roundw
          case rel=>exact ⟨_,k+1,b,q,cur,vA,vP,us,rfl,by go_num,rfl,rfl,HNEW.out⟩
          case measure=>have:=HCS.out;simp [strLen];omega
        | false =>
          have hs:stepP st k (tx a)=.bad 2:=by
           rcases hho with ⟨h,_⟩ | ⟨_,h⟩
           · cases h
           · exact h
          have hr4:=HK.out.res.under H4.out
          have hbb:Below N w w5:=(HK.out.below.trans (H4.out.mono (Nat.le_of_lt HK.out.res.lt))).trans (ho5.below (fun j e=>by omega) (Nat.le_of_lt hr4.lt))
          have HR4:Hid (Whole w5 N 96 zSes∧ParseO w (tx s) (.returned (.tuple #[.agg zSes,.int .i64 k,.int .i64 2])) (w5.setRow N zSes)):=Lib.hid ⟨hr4.only ho5 (by omega),HK.out.fin HN.out HSZT.out (.inl rfl) (.bad H3.out.1 hs) (below_row hbb (Nat.le_refl _) _)⟩
          clear hho hw5 ho5 hs H4 H3 HK HSH hr4 hbb
          go_wp2_with (first | (refine wpList_buildG rfl 96 #[] rfl (us:=[]) rfl Tryz.built0 ?_) | (refine wpList_storeS #[.string ⟨#[]⟩,.string ⟨#[]⟩,.string ⟨#[]⟩,.slice none 0 0,.slice none 0 0] rfl 96 (.tmp 2) (.tmp 120) rfl rfl rfl HR4.out.1 Tryz.sizeSSes rfl rfl rfl ?_))
          (try simp only [Exit.inBlock,Exit.then])
          (try rw [Exit.noGoto_ret])
          exact bodyPost_ret (ret_struct3 rfl rfl (HR4.out.1.row _) Tryz.underlying96 rfl Tryz.sizeSSes rfl) rfl HR4.out.2
    · have h4':(4:Int)<(k:Int):=by omega
      have h5:4<k:=by omega
      cases be with
      | true =>
        have HR:Hid (ParseO w (tx s) (.returned (.tuple #[.agg #[.string st.o,.string st.n,.string st.t,vA,vP],.int .i64 0,.int .i64 0])) (wr.setRow N #[.string st.o,.string st.n,.string st.t,vA,vP])):=Lib.hid (HK.out.all TS.ok HN.out HSZT.out h5 (HE.out.1 rfl))
        have HB:=Lib.hid HK.out.pv.box
        have HRS:=Lib.hid (And.intro HK.out.res (oneA HK.out.pv))
        clear HK HCUT
        go_wp2_with (first | (refine wpList_load_all rfl 96 (.tmp 5) rfl HB.out rfl Tryz.sizeSSes rfl Tryz.underlying96 rfl ?_) | (refine wpList_storeS #[.string st.o,.string st.n,.string st.t,vA,vP] rfl 96 (.tmp 2) (.tmp 123) rfl rfl rfl HRS.out.1 Tryz.sizeSSes rfl rfl HRS.out.2 ?_))
        (try simp only [Exit.inBlock,Exit.then])
        (try rw [Exit.noGoto_ret])
        exact bodyPost_ret (ret_struct3 rfl rfl (HRS.out.1.row _) Tryz.underlying96 rfl Tryz.sizeSSes rfl) rfl HR.out
      | false =>
      go_upto_region 11 with (go_at_call 75;(with_reducible refine HCUT.out.mono ?_);rintro e w3 ⟨a,b,f,rfl,hcut,hb3⟩)
      have hcut:cutS crlf (tx rest)=(tx a,tx b,f):=hcut
      have H3:=Lib.hid (And.intro hcut hb3)
      have HRES:Hid (Whole w3 N 96 zSes∧Below N w w3):=Lib.hid ⟨HK.out.res.under hb3,HK.out.below.trans (hb3.mono (Nat.le_of_lt HK.out.res.lt))⟩
      have hasz:=crlf_sizes hcut
      have HSP:=Lib.hid (split_any a w3 (by unfold maxLen;omega))
      have HRZ:Hid (rest.size≠0):=Lib.hid (fun h=>by have:=HE.out.2 h;cases this)
      clear hcut hb3 HCUT hbe HE
      cases f with
      | false =>
        have HF:Hid (∀W,Below N w W→ParseO w (tx s) (.returned (.tuple #[.agg zSes,.int .i64 k,.int .i64 2])) W):=Lib.hid fun W hW=>HK.out.fin HN.out HSZT.out (.inl rfl) (.torn (fun e=>HRZ.out (by rw [←tx_length,e.2];rfl)) (by rw [H3.out.1])) hW
        go_upto_region 13 with (go_at_call 76;(with_reducible refine HSP.out.mono ?_);rintro e w4 ⟨ka,va,rfl,hka,hva,hb4⟩)
        have HR4:Hid (Whole w4 N 96 zSes∧ParseO w (tx s) (.returned (.tuple #[.agg zSes,.int .i64 k,.int .i64 2])) (w4.setRow N zSes)):=Lib.hid ⟨HRES.out.1.under hb4,HF.out _ (below_row (HRES.out.2.trans (hb4.mono (Nat.le_of_lt HRES.out.1.lt))) (Nat.le_refl _) _)⟩
        clear hka hva hb4 HF HRES HSP HK
        go_wp2_with (first | (refine wpList_buildG rfl 96 #[] rfl (us:=[]) rfl Tryz.built0 ?_) | (refine wpList_storeS #[.string ⟨#[]⟩,.string ⟨#[]⟩,.string ⟨#[]⟩,.slice none 0 0,.slice none 0 0] rfl 96 (.tmp 2) (.tmp 120) rfl rfl rfl HR4.out.1 Tryz.sizeSSes rfl rfl rfl ?_))
        (try simp only [Exit.inBlock,Exit.then])
        (try rw [Exit.noGoto_ret])
        exact bodyPost_ret (ret_struct3 rfl rfl (HR4.out.1.row _) Tryz.underlying96 rfl Tryz.sizeSSes rfl) rfl HR4.out.2
      | true =>
        go_upto_region 13 with (go_at_call 76;(with_reducible refine HSP.out.mono ?_);rintro e w4 ⟨ka,va,rfl,hka,hva,hb4⟩)
        have hb4':Below wr.heap.size wr w4:=H3.out.2.trans (hb4.mono H3.out.2.size)
        have hvs:va.size≤8192:=by
         have:=congrArg List.length hva
         rw [tx_length,List.length_drop,tx_length] at this
         omega
        have HV:=Lib.hid (fun W=>value_any va W (by unfold maxLen;omega))
        have H4:Hid (cutS crlf (tx rest)=(tx a,tx b,true)∧PV TS N (N+1) st q u6 cur vA vP us w4∧Whole w4 N 96 zSes∧Below N w w4):=Lib.hid ⟨H3.out.1,HK.out.pv.under hb4',HK.out.res.under hb4',HK.out.below.trans (hb4'.mono (Nat.le_of_lt HK.out.res.lt))⟩
        have HCS:=Lib.hid (cut_sizes H3.out.1)
        obtain ⟨bv,hbv⟩:∃b,valP (tx va)=b:=⟨_,rfl⟩
        rw [hbv] at HV
        have hbv':=hbv
        rw [hva] at hbv'
        have HVV:=Lib.hid (And.intro hvs (And.intro hva hbv'))
        obtain ⟨bm,hbm⟩:∃b,(ka.toList == [109,61])=b:=⟨_,rfl⟩
        have hm:=eqB hbm
        rw [hka] at hm
        clear hb4 hb4' HRES HSP hvs H3 hbv hbv' hva
        cases bm with
        | true =>
          have hm2:(tx a).take 2=[109,61]:=hm.2 rfl
          have hbc:(ka.toList == [99,61])=false:=by rw [toList_tx,hka,hm2];rfl
          have hba:(ka.toList == [97,61])=false:=by rw [toList_tx,hka,hm2];rfl
          have HSM:=Lib.hid (step_m (st:=st) h5 hm2)
          clear hm hm2 hka
          cases bv with
          | false =>
            have HR4:Hid (Whole w4 N 96 zSes∧ParseO w (tx s) (.returned (.tuple #[.agg zSes,.int .i64 k,.int .i64 2])) (w4.setRow N zSes)):=Lib.hid ⟨H4.out.2.2.1,HK.out.fin HN.out HSZT.out (.inl rfl) (.bad H4.out.1 (HSM.out.1 HVV.out.2.2)) (below_row H4.out.2.2.2 (Nat.le_refl _) _)⟩
            clear HK H4 HVV HSM HCS
            go_wp2_with (first | (go_at_call 78;(with_reducible refine (HV.out _).mono ?_);rintro e w' ⟨rfl,rfl⟩) | (refine wpList_buildG rfl 96 #[] rfl (us:=[]) rfl Tryz.built0 ?_) | (refine wpList_storeS #[.string ⟨#[]⟩,.string ⟨#[]⟩,.string ⟨#[]⟩,.slice none 0 0,.slice none 0 0] rfl 96 (.tmp 2) (.tmp 120) rfl rfl rfl HR4.out.1 Tryz.sizeSSes rfl rfl rfl ?_))
            (try simp only [Exit.inBlock,Exit.then])
            (try rw [Exit.noGoto_ret])
            exact bodyPost_ret (ret_struct3 rfl rfl (HR4.out.1.row _) Tryz.underlying96 rfl Tryz.sizeSSes rfl) rfl HR4.out.2
          | true =>
            obtain ⟨Ap,cp,hvp,hp1,hp2⟩:=H4.out.2.1.vP_form
            obtain ⟨n,hn⟩:∃n,st.parts.length=n:=⟨_,rfl⟩
            have HNN:=Lib.hid hn
            rw [hn] at hvp hp1
            have HVP:=Lib.hid hvp
            have c4:=H4.out.2.1.box.cell 4
            rw [hvp] at c4
            have c4:w4.cell? ⟨N+1,4,none⟩=some (.slice Ap n cp):=c4
            have hn8:n≤8:=by rw [←hn];exact HK.out.ok.parts
            clear hvp hn
            by_cases h8:n=8
            · subst h8
              have HR4:Hid (Whole w4 N 96 zSes∧ParseO w (tx s) (.returned (.tuple #[.agg zSes,.int .i64 k,.int .i64 3])) (w4.setRow N zSes)):=Lib.hid ⟨H4.out.2.2.1,HK.out.fin HN.out HSZT.out (.inr rfl) (.bad H4.out.1 (HSM.out.2.1 HVV.out.2.2 (by rw [HNN.out];exact Nat.le_refl _))) (below_row H4.out.2.2.2 (Nat.le_refl _) _)⟩
              clear HK H4 HVV HSM HCS c4
              go_wp2_with (first | (go_at_call 78;(with_reducible refine (HV.out _).mono ?_);rintro e w' ⟨rfl,rfl⟩) | (refine wpList_buildG rfl 96 #[] rfl (us:=[]) rfl Tryz.built0 ?_) | (refine wpList_storeS #[.string ⟨#[]⟩,.string ⟨#[]⟩,.string ⟨#[]⟩,.slice none 0 0,.slice none 0 0] rfl 96 (.tmp 2) (.tmp 120) rfl rfl rfl HR4.out.1 Tryz.sizeSSes rfl rfl rfl ?_))
              (try simp only [Exit.inBlock,Exit.then])
              (try rw [Exit.noGoto_ret])
              exact bodyPost_ret (ret_struct3 rfl rfl (HR4.out.1.row _) Tryz.underlying96 rfl Tryz.sizeSSes rfl) rfl HR4.out.2
            · have h8':((n:Int) == 8)=false:=by rw [beq_eq_false_iff_ne];omega
              have hs:stepP st k (tx a)=.go (st.part (tx va)):=by rw [HSM.out.2.2 HVV.out.2.2 (by rw [HNN.out];omega),HVV.out.2.1]
              have HS:=Lib.hid hs
              have hal:=(Below.refl w4.heap.size w4).alloc (Nat.le_refl _) (.cells #[.string va,.string ⟨#[]⟩,.slice none 0 0] 34)
              have HA:Hid (PV TS N (N+1) st q u6 cur vA (.slice Ap n cp) us (w4.alloc (.cells #[.string va,.string ⟨#[]⟩,.slice none 0 0] 34))∧Whole (w4.alloc (.cells #[.string va,.string ⟨#[]⟩,.slice none 0 0] 34)) w4.heap.size 34 #[.string va,.string ⟨#[]⟩,.slice none 0 0]∧Whole (w4.alloc (.cells #[.string va,.string ⟨#[]⟩,.slice none 0 0] 34)) N 96 zSes∧Below N w (w4.alloc (.cells #[.string va,.string ⟨#[]⟩,.slice none 0 0] 34))):=Lib.hid (by
               rw [←HVP.out]
               exact ⟨H4.out.2.1.under hal,Whole.new _ _ _,H4.out.2.2.1.under hal,H4.out.2.2.2.alloc (Nat.le_of_lt H4.out.2.2.1.lt) _⟩)
              have HL:Hid ((rowsP st cur us).length=n):=Lib.hid (by rw [H4.out.2.1.len];exact HNN.out)
              have HC:=Lib.hid H4.out.1
              have HLT:=Lib.hid h8
              clear hs h8 hal HSM H4 HVP
              go_upto_region 20 with (first | (go_at_call 78;(with_reducible refine (HV.out _).mono ?_);rintro e w' ⟨rfl,rfl⟩) | (at_builtin;refine wpList_appendE (r:=[.string va,.string ⟨#[]⟩,.slice none 0 0]) rfl (.tmp 67) (.tmp 70) rfl Tryz.underlying94 Tryz.infoSPart rfl (Nat.zero_lt_succ _) rfl HA.out.1.par rfl HA.out.2.1 rfl (fun u hu=>by simp at hu;rcases hu with rfl | rfl | rfl <;> rfl) (by rw [HL.out];omega) (by rw [HL.out];omega) (by have:=HA.out.2.2.1.lt;omega) ?_;intro v6 w6 ho6 hg6 hn6;have hbx6:=HA.out.1.box.grown hg6 (fun e=>(HA.out.1.par.apart HA.out.1.box TS.ok.1.symm) e.symm);have k4:=hbx6.cell 4;have f4:=hbx6.frz 4;have hr6:Whole w6 N 96 zSes:=HA.out.2.2.1.grown hg6 (fun e=>(HA.out.1.par.apart HA.out.2.2.1 TS.ok.1.symm) e.symm);have hbl6:Below N w w6:=HA.out.2.2.2.grown hg6 (Nat.le_of_lt HA.out.2.2.1.lt) (fun j hj=>(HA.out.1.par.lt hj).1);obtain ⟨gp,c6,q6,us6,hv6,hc1,hc2,hq6,hpv6⟩:=HA.out.1.part TS.ok ho6 hg6;rw [HNN.out] at hv6 hc1 hq6 hpv6;subst hv6 hq6;have H6:=Lib.hid (And.intro hpv6 (And.intro hr6 hbl6));clear ho6 hg6 hn6 hbx6 hr6 hbl6 hpv6))
              have hn1:IntKind.i64.wrap (((n:Int)+1) - 1)=(n:Int):=by rw [IntWalk.i64_in _ (by omega)];omega
              have hfin:PK TS w N (tx s) (st.part (tx va)) (k+1) b ⟨gp,n * 3+2,none⟩ (.pointer (some ⟨gp,n * 3,none⟩)) (.slice none 0 0) vA (.slice (some ⟨gp,0,none⟩) (n+1) c6) us6 (w6.setCell ⟨N+1,4,none⟩ (.slice (some ⟨gp,0,none⟩) (n+1) c6)) :=
               HK.out.next HC.out HS.out H6.out.1 (H6.out.2.1.far (p:=⟨N+1,4,none⟩) (Nat.ne_of_lt (Nat.lt_succ_self N)) _) (H6.out.2.2.setCell (p:=⟨N+1,4,none⟩) (Nat.le_succ N) _)
              have HFIN:=Lib.hid hfin
              clear hfin H6 HA HK
              go_wp2
              go_roundw
              case rel=>exact ⟨_,k+1,b,_,_,vA,_,us6,rfl,by go_num,rfl,rfl,HFIN.out⟩
              case measure=>have:=HCS.out;simp [strLen];omega
        | false =>
          have hm2:(tx a).take 2≠[109,61]:=fun e=>by have:=hm.1 e;cases this
          have HM2:=Lib.hid hm2
          obtain ⟨bc,hbc⟩:∃b,(ka.toList == [99,61])=b:=⟨_,rfl⟩
          have hc:=eqB hbc
          rw [hka] at hc
          clear hm hm2
          cases bc with
          | true =>
            have hc2:(tx a).take 2=[99,61]:=hc.2 rfl
            have hba:(ka.toList == [97,61])=false:=by rw [toList_tx,hka,hc2];rfl
            have HSM:=Lib.hid (step_c (st:=st) h5 hc2)
            clear hc hc2 hka HM2
            cases bv with
            | false =>
              have HR4:Hid (Whole w4 N 96 zSes∧ParseO w (tx s) (.returned (.tuple #[.agg zSes,.int .i64 k,.int .i64 2])) (w4.setRow N zSes)):=Lib.hid ⟨H4.out.2.2.1,HK.out.fin HN.out HSZT.out (.inl rfl) (.bad H4.out.1 (HSM.out.1 (.inl HVV.out.2.2))) (below_row H4.out.2.2.2 (Nat.le_refl _) _)⟩
              clear HK H4 HVV HSM HCS
              go_wp2_with (first | (go_at_call 78;(with_reducible refine (HV.out _).mono ?_);rintro e w' ⟨rfl,rfl⟩) | (refine wpList_buildG rfl 96 #[] rfl (us:=[]) rfl Tryz.built0 ?_) | (refine wpList_storeS #[.string ⟨#[]⟩,.string ⟨#[]⟩,.string ⟨#[]⟩,.slice none 0 0,.slice none 0 0] rfl 96 (.tmp 2) (.tmp 120) rfl rfl rfl HR4.out.1 Tryz.sizeSSes rfl rfl rfl ?_))
              (try simp only [Exit.inBlock,Exit.then])
              (try rw [Exit.noGoto_ret])
              exact bodyPost_ret (ret_struct3 rfl rfl (HR4.out.1.row _) Tryz.underlying96 rfl Tryz.sizeSSes rfl) rfl HR4.out.2
            | true =>
              have HBA:=Lib.hid (bare_any u6 st.cur w4 H4.out.2.1.partP)
              obtain ⟨bb,hbb⟩:∃b,st.bare=b:=⟨_,rfl⟩
              rw [bare_eq,hbb] at HBA
              have HBB:=Lib.hid hbb
              clear hbb
              cases bb with
              | false =>
                have HR4:Hid (Whole w4 N 96 zSes∧ParseO w (tx s) (.returned (.tuple #[.agg zSes,.int .i64 k,.int .i64 2])) (w4.setRow N zSes)):=Lib.hid ⟨H4.out.2.2.1,HK.out.fin HN.out HSZT.out (.inl rfl) (.bad H4.out.1 (HSM.out.1 (.inr HBB.out))) (below_row H4.out.2.2.2 (Nat.le_refl _) _)⟩
                clear HK H4 HVV HSM HCS
                go_wp2_with (first | (go_at_call 78;(with_reducible refine (HV.out _).mono ?_);rintro e w' ⟨rfl,rfl⟩) | (go_at_call 79;(with_reducible refine HBA.out.mono ?_);rintro e w' ⟨rfl,rfl⟩) | (refine wpList_buildG rfl 96 #[] rfl (us:=[]) rfl Tryz.built0 ?_) | (refine wpList_storeS #[.string ⟨#[]⟩,.string ⟨#[]⟩,.string ⟨#[]⟩,.slice none 0 0,.slice none 0 0] rfl 96 (.tmp 2) (.tmp 120) rfl rfl rfl HR4.out.1 Tryz.sizeSSes rfl rfl rfl ?_))
                (try simp only [Exit.inBlock,Exit.then])
                (try rw [Exit.noGoto_ret])
                exact bodyPost_ret (ret_struct3 rfl rfl (HR4.out.1.row _) Tryz.underlying96 rfl Tryz.sizeSSes rfl) rfl HR4.out.2
              | true =>
                have hs:stepP st k (tx a)=.go (st.conn (tx va)):=by rw [HSM.out.2 HVV.out.2.2 HBB.out,HVV.out.2.1]
                have hcur:∃p,st.cur=some p:=by
                 have:=HBB.out
                 unfold PSt.bare at this
                 cases hq:st.cur with
                 | none=>rw [hq] at this;cases this
                 | some p=>exact ⟨p,rfl⟩
                obtain ⟨p,hcur⟩:=hcur
                obtain ⟨gp,hgp1,hgp2,hgp3⟩:=H4.out.2.1.last p hcur
                obtain ⟨g',c',_,hgp4,hgp5,hgp6,_,_,hgc,hgf⟩:=H4.out.2.1.par.at_ (H4.out.2.1.last_row hcur)
                rw [hgp1] at hgp4
                obtain rfl:=Option.some.inj hgp4
                have hcn:=H4.out.2.1.conn TS.ok hcur hgp3 va
                have c1:=hgc 1 (by omega)
                have f1:=hgf (st.done.length * 3+1)
                have hres:gp≠N:=fun e=>by
                 obtain ⟨cs,hw⟩:=H4.out.2.1.par.whole hgp1
                 subst e
                 exact (hw.ne H4.out.2.2.1 TS.ok.1.symm) rfl
                have HFIN:=Lib.hid (HK.out.next H4.out.1 hs hcn (H4.out.2.2.1.far (p:=⟨gp,st.done.length * 3+1,none⟩) (Ne.symm hres) _) (H4.out.2.2.2.setCell (p:=⟨gp,st.done.length * 3+1,none⟩) hgp5 _))
                generalize st.done.length=d at *
                subst hgp3
                have c1:w4.cell? ⟨gp,d * 3+1,none⟩=some (.string p.conn):=c1
                clear hs hcur hgp1 hgp2 hgp4 hgp5 hgp6 hgc hgf hcn hres HSM HVV
                go_wp2_with (first | (go_at_call 78;(with_reducible refine (HV.out _).mono ?_);rintro e w' ⟨rfl,rfl⟩) | (go_at_call 79;(with_reducible refine HBA.out.mono ?_);rintro e w' ⟨rfl,rfl⟩))
                go_roundw
                case rel=>exact ⟨_,k+1,b,_,_,vA,_,us,rfl,by go_num,rfl,rfl,HFIN.out⟩
                case measure=>have:=HCS.out;simp [strLen];omega
          | false =>
            have hc2:(tx a).take 2≠[99,61]:=fun e=>by have:=hc.1 e;cases this
            have HC2:=Lib.hid hc2
            obtain ⟨ba,hba⟩:∃b,(ka.toList == [97,61])=b:=⟨_,rfl⟩
            have ha:=eqB hba
            rw [hka] at ha
            clear hc hc2
            cases ba with
            | false =>
              have ha2:(tx a).take 2≠[97,61]:=fun e=>by have:=ha.1 e;cases this
              have HA2:=Lib.hid ha2
              clear ha ha2 hka
              have HR4:Hid (Whole w4 N 96 zSes∧ParseO w (tx s) (.returned (.tuple #[.agg zSes,.int .i64 k,.int .i64 2])) (w4.setRow N zSes)):=Lib.hid ⟨H4.out.2.2.1,HK.out.fin HN.out HSZT.out (.inl rfl) (.bad H4.out.1 (step_no h5 HM2.out HC2.out HA2.out)) (below_row H4.out.2.2.2 (Nat.le_refl _) _)⟩
              clear HK H4 HVV HCS
              go_wp2_with (first | (refine wpList_buildG rfl 96 #[] rfl (us:=[]) rfl Tryz.built0 ?_) | (refine wpList_storeS #[.string ⟨#[]⟩,.string ⟨#[]⟩,.string ⟨#[]⟩,.slice none 0 0,.slice none 0 0] rfl 96 (.tmp 2) (.tmp 120) rfl rfl rfl HR4.out.1 Tryz.sizeSSes rfl rfl rfl ?_))
              (try simp only [Exit.inBlock,Exit.then])
              (try rw [Exit.noGoto_ret])
              exact bodyPost_ret (ret_struct3 rfl rfl (HR4.out.1.row _) Tryz.underlying96 rfl Tryz.sizeSSes rfl) rfl HR4.out.2
            | true =>
              have ha2:(tx a).take 2=[97,61]:=ha.2 rfl
              have HSM:=Lib.hid (step_a (st:=st) h5 ha2)
              have HRA:=Lib.hid (readAttr_any va w4 (HML.out _ H4.out.2.2.2) HVV.out.1)
              clear ha ha2 hka HM2 HC2
              go_upto_if 104 with (go_at_call 80;(with_reducible refine HRA.out.mono ?_);rintro e w5 ⟨x,bx,rfl,hax,hb5⟩)
              obtain ⟨Ac,cc,hcv,hc1,hc2⟩:=H4.out.2.1.cur_form
              obtain ⟨m,hm⟩:∃m,st.here.length=m:=⟨_,rfl⟩
              have HMM:=Lib.hid hm
              rw [hm] at hcv hc1
              have hm64:m≤64:=by rw [←hm];exact okA_len HK.out.ok.here
              have hb5b:=hb5
              have hb5:Below N w (w5.alloc (.cells #[.string x.name,.string x.value] 65)):=(H4.out.2.2.2.trans (hb5b.mono (Nat.le_of_lt H4.out.2.2.1.lt))).alloc (Nat.le_of_lt (Nat.lt_of_lt_of_le H4.out.2.2.1.lt hb5b.size)) _
              have hal:=(Below.refl w5.heap.size w5).alloc (Nat.le_refl _) (.cells #[.string x.name,.string x.value] 65)
              have hpv6:=(H4.out.2.1.under hb5b).under hal
              have hne:cur.ownBlock≠some w5.heap.size:=fun e=>by
               have:=(H4.out.2.1.now.lt e).2
               have:=hb5b.size
               omega
              rw [hcv] at hpv6 hne
              have HNE:=Lib.hid hne
              have H6:Hid (PV TS N (N+1) st q u6 (.slice Ac m cc) vA vP us (w5.alloc (.cells #[.string x.name,.string x.value] 65))∧Whole (w5.alloc (.cells #[.string x.name,.string x.value] 65)) w5.heap.size 65 #[.string x.name,.string x.value]∧Whole (w5.alloc (.cells #[.string x.name,.string x.value] 65)) N 96 zSes∧Below N w (w5.alloc (.cells #[.string x.name,.string x.value] 65))):=Lib.hid ⟨hpv6,Whole.new _ _ _,(H4.out.2.2.1.under hb5b).under hal,hb5⟩
              have HHC:=Lib.hid H4.out.1
              clear hpv6 hal hb5 hb5b hcv hm hne H4 HRA
              generalize w5.alloc (.cells #[.string x.name,.string x.value] 65)=w6 at *
              generalize w5.heap.size=g6 at *
              have HBADX:Hid (∀er:Int,er=2∨er=3→stepP st k (tx a)=.bad er→Whole w6 N 96 zSes∧ParseO w (tx s) (.returned (.tuple #[.agg zSes,.int .i64 k,.int .i64 er])) (w6.setRow N zSes)):=Lib.hid fun er he hs=>⟨H6.out.2.2.1,HK.out.fin HN.out HSZT.out he (.bad HHC.out hs) (below_row H6.out.2.2.2 (Nat.le_refl _) _)⟩
              cases bx with
              | false =>
                have HR4:=Lib.hid (HBADX.out 2 (.inl rfl) (HSM.out.1 (by
                 rcases hax with ⟨e,_⟩ | ⟨_,e⟩
                 · cases e
                 · rw [←HVV.out.2.1];exact e)))
                clear hax HBADX H6 HK HSM
                go_wp2_with (first | (refine wpList_buildG rfl 96 #[] rfl (us:=[]) rfl Tryz.built0 ?_) | (refine wpList_storeS #[.string ⟨#[]⟩,.string ⟨#[]⟩,.string ⟨#[]⟩,.slice none 0 0,.slice none 0 0] rfl 96 (.tmp 2) (.tmp 120) rfl rfl rfl HR4.out.1 Tryz.sizeSSes rfl rfl rfl ?_))
                (try simp only [Exit.inBlock,Exit.then])
                (try rw [Exit.noGoto_ret])
                exact bodyPost_ret (ret_struct3 rfl rfl (HR4.out.1.row _) Tryz.underlying96 rfl Tryz.sizeSSes rfl) rfl HR4.out.2
              | true =>
                have hax2:attrP ((tx a).drop 2)=some x:=by
                 rcases hax with ⟨_,e⟩ | ⟨e,_⟩
                 · rw [←HVV.out.2.1];exact e
                 · cases e
                have HAX:=Lib.hid hax2
                clear hax hax2
                have cq:=H6.out.1.cell_q.1
                by_cases h64:m=64
                · subst h64
                  have HR4:=Lib.hid (HBADX.out 3 (.inr rfl) (HSM.out.2.1 x HAX.out (by rw [HMM.out];exact Nat.le_refl _)))
                  clear HBADX H6 HK HSM
                  go_wp2_with (first | (refine wpList_buildG rfl 96 #[] rfl (us:=[]) rfl Tryz.built0 ?_) | (refine wpList_storeS #[.string ⟨#[]⟩,.string ⟨#[]⟩,.string ⟨#[]⟩,.slice none 0 0,.slice none 0 0] rfl 96 (.tmp 2) (.tmp 120) rfl rfl rfl HR4.out.1 Tryz.sizeSSes rfl rfl rfl ?_))
                  (try simp only [Exit.inBlock,Exit.then])
                  (try rw [Exit.noGoto_ret])
                  exact bodyPost_ret (ret_struct3 rfl rfl (HR4.out.1.row _) Tryz.underlying96 rfl Tryz.sizeSSes rfl) rfl HR4.out.2
                · have h64':((m:Int) == 64)=false:=by rw [beq_eq_false_iff_ne];omega
                  have HS:=Lib.hid (HSM.out.2.2 x HAX.out (by rw [HMM.out];omega))
                  have HLT:=Lib.hid h64
                  clear HBADX HSM HAX h64
                  go_upto_region 30 with fail
                  obtain ⟨nm,hnm⟩:∃y,x.name=y:=⟨_,rfl⟩
                  obtain ⟨vl,hvl⟩:∃y,x.value=y:=⟨_,rfl⟩
                  have HXE:=Lib.hid (And.intro hnm hvl)
                  have H6:=H6.out
                  rw [hnm,hvl] at H6
                  have H6:=Lib.hid H6
                  clear hnm hvl
                  have hq0:=H6.out.1.drew
                  have HS0:Hid (∀L,TillOne (fun W=>W.cell? ⟨g6,0,none⟩=some (.string nm)∧W.cell? ⟨g6,1,none⟩=some (.string vl)) (fun W=>W.cell? q=some (.slice Ac m cc)) 8 L w6.drew):=Lib.hid fun L=>TillOne.mk ⟨H6.out.2.1.cell 0,H6.out.2.1.cell 1⟩ hq0.cell_q.1
                  have HG0:Hid (∀W,Ahead (TillOne (fun W=>W.cell? ⟨g6,0,none⟩=some (.string nm)∧W.cell? ⟨g6,1,none⟩=some (.string vl)) (fun W=>W.cell? q=some (.slice Ac m cc)) 8) 8 W→W.cell? ⟨g6,0,none⟩=some (.string nm)):=Lib.hid fun W h=>(TillOne.get h).1.1
                  have HG1:Hid (∀W,Ahead (TillOne (fun W=>W.cell? ⟨g6,0,none⟩=some (.string nm)∧W.cell? ⟨g6,1,none⟩=some (.string vl)) (fun W=>W.cell? q=some (.slice Ac m cc)) 8) 8 W→W.cell? ⟨g6,1,none⟩=some (.string vl)):=Lib.hid fun W h=>(TillOne.get h).1.2
                  have HG2:Hid (∀W,Ahead (TillOne (fun W=>W.cell? ⟨g6,0,none⟩=some (.string nm)∧W.cell? ⟨g6,1,none⟩=some (.string vl)) (fun W=>W.cell? q=some (.slice Ac m cc)) 8) 8 W→W.cell? q=some (.slice Ac m cc)):=Lib.hid fun W h=>(TillOne.get h).2
                  refine wp_region_late (TillOne (fun W=>W.cell? ⟨g6,0,none⟩=some (.string nm)∧W.cell? ⟨g6,1,none⟩=some (.string vl)) (fun W=>W.cell? q=some (.slice Ac m cc)) 8) (by as_aux_lemma=>kernel_rfl) ?_
                  change wpLate Tryz.prog .any _ _ _ 9 #[false,false,false,false,false,false,false,false,false] _ _
                  clear cq
                  refine wpLate.take (i:=0) (q:=8) (oi:=_) (v:= ?_) rfl (by as_aux_lemma=>kernel_rfl) (by as_aux_lemma=>kernel_rfl) (by as_aux_lemma=>kernel_rfl) (by as_aux_lemma=>kernel_rfl) (by rfl) (fun _ _ _ h=>h) (TillOne.set (by decide)) (HS0.out _) (Or.inl ⟨by rfl,?_⟩) ?_
                  case refine_2=>intro W hw;have e0:=HG0.out W hw;have e1:=HG1.out W hw;have e2:=HG2.out W hw;clear hw;go_simp;(try with_reducible rfl)
                  simp only [Act.put,List.setIfInBounds_toArray,List.set_cons_succ,List.set_cons_zero]
                  refine wpLate.take (i:=1) (q:=8) (oi:=_) (v:= ?_) rfl (by as_aux_lemma=>kernel_rfl) (by as_aux_lemma=>kernel_rfl) (by as_aux_lemma=>kernel_rfl) (by as_aux_lemma=>kernel_rfl) (by rfl) (fun _ _ _ h=>h) (TillOne.set (by decide)) (HS0.out _) (Or.inl ⟨by rfl,?_⟩) ?_
                  case refine_2=>intro W hw;have e0:=HG0.out W hw;have e1:=HG1.out W hw;have e2:=HG2.out W hw;clear hw;go_simp;(try with_reducible rfl)
                  simp only [Act.put,List.setIfInBounds_toArray,List.set_cons_succ,List.set_cons_zero]
                  refine wpLate.take (i:=2) (q:=8) (oi:=_) (v:= ?_) rfl (by as_aux_lemma=>kernel_rfl) (by as_aux_lemma=>kernel_rfl) (by as_aux_lemma=>kernel_rfl) (by as_aux_lemma=>kernel_rfl) (by rfl) (fun _ _ _ h=>h) (TillOne.set (by decide)) (HS0.out _) (Or.inl ⟨by rfl,?_⟩) ?_
                  case refine_2=>intro W hw;have e0:=HG0.out W hw;have e1:=HG1.out W hw;have e2:=HG2.out W hw;clear hw;go_simp;(try with_reducible rfl)
                  simp only [Act.put,List.setIfInBounds_toArray,List.set_cons_succ,List.set_cons_zero]
                  refine wpLate.take (i:=3) (q:=8) (oi:=_) (v:= ?_) rfl (by as_aux_lemma=>kernel_rfl) (by as_aux_lemma=>kernel_rfl) (by as_aux_lemma=>kernel_rfl) (by as_aux_lemma=>kernel_rfl) (by rfl) (fun _ _ _ h=>h) (TillOne.set (by decide)) (HS0.out _) (Or.inl ⟨by rfl,?_⟩) ?_
                  case refine_2=>intro W hw;have e0:=HG0.out W hw;have e1:=HG1.out W hw;have e2:=HG2.out W hw;clear hw;go_simp;(try with_reducible rfl)
                  simp only [Act.put,List.setIfInBounds_toArray,List.set_cons_succ,List.set_cons_zero]
                  refine wpLate.take (i:=4) (q:=8) (oi:=_) (v:= ?_) rfl (by as_aux_lemma=>kernel_rfl) (by as_aux_lemma=>kernel_rfl) (by as_aux_lemma=>kernel_rfl) (by as_aux_lemma=>kernel_rfl) (by rfl) (fun _ _ _ h=>h) (TillOne.set (by decide)) (HS0.out _) (Or.inl ⟨by rfl,?_⟩) ?_
                  case refine_2=>intro W hw;have e0:=HG0.out W hw;have e1:=HG1.out W hw;have e2:=HG2.out W hw;clear hw;go_simp;(try with_reducible rfl)
                  simp only [Act.put,List.setIfInBounds_toArray,List.set_cons_succ,List.set_cons_zero]
                  have hal:=(Below.refl w6.heap.size w6).alloc (Nat.le_refl _) (.cells #[.string nm,.string vl] 65)
                  have HA:Hid (PV TS N (N+1) st q u6 (.slice Ac m cc) vA vP us (w6.alloc (.cells #[.string nm,.string vl] 65)).drew∧Whole (w6.alloc (.cells #[.string nm,.string vl] 65)).drew w6.heap.size 65 #[.string nm,.string vl]∧Whole (w6.alloc (.cells #[.string nm,.string vl] 65)).drew N 96 zSes∧Below N w (w6.alloc (.cells #[.string nm,.string vl] 65)).drew∧Whole (w6.alloc (.cells #[.string nm,.string vl] 65)).drew g6 65 #[.string nm,.string vl]):=Lib.hid ⟨(H6.out.1.under hal).drew,(Whole.new w6 _ _).drew,(H6.out.2.2.1.under hal).drew,(H6.out.2.2.2.alloc (Nat.le_of_lt H6.out.2.2.1.lt) _).drew,(H6.out.2.1.under hal).drew⟩
                  clear hal hq0
                  have HLR:Hid ((st.here.map acell).length=m):=Lib.hid (by rw [List.length_map];exact HMM.out)
                  refine wpLate.ready (rs:=[5]) (by as_aux_lemma=>kernel_rfl) (by simp) (eachLate.cons rfl (fun K hK=> ?_) eachLate.nil)
                  go_simp
                  refine hK.out _ _ (TillOne.mk ⟨HA.out.2.2.2.2.cell 0,HA.out.2.2.2.2.cell 1⟩ HA.out.1.cell_q.1) ?_
                  clear hK K
                  try simp only [Act.put]
                  generalize (w6.alloc (.cells #[.string nm,.string vl] 65)).drew=w7 at *
                  generalize w6.heap.size=g7 at *
                  refine wpLate.ready (rs:=[6]) (by as_aux_lemma=>kernel_rfl) (by simp) (eachLate.cons rfl (fun K hK=> ?_) eachLate.nil)
                  refine step_of rfl (wp_appendE (r:=[.string nm,.string vl]) (.tmp 113) (.tmp 115) rfl Tryz.underlying32 Tryz.infoSAttr rfl (Nat.zero_lt_succ _) rfl HA.out.1.now rfl HA.out.2.1 rfl (fun u hu=>by simp at hu;rcases hu with rfl | rfl <;> rfl) (by rw [HLR.out];omega) (by rw [HLR.out];omega) (by have:=HA.out.2.2.1.lt;omega) ?_)
                  intro v8 w8 ho8 hg8 hn8
                  have hbx8:=HA.out.1.box.grown hg8 (fun e=>(HA.out.1.now.apart HA.out.1.box TS.ok.2.1.symm) e.symm)
                  have hr8:Whole w8 N 96 zSes:=HA.out.2.2.1.grown hg8 (fun e=>(HA.out.1.now.apart HA.out.2.2.1 TS.ok.2.1.symm) e.symm)
                  have hbl8:Below N w w8:=HA.out.2.2.2.1.grown hg8 (Nat.le_of_lt HA.out.2.2.1.lt) (fun j hj=>(HA.out.1.now.lt hj).1)
                  have hac:acell x=[.string nm,.string vl]:=by rw [←HXE.out.1,←HXE.out.2];rfl
                  rw [←hac] at ho8
                  obtain ⟨vA',hpv8⟩:=HA.out.1.push TS.ok ho8 hg8 hn8
                  have hg68:=HA.out.2.2.2.2.grown hg8 (fun e=>HNE.out e.symm)
                  have cq8:w8.cell? q=some (.slice Ac m cc)∧w8.frozen? q=false∧N≤q.block∧q.block<w8.heap.size∧q.block≠N:=by
                   cases hc:st.cur with
                   | none =>
                     obtain ⟨_,rfl,hq,_⟩:=HA.out.1.first hc
                     rw [hq]
                     exact ⟨hbx8.cell 3,hbx8.frz 3,Nat.le_succ N,hbx8.lt,by simp⟩
                   | some p =>
                     obtain ⟨gp,e1,hq,_⟩:=HA.out.1.last p hc
                     have hpar8:=HA.out.1.par.grown hg8 (HA.out.1.par.apart2 HA.out.1.now TS.ok.2.2)
                     obtain ⟨g',c,_,e2,e3,e4,_,_,e5,e6⟩:=hpar8.at_ (HA.out.1.last_row hc)
                     rw [e1] at e2
                     cases e2
                     rw [hq]
                     refine ⟨e5 2 (by omega),e6 _,e3,e4,fun e=> ?_⟩
                     obtain ⟨cs,hw⟩:=hpar8.whole e1
                     have e:gp=N:=e
                     subst e
                     exact (hw.ne hr8 TS.ok.1.symm) rfl
                  have HT8:Hid (∀L,TillOne (fun W=>W.cell? ⟨g6,0,none⟩=some (.string nm)∧W.cell? ⟨g6,1,none⟩=some (.string vl)) (fun W=>W.cell? q=some (.slice Ac m cc)) 8 L w8):=Lib.hid fun L=>TillOne.mk ⟨hg68.cell 0,hg68.cell 1⟩ cq8.1
                  have hqg:q.block≠g6:=fun e=>by
                   cases hc:st.cur with
                   | none =>
                     obtain ⟨_,rfl,hq,_⟩:=HA.out.1.first hc
                     rw [hq] at e
                     have e:N+1=g6:=e
                     subst e
                     exact (hg68.ne hbx8 TS.ok.2.1.symm) rfl
                   | some p =>
                     obtain ⟨gp,e1,hq,_⟩:=HA.out.1.last p hc
                     have hpar8:=HA.out.1.par.grown hg8 (HA.out.1.par.apart2 HA.out.1.now TS.ok.2.2)
                     obtain ⟨cs,hw⟩:=hpar8.whole e1
                     rw [hq] at e
                     have e:gp=g6:=e
                     subst e
                     exact (hw.ne hg68 TS.ok.2.2) rfl
                  have c8:=cq8.1
                  have f8:=cq8.2.1
                  have HS9:Hid (∀L,L.getD 8 true=true→TillOne (fun W=>W.cell? ⟨g6,0,none⟩=some (.string nm)∧W.cell? ⟨g6,1,none⟩=some (.string vl)) (fun W=>W.cell? q=some (.slice Ac m cc)) 8 L (w8.setCell q v8)):=Lib.hid fun L hL=>TillOne.past ⟨(hg68.far (Ne.symm hqg) v8).cell 0,(hg68.far (Ne.symm hqg) v8).cell 1⟩ hL
                  have HFIN:=Lib.hid (HK.out.next HHC.out HS.out hpv8 (hr8.far (Ne.symm cq8.2.2.2.2) v8) (hbl8.setCell cq8.2.2.1 v8))
                  obtain ⟨A8,k8,hv8,-⟩:=ho8.form
                  generalize (st.here.map acell++[acell x]).length=l8 at hv8
                  subst hv8
                  clear ho8 hg8 hn8 hbx8 hr8 hbl8 hac hpv8 hg68 cq8 hqg HA HK
                  refine hK.out _ _ (HT8.out _) ?_
                  clear hK K
                  try simp only [Act.put]
                  refine wpLate.ready (rs:=[7]) (by as_aux_lemma=>kernel_rfl) (by simp) (eachLate.cons rfl (fun K hK=> ?_) eachLate.nil)
                  go_simp
                  refine hK.out _ _ (HT8.out _) ?_
                  clear hK K
                  try simp only [Act.put]
                  refine wpLate.ready (rs:=[8]) (by as_aux_lemma=>kernel_rfl) (by simp) (eachLate.cons rfl (fun K hK=> ?_) eachLate.nil)
                  go_simp
                  refine hK.out _ _ (HS9.out _ rfl) ?_
                  clear hK K
                  try simp only [Act.put]
                  refine wpLate.done (by as_aux_lemma=>kernel_rfl) ?_ _
                  go_wp2
                  go_roundw
                  case rel=>exact ⟨_,k+1,b,_,_,vA',vP,us,rfl,by go_num,rfl,rfl,HFIN.out⟩
                  case measure=>have:=HCS.out;simp [strLen];omega
end Go.Proofs.YtgnpckelbokniaaGreatDoor
