import Derived.Test.YtgnpckelbokniaaGreatDoorPkDescBackA12
namespace Go.Proofs.YtgnpckelbokniaaGreatDoor
open Go.RowKit
set_option linter.unusedVariables false
set_option linter.unusedSimpArgs false
theorem key_eq (d:Nat) (k k':Tx) (hk:k.length=30) (hk':k'.length=30) (w:World):(Op.equalIn (d+2) 73 (.agg (keyC k).toArray) (.agg (keyC k').toArray)).run Tryz.prog w=.ok (decide (k=k')) w:=by
 have e:decide (k=k')=decide (∀i∈List.range' 0 30 1,k[i]? = k'[i]?):=by
  rw [decide_eq_decide]
  constructor
  · intro h;subst h;exact fun i hi=>rfl
  · intro h
    apply List.ext_getElem?
    intro i
    by_cases hi:i<30
    · exact h i (by simp [List.mem_range'_1,hi])
    · rw [List.getElem?_eq_none (by omega),List.getElem?_eq_none (by omega)]
 rw [e,Op.equalIn]
 simp only [Sem.run_bind,run_underlying Tryz.underlying73,Result.andThen_ok,Tryz.sizeU8,Std.Legacy.Range.forIn_eq_forIn_range',Std.Legacy.Range.size,Nat.sub_zero,Nat.add_sub_cancel,Nat.div_one]
 have hl:∀i∈List.range' 0 30 1,i<30:=fun i hi=>by simpa using (List.mem_range'_1.1 hi).2
 generalize List.range' 0 30 1=l at hl ⊢
 induction l with
 | nil=>simp
 | cons i l ih =>
   have hi:i<30:=hl i (by simp)
   have hki:i<k.length:=by omega
   have hki':i<k'.length:=by omega
   have px:(part 5 (keyC k).toArray (i * 1)).run Tryz.prog w=.ok (.int .u8 (k[i].toNat:Int)) w:=by
    have:(keyC k).toArray[i]? = some (.int .u8 (k[i].toNat:Int)):=by simp [keyC,List.getElem?_eq_getElem hki]
    simp [part,isAgg,run_underlying Tryz.underlying5,this]
   have py:(part 5 (keyC k').toArray (i * 1)).run Tryz.prog w=.ok (.int .u8 (k'[i].toNat:Int)) w:=by
    have:(keyC k').toArray[i]? = some (.int .u8 (k'[i].toNat:Int)):=by simp [keyC,List.getElem?_eq_getElem hki']
    simp [part,isAgg,run_underlying Tryz.underlying5,this]
   have pe:(Op.equalIn (d+1) 5 (.int .u8 (k[i].toNat:Int)) (.int .u8 (k'[i].toNat:Int))).run Tryz.prog w=.ok (((k[i].toNat:Int)) == (k'[i].toNat:Int)) w:=by
    rw [run_equalIn_int w d 5 .u8 .u8 _ _ Tryz.underlying5]
   by_cases heq:k[i]=k'[i]
   · have hq:(((k[i].toNat:Int)) == (k'[i].toNat:Int))=true:=by rw [heq];simp
     rw [hq] at pe
     have e2:decide (∀j∈i :: l,k[j]? = k'[j]?)=decide (∀j∈l,k[j]? = k'[j]?):=by
      rw [decide_eq_decide]
      constructor
      · exact fun h j hj=>h j (by simp [hj])
      · intro h j hj
        rcases List.mem_cons.1 hj with rfl | hj
        · rw [List.getElem?_eq_getElem hki,List.getElem?_eq_getElem hki',heq]
        · exact h j hj
     rw [e2]
     simp only [List.forIn_cons,Sem.run_bind,px,py,pe,Result.andThen_ok,Bool.not_true,Bool.false_eq_true,if_false,Sem.run_pure]
     exact ih fun j hj=>hl j (by simp [hj])
   · have hq:(((k[i].toNat:Int)) == (k'[i].toNat:Int))=false:=by
      rw [beq_eq_false_iff_ne]
      intro h
      exact heq (UInt8.toNat_inj.1 (by omega))
     rw [hq] at pe
     have e2:decide (∀j∈i :: l,k[j]? = k'[j]?)=false:=by
      rw [decide_eq_false_iff_not]
      intro h
      have:=h i (by simp)
      rw [List.getElem?_eq_getElem hki,List.getElem?_eq_getElem hki'] at this
      exact heq (Option.some.inj this)
     rw [e2]
     simp only [List.forIn_cons,Sem.run_bind,px,py,pe,Result.andThen_ok,Bool.not_false,if_true,Sem.run_pure]
theorem int_eq (d:Nat) (z z':Int) (w:World):(Op.equalIn (d+1) 3 (.int .i64 z) (.int .i64 z')).run Tryz.prog w=.ok (z == z') w:=by
 rw [run_equalIn_int w d 3 .i64 .i64 _ _ Tryz.underlying3]
theorem two_eqY (d : Nat) (X Y : Array Value) (l : List Field) (hf : l.map (fun f => (f.type, f.offset)) = [(3, 0), (73, 1)]) (hn : l.all (fun f => f.name != "_") = true) (z z' : Int) (k k' : Tx) (hk : k.length = 30) (hk' : k'.length = 30) (w : World)
 (p0:(part 3 X 0).run Tryz.prog w=.ok (.int .i64 z) w) (p1:(part 73 X 1).run Tryz.prog w=.ok (.agg (keyC k).toArray) w)
 (q0:(part 3 Y 0).run Tryz.prog w=.ok (.int .i64 z') w) (q1:(part 73 Y 1).run Tryz.prog w=.ok (.agg (keyC k').toArray) w):(Op.eqFields (d+2) X Y l).run Tryz.prog w=.ok (z == z' && decide (k=k')) w:=by
 have e0:=int_eq (d+1) z z' w
 have e1:=key_eq d k k' hk hk' w
 have hlen:l.length=2:=by
  have:=congrArg List.length hf
  simpa using this
 obtain ⟨f,g,rfl⟩:∃f g,l=[f,g]:=by
  rcases l with _ | ⟨f,_ | ⟨g,_ | ⟨_,_⟩⟩⟩
  · simp at hlen
  · simp at hlen
  · exact ⟨f,g,rfl⟩
  · simp at hlen
 have h0:=congrArg (fun l=>l[0]?) hf
 have h1:=congrArg (fun l=>l[1]?) hf
 simp only [List.map_cons,List.map_nil,List.getElem?_cons_zero,List.getElem?_cons_succ,Option.some.injEq,Prod.mk.injEq] at h0 h1
 obtain ⟨f1,f2⟩:=h0
 obtain ⟨g1,g2⟩:=h1
 simp only [List.all_cons,List.all_nil,Bool.and_true,Bool.and_eq_true,bne_iff_ne] at hn
 obtain ⟨f3,g3⟩:=hn
 rw [←f1,←f2] at p0 q0
 rw [←g1,←g2] at p1 q1
 rw [←f1] at e0
 rw [←g1] at e1
 clear f1 f2 g1 g2 hf hlen
 obtain ⟨b0,hb0⟩:∃b,(z == z')=b:=⟨_,rfl⟩
 obtain ⟨b1,hb1⟩:∃b,decide (k=k')=b:=⟨_,rfl⟩
 rw [hb0] at e0 ⊢
 rw [hb1] at e1 ⊢
 clear hb0 hb1
 unfold Op.eqFields
 split
 · cases b0 with
   | false=>simp only [Sem.run_bind,p0,q0,e0,Result.andThen_ok,Bool.not_false,if_true,Sem.run_pure,Bool.false_and]
   | true =>
     simp only [Sem.run_bind,p0,q0,e0,Result.andThen_ok,Bool.not_true,Bool.false_eq_true,if_false,Bool.true_and]
     unfold Op.eqFields
     split
     · cases b1 with
       | false=>simp only [Sem.run_bind,p1,q1,e1,Result.andThen_ok,Bool.not_false,if_true,Sem.run_pure]
       | true =>
         simp only [Sem.run_bind,p1,q1,e1,Result.andThen_ok,Bool.not_true,Bool.false_eq_true,if_false]
         unfold Op.eqFields
         rw [Sem.run_pure]
     · next h=>exact absurd g3 h
 · next h=>exact absurd f3 h
theorem CryptoS.ext' {a b:CryptoS} (h1:a.tag=b.tag) (h2:a.key=b.key):a=b:=by cases a;cases b;simp_all
instance:DecidableEq CryptoS:=fun a b=>if h:a.tag=b.tag∧a.key=b.key then isTrue (CryptoS.ext' h.1 h.2) else isFalse fun e=>h (by rw [e];exact ⟨rfl,rfl⟩)
theorem crypto_eq (x y:CryptoS) (hk:x.key.length=30) (hk':y.key.length=30) (w:World):(Op.equalIn 10000 75 (.agg (cryC x).toArray) (.agg (cryC y).toArray)).run Tryz.prog w=.ok (decide (x=y)) w:=by
 obtain ⟨z,k⟩:=x
 obtain ⟨z',k'⟩:=y
 have hd:decide ((⟨z,k⟩:CryptoS)=⟨z',k'⟩)=(z == z' && decide (k=k')):=by
  rw [Bool.eq_iff_iff]
  simp
 have p0:=cry_p0 z k hk w
 have p1:=cry_p1 z k hk w
 have q0:=cry_p0 z' k' hk' w
 have q1:=cry_p1 z' k' hk' w
 rw [hd]
 clear hd
 generalize (cryC ⟨z,k⟩).toArray=X at *
 generalize (cryC ⟨z',k'⟩).toArray=Y at *
 have e:∀d,d=9999→(Op.equalIn (d+1) 75 (.agg X) (.agg Y)).run Tryz.prog w=.ok (z == z' && decide (k=k')) w:=fun d hd=>by
  rw [run_equalIn_agg w d 75 X Y (by kernel_rfl) (by kernel_rfl)]
  obtain ⟨e,rfl⟩:∃e,d=e+2:=⟨d - 2,by omega⟩
  exact two_eqY e X Y _ cry_fields cry_names z z' k k' hk hk' w p0 p1 q0 q1
 exact e 9999 rfl
theorem ExtS.ext' {a b:ExtS} (h1:a.id=b.id) (h2:a.uri=b.uri):a=b:=by cases a;cases b;simp_all
theorem ext_eq (x y:ExtS) (w:World):(Op.equalIn 10000 71 (.agg #[.int .i64 x.id,.string x.uri]) (.agg #[.int .i64 y.id,.string y.uri])).run Tryz.prog w=.ok (x.id == y.id && x.uri.toList == y.uri.toList) w:=by
 go_simp
 by_cases h1:x.id=y.id <;> by_cases h2:x.uri.toList=y.uri.toList <;> simp [h1,h2]
set_option maxHeartbeats 1600000 in
set_option maxRecDepth 100000 in
theorem sameTexts_any (v1 v2:Value) (L M:List ByteArray) (w:World) (h1:TextsV w w.heap.size v1 L) (h2:TextsV w w.heap.size v2 M):Calls Tryz.prog 26 #[v1,v2] w (SameB w L M):=by
 obtain ⟨A1,c1,rfl,hc1,hm1,_⟩:=Rows.form h1
 obtain ⟨A2,c2,rfl,hc2,hm2,_⟩:=Rows.form h2
 have H1:=Lib.hid h1
 have H2:=Lib.hid h2
 clear h1 h2
 obtain ⟨n,hn⟩:∃n,L.length=n:=⟨_,rfl⟩
 obtain ⟨m,hm⟩:∃m,M.length=m:=⟨_,rfl⟩
 have HN:=Lib.hid hn
 have HM:=Lib.hid hm
 rw [hn] at hc1
 rw [hm] at hc2
 rw [hn,hm]
 unfold maxLen at hm1 hm2
 clear hn hm
 by_cases hnm:n=m
 · subst hnm
   have hz:((n:Int) == (n:Int))=true:=by simp
   go_enter Tryz.func26,Tryz.ntmps26
   go_wp2
   go_loopw [13] (fun s13 wr=>∃k:Nat,k≤n∧s13=.int .i64 k∧(∀j,j<k→L[j]? = M[j]?)∧Below w.heap.size w wr) (fun s13 _=>n - (intOf s13).toNat)
   case atStart=>exact ⟨0,Nat.zero_le _,rfl,(fun j hj=>by omega),Below.refl _ w⟩
   case round =>
    obtain ⟨k,hk,rfl,hsame,hb⟩:=hrel
    have HS:=Lib.hid (And.intro hsame hb)
    clear hsame
    by_cases hlt:k<n
    · obtain ⟨ad1,c1',e1,b1,x0⟩:=(H1.out.below hb).at_ (i:=k) (by rw [HN.out];exact hlt)
      obtain ⟨ad2,c2',e2,b2,y0⟩:=(H2.out.below hb).at_ (i:=k) (by rw [HM.out];exact hlt)
      injection e1 with e1 e1n e1c;clear e1n e1c
      injection e2 with e2 e2n e2c;clear e2n e2c
      subst e1 e2
      have gL:=getD_of (L:=L) (i:=k) (by rw [HN.out];exact hlt)
      have gM:=getD_of (L:=M) (i:=k) (by rw [HM.out];exact hlt)
      obtain ⟨a,ha⟩:∃a,L.getD k default=a:=⟨_,rfl⟩
      obtain ⟨b,hbb⟩:∃b,M.getD k default=b:=⟨_,rfl⟩
      rw [ha] at x0 gL
      rw [hbb] at y0 gM
      have HG:=Lib.hid (And.intro gL gM)
      have hk0:(0:Int)≤(k:Int):=by omega
      have hk1:(k:Int)<(n:Int):=by omega
      clear gL gM ha hbb
      by_cases heq:a=b
      · have hq:(a.toList == b.toList)=true:=toList_beq.2 heq
        have HEQ:=Lib.hid heq
        clear heq b1 b2 hb
        go_upto_region 6 with fail
        go_quiet (fail)
        go_wp2
        go_roundw
        case rel =>
         refine ⟨k+1,by omega,by go_num,fun j hj=> ?_,below_drewN' HS.out.2 _⟩
         by_cases e:j=k
         · subst e
           rw [HG.out.1,HG.out.2,HEQ.out]
         · exact HS.out.1 j (by omega)
        case measure=>simp [intOf];omega
      · have hq:(a.toList == b.toList)=false:=toList_bne.2 heq
        have HNE:Hid (L≠M):=Lib.hid (fun e=>by rw [e] at HG;have:=HG.out.1.symm.trans HG.out.2;exact heq (Option.some.inj this))
        clear heq b1 b2 hb
        go_upto_region 6 with fail
        go_quiet (fail)
        go_wp2
        go_ret
        exact ⟨false,rfl,⟨fun e=>(by cases e),fun e=>(HNE.out e).elim⟩,below_drewN' HS.out.2 _⟩
    · obtain rfl:k=n:=by omega
      have HEQ:Hid (L=M):=Lib.hid (list_same (by rw [HN.out,HM.out]) (fun j hj=>HS.out.1 j (by rw [HN.out] at hj;exact hj)))
      clear hb
      go_wp2
      go_ret
      exact ⟨true,rfl,⟨fun _=>HEQ.out,fun _=>rfl⟩,HS.out.2⟩
 · have hz:((n:Int) == (m:Int))=false:=by rw [beq_eq_false_iff_ne];omega
   have HNE:Hid (L≠M):=Lib.hid (fun e=>hnm (by rw [←HN.out,←HM.out,e]))
   clear hnm
   go_enter Tryz.func26,Tryz.ntmps26
   go_wp2
   go_ret
   exact ⟨false,rfl,⟨fun e=>(by cases e),fun e=>(HNE.out e).elim⟩,Below.refl _ w⟩
end Go.Proofs.YtgnpckelbokniaaGreatDoor
