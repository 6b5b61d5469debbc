import Derived.Test.YtgnpckelbokniaaGreatDoorPkAttrKeepsA01
import Derived.RangeFuncNested
import Derived.RangeFuncBound
import Derived.RangeFuncCalls
import Derived.RangeFuncLeaves
import Derived.Shelf.Abstract
import Derived.OwnWalkIn
import Derived.TacticsInMore
import Derived.LoopNIn
import Derived.LoopIn
import Derived.Deep.DeepMust
import Derived.Test.YtgnpckelbokniaaGreatDoorPkAttrKeepsA02
namespace Go.Proofs.YtgnpckelbokniaaGreatDoor
open Go.RowKit Go.Shelf
set_option linter.unusedVariables false
set_option linter.unusedSimpArgs false
structure Books (K:Nat) (r:Loop) (W:World):Prop where
 loop:W.heap[K+1]? = some (.loop r)
 late:W.heap[K]? = some (.deferred (some []))
theorem Books.keeps {K:Nat} {r:Loop} {W W':World} (h:Books K r W) (k:KeepsFrom K W W'):Books K r W':=⟨k.same _ _ (by omega) h.loop rfl,k.same _ _ (Nat.le_refl _) h.late rfl⟩
theorem Books.under {K:Nat} {r:Loop} {W W':World} (h:Books K r W) (k:Below W.heap.size W W'):Books K r W':=h.keeps ((others_under k).from K)
theorem take_known {L:List AttrS} {j:Nat} {a:AttrS} (h:L[j]? = some a):(L.take (j+1)).filter known=(L.take j).filter known++(if known a then [a] else []):=by
 rw [List.take_add_one,h,List.filter_append]
 congr 1
 simp only [Option.toList_some,List.filter_cons,List.filter_nil]
attribute [local go_sem] Oper.semAt_some
end Go.Proofs.YtgnpckelbokniaaGreatDoor
namespace Go.Proofs.YtgnpckelbokniaaGreatDoor
open Go.RowKit
set_option linter.unusedVariables false
set_option linter.unusedSimpArgs false
theorem semi_join:∀(R:List ByteArray),R≠[]→Lib.join (R.map (·.data.toList)) [59]=semi R
 | [],h=>(h rfl).elim
 | [a],_=>by
   rw [List.map_cons,List.map_nil,Lib.join_one]
   rfl
 | a :: b :: r,_=>by
   have e:Lib.join ((a :: b :: r).map (·.data.toList)) [59]=a.data.toList++[59]++Lib.join ((b :: r).map (·.data.toList)) [59]:=by
    rw [List.map_cons,List.map_cons,Lib.join_cons,Lib.join_cons]
    simp [Lib.joinTail]
   rw [e,semi_join (b :: r) (by simp)]
   show tx a++[59]++semi (b :: r)=tx a++59 :: semi (b :: r)
   simp
theorem semi_len:∀(R:List ByteArray),(∀r∈R,r.size≤8)→(semi R).length≤9 * R.length
 | [],_=>by simp [semi]
 | [a],h=>by
   have:=h a (by simp)
   show (tx a).length≤9
   rw [tx_length]
   omega
 | a :: b :: r,h=>by
   have h1:=h a (by simp)
   have h2:=semi_len (b :: r) (fun x hx=>h x (by simp at hx ⊢;rcases hx with hx | hx <;> simp [hx]))
   show (tx a++59 :: semi (b :: r)).length≤_
   rw [List.length_append,List.length_cons,tx_length]
   simp only [List.length_cons] at h2 ⊢
   omega
theorem join_any (R:List ByteArray) (v:Value) (w:World) (h:TextsV w w.heap.size v R) (h0:0<R.length) (hl:R.length≤1000) (hj:(semi R).length≤100000) :
 Calls Tryz.prog 84 #[v,.string ⟨#[59]⟩] w fun e w'=>e=.returned (.string (bs (semi R)))∧Below w.heap.size w w':=by
 obtain ⟨A,c,rfl,hc,hm,_,hr⟩:=h
 obtain ⟨ad,rfl,hb,hx⟩:=hr h0
 have hs:ad.spot=none:=by
  have h1:w.cell? (ad.add (0 * 1+0))=_:=hx 0 _ (getD_of h0)
  rw [Nat.zero_mul,Nat.zero_add] at h1
  have h1:w.cell? ad=_:=h1
  unfold World.cell? at h1
  split at h1
  · split at h1
    · cases h1
    · next hn=>simpa using hn
  · cases h1
 obtain ⟨bk,o,sp⟩:=ad
 simp only at hs hb
 subst hs
 have hne:R≠[]:=by rintro rfl;simp at h0
 have hj2:=semi_join R hne
 refine (Tryz.strings_Join bk o c R ⟨#[59]⟩ w (fun j s hs=> ?_) hb (by omega) hc (by show (Lib.join _ [59]).length≤_;rw [hj2];omega)).mono fun e w' h=>⟨?_,h.2⟩
 · have h2:w.cell? ((⟨bk,o,none⟩:Addr).add (j * 1+0))=some (.string s):=hx j s hs
   rw [Nat.mul_one,Nat.add_zero] at h2
   unfold Addr.add at h2
   split at h2
   · next e=>subst e;exact h2
   · exact h2
 · rw [h.1]
   show Ending.returned (.string ⟨(Lib.join (R.map (·.data.toList)) [59]).toArray⟩)=_
   rw [hj2]
   rfl
set_option maxHeartbeats 6400000 in
set_option maxRecDepth 100000 in
theorem addRids_any (base:Nat) (v:Value) (L:List AttrS) (R:List ByteArray) (b:Bool) (Ar:Option Addr) (nr kr:Nat) (w:World) (hown:AtO w base v L) (hl:L.length≤900000) (hbase:base≤w.heap.size) (h:TextsV w base (.slice Ar nr kr) R) (h3:R.length≤3) (hr:∀r∈R,r.size≤8) :
 Calls Tryz.prog 50 #[v,.slice Ar nr kr,.bool b] w (AddO base w v (L++attrsR b R)):=by
 have hnr:nr=R.length:=by
  obtain ⟨_,_,e,-⟩:=Rows.form h
  injection e
 obtain ⟨Av,nv,cv,hv⟩:∃Av nv cv,v=.slice Av nv cv:=by
  obtain ⟨A,c,e,-⟩:=Own.form hown
  exact ⟨A,_,c,e⟩
 have HOWN:=Lib.hid hown
 have HVB:Hid (∀k,v.ownBlock=some k→base≤k):=Lib.hid hown.base
 have HVW:Hid (TextsV w base (.slice Ar nr kr) R):=Lib.hid h
 have HSZ:Hid (∀r∈R,r.size≤8):=Lib.hid hr
 have HNB:Hid (base≤w.heap.size):=Lib.hid hbase
 have HL:Hid (R.length=nr):=Lib.hid hnr.symm
 by_cases h0:nr=0
 · have HR:Hid (L++attrsR b R=L):=Lib.hid (by
    have:R=[]:=List.eq_nil_of_length_eq_zero (by omega)
    rw [this]
    simp [attrsR])
   rw [HR.out]
   subst hv
   clear hnr h hown hr hbase
   subst h0
   go_enter Tryz.func50,Tryz.ntmps50
   go_wp2
   go_ret
   exact ⟨_,rfl,HOWN.out,Grew.refl _ _⟩
 · have h0:¬(nr:Int)=0:=by omega
   have hn0:0<nr:=by omega
   have hn3:nr≤3:=by omega
   have HEND:Hid (L++attrsR b R=(L++R.map (attrR b))++[⟨bs nSimulcast,bs (wayW b++32 :: semi R)⟩]):=Lib.hid (by
    unfold attrsR
    rw [if_neg (by rw [List.isEmpty_iff];intro e;rw [e] at hnr;simp at hnr;omega)]
    simp)
   have HSL:Hid ((semi R).length≤27):=Lib.hid (by have:=semi_len R hr;omega)
   have HLL:Hid (∀k,(L++(R.take k).map (attrR b)).length≤1000000):=Lib.hid fun k=>by rw [List.length_append,List.length_map,List.length_take];omega
   have HLX:Hid ((L++R.map (attrR b)).length≤1000000):=Lib.hid (by rw [List.length_append,List.length_map];omega)
   obtain ⟨T,hT⟩:∃T,L++attrsR b R=T:=⟨_,rfl⟩
   have HF:Hid (T=(L++R.map (attrR b))++[(⟨bs nSimulcast,bs (wayW b++32 :: semi R)⟩:AttrS)]):=Lib.hid (by rw [←hT];exact HEND.out)
   rw [hT]
   clear HEND hnr h hown hr hbase hl h3 hT
   subst hv
   obtain ⟨wy,hwy⟩:∃a:ByteArray,a=bs (wayW b):=⟨_,rfl⟩
   have HWY:Hid (tx wy=wayW b):=Lib.hid (by rw [hwy,tx_bs])
   have hws:wy.size=4:=by rw [hwy,bs_size];cases b <;> rfl
   go_enter Tryz.func50,Tryz.ntmps50
   go_upto_if 14 with fail
   go_cut [7] from 7 to 15 (fun s wc=>s=.string wy∧w=wc)
   case first =>
    subst hwy
    cases b
    · go_wp2
      go_meet
      exact ⟨rfl,rfl⟩
    · go_wp2
      go_meet
      exact ⟨rfl,rfl⟩
   case rest =>
    obtain ⟨rfl,rfl⟩:=hcut
    clear hwy
    go_wp2
    go_loopw [17,0] (fun s17 s0 wr=>∃k:Nat,k≤nr∧s17=.int .i64 k∧(AtO wr base s0 (L++(R.take k).map (attrR b))∧Grew w (.slice Av nv cv) wr s0)) (fun s17 _ _=>nr - (intOf s17).toNat)
    case atStart=>exact ⟨0,by omega,rfl,by simpa using HOWN.out,Grew.refl _ _⟩
    case round =>
     obtain ⟨k,hk,rfl,hst⟩:=hrel
     have HS:=Lib.hid hst
     clear hst
     have HBL:Hid (Below base w wr):=Lib.hid (HS.out.2.below HVB.out HNB.out)
     have HNW:Hid (base≤wr.heap.size):=Lib.hid (by have:=HBL.out.size;have:=HNB.out;omega)
     obtain ⟨Aw,nw,cw,hvw⟩:∃A n c,u0=.slice A n c:=by
      obtain ⟨A,c,e,-⟩:=Own.form HS.out.1
      exact ⟨A,_,c,e⟩
     subst hvw
     by_cases hlt:k<nr
     · have hlt':k<R.length:=by rw [HL.out];exact hlt
       obtain ⟨ad,c',e1,had,d0⟩:=(HVW.out.below HBL.out).at_ hlt'
       injection e1 with e1 e1n e1c
       clear e1n e1c
       subst e1
       have hfs:=HSZ.out _ (getD_mem hlt')
       have HTK:Hid ((R.take (k+1)).map (attrR b)=(R.take k).map (attrR b)++[attrR b (R.getD k default)]):=Lib.hid (by rw [List.take_add_one,getD_of hlt'];simp)
       obtain ⟨f,hf⟩:∃f,R.getD k default=f:=⟨_,rfl⟩
       rw [hf] at d0 hfs HTK
       have hk0':(0:Int)≤(k:Int):=by omega
       have hk1':(k:Int)<(nr:Int):=by omega
       have q8:¬9223372036854775807<f.size+1:=by omega
       have q9:¬9223372036854775807<f.size+1+wy.size:=by omega
       have HTX:Hid (attrR b f=⟨bs nRid,f++⟨#[32]⟩++wy⟩):=Lib.hid (by
        unfold attrR
        congr 1
        exact (tx_inj (by rw [tx_append,tx_append,HWY.out,tx_bs];simp [tx])).symm)
       clear hf had hlt'
       go_wp2_with (at_builtin;refine wpList_addA rfl (.tmp 21) (.tmp 27) rfl rfl rfl HS.out.1 (HLL.out k) HNW.out ?_;intro v9 w9 ho9 hg9;have HA9:Hid (AtO w9 base v9 (L++(R.take (k+1)).map (attrR b))∧Grew w (.slice Av nv cv) w9 v9):=Lib.hid ⟨by rw [HTK.out,←List.append_assoc,HTX.out];exact ho9,HS.out.2.trans hg9⟩;clear ho9 hg9)
       go_roundw
       case rel=>exact ⟨k+1,by omega,by go_num,HA9.out⟩
       case measure=>simp [intOf];omega
     · have e:k=nr:=by omega
       subst e
       have HQ:Hid (AtO wr base (.slice Aw nw cw) (L++R.map (attrR b))):=Lib.hid (by
        have:=HS.out.1
        rw [List.take_of_length_le (by rw [HL.out];exact Nat.le_refl _)] at this
        exact this)
       have HJ:Hid (Calls Tryz.prog 84 #[.slice Ar k kr,.string ⟨#[59]⟩] wr fun e w'=>e=.returned (.string (bs (semi R)))∧Below wr.heap.size wr w'):=Lib.hid (join_any R _ wr ((HVW.out.below HBL.out).more HNW.out) (by rw [HL.out];exact hn0) (by rw [HL.out];omega) (by have:=HSL.out;omega))
       obtain ⟨sj,hsj⟩:∃s,bs (semi R)=s:=⟨_,rfl⟩
       have HSJ:Hid (tx sj=semi R):=Lib.hid (by rw [←hsj,tx_bs])
       have hsz:sj.size≤27:=by rw [←hsj,bs_size];exact HSL.out
       rw [hsj] at HJ
       clear hsj
       have q5:¬9223372036854775807<wy.size+1:=by omega
       have q6:¬9223372036854775807<wy.size+1+sj.size:=by omega
       have HTX:Hid ((⟨bs nSimulcast,bs (wayW b++32 :: semi R)⟩:AttrS)=⟨bs nSimulcast,wy++⟨#[32]⟩++sj⟩):=Lib.hid (by
        congr 1
        exact (tx_inj (by rw [tx_append,tx_append,HWY.out,HSJ.out,tx_bs];simp [tx])).symm)
       go_wp2_with (first | (go_at_call 84;(with_reducible refine HJ.out.mono ?_);rintro e w1 ⟨rfl,hb1⟩;have H1:Hid (Below wr.heap.size wr w1∧AtO w1 base (.slice Aw nw cw) (L++R.map (attrR b))):=Lib.hid ⟨hb1,HQ.out.under hb1⟩;clear hb1) | (at_builtin;refine wpList_addA rfl (.tmp 30) (.tmp 37) rfl rfl rfl H1.out.2 HLX.out (by have:=H1.out.1.size;have:=HNW.out;omega) ?_;intro v9 w9 ho9 hg9;have HA9:Hid (AtO w9 base v9 ((L++R.map (attrR b))++[⟨bs nSimulcast,wy++⟨#[32]⟩++sj⟩])∧Grew w (.slice Av nv cv) w9 v9):=Lib.hid ⟨ho9,(HS.out.2.under H1.out.1).trans hg9⟩;clear ho9 hg9))
       go_ret
       exact ⟨_,rfl,by rw [HF.out,HTX.out];exact HA9.out.1,HA9.out.2⟩
end Go.Proofs.YtgnpckelbokniaaGreatDoor
