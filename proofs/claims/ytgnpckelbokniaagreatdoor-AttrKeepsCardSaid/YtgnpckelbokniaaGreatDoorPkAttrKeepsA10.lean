import Derived.Test.YtgnpckelbokniaaGreatDoorPkAttrKeepsA08
import Derived.Test.YtgnpckelbokniaaGreatDoorPkAttrKeepsA00
namespace Go.Proofs.YtgnpckelbokniaaGreatDoor
open Go.RowKit
set_option linter.unusedVariables false
set_option linter.unusedSimpArgs false
theorem dirW_known (d:Int):knownN.contains (dirW d)=true:=by
 unfold dirW
 split
 · decide
 · split
   · decide
   · split <;> decide
theorem known_bs {n:Tx} {v:ByteArray} (h:knownN.contains n=true):known ⟨bs n,v⟩=true:=by
 unfold known
 rw [tx_bs]
 exact h
theorem attrsC_known (c:CodecS):∀a∈attrsC c,known a=true:=by
 intro a ha
 unfold attrsC formatA at ha
 rw [List.mem_cons,List.mem_append] at ha
 rcases ha with rfl | ha | ha
 · exact known_bs (by decide)
 · split at ha
   · cases ha
   · rw [List.mem_singleton] at ha
     subst ha
     exact known_bs (by decide)
 · obtain ⟨f,_,rfl⟩:=List.mem_map.1 ha
   exact known_bs (by decide)
theorem attrsM_known (m:MediaS):(attrsM m).filter known=attrsM m:=by
 rw [List.filter_eq_self]
 intro a ha
 unfold attrsM attrsR at ha
 simp only [List.mem_cons,List.mem_append] at ha
 rcases ha with rfl | rfl | ha | ha | (ha | ha) | ha | ha | ha
 · exact known_bs (by decide)
 · exact known_bs (dirW_known _)
 · obtain ⟨c,_,hc⟩:=List.mem_flatMap.1 ha
   exact attrsC_known c a hc
 · obtain ⟨x,_,rfl⟩:=List.mem_map.1 ha
   exact known_bs (by decide)
 · obtain ⟨x,_,rfl⟩:=List.mem_map.1 ha
   exact known_bs (by decide)
 · split at ha
   · cases ha
   · rw [List.mem_singleton] at ha
     subst ha
     exact known_bs (by decide)
 · obtain ⟨x,_,rfl⟩:=List.mem_map.1 ha
   exact known_bs (by decide)
 · obtain ⟨x,_,rfl⟩:=List.mem_map.1 ha
   exact known_bs (by decide)
 · split at ha
   · rw [List.mem_singleton] at ha
     subst ha
     exact known_bs (by decide)
   · cases ha
theorem isM_part {m:MediaS} (h:mayM m=true):IsM (partM m) m:=⟨h,(tx_bs _).symm,rfl,(attrsM_known m).symm⟩
theorem encK_le:∀(n:Nat) (l:Tx),l.length≤n→(encK l).length≤2 * n
 | n,[],_=>by simp [encK]
 | n,[_],_=>by simp [encK]
 | n,[_,_],_=>by simp [encK]
 | n,a :: b :: c :: r,h=>by
   have h2:r.length≤n - 3:=by simp at h;omega
   have:=encK_le (n - 3) r h2
   have h3:3≤n:=by simp at h;omega
   show ((enc3 a b c)++encK r).length≤_
   rw [List.length_append]
   show 4+(encK r).length≤_
   omega
theorem decI_le19 {n:Int} (h:n≤9223372036854775807):(decI n).length≤19:=by
 have:=decI_len h
 rwa [bs_size] at this
theorem dec_le19 {n:Nat} (h:n<4294967296):(dec n).length≤19:=by
 have:=decI_le19 (n:=(n:Int)) (by omega)
 unfold decI at this
 simpa using this
theorem wayW_len (b:Bool):(wayW b).length=4:=by cases b <;> rfl
theorem semi_le:∀(L:List ByteArray),(∀r∈L,r.size≤8)→(semi L).length≤9 * L.length
 | [],_=>by simp [semi]
 | [a],h=>by
   have:=h a (by simp)
   show (tx a).length≤9
   rw [tx_length];omega
 | a :: b :: r,h=>by
   have h1:=h a (by simp)
   have h2:=semi_le (b :: r) (fun x hx=>h x (by simp [hx]))
   show (tx a++59 :: semi (b :: r)).length≤_
   rw [List.length_append,List.length_cons,tx_length]
   simp only [List.length_cons] at h2 ⊢
   omega
theorem typesT_le:∀(L:List CodecS),(∀c∈L,c.type≤127)→(typesT L).length≤20 * L.length
 | [],_=>by simp [typesT]
 | c :: L,h=>by
   have h1:=decI_le19 (n:=c.type) (by have:=h c (by simp);omega)
   have h2:=typesT_le L (fun x hx=>h x (by simp [hx]))
   unfold typesT at h2 ⊢
   rw [List.flatMap_cons,List.length_append]
   simp only [List.length_cons] at *
   omega
theorem sizR_part {m:MediaS} (h:mayM m=true) (ht:TypedM m):SizR (partM m):=by
 have hm:goodM m=true∧(attrsM m).length≤64:=by
  unfold mayM at h
  rw [Bool.and_eq_true,decide_eq_true_eq] at h
  exact h
 obtain ⟨hp,hw,hd,hk,hg⟩:=goodM_parts hm.1
 refine ⟨?_,?_,by show (attrsM m).length≤_;omega⟩
 · show (bs (lineM m)).size≤_
   rw [bs_size]
   unfold lineM
   have h1:=kindW_len m.kind
   rw [bs_size] at h1
   have h2:=decI_le19 (n:=m.port) (by omega)
   have h3:=typesT_le m.codecs (fun c hc=>(goodC_parts (hg.codecs c hc)).1.2)
   have h4:=hg.counts.1
   simp only [List.length_append,List.length_cons]
   split
   · show _+(_+1+(27+1))≤_ <;> simp <;> omega
   · simp only [List.length_append]
     show _≤_
     have:wStreams.length=9:=rfl
     omega
 · intro a ha
   have ha:a∈attrsM m:=ha
   unfold attrsM attrsR at ha
   simp only [List.mem_cons,List.mem_append] at ha
   rcases ha with rfl | rfl | ha | ha | (ha | ha) | ha | ha | ha
   · have:=(wordP_len hw).2
     rw [tx_length] at this
     show m.mid.size≤_
     omega
   · show (bs []).size≤_
     rw [bs_size];simp
   · obtain ⟨c,hc,ha⟩:=List.mem_flatMap.1 ha
     obtain ⟨⟨t0,t1⟩,hn,⟨k0,k1⟩,hch,hf,hfl,hfe⟩:=goodC_parts (hg.codecs c hc)
     have d1:=decI_le19 (n:=c.type) (by omega)
     have d2:=decI_le19 (n:=c.clock) (by omega)
     have d3:=(wordP_len hn).2
     unfold attrsC formatA at ha
     rw [List.mem_cons,List.mem_append] at ha
     rcases ha with rfl | ha | ha
     · show (bs (codecT c)).size≤_
       rw [bs_size]
       unfold codecT
       have:(if c.chans=2 then ([47,50]:Tx) else []).length≤2:=by split <;> simp
       simp only [List.length_append,List.length_cons]
       omega
     · split at ha
       · cases ha
       · next he =>
         rw [List.mem_singleton] at ha
         subst ha
         show (bs (headT c.type (tx c.format))).size≤_
         rw [bs_size]
         unfold headT
         rcases hf with hf | hf
         · exact absurd hf he
         · have:=plain_len hf
           simp only [List.length_append,List.length_cons]
           omega
     · obtain ⟨f,hfm,rfl⟩:=List.mem_map.1 ha
       have:=plain_len (hfe f hfm)
       show (bs (headT c.type (tx f))).size≤_
       rw [bs_size]
       unfold headT
       simp only [List.length_append,List.length_cons]
       omega
   · obtain ⟨x,hx,rfl⟩:=List.mem_map.1 ha
     have hgx:=hg.exts x hx
     unfold goodE at hgx
     simp only [Bool.and_eq_true,decide_eq_true_eq] at hgx
     have d1:=decI_le19 (n:=x.id) (by omega)
     have hu:(tx x.uri).length≤100:=by
      have:=hgx.2
      unfold uriP at this
      simp only [Bool.and_eq_true,decide_eq_true_eq] at this
      exact this.1.2
     show (bs (headT x.id (tx x.uri))).size≤_
     rw [bs_size]
     unfold headT
     simp only [List.length_append,List.length_cons]
     omega
   · obtain ⟨x,hx,rfl⟩:=List.mem_map.1 ha
     have h1:=(wordP_len (hg.rids x hx)).2
     have h2:=wayW_len m.sending
     show (bs (tx x++32 :: wayW m.sending)).size≤_
     rw [bs_size,List.length_append,List.length_cons]
     omega
   · split at ha
     · cases ha
     · rw [List.mem_singleton] at ha
       subst ha
       have h2:=wayW_len m.sending
       have h3:=semi_le m.rids (fun r hr=>by have:=(wordP_len (hg.rids r hr)).2;rw [tx_length] at this;exact this)
       have h4:=hg.counts.2.2.1
       show (bs (wayW m.sending++32 :: semi m.rids)).size≤_
       rw [bs_size,List.length_append,List.length_cons]
       omega
   · obtain ⟨x,hx,rfl⟩:=List.mem_map.1 ha
     have:=dec_le19 (ht.1 x hx)
     show (bs (dec x)).size≤_
     rw [bs_size]
     omega
   · obtain ⟨x,hx,rfl⟩:=List.mem_map.1 ha
     have hgx:=hg.crypto x hx
     unfold goodY at hgx
     simp only [Bool.and_eq_true,decide_eq_true_eq] at hgx
     have d1:=decI_le19 (n:=x.tag) (by omega)
     have d2:=encK_le 30 x.key (by rw [ht.2 x hx];exact Nat.le_refl _)
     show (bs (cryptoT x)).size≤_
     rw [bs_size]
     unfold cryptoT
     simp only [List.length_append]
     have:wInline.length=32:=rfl
     omega
   · split at ha
     · rw [List.mem_singleton] at ha
       subst ha
       have:=decI_le19 (n:=m.sctp) (by have:=hg.port;omega)
       show (bs (decI m.sctp)).size≤_
       rw [bs_size]
       omega
     · cases ha
theorem ReadO.is {p:PartS} {w w':World} {e:Ending} {m:MediaS} (h:ReadO p w e w') (hi:IsM p m) (ht:TypedM m):∃vC vE vR vS vY bm cs,e=.returned (.tuple #[.agg (mcell m vC vE vR vS vY),.int .i64 0])∧Below w.heap.size w w'∧MW w.heap.size bm 64 w' m cs vC vE vR vS vY:=by
 obtain ⟨m',vC,vE,vR,vS,vY,er,rfl,hb,h⟩:=h
 rcases h with ⟨rfl,h1,bm,cs,hM⟩ | ⟨rfl,-,h2⟩
 · have e1:=IsM.read rP_law hi ht
   have e2:=IsM.read rP_law h1 hM.siz.typed
   obtain rfl:m'=m:=by rw [←e1,←e2]
   exact ⟨vC,vE,vR,vS,vY,bm,cs,rfl,hb,hM⟩
 · exact absurd hi (h2 m ht)
theorem sameTexts_yes (v1 v2:Value) (L:List ByteArray) (w:World) (h1:TextsV w w.heap.size v1 L) (h2:TextsV w w.heap.size v2 L):Calls Tryz.prog 26 #[v1,v2] w fun e w'=>e=.returned (.bool true)∧Below w.heap.size w w':=by
 obtain ⟨A1,c1,rfl,hc1,hm1,_⟩:=Rows.form h1
 obtain ⟨A2,c2,rfl,hc2,hm2,_⟩:=Rows.form h2
 have H1:=Lib.hid h1
 have H2:=Lib.hid h2
 obtain ⟨n,hn⟩:∃n,L.length=n:=⟨_,rfl⟩
 have HN:=Lib.hid hn
 rw [hn] at hc1 hc2 ⊢
 unfold maxLen at hm1 hm2
 clear hn h1 h2
 go_enter Tryz.func26,Tryz.ntmps26
 go_wp2
 go_loopw [13,5] (fun s13 _ wr=>∃k:Nat,k≤n∧s13=.int .i64 k∧Below w.heap.size w wr) (fun s13 _ _=>n - (intOf s13).toNat)
 case atStart=>exact ⟨0,Nat.zero_le _,rfl,Below.refl _ w⟩
 case round =>
  obtain ⟨k,hk,rfl,hb⟩:=hrel
  have HB:=Lib.hid hb
  clear hb
  by_cases hlt:k<n
  · have hlt':k<L.length:=by rw [HN.out];exact hlt
    obtain ⟨ad1,c1',e1,b1,x0⟩:=(H1.out.below HB.out).at_ hlt'
    obtain ⟨ad2,c2',e2,b2,y0⟩:=(H2.out.below HB.out).at_ hlt'
    injection e1 with e1 e1n e1c;clear e1n e1c
    injection e2 with e2 e2n e2c;clear e2n e2c
    subst e1 e2
    obtain ⟨a,ha⟩:∃a,L.getD k default=a:=⟨_,rfl⟩
    rw [ha] at x0 y0
    have hk0:(0:Int)≤(k:Int):=by omega
    have hk1:(k:Int)<(n:Int):=by omega
    clear ha hlt' b1 b2
    go_upto_region 6 with fail
    go_quiet (fail)
    go_wp2
    go_roundw
    case rel=>exact ⟨k+1,by omega,by go_num,below_drewN' HB.out _⟩
    case measure=>simp [intOf];omega
  · obtain rfl:k=n:=by omega
    go_wp2
    go_ret
    exact ⟨rfl,HB.out⟩
end Go.Proofs.YtgnpckelbokniaaGreatDoor
