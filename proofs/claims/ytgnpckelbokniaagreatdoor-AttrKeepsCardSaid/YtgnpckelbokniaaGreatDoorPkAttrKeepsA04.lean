import Derived.Test.YtgnpckelbokniaaGreatDoorPkAttrKeepsA03
import Derived.Test.YtgnpckelbokniaaGreatDoorPkAttrKeepsA01
namespace Go.Proofs.YtgnpckelbokniaaGreatDoor
open Go.RowKit
set_option linter.unusedVariables false
set_option linter.unusedSimpArgs false
set_option maxHeartbeats 800000 in
theorem clone_any (s:ByteArray) (w:World) (hs:s.size≤281474976710656):Calls Tryz.prog 24 #[.string s] w fun e w'=>e=.returned (.string s)∧Below w.heap.size w w':=by
 have HC:=Lib.hid (Tryz.stringslite_Clone s w hs)
 go_enter Tryz.func24,Tryz.ntmps24
 go_wp2_with (go_at_call 57;(with_reducible refine HC.out.mono ?_);rintro e w1 ⟨rfl,hb1⟩)
 go_ret
 exact ⟨rfl,hb1⟩
structure AIn (w0:World) (M:Array Value) (w:World) (v:Value) (L:List AttrS):Prop where
 own:AtO w w0.heap.size v L
 low:Below w0.heap.size w0 w
 box:Whole w w0.heap.size 28 M
structure It (w0:World) (M:Array Value) (g:Nat) (T:TypeId) (X:Array Value) (w:World):Prop where
 low:Below w0.heap.size w0 w
 box:Whole w w0.heap.size 28 M
 it:Whole w g T X
theorem It.under {w0 w w':World} {M X:Array Value} {g:Nat} {T:TypeId} (h:It w0 M g T X w) (hb:Below w.heap.size w w'):It w0 M g T X w':=⟨h.low.trans (hb.mono h.low.size),h.box.under hb,h.it.under hb⟩
theorem It.drew {w0 w:World} {M X:Array Value} {g:Nat} {T:TypeId} (h:It w0 M g T X w):It w0 M g T X w.drew:=⟨h.low.drew,h.box,h.it⟩
theorem It.alloc {w0 w:World} {M X:Array Value} {g:Nat} {T:TypeId} (h:It w0 M g T X w) (o:Obj):It w0 M g T X (w.alloc o):=h.under ((Below.refl _ w).alloc (Nat.le_refl _) o)
theorem It.add {w0 w w':World} {M X:Array Value} {g:Nat} {T:TypeId} {v v':Value} {L:List AttrS} (h:It w0 M g T X w) (ho:AtO w w0.heap.size v L) (h1:65≠T) (h2:65≠28) (hg:Grew w v w' v'):It w0 M g T X w' :=
 ⟨h.low.trans (hg.below ho.base h.low.size),hg.whole h.box (Own.apart ho h.box h2),hg.whole h.it (Own.apart ho h.it h1)⟩
theorem AIn.under {w0 w w':World} {M:Array Value} {v:Value} {L:List AttrS} (h:AIn w0 M w v L) (hb:Below w.heap.size w w'):AIn w0 M w' v L:=⟨h.own.under hb,h.low.trans (hb.mono h.low.size),h.box.under hb⟩
theorem AIn.add {w0 w w':World} {M:Array Value} {v v':Value} {L L':List AttrS} (h:AIn w0 M w v L) (ho:AtO w' w0.heap.size v' L') (hg:Grew w v w' v'):AIn w0 M w' v' L' :=
 ⟨ho,h.low.trans (hg.below h.own.base h.low.size),hg.whole h.box (Own.apart h.own h.box (by decide))⟩
theorem AIn.form {w0 w:World} {M:Array Value} {v:Value} {L:List AttrS} (h:AIn w0 M w v L):∃A n c,v=.slice A n c:=by
 obtain ⟨A,c,e,-⟩:=Own.form h.own
 exact ⟨A,_,c,e⟩
theorem AtO.two {w:World} {base:Nat} (hb:base≤w.heap.size) (a b c d:ByteArray):AtO (w.alloc (.cells #[.string a,.string b,.string c,.string d] 65)) base (.slice (some ⟨w.heap.size,0,none⟩) 2 2) [⟨a,b⟩,⟨c,d⟩] :=
 ⟨World.ownsRow_lit w _ 2 hb (by decide) rfl,fun r hr=>by simp [acell] at hr;rcases hr with rfl | rfl <;> rfl⟩
theorem attrsC_len {c:CodecS} (h:goodC c=true):(attrsC c).length≤10:=by
 obtain ⟨-,-,-,-,-,hf,-⟩:=goodC_parts h
 unfold attrsC formatA
 split <;> simp <;> omega
theorem flat_len:∀(L:List CodecS),(∀c∈L,goodC c=true)→(L.flatMap attrsC).length≤10 * L.length
 | [],_=>by simp
 | c :: L,h=>by
   have h1:=attrsC_len (h c (by simp))
   have h2:=flat_len L (fun x hx=>h x (by simp [hx]))
   rw [List.flatMap_cons,List.length_append,List.length_cons]
   omega
theorem goodM_channel {m:MediaS} (h:goodM m=true) (hk:m.kind=3):m.codecs=[]∧m.exts=[]∧m.rids=[]∧m.sources=[]∧m.crypto=[]:=by
 unfold goodM at h
 simp only [Bool.and_eq_true,Bool.or_eq_true,decide_eq_true_eq] at h
 rcases h.2 with ⟨h5 | h5,_⟩ | ⟨_,h5⟩
 · omega
 · omega
 · unfold goodChannel at h5
   simp only [Bool.and_eq_true,decide_eq_true_eq,Bool.not_eq_true'] at h5
   obtain ⟨⟨⟨h1,_⟩,_⟩,_⟩:=h5
   exact ⟨List.eq_nil_of_length_eq_zero (by omega),List.eq_nil_of_length_eq_zero (by omega),List.eq_nil_of_length_eq_zero (by omega),List.eq_nil_of_length_eq_zero (by omega),List.eq_nil_of_length_eq_zero (by omega)⟩
set_option maxHeartbeats 12800000 in
set_option maxRecDepth 100000 in
theorem attributes_any (M:Array Value) (m:MediaS) (vC vE vR vS vY:Value) (w:World) (h:MediaV w w.heap.size M m vC vE vR vS vY) (hz:SizM m) (hE:Env w) (h7:7≤w.heap.size) (hg:goodM m=true) :
 Calls Tryz.prog 20 #[.agg M] w fun e w'=>∃v,e=.returned v∧AtO w' w.heap.size v (attrsM m)∧Below w.heap.size w w':=by
 obtain ⟨AC,kC,AE,kE,AR,kR,AS,kS,AY,kY,rfl,rfl,rfl,rfl,rfl⟩:=h.forms
 obtain ⟨hform,hvC,hvE,hvR,hvS,hvY⟩:=h
 subst hform
 obtain ⟨nC,hnC⟩:∃n,m.codecs.length=n:=⟨_,rfl⟩
 obtain ⟨nE,hnE⟩:∃n,m.exts.length=n:=⟨_,rfl⟩
 obtain ⟨nR,hnR⟩:∃n,m.rids.length=n:=⟨_,rfl⟩
 obtain ⟨nS,hnS⟩:∃n,m.sources.length=n:=⟨_,rfl⟩
 obtain ⟨nY,hnY⟩:∃n,m.crypto.length=n:=⟨_,rfl⟩
 obtain ⟨hc1,hc2,hc3,hc4,hc5⟩:=hz.counts
 rw [hnC] at hvC hc1
 rw [hnE] at hvE hc2
 rw [hnR] at hvR hc3
 rw [hnS] at hvS hc4
 rw [hnY] at hvY hc5
 rw [hnC,hnE,hnR,hnS,hnY]
 have hb0:Below w.heap.size w (w.alloc (.cells #[.int .i64 m.kind,.int .i64 m.port,.string m.mid,.int .i64 m.dir,.slice AC nC kC,.slice AE nE kE,.slice AR nR kR,.bool m.sending,.slice AS nS kS,.slice AY nY kY,.int .i64 m.sctp] 28)):=(Below.refl _ w).alloc (Nat.le_refl _) _
 have hw:=Whole.new w 28 #[.int .i64 m.kind,.int .i64 m.port,.string m.mid,.int .i64 m.dir,.slice AC nC kC,.slice AE nE kE,.slice AR nR kR,.bool m.sending,.slice AS nS kS,.slice AY nY kY,.int .i64 m.sctp]
 obtain ⟨hp,hmd,⟨hd0,hd3⟩,hk,hs⟩:=goodM_parts hg
 have HGC:Hid (∀c∈m.codecs,goodC c=true):=Lib.hid hs.codecs
 have HGE:Hid (∀x∈m.exts,goodE x=true):=Lib.hid hs.exts
 have HGR:Hid (∀r∈m.rids,r.size≤8):=Lib.hid fun r hr=>by rw [←tx_length];exact (wordP_len (hs.rids r hr)).2
 have HGY:Hid (∀c∈m.crypto,goodY c=true):=Lib.hid hs.crypto
 have HTS:Hid (∀n∈m.sources,n<4294967296):=Lib.hid hz.typed.1
 have HMD:Hid (m.mid.size≤16):=Lib.hid (by rw [←tx_length];exact (wordP_len hmd).2)
 have HSC:Hid (0≤m.sctp∧m.sctp≤65535):=Lib.hid ⟨hs.low,hs.port⟩
 have HCN:=Lib.hid hs.counts
 have HK3:Hid (m.kind=3→m.codecs=[]∧m.exts=[]∧m.rids=[]∧m.sources=[]∧m.crypto=[]):=Lib.hid (goodM_channel hg)
 have HF:Hid (attrsM m=⟨bs nMid,m.mid⟩ :: ⟨bs (dirW m.dir),bs []⟩ :: (m.codecs.flatMap attrsC++(m.exts.map attrE++(attrsR m.sending m.rids++(m.sources.map attrO++(m.crypto.map attrY++(if m.kind=3 then [⟨bs nSctp,bs (decI m.sctp)⟩] else []))))))):=Lib.hid rfl
 obtain ⟨T,hT⟩:∃T,attrsM m=T:=⟨_,rfl⟩
 rw [hT] at HF ⊢
 clear hT
 have HV:=Lib.hid (And.intro hvC (And.intro hvE (And.intro hvR (And.intro hvS hvY))))
 have HNN:=Lib.hid (And.intro hnC (And.intro hnE (And.intro hnR (And.intro hnS hnY))))
 have HEN:=Lib.hid hE
 have HB:=Lib.hid hb0
 have HBX:=Lib.hid hw
 obtain ⟨dj,hdj⟩:∃j:Nat,m.dir=j:=⟨m.dir.toNat,by omega⟩
 rw [hdj] at HF HB HBX ⊢
 have hj0:(0:Int)≤(dj:Int):=by omega
 have hj1:(dj:Int)<4:=by omega
 clear hd0 hd3 hdj hp hmd hs hg hvC hvE hvR hvS hvY hz hE hb0 hw hnC hnE hnR hnS hnY hk
 generalize m.codecs=LC at *
 generalize m.exts=LE at *
 generalize m.rids=LR at *
 generalize m.sources=LS at *
 generalize m.crypto=LY at *
 generalize m.kind=kd at *
 generalize m.port=p at *
 generalize m.mid=md at *
 generalize m.sctp=sc at *
 generalize m.sending=sd at *
 clear m
 obtain ⟨N,hN⟩:∃N,w.heap.size=N:=⟨_,rfl⟩
 have HNW:Hid (w.heap.size=N):=Lib.hid hN
 rw [hN] at HBX HB h7
 clear hN
 go_enter Tryz.func20,Tryz.ntmps20
 go_upto_region 1 with fail
 simp only [HNW.out]
 generalize w.alloc (.cells #[.int .i64 kd,.int .i64 p,.string md,.int .i64 (dj:Int),.slice AC nC kC,.slice AE nE kE,.slice AR nR kR,.bool sd,.slice AS nS kS,.slice AY nY kY,.int .i64 sc] 28)=W0 at *
 obtain ⟨GM,hGM⟩:∃A:Array Value,#[.int .i64 kd,.int .i64 p,.string md,.int .i64 (dj:Int),.slice AC nC kC,.slice AE nE kE,.slice AR nR kR,.bool sd,.slice AS nS kS,.slice AY nY kY,.int .i64 sc]=A:=⟨_,rfl⟩
 rw [hGM] at HBX
 have HGM:Hid (GM=#[.int .i64 kd,.int .i64 p,.string md,.int .i64 (dj:Int),.slice AC nC kC,.slice AE nE kE,.slice AR nR kR,.bool sd,.slice AS nS kS,.slice AY nY kY,.int .i64 sc]):=Lib.hid hGM.symm
 clear hGM
 have HCE:Hid (∀(W:World) i,Whole W N 28 GM→W.cell? ⟨N,i,none⟩=(#[.int .i64 kd,.int .i64 p,.string md,.int .i64 (dj:Int),.slice AC nC kC,.slice AE nE kE,.slice AR nR kR,.bool sd,.slice AS nS kS,.slice AY nY kY,.int .i64 sc]:Array Value)[i]?):=Lib.hid fun W i hW=>by rw [hW.cell i,HGM.out]
 have HN:Hid (N≤W0.heap.size):=Lib.hid (Nat.le_of_lt HBX.out.lt)
 have HG2:Hid (∀W,Below W0.heap.size W0 W→W.cell? ⟨N,2,none⟩=some (.string md)):=Lib.hid fun W hW=>HCE.out W 2 (HBX.out.under hW)
 have HG3:Hid (∀W,Below W0.heap.size W0 W→W.cell? ⟨N,3,none⟩=some (.int .i64 (dj:Int))):=Lib.hid fun W hW=>HCE.out W 3 (HBX.out.under hW)
 obtain ⟨dw,hdw⟩:∃a,bs (dirW (dj:Int))=a:=⟨_,rfl⟩
 have HE0:Hid (∀W,Below N w W→Env W):=Lib.hid fun W hW=>HEN.out.under (by rw [HNW.out];exact hW)
 have HKB:Hid (∀W W',Below W0.heap.size W0 W→Below W.heap.size W W'→Below W0.heap.size W0 W'):=Lib.hid fun W W' h1 h2=>below_chain (Nat.le_refl _) h1 h2
 have HB1:Hid (∀W,Below W0.heap.size W0 W→Below N w W):=Lib.hid fun W hW=>HB.out.trans (hW.mono HN.out)
 have HGD:Hid (∀W,Below W0.heap.size W0 W→W.cell? ⟨0,dj,none⟩=some (.string dw)):=Lib.hid fun W hW=>by rw [←hdw];exact (HE0.out W (HB1.out W hW)).dirs dj (by omega)
 rw [hdw] at HF
 clear hdw
 have HCL:Hid (∀W,Below W0.heap.size W0 W→Calls Tryz.prog 24 #[.string md] W fun e w'=>e=.returned (.string md)∧Below W.heap.size W w'):=Lib.hid fun W hW=>clone_any md W (by have:=HMD.out;omega)
 have HIN:Hid (∀W,Below W0.heap.size W0 W→AIn w GM (W.alloc (.cells #[.string ⟨#[109,105,100]⟩,.string md,.string dw,.string ⟨#[]⟩] 65)) (.slice (some ⟨W.heap.size,0,none⟩) 2 2) [⟨bs nMid,md⟩,⟨dw,bs []⟩]):=Lib.hid fun W hW=>by
  have h1:w.heap.size≤W.heap.size:=by rw [HNW.out];exact Nat.le_trans HN.out hW.size
  exact ⟨AtO.two h1 _ _ _ _,by rw [HNW.out];exact (HB1.out W hW).alloc (by rw [←HNW.out];exact h1) _,by rw [HNW.out];exact (HBX.out.under hW).alloc _⟩
 have HR0:Hid (Below W0.heap.size W0 W0.drew):=Lib.hid (Below.refl _ _).drew
 refine wp_region_held_drew (S:=fun W=>Below W0.heap.size W0 W) (by kernel_rfl) HR0.out (fun hHeld=> ?_)
 refine wpAnyH_take (i:=0) (v:=_) rfl (by as_aux_lemma=>kernel_rfl) (by as_aux_lemma=>kernel_rfl) (by as_aux_lemma=>kernel_rfl) (fun _ _ _ h=>h) (Or.inl ⟨by rfl,fun w h=>by have e0:=HG2.out w h;have e1:=HG3.out w h;have e2:=HGD.out w h;clear h;go_simp;(try with_reducible rfl)⟩) (by assumption) ?_
 simp only [Act.put,List.getElem_toArray,List.getElem_cons_succ,List.getElem_cons_zero,List.setIfInBounds_toArray,List.set_cons_succ,List.set_cons_zero]
 refine wpAnyH_take (i:=1) (v:=_) rfl (by as_aux_lemma=>kernel_rfl) (by as_aux_lemma=>kernel_rfl) (by as_aux_lemma=>kernel_rfl) (fun _ _ _ h=>h) (Or.inl ⟨by rfl,fun w h=>by have e0:=HG2.out w h;have e1:=HG3.out w h;have e2:=HGD.out w h;clear h;go_simp;(try with_reducible rfl)⟩) (by assumption) ?_
 simp only [Act.put,List.getElem_toArray,List.getElem_cons_succ,List.getElem_cons_zero,List.setIfInBounds_toArray,List.set_cons_succ,List.set_cons_zero]
 refine wpAnyH_take (i:=4) (v:=_) rfl (by as_aux_lemma=>kernel_rfl) (by as_aux_lemma=>kernel_rfl) (by as_aux_lemma=>kernel_rfl) (fun _ _ _ h=>h) (Or.inl ⟨by rfl,fun w h=>by have e0:=HG2.out w h;have e1:=HG3.out w h;have e2:=HGD.out w h;clear h;go_simp;(try with_reducible rfl)⟩) (by assumption) ?_
 simp only [Act.put,List.getElem_toArray,List.getElem_cons_succ,List.getElem_cons_zero,List.setIfInBounds_toArray,List.set_cons_succ,List.set_cons_zero]
 refine wpAnyH_take (i:=5) (v:=_) rfl (by as_aux_lemma=>kernel_rfl) (by as_aux_lemma=>kernel_rfl) (by as_aux_lemma=>kernel_rfl) (fun _ _ _ h=>h) (Or.inl ⟨by rfl,fun w h=>by have e0:=HG2.out w h;have e1:=HG3.out w h;have e2:=HGD.out w h;clear h;go_simp;(try with_reducible rfl)⟩) (by assumption) ?_
 simp only [Act.put,List.getElem_toArray,List.getElem_cons_succ,List.getElem_cons_zero,List.setIfInBounds_toArray,List.set_cons_succ,List.set_cons_zero]
 refine wpAnyH_take (i:=6) (v:=_) rfl (by as_aux_lemma=>kernel_rfl) (by as_aux_lemma=>kernel_rfl) (by as_aux_lemma=>kernel_rfl) (fun _ _ _ h=>h) (Or.inl ⟨by rfl,fun w h=>by have e0:=HG2.out w h;have e1:=HG3.out w h;have e2:=HGD.out w h;clear h;go_simp;(try with_reducible rfl)⟩) (by assumption) ?_
 simp only [Act.put,List.getElem_toArray,List.getElem_cons_succ,List.getElem_cons_zero,List.setIfInBounds_toArray,List.set_cons_succ,List.set_cons_zero]
 refine wpAnyH_take (i:=7) (v:=_) rfl (by as_aux_lemma=>kernel_rfl) (by as_aux_lemma=>kernel_rfl) (by as_aux_lemma=>kernel_rfl) (fun _ _ _ h=>h) (Or.inl ⟨by rfl,fun w h=>by have e0:=HG2.out w h;have e1:=HG3.out w h;have e2:=HGD.out w h;clear h;go_simp;(try with_reducible rfl)⟩) (by assumption) ?_
 simp only [Act.put,List.getElem_toArray,List.getElem_cons_succ,List.getElem_cons_zero,List.setIfInBounds_toArray,List.set_cons_succ,List.set_cons_zero]
 refine wpAnyH_take (i:=8) (v:=_) rfl (by as_aux_lemma=>kernel_rfl) (by as_aux_lemma=>kernel_rfl) (by as_aux_lemma=>kernel_rfl) (fun _ _ _ h=>h) (Or.inl ⟨by rfl,fun w h=>by have e0:=HG2.out w h;have e1:=HG3.out w h;have e2:=HGD.out w h;clear h;go_simp;(try with_reducible rfl)⟩) (by assumption) ?_
 simp only [Act.put,List.getElem_toArray,List.getElem_cons_succ,List.getElem_cons_zero,List.setIfInBounds_toArray,List.set_cons_succ,List.set_cons_zero]
 refine wpAnyH_ready (rs:=[2]) (by as_aux_lemma=>kernel_rfl) (by simp) ?_
 refine AllReadyH.cons (i:=2) rfl (fun K hK=> ?_) AllReadyH.nil
 go_simp
 refine (HCL.out _ hHeld).mono ?_
 rintro e w4 ⟨rfl,hb4⟩
 refine hK.out _ _ (HKB.out _ _ hHeld hb4) (fun hHeld4=> ?_)
 clear hK K hHeld
 have hHeld:=hHeld4
 clear hHeld4
 refine wpAnyH_take (i:=3) (v:=_) rfl (by as_aux_lemma=>kernel_rfl) (by as_aux_lemma=>kernel_rfl) (by as_aux_lemma=>kernel_rfl) (fun _ _ _ h=>h) (Or.inl ⟨by rfl,fun w h=>by have e0:=HG2.out w h;have e1:=HG3.out w h;have e2:=HGD.out w h;clear h;go_simp;(try with_reducible rfl)⟩) (by assumption) ?_
 simp only [Act.put,List.getElem_toArray,List.getElem_cons_succ,List.getElem_cons_zero,List.setIfInBounds_toArray,List.set_cons_succ,List.set_cons_zero]
 refine wpAnyH_ready (rs:=[9]) (by as_aux_lemma=>kernel_rfl) (by simp) ?_
 refine AllReadyH.cons (i:=9) rfl (fun K hK=> ?_) AllReadyH.nil
 go_simp
 have HA1:=Lib.hid (HIN.out _ hHeld)
 refine hK.out _ _ (hHeld.alloc hHeld.size _) (fun hHeld4=> ?_)
 clear hK K hHeld
 generalize w4.alloc (.cells #[.string ⟨#[109,105,100]⟩,.string md,.string dw,.string ⟨#[]⟩] 65)=w1 at *
 generalize w4.heap.size=g1 at *
 have hHeld:=hHeld4
 clear hHeld4
 refine wpAnyH_take (i:=10) (v:=_) rfl (by as_aux_lemma=>kernel_rfl) (by as_aux_lemma=>kernel_rfl) (by as_aux_lemma=>kernel_rfl) (fun _ _ _ h=>h) (Or.inl ⟨by rfl,fun w h=>by have e0:=HG2.out w h;have e1:=HG3.out w h;have e2:=HGD.out w h;clear h;go_simp;(try with_reducible rfl)⟩) (by assumption) ?_
 simp only [Act.put,List.getElem_toArray,List.getElem_cons_succ,List.getElem_cons_zero,List.setIfInBounds_toArray,List.set_cons_succ,List.set_cons_zero]
 refine wpAnyH_done (by as_aux_lemma=>kernel_rfl) ?_ _
 clear hHeld HG2 HG3 HGD HCL HIN HKB HR0 HB1 hj0 hj1
 have k0:w1.cell? ⟨N,0,none⟩=some (.int .i64 kd):=HCE.out w1 0 (by rw [←HNW.out];exact HA1.out.box)
 by_cases hk3:kd=3
 · obtain ⟨rfl,rfl,rfl,rfl,rfl⟩:=HK3.out hk3
   subst hk3
   have HF3:Hid (T=[⟨bs nMid,md⟩,⟨dw,bs []⟩]++[⟨bs nSctp,bs (decI sc)⟩]):=Lib.hid (by rw [HF.out];rfl)
   have k10:w1.cell? ⟨N,10,none⟩=some (.int .i64 sc):=HCE.out w1 10 (by rw [←HNW.out];exact HA1.out.box)
   have HIT:Hid (Calls Tryz.prog 48 #[.int .i64 sc] w1 fun e w'=>e=.returned (.string (bs (decI sc)))∧Below w1.heap.size w1 w'):=Lib.hid (itoa_any sc w1 (HE0.out w1 (by rw [←HNW.out];exact HA1.out.low)) HSC.out.1 (by have:=HSC.out.2;omega))
   clear HF HK3
   go_wp2_with (first | (go_at_call 48;(with_reducible refine HIT.out.mono ?_);rintro e w4 ⟨rfl,hb4⟩;have HA4:=Lib.hid (HA1.out.under hb4);clear hb4) | (at_builtin;refine wpList_addA rfl (.tmp 25) (.tmp 30) rfl rfl rfl HA4.out.own (by show 2≤1000000;decide) HA4.out.low.size ?_;intro v9 w9 ho9 hg9;have HA9:=Lib.hid (HA4.out.add ho9 hg9);clear ho9 hg9))
   go_ret
   exact ⟨_,rfl,by rw [HF3.out];exact HA9.out.own,HA9.out.low⟩
 · have k4:w1.cell? ⟨N,4,none⟩=some (.slice AC nC kC):=HCE.out w1 4 (by rw [←HNW.out];exact HA1.out.box)
   rw [if_neg hk3,List.append_nil] at HF
   clear HK3 HSC
   obtain ⟨P0,hP0⟩:∃P,[(⟨bs nMid,md⟩:AttrS),⟨dw,bs []⟩]=P:=⟨_,rfl⟩
   have HF:Hid (T=P0++LC.flatMap attrsC++LE.map attrE++attrsR sd LR++LS.map attrO++LY.map attrY):=Lib.hid (by rw [HF.out,←hP0];simp)
   have HL0:Hid (P0.length=2):=Lib.hid (by rw [←hP0];rfl)
   rw [hP0] at HA1
   clear hP0
   go_upto_region 4 with fail
   have ek3:(kd == 3)=false:=by simp [hk3]
   rw [ek3]
   clear hk3 ek3
   go_wp2
   go_loopw [35,3,5] (fun s35 s3 _ wr=>∃k:Nat,k≤nC∧s35=.int .i64 k∧AIn w GM wr s3 (P0++(LC.take k).flatMap attrsC)) (fun s35 _ _ _=>nC - (intOf s35).toNat)
   case atStart=>exact ⟨0,by omega,rfl,by simpa using HA1.out⟩
   case round =>
    obtain ⟨k,hk',rfl,hst⟩:=hrel
    have HS:=Lib.hid hst
    clear hst
    obtain ⟨Aw,nw,cw,hvw⟩:=HS.out.form
    subst hvw
    by_cases hlt:k<nC
    · have hlt':k<LC.length:=by rw [HNN.out.1];exact hlt
      obtain ⟨ad,c',vf,e1,had,d0,d1,d2,d3,d4,d5,cf⟩:=(HV.out.1.below HS.out.low).at_ hlt'
      injection e1 with e1 e1n e1c
      clear e1n e1c
      subst e1
      obtain ⟨Af,kf,hvf,-⟩:=Rows.form cf
      obtain ⟨lf,hlf⟩:∃lf,(LC.getD k default).feedback.length=lf:=⟨_,rfl⟩
      rw [hlf] at hvf
      subst hvf
      clear hlf
      have HGX:=Lib.hid (HGC.out _ (getD_mem hlt'))
      have HTK:Hid ((LC.take (k+1)).flatMap attrsC=(LC.take k).flatMap attrsC++attrsC (LC.getD k default)):=Lib.hid (by rw [List.take_add_one,getD_of hlt'];simp)
      have HFB:=Lib.hid cf
      obtain ⟨x,hx⟩:∃x,LC.getD k default=x:=⟨_,rfl⟩
      rw [hx] at d0 d1 d2 d3 d4 HGX HTK HFB
      have hk0:(0:Int)≤(k:Int):=by omega
      have hk1:(k:Int)<(nC:Int):=by omega
      have HLN:Hid ((P0++(LC.take k).flatMap attrsC).length≤900000):=Lib.hid (by
       have:=flat_len (LC.take k) (fun c hc=>HGC.out c (List.mem_of_mem_take hc))
       rw [List.length_take] at this
       rw [List.length_append,HL0.out]
       have:=HCN.out.1
       omega)
      have HNEW:Hid (Whole (wr.alloc (.cells #[.int .i64 0,.string ⟨#[]⟩,.int .i64 0,.int .i64 0,.string ⟨#[]⟩,.slice none 0 0] 31)) wr.heap.size 31 #[.int .i64 0,.string ⟨#[]⟩,.int .i64 0,.int .i64 0,.string ⟨#[]⟩,.slice none 0 0]):=Lib.hid (Whole.new _ _ _)
      have HW:Hid (AIn w GM ((wr.alloc (.cells #[.int .i64 0,.string ⟨#[]⟩,.int .i64 0,.int .i64 0,.string ⟨#[]⟩,.slice none 0 0] 31)).setRow wr.heap.size #[.int .i64 x.type,.string x.name,.int .i64 x.clock,.int .i64 x.chans,.string x.format,.slice Af lf kf]) (.slice Aw nw cw) (P0++(LC.take k).flatMap attrsC)∧Whole ((wr.alloc (.cells #[.int .i64 0,.string ⟨#[]⟩,.int .i64 0,.int .i64 0,.string ⟨#[]⟩,.slice none 0 0] 31)).setRow wr.heap.size #[.int .i64 x.type,.string x.name,.int .i64 x.clock,.int .i64 x.chans,.string x.format,.slice Af lf kf]) wr.heap.size 31 #[.int .i64 x.type,.string x.name,.int .i64 x.clock,.int .i64 x.chans,.string x.format,.slice Af lf kf]∧TextsV ((wr.alloc (.cells #[.int .i64 0,.string ⟨#[]⟩,.int .i64 0,.int .i64 0,.string ⟨#[]⟩,.slice none 0 0] 31)).setRow wr.heap.size #[.int .i64 x.type,.string x.name,.int .i64 x.clock,.int .i64 x.chans,.string x.format,.slice Af lf kf]) w.heap.size (.slice Af lf kf) x.feedback):=Lib.hid ⟨HS.out.under (below_row ((Below.refl _ wr).alloc (Nat.le_refl _) _) (Nat.le_refl _) _),HNEW.out.row _,HFB.out.below ((below_row ((Below.refl _ wr).alloc (Nat.le_refl _) _) (Nat.le_refl _) _).mono HS.out.low.size)⟩
      clear hx had hlt' cf
      go_upto_region 7 with ((with_reducible refine wpList_storeS #[.int .i64 x.type,.string x.name,.int .i64 x.clock,.int .i64 x.chans,.string x.format,.slice Af lf kf] ?_ 31 (.tmp 5) (.tmp 38) ?_ ?_ ?_ HNEW.out Tryz.sizeCodec ?_ ?_ ?_ ?_);(with_reducible rfl);(with_reducible rfl);rfl;rfl;rfl;rfl;rfl)
      generalize ((wr.alloc (.cells #[.int .i64 0,.string ⟨#[]⟩,.int .i64 0,.int .i64 0,.string ⟨#[]⟩,.slice none 0 0] 31)).setRow wr.heap.size #[.int .i64 x.type,.string x.name,.int .i64 x.clock,.int .i64 x.chans,.string x.format,.slice Af lf kf])=w2 at *
      generalize wr.heap.size=g at *
      clear d0 d1 d2 d3 d4 d5 HNEW
      have HCA:Hid (Calls Tryz.prog 49 #[.slice Aw nw cw,.agg #[.int .i64 x.type,.string x.name,.int .i64 x.clock,.int .i64 x.chans,.string x.format,.slice Af lf kf]] w2 (AddO w.heap.size w2 (.slice Aw nw cw) ((P0++(LC.take k).flatMap attrsC)++attrsC x))):=Lib.hid (addCodec_any w.heap.size _ _ x Af lf kf w2 (HEN.out.under HW.out.1.low) HW.out.1.own HLN.out HW.out.1.low.size (by rw [HNW.out];exact h7) HW.out.2.2 HGX.out)
      go_wp2_with (first | ((with_reducible refine wpList_load_all ?_ 31 (.tmp 5) ?_ HW.out.2.1 ?_ Tryz.sizeCodec ?_ Tryz.underlying31 ?_ ?_);(with_reducible rfl);(with_reducible rfl);rfl;rfl;rfl) | (go_at_call 49;(with_reducible refine HCA.out.mono ?_);rintro e w3 ⟨v3,rfl,ho3,hg3⟩;have HA3:=Lib.hid (HW.out.1.add ho3 hg3);clear ho3 hg3))
      go_roundw
      case rel=>exact ⟨k+1,by omega,by go_num,by rw [HTK.out,←List.append_assoc];exact HA3.out⟩
      case measure=>simp [intOf];omega
    · have e:k=nC:=by omega
      subst e
      have HQ:Hid (AIn w GM wr (.slice Aw nw cw) (P0++LC.flatMap attrsC)):=Lib.hid (by
       have:=HS.out
       rw [List.take_of_length_le (by rw [HNN.out.1];exact Nat.le_refl _)] at this
       exact this)
      have HL1:Hid ((P0++LC.flatMap attrsC).length≤162):=Lib.hid (by
       have:=flat_len LC HGC.out
       rw [List.length_append,HL0.out]
       have:=HCN.out.1
       omega)
      obtain ⟨P1,hP1⟩:∃P,P0++LC.flatMap attrsC=P:=⟨_,rfl⟩
      rw [hP1] at HQ HL1 HF
      clear hP1 HS HL0
      generalize wr=wa at *
      have k5:wa.cell? ⟨N,5,none⟩=some (.slice AE nE kE):=HCE.out wa 5 (by rw [←HNW.out];exact HQ.out.box)
      clear hlt hk' k0 k4
      go_wp2
      go_loopw [46,3,7] (fun s46 s3 _ wr=>∃k:Nat,k≤nE∧s46=.int .i64 k∧AIn w GM wr s3 (P1++(LE.take k).map attrE)) (fun s46 _ _ _=>nE - (intOf s46).toNat)
      case atStart=>exact ⟨0,by omega,rfl,by simpa using HQ.out⟩
      case round =>
       clear k5
       obtain ⟨k,hk',rfl,hst⟩:=hrel
       have HS:=Lib.hid hst
       clear hst
       obtain ⟨Ax,nx,cx,hvx⟩:=HS.out.form
       subst hvx
       by_cases hlt:k<nE
       · have hlt':k<LE.length:=by rw [HNN.out.2.1];exact hlt
         obtain ⟨ad,c',e1,had,d0,d1⟩:=(HV.out.2.1.below HS.out.low).at_ hlt'
         injection e1 with e1 e1n e1c
         clear e1n e1c
         subst e1
         have HGX:=Lib.hid (HGE.out _ (getD_mem hlt'))
         have HTK:Hid ((LE.take (k+1)).map attrE=(LE.take k).map attrE++[attrE (LE.getD k default)]):=Lib.hid (by rw [List.take_add_one,getD_of hlt'];simp)
         obtain ⟨x,hx⟩:∃x,LE.getD k default=x:=⟨_,rfl⟩
         rw [hx] at d0 d1 HGX HTK
         have hk0:(0:Int)≤(k:Int):=by omega
         have hk1:(k:Int)<(nE:Int):=by omega
         have HLK:Hid (∀k,(P1++(LE.take k).map attrE).length≤1000000):=Lib.hid fun k=>by
          rw [List.length_append,List.length_map,List.length_take]
          have:=HCN.out.2.1
          have:=HL1.out
          omega
         have HNEW:Hid (Whole (wr.alloc (.cells #[.int .i64 0,.string ⟨#[]⟩] 71)) wr.heap.size 71 #[.int .i64 0,.string ⟨#[]⟩]):=Lib.hid (Whole.new _ _ _)
         have HW:Hid (AIn w GM ((wr.alloc (.cells #[.int .i64 0,.string ⟨#[]⟩] 71)).setRow wr.heap.size #[.int .i64 x.id,.string x.uri]) (.slice Ax nx cx) (P1++(LE.take k).map attrE)∧Whole ((wr.alloc (.cells #[.int .i64 0,.string ⟨#[]⟩] 71)).setRow wr.heap.size #[.int .i64 x.id,.string x.uri]) wr.heap.size 71 #[.int .i64 x.id,.string x.uri]):=Lib.hid ⟨HS.out.under (below_row ((Below.refl _ wr).alloc (Nat.le_refl _) _) (Nat.le_refl _) _),HNEW.out.row _⟩
         clear hx had hlt'
         go_upto_region 12 with ((with_reducible refine wpList_storeS #[.int .i64 x.id,.string x.uri] ?_ 71 (.tmp 7) (.tmp 49) ?_ ?_ ?_ HNEW.out Tryz.sizeExt ?_ ?_ ?_ ?_);(with_reducible rfl);(with_reducible rfl);rfl;rfl;rfl;rfl;rfl)
         generalize ((wr.alloc (.cells #[.int .i64 0,.string ⟨#[]⟩] 71)).setRow wr.heap.size #[.int .i64 x.id,.string x.uri])=w2 at *
         generalize wr.heap.size=g at *
         clear d0 d1 HNEW
         have hxi:1≤x.id∧x.id≤14∧x.uri.size≤100:=by
          have h:=HGX.out
          unfold goodE uriP at h
          simp only [Bool.and_eq_true,decide_eq_true_eq] at h
          rw [←tx_length]
          exact ⟨h.1.1,h.1.2,h.2.1.2⟩
         obtain ⟨hx1,hx2,hx3⟩:=hxi
         have hdl:=decI_len (n:=x.id) (by omega)
         obtain ⟨dt,hdt⟩:∃dt,bs (decI x.id)=dt:=⟨_,rfl⟩
         have HIT:Hid (∀W,It w GM g 71 #[.int .i64 x.id,.string x.uri] W→Calls Tryz.prog 48 #[.int .i64 x.id] W fun e w'=>e=.returned (.string dt)∧Below W.heap.size W w'):=Lib.hid fun W hW=>by
          rw [←hdt]
          exact itoa_any x.id W (HEN.out.under hW.low) (by omega) (by omega)
         have HTX:Hid (attrE x=⟨bs nExt,dt++⟨#[32]⟩++x.uri⟩):=Lib.hid (by
          unfold attrE
          congr 1
          exact (tx_inj (by rw [tx_append,tx_append,←hdt,tx_bs,tx_bs];simp [tx,headT])).symm)
         rw [hdt] at hdl
         clear hdt
         have HG0:Hid (∀W,It w GM g 71 #[.int .i64 x.id,.string x.uri] W→W.cell? ⟨g,0,none⟩=some (.int .i64 x.id)):=Lib.hid fun W hW=>hW.it.cell 0
         have HG1:Hid (∀W,It w GM g 71 #[.int .i64 x.id,.string x.uri] W→W.cell? ⟨g,1,none⟩=some (.string x.uri)):=Lib.hid fun W hW=>hW.it.cell 1
         have HO:Hid (AtO w2.drew w.heap.size (.slice Ax nx cx) (P1++(LE.take k).map attrE)):=Lib.hid HW.out.1.own
         have HR0:Hid (It w GM g 71 #[.int .i64 x.id,.string x.uri] w2.drew):=Lib.hid (It.drew ⟨HW.out.1.low,HW.out.1.box,HW.out.2⟩)
         have q1:¬9223372036854775807<dt.size+1:=by omega
         have q2:¬9223372036854775807<dt.size+1+x.uri.size:=by omega
         clear hx1 hx2 hx3 hdl
         refine wp_region_held_drew (S:=fun W=>It w GM g 71 #[.int .i64 x.id,.string x.uri] W) (by kernel_rfl) HR0.out (fun hHeld=> ?_)
         refine wpAnyH_take (i:=0) (v:=_) rfl (by as_aux_lemma=>kernel_rfl) (by as_aux_lemma=>kernel_rfl) (by as_aux_lemma=>kernel_rfl) (fun _ _ _ h=>h) (Or.inl ⟨by rfl,fun w h=>by have e0:=HG0.out w h;have e1:=HG1.out w h;clear h;go_simp;(try with_reducible rfl)⟩) (by assumption) ?_
         simp only [Act.put,List.getElem_toArray,List.getElem_cons_succ,List.getElem_cons_zero,List.setIfInBounds_toArray,List.set_cons_succ,List.set_cons_zero]
         refine wpAnyH_take (i:=1) (v:=_) rfl (by as_aux_lemma=>kernel_rfl) (by as_aux_lemma=>kernel_rfl) (by as_aux_lemma=>kernel_rfl) (fun _ _ _ h=>h) (Or.inl ⟨by rfl,fun w h=>by have e0:=HG0.out w h;have e1:=HG1.out w h;clear h;go_simp;(try with_reducible rfl)⟩) (by assumption) ?_
         simp only [Act.put,List.getElem_toArray,List.getElem_cons_succ,List.getElem_cons_zero,List.setIfInBounds_toArray,List.set_cons_succ,List.set_cons_zero]
         refine wpAnyH_take (i:=2) (v:=_) rfl (by as_aux_lemma=>kernel_rfl) (by as_aux_lemma=>kernel_rfl) (by as_aux_lemma=>kernel_rfl) (fun _ _ _ h=>h) (Or.inl ⟨by rfl,fun w h=>by have e0:=HG0.out w h;have e1:=HG1.out w h;clear h;go_simp;(try with_reducible rfl)⟩) (by assumption) ?_
         simp only [Act.put,List.getElem_toArray,List.getElem_cons_succ,List.getElem_cons_zero,List.setIfInBounds_toArray,List.set_cons_succ,List.set_cons_zero]
         refine wpAnyH_take (i:=5) (v:=_) rfl (by as_aux_lemma=>kernel_rfl) (by as_aux_lemma=>kernel_rfl) (by as_aux_lemma=>kernel_rfl) (fun _ _ _ h=>h) (Or.inl ⟨by rfl,fun w h=>by have e0:=HG0.out w h;have e1:=HG1.out w h;clear h;go_simp;(try with_reducible rfl)⟩) (by assumption) ?_
         simp only [Act.put,List.getElem_toArray,List.getElem_cons_succ,List.getElem_cons_zero,List.setIfInBounds_toArray,List.set_cons_succ,List.set_cons_zero]
         refine wpAnyH_take (i:=6) (v:=_) rfl (by as_aux_lemma=>kernel_rfl) (by as_aux_lemma=>kernel_rfl) (by as_aux_lemma=>kernel_rfl) (fun _ _ _ h=>h) (Or.inl ⟨by rfl,fun w h=>by have e0:=HG0.out w h;have e1:=HG1.out w h;clear h;go_simp;(try with_reducible rfl)⟩) (by assumption) ?_
         simp only [Act.put,List.getElem_toArray,List.getElem_cons_succ,List.getElem_cons_zero,List.setIfInBounds_toArray,List.set_cons_succ,List.set_cons_zero]
         refine wpAnyH_ready (rs:=[3]) (by as_aux_lemma=>kernel_rfl) (by simp) ?_
         refine AllReadyH.cons (i:=3) rfl (fun K hK=> ?_) AllReadyH.nil
         go_simp
         refine (HIT.out _ hHeld).mono ?_
         rintro e w4 ⟨rfl,hb4⟩
         have HO4:=Lib.hid (And.intro (AtO.under HO.out hb4) (hHeld.under hb4))
         refine hK.out _ _ (hHeld.under hb4) (fun hHeld4=> ?_)
         clear hb4
         clear hK K hHeld
         have hHeld:=hHeld4
         clear hHeld4
         refine wpAnyH_take (i:=4) (v:=_) rfl (by as_aux_lemma=>kernel_rfl) (by as_aux_lemma=>kernel_rfl) (by as_aux_lemma=>kernel_rfl) (fun _ _ _ h=>h) (Or.inl ⟨by rfl,fun w h=>by have e0:=HG0.out w h;have e1:=HG1.out w h;clear h;go_simp;(try with_reducible rfl)⟩) (by assumption) ?_
         simp only [Act.put,List.getElem_toArray,List.getElem_cons_succ,List.getElem_cons_zero,List.setIfInBounds_toArray,List.set_cons_succ,List.set_cons_zero]
         refine wpAnyH_take (i:=7) (v:=_) rfl (by as_aux_lemma=>kernel_rfl) (by as_aux_lemma=>kernel_rfl) (by as_aux_lemma=>kernel_rfl) (fun _ _ _ h=>h) (Or.inl ⟨by rfl,fun w h=>by have e0:=HG0.out w h;have e1:=HG1.out w h;clear h;go_simp;(try with_reducible rfl)⟩) (by assumption) ?_
         simp only [Act.put,List.getElem_toArray,List.getElem_cons_succ,List.getElem_cons_zero,List.setIfInBounds_toArray,List.set_cons_succ,List.set_cons_zero]
         refine wpAnyH_take (i:=8) (v:=_) rfl (by as_aux_lemma=>kernel_rfl) (by as_aux_lemma=>kernel_rfl) (by as_aux_lemma=>kernel_rfl) (fun _ _ _ h=>h) (Or.inl ⟨by rfl,fun w h=>by have e0:=HG0.out w h;have e1:=HG1.out w h;clear h;go_simp;(try with_reducible rfl)⟩) (by assumption) ?_
         simp only [Act.put,List.getElem_toArray,List.getElem_cons_succ,List.getElem_cons_zero,List.setIfInBounds_toArray,List.set_cons_succ,List.set_cons_zero]
         refine wpAnyH_ready (rs:=[9]) (by as_aux_lemma=>kernel_rfl) (by simp) ?_
         refine AllReadyH.cons (i:=9) rfl (fun K hK=> ?_) AllReadyH.nil
         go_simp
         refine hK.out _ _ (hHeld.alloc _) (fun hHeld4=> ?_)
         clear hK K hHeld
         have hHeld:=hHeld4
         clear hHeld4
         refine wpAnyH_ready (rs:=[10]) (by as_aux_lemma=>kernel_rfl) (by simp) ?_
         refine AllReadyH.cons (i:=10) rfl (fun K hK=> ?_) AllReadyH.nil
         refine step_of rfl (wp_addA (.tmp 50) (.tmp 59) rfl rfl rfl HO4.out.1 (HLK.out k) HO4.out.2.low.size ?_)
         intro v9 w9 ho9 hg9
         have HA9:Hid (AIn w GM w9 v9 (P1++(LE.take (k+1)).map attrE)):=Lib.hid ⟨by rw [HTK.out,←List.append_assoc,HTX.out];exact ho9,(HO4.out.2.add HO4.out.1 (by decide) (by decide) hg9).low,(HO4.out.2.add HO4.out.1 (by decide) (by decide) hg9).box⟩
         refine hK.out _ _ (HO4.out.2.add HO4.out.1 (by decide) (by decide) hg9) (fun hHeld4=> ?_)
         clear ho9 hg9
         clear hK K hHeld
         have hHeld:=hHeld4
         clear hHeld4
         refine wpAnyH_take (i:=11) (v:=_) rfl (by as_aux_lemma=>kernel_rfl) (by as_aux_lemma=>kernel_rfl) (by as_aux_lemma=>kernel_rfl) (fun _ _ _ h=>h) (Or.inl ⟨by rfl,fun w h=>by have e0:=HG0.out w h;have e1:=HG1.out w h;clear h;go_simp;(try with_reducible rfl)⟩) (by assumption) ?_
         simp only [Act.put,List.getElem_toArray,List.getElem_cons_succ,List.getElem_cons_zero,List.setIfInBounds_toArray,List.set_cons_succ,List.set_cons_zero]
         refine wpAnyH_done (by as_aux_lemma=>kernel_rfl) ?_ _
         clear hHeld q1 q2
         go_wp2
         go_roundw
         case rel=>exact ⟨k+1,by omega,by go_num,HA9.out⟩
         case measure=>simp [intOf];omega
       · have e:k=nE:=by omega
         subst e
         have HQ:Hid (AIn w GM wr (.slice Ax nx cx) (P1++LE.map attrE)):=Lib.hid (by
          have:=HS.out
          rw [List.take_of_length_le (by rw [HNN.out.2.1];exact Nat.le_refl _)] at this
          exact this)
         have HL2:Hid ((P1++LE.map attrE).length≤180):=Lib.hid (by
          rw [List.length_append,List.length_map]
          have:=HCN.out.2.1
          have:=HL1.out
          omega)
         obtain ⟨P2,hP2⟩:∃P,P1++LE.map attrE=P:=⟨_,rfl⟩
         rw [hP2] at HQ HL2 HF
         clear hP2 HS HL1
         generalize wr=wa at *
         have k6:wa.cell? ⟨N,6,none⟩=some (.slice AR nR kR):=HCE.out wa 6 (by rw [←HNW.out];exact HQ.out.box)
         have k7:wa.cell? ⟨N,7,none⟩=some (.bool sd):=HCE.out wa 7 (by rw [←HNW.out];exact HQ.out.box)
         have HCR:Hid (Calls Tryz.prog 50 #[.slice Ax nx cx,.slice AR nR kR,.bool sd] wa (AddO w.heap.size wa (.slice Ax nx cx) (P2++attrsR sd LR))):=Lib.hid (addRids_any w.heap.size _ P2 LR sd AR nR kR wa HQ.out.own (by have:=HL2.out;omega) HQ.out.low.size (HV.out.2.2.1.below HQ.out.low) HCN.out.2.2.1 HGR.out)
         clear hlt hk'
         go_upto_region 15 with (go_at_call 50;(with_reducible refine HCR.out.mono ?_);rintro e w3 ⟨v3,rfl,ho3,hg3⟩;have HA3:=Lib.hid (HQ.out.add ho3 hg3);clear ho3 hg3)
         have HL3:Hid ((P2++attrsR sd LR).length≤190):=Lib.hid (by
          have h3:=HCN.out.2.2.1
          have:=HL2.out
          have h4:(attrsR sd LR).length≤LR.length+1:=by
           unfold attrsR
           split <;> simp
          rw [List.length_append]
          omega)
         obtain ⟨P3,hP3⟩:∃P,P2++attrsR sd LR=P:=⟨_,rfl⟩
         rw [hP3] at HA3 HL3 HF
         clear hP3 HL2 HCR HQ k6 k7
         obtain ⟨Ay,ny,cy,hvy⟩:=HA3.out.form
         subst hvy
         have k8:w3.cell? ⟨N,8,none⟩=some (.slice AS nS kS):=HCE.out w3 8 (by rw [←HNW.out];exact HA3.out.box)
         go_wp2
         go_loopw [71,3,9] (fun s71 s3 _ wr=>∃k:Nat,k≤nS∧s71=.int .i64 k∧AIn w GM wr s3 (P3++(LS.take k).map attrO)) (fun s71 _ _ _=>nS - (intOf s71).toNat)
         case atStart=>exact ⟨0,by omega,rfl,by simpa using HA3.out⟩
         case round =>
          clear k8
          obtain ⟨k,hk',rfl,hst⟩:=hrel
          have HS:=Lib.hid hst
          clear hst
          obtain ⟨Az,nz,cz,hvz⟩:=HS.out.form
          subst hvz
          by_cases hlt:k<nS
          · have hlt':k<LS.length:=by rw [HNN.out.2.2.2.1];exact hlt
            obtain ⟨ad,c',e1,had,d0⟩:=(HV.out.2.2.2.1.below HS.out.low).at_ hlt'
            injection e1 with e1 e1n e1c
            clear e1n e1c
            subst e1
            have hn:=HTS.out _ (getD_mem hlt')
            have HTK:Hid ((LS.take (k+1)).map attrO=(LS.take k).map attrO++[attrO (LS.getD k default)]):=Lib.hid (by rw [List.take_add_one,getD_of hlt'];simp)
            obtain ⟨x,hx⟩:∃x,LS.getD k default=x:=⟨_,rfl⟩
            rw [hx] at d0 HTK hn
            have hk0:(0:Int)≤(k:Int):=by omega
            have hk1:(k:Int)<(nS:Int):=by omega
            have hx0:(0:Int)≤(x:Int):=by omega
            have hx1:(x:Int)<18446744073709551616:=by omega
            have HLK:Hid ((P3++(LS.take k).map attrO).length≤1000000):=Lib.hid (by
             rw [List.length_append,List.length_map,List.length_take]
             have:=HCN.out.2.2.2.1
             have:=HL3.out
             omega)
            have HFU:Hid (Calls Tryz.prog 51 #[.int .u64 x,.int .i64 10] wr fun e w'=>e=.returned (.string (bs (dec x)))∧Below wr.heap.size wr w'):=Lib.hid (formatUint_any x wr (HEN.out.under HS.out.low) (by omega))
            clear hx had hlt' hn
            go_wp2_with (first | (go_at_call 51;(with_reducible refine HFU.out.mono ?_);rintro e w4 ⟨rfl,hb4⟩;have HA4:=Lib.hid (HS.out.under hb4);clear hb4) | (at_builtin;refine wpList_addA rfl (.tmp 75) (.tmp 80) rfl rfl rfl HA4.out.own HLK.out HA4.out.low.size ?_;intro v9 w9 ho9 hg9;have HA9:Hid (AIn w GM w9 v9 (P3++(LS.take (k+1)).map attrO)):=Lib.hid (HA4.out.add (by rw [HTK.out,←List.append_assoc];exact ho9) hg9);clear ho9 hg9))
            go_roundw
            case rel=>exact ⟨k+1,by omega,by go_num,HA9.out⟩
            case measure=>simp [intOf];omega
          · have e:k=nS:=by omega
            subst e
            have HQ:Hid (AIn w GM wr (.slice Az nz cz) (P3++LS.map attrO)):=Lib.hid (by
             have:=HS.out
             rw [List.take_of_length_le (by rw [HNN.out.2.2.2.1];exact Nat.le_refl _)] at this
             exact this)
            have HL4:Hid ((P3++LS.map attrO).length≤210):=Lib.hid (by
             rw [List.length_append,List.length_map]
             have:=HCN.out.2.2.2.1
             have:=HL3.out
             omega)
            obtain ⟨P4,hP4⟩:∃P,P3++LS.map attrO=P:=⟨_,rfl⟩
            rw [hP4] at HQ HL4 HF
            clear hP4 HS HL3 HA3
            generalize wr=wa at *
            have k9:wa.cell? ⟨N,9,none⟩=some (.slice AY nY kY):=HCE.out wa 9 (by rw [←HNW.out];exact HQ.out.box)
            clear hlt hk'
            go_wp2
            go_loopw [86,3,11] (fun s86 s3 _ wr=>∃k:Nat,k≤nY∧s86=.int .i64 k∧AIn w GM wr s3 (P4++(LY.take k).map attrY)) (fun s86 _ _ _=>nY - (intOf s86).toNat)
            case atStart=>exact ⟨0,by omega,rfl,by simpa using HQ.out⟩
            case round =>
             clear k9
             obtain ⟨k,hk',rfl,hst⟩:=hrel
             have HS:=Lib.hid hst
             clear hst
             obtain ⟨Aq,nq,cq,hvq⟩:=HS.out.form
             subst hvq
             by_cases hlt:k<nY
             · have hlt':k<LY.length:=by rw [HNN.out.2.2.2.2];exact hlt
               obtain ⟨ad,c',e1,had,c30,cj⟩:=(HV.out.2.2.2.2.below HS.out.low).at_ hlt'
               injection e1 with e1 e1n e1c
               clear e1n e1c
               subst e1
               have HGX:=Lib.hid (HGY.out _ (getD_mem hlt'))
               have HTK:Hid ((LY.take (k+1)).map attrY=(LY.take k).map attrY++[attrY (LY.getD k default)]):=Lib.hid (by rw [List.take_add_one,getD_of hlt'];simp)
               obtain ⟨x,hx⟩:∃x,LY.getD k default=x:=⟨_,rfl⟩
               rw [hx] at c30 cj HGX HTK
               have HJ:=Lib.hid cj
               have H30:=Lib.hid c30
               have H31:Hid ((cryC x).length=31):=Lib.hid (cryC_len c30)
               have hk0:(0:Int)≤(k:Int):=by omega
               have hk1:(k:Int)<(nY:Int):=by omega
               have HLK:Hid (∀k,(P4++(LY.take k).map attrY).length≤1000000):=Lib.hid fun k=>by
                rw [List.length_append,List.length_map,List.length_take]
                have:=HCN.out.2.2.2.2
                have:=HL4.out
                omega
               obtain ⟨X,hX⟩:∃X,(cryC x).toArray=X:=⟨_,rfl⟩
               have HX:Hid ((cryC x).toArray=X∧X.size=31∧X.toList.all (·.oneCell')=true):=Lib.hid ⟨hX,by rw [←hX];simpa using H31.out,by rw [←hX];exact cryC_one x⟩
               have HNEW:Hid (Whole (wr.alloc (.cells #[.int .i64 0,.int .u8 0,.int .u8 0,.int .u8 0,.int .u8 0,.int .u8 0,.int .u8 0,.int .u8 0,.int .u8 0,.int .u8 0,.int .u8 0,.int .u8 0,.int .u8 0,.int .u8 0,.int .u8 0,.int .u8 0,.int .u8 0,.int .u8 0,.int .u8 0,.int .u8 0,.int .u8 0,.int .u8 0,.int .u8 0,.int .u8 0,.int .u8 0,.int .u8 0,.int .u8 0,.int .u8 0,.int .u8 0,.int .u8 0,.int .u8 0] 75)) wr.heap.size 75 #[.int .i64 0,.int .u8 0,.int .u8 0,.int .u8 0,.int .u8 0,.int .u8 0,.int .u8 0,.int .u8 0,.int .u8 0,.int .u8 0,.int .u8 0,.int .u8 0,.int .u8 0,.int .u8 0,.int .u8 0,.int .u8 0,.int .u8 0,.int .u8 0,.int .u8 0,.int .u8 0,.int .u8 0,.int .u8 0,.int .u8 0,.int .u8 0,.int .u8 0,.int .u8 0,.int .u8 0,.int .u8 0,.int .u8 0,.int .u8 0,.int .u8 0]):=Lib.hid (Whole.new _ _ _)
               have HW:Hid (AIn w GM ((wr.alloc (.cells #[.int .i64 0,.int .u8 0,.int .u8 0,.int .u8 0,.int .u8 0,.int .u8 0,.int .u8 0,.int .u8 0,.int .u8 0,.int .u8 0,.int .u8 0,.int .u8 0,.int .u8 0,.int .u8 0,.int .u8 0,.int .u8 0,.int .u8 0,.int .u8 0,.int .u8 0,.int .u8 0,.int .u8 0,.int .u8 0,.int .u8 0,.int .u8 0,.int .u8 0,.int .u8 0,.int .u8 0,.int .u8 0,.int .u8 0,.int .u8 0,.int .u8 0] 75)).setRow wr.heap.size X) (.slice Aq nq cq) (P4++(LY.take k).map attrY)∧Whole ((wr.alloc (.cells #[.int .i64 0,.int .u8 0,.int .u8 0,.int .u8 0,.int .u8 0,.int .u8 0,.int .u8 0,.int .u8 0,.int .u8 0,.int .u8 0,.int .u8 0,.int .u8 0,.int .u8 0,.int .u8 0,.int .u8 0,.int .u8 0,.int .u8 0,.int .u8 0,.int .u8 0,.int .u8 0,.int .u8 0,.int .u8 0,.int .u8 0,.int .u8 0,.int .u8 0,.int .u8 0,.int .u8 0,.int .u8 0,.int .u8 0,.int .u8 0,.int .u8 0] 75)).setRow wr.heap.size X) wr.heap.size 75 X):=Lib.hid ⟨HS.out.under (below_row ((Below.refl _ wr).alloc (Nat.le_refl _) _) (Nat.le_refl _) _),HNEW.out.row _⟩
               have HLD0:Hid (∀(ops:Array Oper) (rest:List Oper) (op:Oper) (a:Act) (Q:Exit→Act→World→Prop),op.guard=none→op.op=.load 75 (.tmp 88)→a.eval (.tmp 88)=.pointer (some (ad.add (k * 31)))→wpList Tryz.prog ops Q rest (a.put op.dst (.agg X)) wr→wpList Tryz.prog ops Q (op :: rest) a wr) :=
                Lib.hid fun ops rest op a Q h1 h2 h3 h4=>wpList_load_at h1 75 (.tmp 88) h2 _ h3 (cryC x) _ HJ.out Tryz.underlying75 rfl (by rw [H31.out];exact Tryz.sizeCrypto) (by rw [HX.out.1];exact h4)
               clear hx had hlt' cj c30 hX HJ H31
               go_upto_region 23 with (first | ((with_reducible refine HLD0.out _ _ _ _ _ ?_ ?_ ?_ ?_);(with_reducible rfl);(with_reducible rfl);rfl) | ((with_reducible refine wpList_storeS X ?_ 75 (.tmp 11) (.tmp 89) ?_ ?_ ?_ HNEW.out Tryz.sizeCrypto HX.out.2.1 ?_ HX.out.2.2 ?_);(with_reducible rfl);(with_reducible rfl);rfl;rfl;rfl))
               generalize ((wr.alloc (.cells #[.int .i64 0,.int .u8 0,.int .u8 0,.int .u8 0,.int .u8 0,.int .u8 0,.int .u8 0,.int .u8 0,.int .u8 0,.int .u8 0,.int .u8 0,.int .u8 0,.int .u8 0,.int .u8 0,.int .u8 0,.int .u8 0,.int .u8 0,.int .u8 0,.int .u8 0,.int .u8 0,.int .u8 0,.int .u8 0,.int .u8 0,.int .u8 0,.int .u8 0,.int .u8 0,.int .u8 0,.int .u8 0,.int .u8 0,.int .u8 0,.int .u8 0] 75)).setRow wr.heap.size X)=w2 at *
               generalize wr.heap.size=g at *
               clear HNEW HLD0
               have hxt:1≤x.tag∧x.tag≤9:=by
                have h:=HGX.out
                unfold goodY at h
                simp only [Bool.and_eq_true,decide_eq_true_eq] at h
                exact h
               obtain ⟨hx1,hx2⟩:=hxt
               have hdl:=decI_len (n:=x.tag) (by omega)
               obtain ⟨dt,hdt⟩:∃dt,bs (decI x.tag)=dt:=⟨_,rfl⟩
               obtain ⟨dk,hdk⟩:∃dt,bs (encK x.key)=dt:=⟨_,rfl⟩
               obtain ⟨kx,hkx⟩:∃kx,x.key=kx:=⟨_,rfl⟩
               have hdkl:dk.size≤40:=by rw [←hdk,bs_size,encK_len 10 _ H30.out];exact Nat.le_refl _
               have HIT:Hid (∀W,It w GM g 75 X W→Calls Tryz.prog 48 #[.int .i64 x.tag] W fun e w'=>e=.returned (.string dt)∧Below W.heap.size W w'):=Lib.hid fun W hW=>by
                rw [←hdt]
                exact itoa_any x.tag W (HEN.out.under hW.low) (by omega) (by omega)
               have HWK:Hid (∀W,It w GM g 75 X W→Calls Tryz.prog 52 #[.agg (keyC kx).toArray] W fun e w'=>e=.returned (.string dk)∧Below W.heap.size W w'):=Lib.hid fun W hW=>by
                rw [←hdk,hkx]
                exact writeKey_any kx W (by rw [←hkx];exact H30.out)
               have HTX:Hid (attrY x=⟨bs nCrypto,dt++⟨#[32]⟩++⟨#[65,69,83,95,67,77,95,49,50,56,95,72,77,65,67,95,83,72,65,49,95,56,48]⟩++⟨#[32]⟩++⟨#[105,110,108,105,110,101,58]⟩++dk⟩):=Lib.hid (by
                unfold attrY
                congr 1
                exact (tx_inj (by rw [tx_append,tx_append,tx_append,tx_append,tx_append,←hdt,←hdk,tx_bs,tx_bs,tx_bs];simp [tx,cryptoT])).symm)
               rw [hdt] at hdl
               have HG0:Hid (∀W,It w GM g 75 X W→W.cell? ⟨g,0,none⟩=some (.int .i64 x.tag)):=Lib.hid fun W hW=>by rw [hW.it.cell 0,←HX.out.1];rfl
               have HLD:Hid (∀W,It w GM g 75 X W→∀j v,(keyC kx)[j]? = some v→W.cell? ((⟨g,1,none⟩:Addr).add j)=some v):=Lib.hid fun W hW j v hv=>by
                have e:(⟨g,1,none⟩:Addr).add j=⟨g,1+j,none⟩:=by
                 unfold Addr.add
                 split
                 · next h=>subst h;rfl
                 · rfl
                rw [e,hW.it.cell,←HX.out.1,List.getElem?_toArray]
                unfold cryC
                rw [Nat.add_comm 1 j,List.getElem?_cons_succ,hkx]
                exact hv
               have HK30:Hid ((Tryz.prog.info? 73).map (·.size)=some (keyC kx).length):=Lib.hid (by
                rw [Tryz.sizeKey]
                unfold keyC
                rw [List.length_map,←hkx,H30.out])
               clear hdt hdk hkx
               have HO:Hid (AtO w2.drew w.heap.size (.slice Aq nq cq) (P4++(LY.take k).map attrY)):=Lib.hid HW.out.1.own
               have HR0:Hid (It w GM g 75 X w2.drew):=Lib.hid (It.drew ⟨HW.out.1.low,HW.out.1.box,HW.out.2⟩)
               have q1:¬9223372036854775807<dt.size+1:=by omega
               have q2:¬9223372036854775807<dt.size+1+23:=by omega
               have q3:¬9223372036854775807<dt.size+1+23+1:=by omega
               have q4:¬9223372036854775807<dt.size+1+23+1+7:=by omega
               have q5:¬9223372036854775807<dt.size+1+23+1+7+dk.size:=by omega
               clear hx1 hx2 hdl hdkl
               refine wp_region_held_drew (S:=fun W=>It w GM g 75 X W) (by kernel_rfl) HR0.out (fun hHeld=> ?_)
               refine wpAnyH_take (i:=0) (v:=_) rfl (by as_aux_lemma=>kernel_rfl) (by as_aux_lemma=>kernel_rfl) (by as_aux_lemma=>kernel_rfl) (fun _ _ _ h=>h) (Or.inl ⟨by rfl,fun w h=>by have e0:=HG0.out w h;clear h;go_simp;(try with_reducible rfl)⟩) (by assumption) ?_
               simp only [Act.put,List.getElem_toArray,List.getElem_cons_succ,List.getElem_cons_zero,List.setIfInBounds_toArray,List.set_cons_succ,List.set_cons_zero]
               refine wpAnyH_take (i:=1) (v:=_) rfl (by as_aux_lemma=>kernel_rfl) (by as_aux_lemma=>kernel_rfl) (by as_aux_lemma=>kernel_rfl) (fun _ _ _ h=>h) (Or.inl ⟨by rfl,fun w h=>by have e0:=HG0.out w h;clear h;go_simp;(try with_reducible rfl)⟩) (by assumption) ?_
               simp only [Act.put,List.getElem_toArray,List.getElem_cons_succ,List.getElem_cons_zero,List.setIfInBounds_toArray,List.set_cons_succ,List.set_cons_zero]
               refine wpAnyH_take (i:=2) (v:=_) rfl (by as_aux_lemma=>kernel_rfl) (by as_aux_lemma=>kernel_rfl) (by as_aux_lemma=>kernel_rfl) (fun _ _ _ h=>h) (Or.inl ⟨by rfl,fun w h=>by have e0:=HG0.out w h;clear h;go_simp;(try with_reducible rfl)⟩) (by assumption) ?_
               simp only [Act.put,List.getElem_toArray,List.getElem_cons_succ,List.getElem_cons_zero,List.setIfInBounds_toArray,List.set_cons_succ,List.set_cons_zero]
               refine wpAnyH_take (i:=8) (v:=_) rfl (by as_aux_lemma=>kernel_rfl) (by as_aux_lemma=>kernel_rfl) (by as_aux_lemma=>kernel_rfl) (fun _ _ _ h=>h) (Or.inl ⟨by rfl,fun w h=>by have e0:=HG0.out w h;clear h;go_simp;(try with_reducible rfl)⟩) (by assumption) ?_
               simp only [Act.put,List.getElem_toArray,List.getElem_cons_succ,List.getElem_cons_zero,List.setIfInBounds_toArray,List.set_cons_succ,List.set_cons_zero]
               refine wpAnyH_take (i:=9) (v:=_) rfl (by as_aux_lemma=>kernel_rfl) (by as_aux_lemma=>kernel_rfl) (by as_aux_lemma=>kernel_rfl) (fun _ _ _ h=>h) (yieldsIf_load_at (by rfl) 73 (.tmp 98) rfl ⟨g,1,none⟩ rfl (keyC kx) _ (fun w h=>HLD.out w h) Tryz.underlying73 rfl HK30.out) (by assumption) ?_
               simp only [Act.put,List.getElem_toArray,List.getElem_cons_succ,List.getElem_cons_zero,List.setIfInBounds_toArray,List.set_cons_succ,List.set_cons_zero]
               refine wpAnyH_ready (rs:=[3]) (by as_aux_lemma=>kernel_rfl) (by simp) ?_
               refine AllReadyH.cons (i:=3) rfl (fun K hK=> ?_) AllReadyH.nil
               go_simp
               refine (HIT.out _ hHeld).mono ?_
               rintro e w4 ⟨rfl,hb4⟩
               have HO4:=Lib.hid (And.intro (AtO.under HO.out hb4) (hHeld.under hb4))
               refine hK.out _ _ (hHeld.under hb4) (fun hHeld4=> ?_)
               clear hb4
               clear hK K hHeld
               have hHeld:=hHeld4
               clear hHeld4
               refine wpAnyH_take (i:=4) (v:=_) rfl (by as_aux_lemma=>kernel_rfl) (by as_aux_lemma=>kernel_rfl) (by as_aux_lemma=>kernel_rfl) (fun _ _ _ h=>h) (Or.inl ⟨by rfl,fun w h=>by have e0:=HG0.out w h;clear h;go_simp;(try with_reducible rfl)⟩) (by assumption) ?_
               simp only [Act.put,List.getElem_toArray,List.getElem_cons_succ,List.getElem_cons_zero,List.setIfInBounds_toArray,List.set_cons_succ,List.set_cons_zero]
               refine wpAnyH_take (i:=5) (v:=_) rfl (by as_aux_lemma=>kernel_rfl) (by as_aux_lemma=>kernel_rfl) (by as_aux_lemma=>kernel_rfl) (fun _ _ _ h=>h) (Or.inl ⟨by rfl,fun w h=>by have e0:=HG0.out w h;clear h;go_simp;(try with_reducible rfl)⟩) (by assumption) ?_
               simp only [Act.put,List.getElem_toArray,List.getElem_cons_succ,List.getElem_cons_zero,List.setIfInBounds_toArray,List.set_cons_succ,List.set_cons_zero]
               refine wpAnyH_take (i:=6) (v:=_) rfl (by as_aux_lemma=>kernel_rfl) (by as_aux_lemma=>kernel_rfl) (by as_aux_lemma=>kernel_rfl) (fun _ _ _ h=>h) (Or.inl ⟨by rfl,fun w h=>by have e0:=HG0.out w h;clear h;go_simp;(try with_reducible rfl)⟩) (by assumption) ?_
               simp only [Act.put,List.getElem_toArray,List.getElem_cons_succ,List.getElem_cons_zero,List.setIfInBounds_toArray,List.set_cons_succ,List.set_cons_zero]
               refine wpAnyH_take (i:=7) (v:=_) rfl (by as_aux_lemma=>kernel_rfl) (by as_aux_lemma=>kernel_rfl) (by as_aux_lemma=>kernel_rfl) (fun _ _ _ h=>h) (Or.inl ⟨by rfl,fun w h=>by have e0:=HG0.out w h;clear h;go_simp;(try with_reducible rfl)⟩) (by assumption) ?_
               simp only [Act.put,List.getElem_toArray,List.getElem_cons_succ,List.getElem_cons_zero,List.setIfInBounds_toArray,List.set_cons_succ,List.set_cons_zero]
               refine wpAnyH_ready (rs:=[10]) (by as_aux_lemma=>kernel_rfl) (by simp) ?_
               refine AllReadyH.cons (i:=10) rfl (fun K hK=> ?_) AllReadyH.nil
               go_simp
               refine (HWK.out _ hHeld).mono ?_
               rintro e w5 ⟨rfl,hb5⟩
               have HO5:=Lib.hid (And.intro (AtO.under HO4.out.1 hb5) (hHeld.under hb5))
               refine hK.out _ _ (hHeld.under hb5) (fun hHeld4=> ?_)
               clear hb5
               clear hK K hHeld
               have hHeld:=hHeld4
               clear hHeld4
               refine wpAnyH_take (i:=11) (v:=_) rfl (by as_aux_lemma=>kernel_rfl) (by as_aux_lemma=>kernel_rfl) (by as_aux_lemma=>kernel_rfl) (fun _ _ _ h=>h) (Or.inl ⟨by rfl,fun w h=>by have e0:=HG0.out w h;clear h;go_simp;(try with_reducible rfl)⟩) (by assumption) ?_
               simp only [Act.put,List.getElem_toArray,List.getElem_cons_succ,List.getElem_cons_zero,List.setIfInBounds_toArray,List.set_cons_succ,List.set_cons_zero]
               refine wpAnyH_take (i:=12) (v:=_) rfl (by as_aux_lemma=>kernel_rfl) (by as_aux_lemma=>kernel_rfl) (by as_aux_lemma=>kernel_rfl) (fun _ _ _ h=>h) (Or.inl ⟨by rfl,fun w h=>by have e0:=HG0.out w h;clear h;go_simp;(try with_reducible rfl)⟩) (by assumption) ?_
               simp only [Act.put,List.getElem_toArray,List.getElem_cons_succ,List.getElem_cons_zero,List.setIfInBounds_toArray,List.set_cons_succ,List.set_cons_zero]
               refine wpAnyH_ready (rs:=[13]) (by as_aux_lemma=>kernel_rfl) (by simp) ?_
               refine AllReadyH.cons (i:=13) rfl (fun K hK=> ?_) AllReadyH.nil
               go_simp
               refine hK.out _ _ (hHeld.alloc _) (fun hHeld4=> ?_)
               clear hK K hHeld
               have hHeld:=hHeld4
               clear hHeld4
               refine wpAnyH_ready (rs:=[14]) (by as_aux_lemma=>kernel_rfl) (by simp) ?_
               refine AllReadyH.cons (i:=14) rfl (fun K hK=> ?_) AllReadyH.nil
               refine step_of rfl (wp_addA (.tmp 90) (.tmp 103) rfl rfl rfl HO5.out.1 (HLK.out k) HO5.out.2.low.size ?_)
               intro v9 w9 ho9 hg9
               have HA9:Hid (AIn w GM w9 v9 (P4++(LY.take (k+1)).map attrY)):=Lib.hid ⟨by rw [HTK.out,←List.append_assoc,HTX.out];exact ho9,(HO5.out.2.add HO5.out.1 (by decide) (by decide) hg9).low,(HO5.out.2.add HO5.out.1 (by decide) (by decide) hg9).box⟩
               refine hK.out _ _ (HO5.out.2.add HO5.out.1 (by decide) (by decide) hg9) (fun hHeld4=> ?_)
               clear ho9 hg9
               clear hK K hHeld
               have hHeld:=hHeld4
               clear hHeld4
               refine wpAnyH_take (i:=15) (v:=_) rfl (by as_aux_lemma=>kernel_rfl) (by as_aux_lemma=>kernel_rfl) (by as_aux_lemma=>kernel_rfl) (fun _ _ _ h=>h) (Or.inl ⟨by rfl,fun w h=>by have e0:=HG0.out w h;clear h;go_simp;(try with_reducible rfl)⟩) (by assumption) ?_
               simp only [Act.put,List.getElem_toArray,List.getElem_cons_succ,List.getElem_cons_zero,List.setIfInBounds_toArray,List.set_cons_succ,List.set_cons_zero]
               refine wpAnyH_done (by as_aux_lemma=>kernel_rfl) ?_ _
               clear hHeld q1 q2 q3 q4 q5
               go_wp2
               go_roundw
               case rel=>exact ⟨k+1,by omega,by go_num,HA9.out⟩
               case measure=>simp [intOf];omega
             · have e:k=nY:=by omega
               subst e
               have HQ:Hid (AIn w GM wr (.slice Aq nq cq) (P4++LY.map attrY)):=Lib.hid (by
                have:=HS.out
                rw [List.take_of_length_le (by rw [HNN.out.2.2.2.2];exact Nat.le_refl _)] at this
                exact this)
               go_wp2
               go_ret
               exact ⟨_,rfl,by rw [HF.out];exact HQ.out.own,by exact HQ.out.low⟩
end Go.Proofs.YtgnpckelbokniaaGreatDoor
