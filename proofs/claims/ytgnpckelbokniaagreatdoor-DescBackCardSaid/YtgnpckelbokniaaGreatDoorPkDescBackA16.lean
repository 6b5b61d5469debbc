import Derived.Test.YtgnpckelbokniaaGreatDoorPkDescBackA15
import Derived.Test.YtgnpckelbokniaaGreatDoorPkDescBackA08
import Derived.Test.YtgnpckelbokniaaGreatDoorPkDescBackA00
import Derived.Test.YtgnpckelbokniaaGreatDoorPkDescBackA11
import Derived.Test.YtgnpckelbokniaaGreatDoorPkDescBackA09
namespace Go.Proofs.YtgnpckelbokniaaGreatDoor
open Go.RowKit
set_option linter.unusedVariables false
set_option linter.unusedSimpArgs false
set_option maxHeartbeats 6400000 in
set_option maxRecDepth 100000 in
theorem r8Same_any (X Y:Array Value) (x y:DescS) (vB vM uB uM:Value) (w:World) (h1:DescV w w.heap.size X x vB vM) (h2:DescV w w.heap.size Y y uB uM):Calls Tryz.prog 14 #[.agg X,.agg Y] w (SameB w x y):=by
 obtain ⟨hb0,hx0,hy0⟩:=two_boxes w 45 X Y
 obtain ⟨A0,c0,hA0,-⟩:=Rows.form h1.bundle
 obtain ⟨D0,d0,hD0,-⟩:=Rows.form h2.bundle
 obtain ⟨n0,hn0⟩:∃n,x.bundle.length=n:=⟨_,rfl⟩
 obtain ⟨m0,hm0⟩:∃n,y.bundle.length=n:=⟨_,rfl⟩
 rw [hn0] at hA0
 rw [hm0] at hD0
 subst hA0 hD0
 obtain ⟨b2,hb2⟩:=sameBool x.bundle y.bundle
 have HC2:Hid (∀W,Below w.heap.size w W→Calls Tryz.prog 26 #[.slice A0 n0 c0,.slice D0 m0 d0] W fun e w'=>e=.returned (.bool b2)∧Below W.heap.size W w'):=Lib.hid fun W hW =>
  (sameTexts_any _ _ x.bundle y.bundle W ((h1.bundle.below hW).more hW.size) ((h2.bundle.below hW).more hW.size)).mono fun e w' h=>h.fix hb2
 obtain ⟨A1,c1,hA1,hlA1,hmA1,-⟩:=Rows.form h1.media
 obtain ⟨D1,d1,hD1,hlD1,hmD1,-⟩:=Rows.form h2.media
 have HMX:=Lib.hid h1.media
 have HMY:=Lib.hid h2.media
 obtain ⟨n1,hn1⟩:∃n,x.media.length=n:=⟨_,rfl⟩
 obtain ⟨m1,hm1⟩:∃n,y.media.length=n:=⟨_,rfl⟩
 rw [hn1] at hA1 hlA1
 have HNX:=Lib.hid hn1
 rw [hm1] at hD1 hlD1
 have HNY:=Lib.hid hm1
 unfold maxLen at hmA1 hmD1
 subst hA1 hD1
 have HE:Hid (x=y↔x.id=y.id∧x.ver=y.ver∧x.bundle=y.bundle∧x.name=y.name∧x.pass=y.pass∧x.media=y.media):=Lib.hid ⟨fun e=>by rw [e];exact ⟨rfl,rfl,rfl,rfl,rfl,rfl⟩,fun ⟨h0,h1,h2,h3,h4,h5⟩=>DescS.ext' h0 h1 h2 h3 h4 h5⟩
 have HB2:=Lib.hid hb2
 clear hb2
 have hX:=h1.form
 have hY:=h2.form
 have HXC:Hid (X[0]? = some (.int .u64 x.id)∧X[1]? = some (.int .u64 x.ver)∧X[2]? = some (.slice A0 n0 c0)∧X[3]? = some (.string x.name)∧X[4]? = some (.string x.pass)∧X[5]? = some (.slice A1 n1 c1)):=Lib.hid (by rw [hX];exact ⟨rfl,rfl,rfl,rfl,rfl,rfl⟩)
 have HYC:Hid (Y[0]? = some (.int .u64 y.id)∧Y[1]? = some (.int .u64 y.ver)∧Y[2]? = some (.slice D0 m0 d0)∧Y[3]? = some (.string y.name)∧Y[4]? = some (.string y.pass)∧Y[5]? = some (.slice D1 m1 d1)):=Lib.hid (by rw [hY];exact ⟨rfl,rfl,rfl,rfl,rfl,rfl⟩)
 have H0:=Lib.hid (And.intro hb0 (And.intro hx0 hy0))
 obtain ⟨N,hN⟩:∃N,w.heap.size=N:=⟨_,rfl⟩
 rw [hN] at H0
 have HN:=Lib.hid hN
 have HP0:Hid (∀W,Below (w.alloc (.cells X 45) |>.alloc (.cells Y 45)).heap.size (w.alloc (.cells X 45) |>.alloc (.cells Y 45)) W→W.cell? ⟨N,0,none⟩=some (.int .u64 x.id)∧W.cell? ⟨N+1,0,none⟩=some (.int .u64 y.id)):=Lib.hid fun W hW=>⟨((H0.out.2.1.under hW).cell 0).trans HXC.out.1,((H0.out.2.2.under hW).cell 0).trans HYC.out.1⟩
 have HP1:Hid (∀W,Below (w.alloc (.cells X 45) |>.alloc (.cells Y 45)).heap.size (w.alloc (.cells X 45) |>.alloc (.cells Y 45)) W→W.cell? ⟨N,1,none⟩=some (.int .u64 x.ver)∧W.cell? ⟨N+1,1,none⟩=some (.int .u64 y.ver)):=Lib.hid fun W hW=>⟨((H0.out.2.1.under hW).cell 1).trans HXC.out.2.1,((H0.out.2.2.under hW).cell 1).trans HYC.out.2.1⟩
 have HP2:Hid (∀W,Below (w.alloc (.cells X 45) |>.alloc (.cells Y 45)).heap.size (w.alloc (.cells X 45) |>.alloc (.cells Y 45)) W→W.cell? ⟨N,2,none⟩=some (.slice A0 n0 c0)∧W.cell? ⟨N+1,2,none⟩=some (.slice D0 m0 d0)):=Lib.hid fun W hW=>⟨((H0.out.2.1.under hW).cell 2).trans HXC.out.2.2.1,((H0.out.2.2.under hW).cell 2).trans HYC.out.2.2.1⟩
 have HP3:Hid (∀W,Below (w.alloc (.cells X 45) |>.alloc (.cells Y 45)).heap.size (w.alloc (.cells X 45) |>.alloc (.cells Y 45)) W→W.cell? ⟨N,3,none⟩=some (.string x.name)∧W.cell? ⟨N+1,3,none⟩=some (.string y.name)):=Lib.hid fun W hW=>⟨((H0.out.2.1.under hW).cell 3).trans HXC.out.2.2.2.1,((H0.out.2.2.under hW).cell 3).trans HYC.out.2.2.2.1⟩
 have HP4:Hid (∀W,Below (w.alloc (.cells X 45) |>.alloc (.cells Y 45)).heap.size (w.alloc (.cells X 45) |>.alloc (.cells Y 45)) W→W.cell? ⟨N,4,none⟩=some (.string x.pass)∧W.cell? ⟨N+1,4,none⟩=some (.string y.pass)):=Lib.hid fun W hW=>⟨((H0.out.2.1.under hW).cell 4).trans HXC.out.2.2.2.2.1,((H0.out.2.2.under hW).cell 4).trans HYC.out.2.2.2.2.1⟩
 have HP5:Hid (∀W,Below (w.alloc (.cells X 45) |>.alloc (.cells Y 45)).heap.size (w.alloc (.cells X 45) |>.alloc (.cells Y 45)) W→W.cell? ⟨N,5,none⟩=some (.slice A1 n1 c1)∧W.cell? ⟨N+1,5,none⟩=some (.slice D1 m1 d1)):=Lib.hid fun W hW=>⟨((H0.out.2.1.under hW).cell 5).trans HXC.out.2.2.2.2.2,((H0.out.2.2.under hW).cell 5).trans HYC.out.2.2.2.2.2⟩
 clear h1 h2 hx0 hy0 hN hX hY hn0 hm0 hn1 hm1
 generalize x.id=x0 at *
 generalize y.id=y0 at *
 generalize x.ver=x1 at *
 generalize y.ver=y1 at *
 generalize x.name=x3 at *
 generalize y.name=y3 at *
 generalize x.pass=x4 at *
 generalize y.pass=y4 at *
 go_enter Tryz.func14,Tryz.ntmps14
 go_upto_region 1 with fail
 simp only [HN.out,Nat.add_assoc,Nat.reduceAdd]
 have HU:Hid (∀W,Below ((w.alloc (.cells X 45)).alloc (.cells Y 45)).heap.size ((w.alloc (.cells X 45)).alloc (.cells Y 45)) W→Below w.heap.size w W):=Lib.hid fun W hW=>below_chain (Nat.le_refl _) (by have:=H0.out.1;rw [←HN.out] at this;exact this) hW
 generalize ((w.alloc (.cells X 45)).alloc (.cells Y 45))=W0 at *
 have HR:=Lib.hid (Below.refl W0.heap.size W0)
 have p0W0:=(HP0.out W0 HR.out).1
 have q0W0:=(HP0.out W0 HR.out).2
 have p1W0:=(HP1.out W0 HR.out).1
 have q1W0:=(HP1.out W0 HR.out).2
 have p2W0:=(HP2.out W0 HR.out).1
 have q2W0:=(HP2.out W0 HR.out).2
 have p3W0:=(HP3.out W0 HR.out).1
 have q3W0:=(HP3.out W0 HR.out).2
 have p4W0:=(HP4.out W0 HR.out).1
 have q4W0:=(HP4.out W0 HR.out).2
 have HB0:Hid (((x0:Int) == (y0:Int))=true↔x0=y0):=Lib.hid (by rw [beq_iff_eq];omega)
 obtain ⟨b0,hb0'⟩:∃b,((x0:Int) == (y0:Int))=b:=⟨_,rfl⟩
 rw [hb0'] at HB0
 have hn0':((x0:Int) != (y0:Int)) = !b0:=by rw [bne,hb0']
 cases b0 with
 | false =>
   simp only [Bool.not_false] at hn0'
   have HNE:Hid (¬(x=y)):=Lib.hid (fun e=>by have h:=(HE.out.1 e).1;have:=HB0.out.2 h;cases this)
   go_wp2_with fail
   go_ret
   exact ⟨false,rfl,⟨fun e=>(by cases e),fun e=>(HNE.out e).elim⟩,HU.out _ HR.out⟩
 | true =>
   simp only [Bool.not_true] at hn0'
   have HB1:Hid (((x1:Int) == (y1:Int))=true↔x1=y1):=Lib.hid (by rw [beq_iff_eq];omega)
   obtain ⟨b1,hb1'⟩:∃b,((x1:Int) == (y1:Int))=b:=⟨_,rfl⟩
   rw [hb1'] at HB1
   have hn1':((x1:Int) != (y1:Int)) = !b1:=by rw [bne,hb1']
   cases b1 with
   | false =>
     simp only [Bool.not_false] at hn1'
     have HNE:Hid (¬(x=y)):=Lib.hid (fun e=>by have h:=(HE.out.1 e).2.1;have:=HB1.out.2 h;cases this)
     go_wp2_with fail
     go_ret
     exact ⟨false,rfl,⟨fun e=>(by cases e),fun e=>(HNE.out e).elim⟩,HU.out _ HR.out⟩
   | true =>
     simp only [Bool.not_true] at hn1'
     have HB3:Hid ((x3.toList == y3.toList)=true↔x3=y3):=Lib.hid (toList_beq)
     obtain ⟨b3,hb3'⟩:∃b,(x3.toList == y3.toList)=b:=⟨_,rfl⟩
     rw [hb3'] at HB3
     have hn3':(x3.toList != y3.toList) = !b3:=by rw [bne,hb3']
     cases b3 with
     | false =>
       simp only [Bool.not_false] at hn3'
       have HNE:Hid (¬(x=y)):=Lib.hid (fun e=>by have h:=(HE.out.1 e).2.2.2.1;have:=HB3.out.2 h;cases this)
       go_wp2_with fail
       go_ret
       exact ⟨false,rfl,⟨fun e=>(by cases e),fun e=>(HNE.out e).elim⟩,HU.out _ HR.out⟩
     | true =>
       simp only [Bool.not_true] at hn3'
       have HB4:Hid ((x4.toList == y4.toList)=true↔x4=y4):=Lib.hid (toList_beq)
       obtain ⟨b4,hb4'⟩:∃b,(x4.toList == y4.toList)=b:=⟨_,rfl⟩
       rw [hb4'] at HB4
       have hn4':(x4.toList != y4.toList) = !b4:=by rw [bne,hb4']
       cases b4 with
       | false =>
         simp only [Bool.not_false] at hn4'
         have HNE:Hid (¬(x=y)):=Lib.hid (fun e=>by have h:=(HE.out.1 e).2.2.2.2.1;have:=HB4.out.2 h;cases this)
         go_wp2_with fail
         go_ret
         exact ⟨false,rfl,⟨fun e=>(by cases e),fun e=>(HNE.out e).elim⟩,HU.out _ HR.out⟩
       | true =>
         simp only [Bool.not_true] at hn4'
         cases b2 with
         | false =>
           have HNE:Hid (¬(x=y)):=Lib.hid (fun e=>by have h:=(HE.out.1 e).2.2.1;have:=HB2.out.2 h;cases this)
           go_wp2_with (first | (go_at_call 26;(with_reducible refine (HC2.out _ (HU.out _ HR.out)).mono ?_);rintro e w1 ⟨rfl,hb2⟩;have H1:Hid (Below W0.heap.size W0 w1):=Lib.hid (below_chain (Nat.le_refl _) HR.out hb2);clear hb2;have p5w1:=(HP5.out w1 H1.out).1;have q5w1:=(HP5.out w1 H1.out).2;dsimp only))
           go_ret
           exact ⟨false,rfl,⟨fun e=>(by cases e),fun e=>(HNE.out e).elim⟩,HU.out _ H1.out⟩
         | true =>
           by_cases hnm:n1=m1
           · subst hnm
             have hz:((n1:Int) == (n1:Int))=true:=by simp
             have hz2:((n1:Int) != (n1:Int))=false:=by simp
             go_upto_region 4 with (first | (go_at_call 26;(with_reducible refine (HC2.out _ (HU.out _ HR.out)).mono ?_);rintro e w1 ⟨rfl,hb2⟩;have H1:Hid (Below W0.heap.size W0 w1):=Lib.hid (below_chain (Nat.le_refl _) HR.out hb2);clear hb2;have p5w1:=(HP5.out w1 H1.out).1;have q5w1:=(HP5.out w1 H1.out).2;dsimp only))
             clear p5w1 q5w1 hz hz2
             go_loopw [52] (fun s52 wr=>∃k:Nat,k≤n1∧s52=.int .i64 k∧(∀j,j<k→x.media[j]? = y.media[j]?)∧Below W0.heap.size W0 wr) (fun s52 _=>n1 - (intOf s52).toNat)
             case atStart=>exact ⟨0,Nat.zero_le _,rfl,(fun j hj=>by omega),H1.out⟩
             case round =>
              obtain ⟨k,hk,rfl,hsame,hb⟩:=hrel
              have HS:=Lib.hid (And.intro hsame hb)
              clear hsame
              by_cases hlt:k<n1
              · obtain ⟨ad1,c1',U,vC,vE,vR,vS,vY,e1,b1,hx,xs⟩:=MediasV.at_ (HMX.out.below (HU.out _ hb)) (i:=k) (by rw [HNX.out];exact hlt)
                obtain ⟨ad2,c2',V,uC,uE,uR,uS,uY,e2,b2,hy,ys⟩:=MediasV.at_ (HMY.out.below (HU.out _ hb)) (i:=k) (by rw [HNY.out];exact hlt)
                injection e1 with e1 e1n e1c;clear e1n e1c
                injection e2 with e2 e2n e2c;clear e2n e2c
                subst e1 e2
                have gL:=getD_of (L:=x.media) (i:=k) (by rw [HNX.out];exact hlt)
                have gM:=getD_of (L:=y.media) (i:=k) (by rw [HNY.out];exact hlt)
                obtain ⟨a,ha⟩:∃a,x.media.getD k default=a:=⟨_,rfl⟩
                obtain ⟨b,hbb⟩:∃b,y.media.getD k default=b:=⟨_,rfl⟩
                rw [ha] at hx gL
                rw [hbb] at hy gM
                have HG:=Lib.hid (And.intro gL gM)
                have hk0:(0:Int)≤(k:Int):=by omega
                have hk1:(k:Int)<(n1:Int):=by omega
                have hwr:=(HU.out _ hb).size
                have HLX:Hid (∀W,Below wr.heap.size wr W→∀j u,U.toList[j]? = some u→W.cell? ((ad1.add (k * 11)).add j)=some u):=Lib.hid fun W hW j u hu=>(hW.cell (p:=(ad1.add (k * 11)).add j) (by rw [add_block,add_block];exact Nat.lt_of_lt_of_le b1 hwr)).trans (xs j u hu)
                have HLY:Hid (∀W,Below wr.heap.size wr W→∀j u,V.toList[j]? = some u→W.cell? ((ad2.add (k * 11)).add j)=some u):=Lib.hid fun W hW j u hu=>(hW.cell (p:=(ad2.add (k * 11)).add j) (by rw [add_block,add_block];exact Nat.lt_of_lt_of_le b2 hwr)).trans (ys j u hu)
                have HXS:Hid ((Tryz.prog.info? 28).map (·.size)=some U.toList.length∧(Tryz.prog.info? 28).map (·.size)=some V.toList.length):=Lib.hid ⟨by rw [Array.length_toList,hx.size];exact Tryz.sizeMedia,by rw [Array.length_toList,hy.size];exact Tryz.sizeMedia⟩
                obtain ⟨q,hq⟩:=sameBool a b
                have HCL:Hid (∀W,Below wr.heap.size wr W→Calls Tryz.prog 10 #[.agg U,.agg V] W fun e w'=>e=.returned (.bool q)∧Below W.heap.size W w'):=Lib.hid fun W hW=>(r7Same_any U V a b vC vE vR vS vY uC uE uR uS uY W ((hx.below (hW.mono hwr)).more (Nat.le_trans hwr hW.size)) ((hy.below (hW.mono hwr)).more (Nat.le_trans hwr hW.size))).mono fun e w' h=>h.fix hq
                have HG5:Hid (∀W,Below wr.heap.size wr W→W.cell? ⟨N,5,none⟩=some (.slice (some ad1) n1 c1)):=Lib.hid fun W hW=>(HP5.out W (hb.trans (hW.mono hb.size))).1
                have HK5:Hid (∀W,Below wr.heap.size wr W→W.cell? ⟨N+1,5,none⟩=some (.slice (some ad2) n1 d1)):=Lib.hid fun W hW=>(HP5.out W (hb.trans (hW.mono hb.size))).2
                have HQ:=Lib.hid hq
                have HR0:Hid (Below wr.heap.size wr wr.drew):=Lib.hid (Below.refl _ _).drew
                clear gL gM ha hbb xs ys hx hy b1 b2 hb hwr hq
                go_upto_region 6 with fail
                cases q with
                | true =>
                  have HEQ:Hid (a=b):=Lib.hid (HQ.out.1 rfl)
                  refine wp_region_held_drew (S:=fun W=>Below wr.heap.size wr W) (by kernel_rfl) HR0.out (fun hHeld=> ?_)
                  generalize wr.drew=w4 at hHeld ⊢
                  refine wpAnyH_take (i:=0) (v:=_) rfl (by as_aux_lemma=>kernel_rfl) (by as_aux_lemma=>kernel_rfl) (by as_aux_lemma=>kernel_rfl) (fun _ _ _ h=>h) (Or.inl ⟨by rfl,fun w h=>by have e0:=HG5.out w h;have e1:=HK5.out w h;clear h;go_simp;(try with_reducible rfl)⟩) (by assumption) ?_
                  simp only [Act.put,List.getElem_toArray,List.getElem_cons_succ,List.getElem_cons_zero,List.setIfInBounds_toArray,List.set_cons_succ,List.set_cons_zero]
                  refine wpAnyH_take (i:=1) (v:=_) rfl (by as_aux_lemma=>kernel_rfl) (by as_aux_lemma=>kernel_rfl) (by as_aux_lemma=>kernel_rfl) (fun _ _ _ h=>h) (Or.inl ⟨by rfl,fun w h=>by have e0:=HG5.out w h;have e1:=HK5.out w h;clear h;go_simp;(try with_reducible rfl)⟩) (by assumption) ?_
                  simp only [Act.put,List.getElem_toArray,List.getElem_cons_succ,List.getElem_cons_zero,List.setIfInBounds_toArray,List.set_cons_succ,List.set_cons_zero]
                  refine wpAnyH_take (i:=2) (v:=_) rfl (by as_aux_lemma=>kernel_rfl) (by as_aux_lemma=>kernel_rfl) (by as_aux_lemma=>kernel_rfl) (fun _ _ _ h=>h) (Or.inl ⟨by rfl,fun w h=>by have e0:=HG5.out w h;have e1:=HK5.out w h;clear h;go_simp;(try with_reducible rfl)⟩) (by assumption) ?_
                  simp only [Act.put,List.getElem_toArray,List.getElem_cons_succ,List.getElem_cons_zero,List.setIfInBounds_toArray,List.set_cons_succ,List.set_cons_zero]
                  refine wpAnyH_take (i:=3) (v:=_) rfl (by as_aux_lemma=>kernel_rfl) (by as_aux_lemma=>kernel_rfl) (by as_aux_lemma=>kernel_rfl) (fun _ _ _ h=>h) (Or.inl ⟨by rfl,fun w h=>by have e0:=HG5.out w h;have e1:=HK5.out w h;clear h;go_simp;(try with_reducible rfl)⟩) (by assumption) ?_
                  simp only [Act.put,List.getElem_toArray,List.getElem_cons_succ,List.getElem_cons_zero,List.setIfInBounds_toArray,List.set_cons_succ,List.set_cons_zero]
                  refine wpAnyH_take (i:=4) (v:=_) rfl (by as_aux_lemma=>kernel_rfl) (by as_aux_lemma=>kernel_rfl) (by as_aux_lemma=>kernel_rfl) (fun _ _ _ h=>h) (yieldsIf_load_at (by rfl) 28 (.tmp 58) rfl (ad1.add (k * 11)) rfl U.toList _ (fun w h=>HLX.out w h) Tryz.underlying28 rfl HXS.out.1) (by assumption) ?_
                  simp only [Act.put,List.getElem_toArray,List.getElem_cons_succ,List.getElem_cons_zero,List.setIfInBounds_toArray,List.set_cons_succ,List.set_cons_zero]
                  refine wpAnyH_take (i:=5) (v:=_) rfl (by as_aux_lemma=>kernel_rfl) (by as_aux_lemma=>kernel_rfl) (by as_aux_lemma=>kernel_rfl) (fun _ _ _ h=>h) (Or.inl ⟨by rfl,fun w h=>by have e0:=HG5.out w h;have e1:=HK5.out w h;clear h;go_simp;(try with_reducible rfl)⟩) (by assumption) ?_
                  simp only [Act.put,List.getElem_toArray,List.getElem_cons_succ,List.getElem_cons_zero,List.setIfInBounds_toArray,List.set_cons_succ,List.set_cons_zero]
                  refine wpAnyH_take (i:=6) (v:=_) rfl (by as_aux_lemma=>kernel_rfl) (by as_aux_lemma=>kernel_rfl) (by as_aux_lemma=>kernel_rfl) (fun _ _ _ h=>h) (Or.inl ⟨by rfl,fun w h=>by have e0:=HG5.out w h;have e1:=HK5.out w h;clear h;go_simp;(try with_reducible rfl)⟩) (by assumption) ?_
                  simp only [Act.put,List.getElem_toArray,List.getElem_cons_succ,List.getElem_cons_zero,List.setIfInBounds_toArray,List.set_cons_succ,List.set_cons_zero]
                  refine wpAnyH_take (i:=7) (v:=_) rfl (by as_aux_lemma=>kernel_rfl) (by as_aux_lemma=>kernel_rfl) (by as_aux_lemma=>kernel_rfl) (fun _ _ _ h=>h) (Or.inl ⟨by rfl,fun w h=>by have e0:=HG5.out w h;have e1:=HK5.out w h;clear h;go_simp;(try with_reducible rfl)⟩) (by assumption) ?_
                  simp only [Act.put,List.getElem_toArray,List.getElem_cons_succ,List.getElem_cons_zero,List.setIfInBounds_toArray,List.set_cons_succ,List.set_cons_zero]
                  refine wpAnyH_take (i:=8) (v:=_) rfl (by as_aux_lemma=>kernel_rfl) (by as_aux_lemma=>kernel_rfl) (by as_aux_lemma=>kernel_rfl) (fun _ _ _ h=>h) (Or.inl ⟨by rfl,fun w h=>by have e0:=HG5.out w h;have e1:=HK5.out w h;clear h;go_simp;(try with_reducible rfl)⟩) (by assumption) ?_
                  simp only [Act.put,List.getElem_toArray,List.getElem_cons_succ,List.getElem_cons_zero,List.setIfInBounds_toArray,List.set_cons_succ,List.set_cons_zero]
                  refine wpAnyH_take (i:=9) (v:=_) rfl (by as_aux_lemma=>kernel_rfl) (by as_aux_lemma=>kernel_rfl) (by as_aux_lemma=>kernel_rfl) (fun _ _ _ h=>h) (yieldsIf_load_at (by rfl) 28 (.tmp 63) rfl (ad2.add (k * 11)) rfl V.toList _ (fun w h=>HLY.out w h) Tryz.underlying28 rfl HXS.out.2) (by assumption) ?_
                  simp only [Act.put,List.getElem_toArray,List.getElem_cons_succ,List.getElem_cons_zero,List.setIfInBounds_toArray,List.set_cons_succ,List.set_cons_zero]
                  refine wpAnyH_ready (rs:=[10]) (by as_aux_lemma=>kernel_rfl) (by simp) ?_
                  refine (AllReadyH.cons (i:=10) rfl (fun K hK=> ?_) AllReadyH.nil)
                  go_simp
                  try simp only [Array.toArray_toList]
                  refine (HCL.out _ hHeld).mono ?_
                  rintro e w5 ⟨rfl,hb5⟩
                  have hbn:=hHeld.trans (hb5.mono hHeld.size)
                  refine hK.out _ _ hbn (fun hHeld'=> ?_)
                  clear hb5 hbn
                  clear hK K hHeld
                  have hHeld:=hHeld'
                  clear hHeld'
                  try simp only [Act.put]
                  refine wpAnyH_take (i:=11) (v:=_) rfl (by as_aux_lemma=>kernel_rfl) (by as_aux_lemma=>kernel_rfl) (by as_aux_lemma=>kernel_rfl) (fun _ _ _ h=>h) (Or.inl ⟨by rfl,fun w h=>by have e0:=HG5.out w h;have e1:=HK5.out w h;clear h;go_simp;(try with_reducible rfl)⟩) (by assumption) ?_
                  simp only [Act.put,List.getElem_toArray,List.getElem_cons_succ,List.getElem_cons_zero,List.setIfInBounds_toArray,List.set_cons_succ,List.set_cons_zero]
                  refine wpAnyH_done (by as_aux_lemma=>kernel_rfl) ?_ _
                  have HL:=Lib.hid hHeld
                  clear hHeld
                  go_wp2
                  go_roundw
                  case rel =>
                   refine ⟨k+1,by omega,by go_num,fun j hj=> ?_,HS.out.2.trans (HL.out.mono HS.out.2.size)⟩
                   by_cases e:j=k
                   · subst e
                     rw [HG.out.1,HG.out.2,HEQ.out]
                   · exact HS.out.1 j (by omega)
                  case measure=>simp [intOf];omega
                | false =>
                  have HNE:Hid (¬(x=y)):=Lib.hid (fun e=>by rw [e] at HG;have:=HQ.out.2 (Option.some.inj (HG.out.1.symm.trans HG.out.2));cases this)
                  refine wp_region_held_drew (S:=fun W=>Below wr.heap.size wr W) (by kernel_rfl) HR0.out (fun hHeld=> ?_)
                  generalize wr.drew=w4 at hHeld ⊢
                  refine wpAnyH_take (i:=0) (v:=_) rfl (by as_aux_lemma=>kernel_rfl) (by as_aux_lemma=>kernel_rfl) (by as_aux_lemma=>kernel_rfl) (fun _ _ _ h=>h) (Or.inl ⟨by rfl,fun w h=>by have e0:=HG5.out w h;have e1:=HK5.out w h;clear h;go_simp;(try with_reducible rfl)⟩) (by assumption) ?_
                  simp only [Act.put,List.getElem_toArray,List.getElem_cons_succ,List.getElem_cons_zero,List.setIfInBounds_toArray,List.set_cons_succ,List.set_cons_zero]
                  refine wpAnyH_take (i:=1) (v:=_) rfl (by as_aux_lemma=>kernel_rfl) (by as_aux_lemma=>kernel_rfl) (by as_aux_lemma=>kernel_rfl) (fun _ _ _ h=>h) (Or.inl ⟨by rfl,fun w h=>by have e0:=HG5.out w h;have e1:=HK5.out w h;clear h;go_simp;(try with_reducible rfl)⟩) (by assumption) ?_
                  simp only [Act.put,List.getElem_toArray,List.getElem_cons_succ,List.getElem_cons_zero,List.setIfInBounds_toArray,List.set_cons_succ,List.set_cons_zero]
                  refine wpAnyH_take (i:=2) (v:=_) rfl (by as_aux_lemma=>kernel_rfl) (by as_aux_lemma=>kernel_rfl) (by as_aux_lemma=>kernel_rfl) (fun _ _ _ h=>h) (Or.inl ⟨by rfl,fun w h=>by have e0:=HG5.out w h;have e1:=HK5.out w h;clear h;go_simp;(try with_reducible rfl)⟩) (by assumption) ?_
                  simp only [Act.put,List.getElem_toArray,List.getElem_cons_succ,List.getElem_cons_zero,List.setIfInBounds_toArray,List.set_cons_succ,List.set_cons_zero]
                  refine wpAnyH_take (i:=3) (v:=_) rfl (by as_aux_lemma=>kernel_rfl) (by as_aux_lemma=>kernel_rfl) (by as_aux_lemma=>kernel_rfl) (fun _ _ _ h=>h) (Or.inl ⟨by rfl,fun w h=>by have e0:=HG5.out w h;have e1:=HK5.out w h;clear h;go_simp;(try with_reducible rfl)⟩) (by assumption) ?_
                  simp only [Act.put,List.getElem_toArray,List.getElem_cons_succ,List.getElem_cons_zero,List.setIfInBounds_toArray,List.set_cons_succ,List.set_cons_zero]
                  refine wpAnyH_take (i:=4) (v:=_) rfl (by as_aux_lemma=>kernel_rfl) (by as_aux_lemma=>kernel_rfl) (by as_aux_lemma=>kernel_rfl) (fun _ _ _ h=>h) (yieldsIf_load_at (by rfl) 28 (.tmp 58) rfl (ad1.add (k * 11)) rfl U.toList _ (fun w h=>HLX.out w h) Tryz.underlying28 rfl HXS.out.1) (by assumption) ?_
                  simp only [Act.put,List.getElem_toArray,List.getElem_cons_succ,List.getElem_cons_zero,List.setIfInBounds_toArray,List.set_cons_succ,List.set_cons_zero]
                  refine wpAnyH_take (i:=5) (v:=_) rfl (by as_aux_lemma=>kernel_rfl) (by as_aux_lemma=>kernel_rfl) (by as_aux_lemma=>kernel_rfl) (fun _ _ _ h=>h) (Or.inl ⟨by rfl,fun w h=>by have e0:=HG5.out w h;have e1:=HK5.out w h;clear h;go_simp;(try with_reducible rfl)⟩) (by assumption) ?_
                  simp only [Act.put,List.getElem_toArray,List.getElem_cons_succ,List.getElem_cons_zero,List.setIfInBounds_toArray,List.set_cons_succ,List.set_cons_zero]
                  refine wpAnyH_take (i:=6) (v:=_) rfl (by as_aux_lemma=>kernel_rfl) (by as_aux_lemma=>kernel_rfl) (by as_aux_lemma=>kernel_rfl) (fun _ _ _ h=>h) (Or.inl ⟨by rfl,fun w h=>by have e0:=HG5.out w h;have e1:=HK5.out w h;clear h;go_simp;(try with_reducible rfl)⟩) (by assumption) ?_
                  simp only [Act.put,List.getElem_toArray,List.getElem_cons_succ,List.getElem_cons_zero,List.setIfInBounds_toArray,List.set_cons_succ,List.set_cons_zero]
                  refine wpAnyH_take (i:=7) (v:=_) rfl (by as_aux_lemma=>kernel_rfl) (by as_aux_lemma=>kernel_rfl) (by as_aux_lemma=>kernel_rfl) (fun _ _ _ h=>h) (Or.inl ⟨by rfl,fun w h=>by have e0:=HG5.out w h;have e1:=HK5.out w h;clear h;go_simp;(try with_reducible rfl)⟩) (by assumption) ?_
                  simp only [Act.put,List.getElem_toArray,List.getElem_cons_succ,List.getElem_cons_zero,List.setIfInBounds_toArray,List.set_cons_succ,List.set_cons_zero]
                  refine wpAnyH_take (i:=8) (v:=_) rfl (by as_aux_lemma=>kernel_rfl) (by as_aux_lemma=>kernel_rfl) (by as_aux_lemma=>kernel_rfl) (fun _ _ _ h=>h) (Or.inl ⟨by rfl,fun w h=>by have e0:=HG5.out w h;have e1:=HK5.out w h;clear h;go_simp;(try with_reducible rfl)⟩) (by assumption) ?_
                  simp only [Act.put,List.getElem_toArray,List.getElem_cons_succ,List.getElem_cons_zero,List.setIfInBounds_toArray,List.set_cons_succ,List.set_cons_zero]
                  refine wpAnyH_take (i:=9) (v:=_) rfl (by as_aux_lemma=>kernel_rfl) (by as_aux_lemma=>kernel_rfl) (by as_aux_lemma=>kernel_rfl) (fun _ _ _ h=>h) (yieldsIf_load_at (by rfl) 28 (.tmp 63) rfl (ad2.add (k * 11)) rfl V.toList _ (fun w h=>HLY.out w h) Tryz.underlying28 rfl HXS.out.2) (by assumption) ?_
                  simp only [Act.put,List.getElem_toArray,List.getElem_cons_succ,List.getElem_cons_zero,List.setIfInBounds_toArray,List.set_cons_succ,List.set_cons_zero]
                  refine wpAnyH_ready (rs:=[10]) (by as_aux_lemma=>kernel_rfl) (by simp) ?_
                  refine (AllReadyH.cons (i:=10) rfl (fun K hK=> ?_) AllReadyH.nil)
                  go_simp
                  try simp only [Array.toArray_toList]
                  refine (HCL.out _ hHeld).mono ?_
                  rintro e w5 ⟨rfl,hb5⟩
                  have hbn:=hHeld.trans (hb5.mono hHeld.size)
                  refine hK.out _ _ hbn (fun hHeld'=> ?_)
                  clear hb5 hbn
                  clear hK K hHeld
                  have hHeld:=hHeld'
                  clear hHeld'
                  try simp only [Act.put]
                  refine wpAnyH_take (i:=11) (v:=_) rfl (by as_aux_lemma=>kernel_rfl) (by as_aux_lemma=>kernel_rfl) (by as_aux_lemma=>kernel_rfl) (fun _ _ _ h=>h) (Or.inl ⟨by rfl,fun w h=>by have e0:=HG5.out w h;have e1:=HK5.out w h;clear h;go_simp;(try with_reducible rfl)⟩) (by assumption) ?_
                  simp only [Act.put,List.getElem_toArray,List.getElem_cons_succ,List.getElem_cons_zero,List.setIfInBounds_toArray,List.set_cons_succ,List.set_cons_zero]
                  refine wpAnyH_done (by as_aux_lemma=>kernel_rfl) ?_ _
                  have HL:=Lib.hid hHeld
                  clear hHeld
                  go_wp2
                  go_ret
                  exact ⟨false,rfl,⟨fun e=>(by cases e),fun e=>(HNE.out e).elim⟩,HU.out _ (HS.out.2.trans (HL.out.mono HS.out.2.size))⟩
              · obtain rfl:k=n1:=by omega
                have HEQ:Hid (x=y):=Lib.hid (HE.out.2 ⟨HB0.out.1 (by first | rfl | trivial),HB1.out.1 (by first | rfl | trivial),HB2.out.1 (by first | rfl | trivial),HB3.out.1 (by first | rfl | trivial),HB4.out.1 (by first | rfl | trivial),list_same (by rw [HNX.out,HNY.out]) (fun j hj=>HS.out.1 j (by rw [HNX.out] at hj;exact hj))⟩)
                clear hb
                go_wp2
                go_ret
                exact ⟨true,rfl,⟨fun _=>HEQ.out,fun _=>rfl⟩,HU.out _ HS.out.2⟩
           · have hz:((n1:Int) == (m1:Int))=false:=by rw [beq_eq_false_iff_ne];omega
             have hz2:((n1:Int) != (m1:Int))=true:=by rw [bne,hz];rfl
             have HNE:Hid (¬(x=y)):=Lib.hid (fun e=>hnm (by rw [←HNX.out,←HNY.out,e]))
             clear hnm
             go_wp2_with (first | (go_at_call 26;(with_reducible refine (HC2.out _ (HU.out _ HR.out)).mono ?_);rintro e w1 ⟨rfl,hb2⟩;have H1:Hid (Below W0.heap.size W0 w1):=Lib.hid (below_chain (Nat.le_refl _) HR.out hb2);clear hb2;have p5w1:=(HP5.out w1 H1.out).1;have q5w1:=(HP5.out w1 H1.out).2;dsimp only))
             go_ret
             exact ⟨false,rfl,⟨fun e=>(by cases e),fun e=>(HNE.out e).elim⟩,HU.out _ H1.out⟩
theorem dirW_known (d:Int):knownN.contains (dirW d)=true:=by
 unfold dirW
 split
 · decide
 · split
   · decide
   · split <;> decide
theorem known_bs {n:Tx} {v:ByteArray} (h:knownN.contains n=true):known ⟨bs n,v⟩=true:=by
 unfold known
 rw [tx_bs]
 exact h
theorem attrsC_known (c:CodecS):∀a∈attrsC c,known a=true:=by
 intro a ha
 unfold attrsC formatA at ha
 rw [List.mem_cons,List.mem_append] at ha
 rcases ha with rfl | ha | ha
 · exact known_bs (by decide)
 · split at ha
   · cases ha
   · rw [List.mem_singleton] at ha
     subst ha
     exact known_bs (by decide)
 · obtain ⟨f,_,rfl⟩:=List.mem_map.1 ha
   exact known_bs (by decide)
theorem attrsM_known (m:MediaS):(attrsM m).filter known=attrsM m:=by
 rw [List.filter_eq_self]
 intro a ha
 unfold attrsM attrsR at ha
 simp only [List.mem_cons,List.mem_append] at ha
 rcases ha with rfl | rfl | ha | ha | (ha | ha) | ha | ha | ha
 · exact known_bs (by decide)
 · exact known_bs (dirW_known _)
 · obtain ⟨c,_,hc⟩:=List.mem_flatMap.1 ha
   exact attrsC_known c a hc
 · obtain ⟨x,_,rfl⟩:=List.mem_map.1 ha
   exact known_bs (by decide)
 · obtain ⟨x,_,rfl⟩:=List.mem_map.1 ha
   exact known_bs (by decide)
 · split at ha
   · cases ha
   · rw [List.mem_singleton] at ha
     subst ha
     exact known_bs (by decide)
 · obtain ⟨x,_,rfl⟩:=List.mem_map.1 ha
   exact known_bs (by decide)
 · obtain ⟨x,_,rfl⟩:=List.mem_map.1 ha
   exact known_bs (by decide)
 · split at ha
   · rw [List.mem_singleton] at ha
     subst ha
     exact known_bs (by decide)
   · cases ha
theorem isM_part {m:MediaS} (h:mayM m=true):IsM (partM m) m:=⟨h,(tx_bs _).symm,rfl,(attrsM_known m).symm⟩
theorem encK_le:∀(n:Nat) (l:Tx),l.length≤n→(encK l).length≤2 * n
 | n,[],_=>by simp [encK]
 | n,[_],_=>by simp [encK]
 | n,[_,_],_=>by simp [encK]
 | n,a :: b :: c :: r,h=>by
   have h2:r.length≤n - 3:=by simp at h;omega
   have:=encK_le (n - 3) r h2
   have h3:3≤n:=by simp at h;omega
   show ((enc3 a b c)++encK r).length≤_
   rw [List.length_append]
   show 4+(encK r).length≤_
   omega
theorem decI_le19 {n:Int} (h:n≤9223372036854775807):(decI n).length≤19:=by
 have:=decI_len h
 rwa [bs_size] at this
theorem dec_le19 {n:Nat} (h:n<4294967296):(dec n).length≤19:=by
 have:=decI_le19 (n:=(n:Int)) (by omega)
 unfold decI at this
 simpa using this
theorem wayW_len (b:Bool):(wayW b).length=4:=by cases b <;> rfl
theorem semi_le:∀(L:List ByteArray),(∀r∈L,r.size≤8)→(semi L).length≤9 * L.length
 | [],_=>by simp [semi]
 | [a],h=>by
   have:=h a (by simp)
   show (tx a).length≤9
   rw [tx_length];omega
 | a :: b :: r,h=>by
   have h1:=h a (by simp)
   have h2:=semi_le (b :: r) (fun x hx=>h x (by simp [hx]))
   show (tx a++59 :: semi (b :: r)).length≤_
   rw [List.length_append,List.length_cons,tx_length]
   simp only [List.length_cons] at h2 ⊢
   omega
theorem typesT_le:∀(L:List CodecS),(∀c∈L,c.type≤127)→(typesT L).length≤20 * L.length
 | [],_=>by simp [typesT]
 | c :: L,h=>by
   have h1:=decI_le19 (n:=c.type) (by have:=h c (by simp);omega)
   have h2:=typesT_le L (fun x hx=>h x (by simp [hx]))
   unfold typesT at h2 ⊢
   rw [List.flatMap_cons,List.length_append]
   simp only [List.length_cons] at *
   omega
theorem ReadO.is {p:PartS} {w w':World} {e:Ending} {m:MediaS} (h:ReadO p w e w') (hi:IsM p m) (ht:TypedM m):∃vC vE vR vS vY bm cs,e=.returned (.tuple #[.agg (mcell m vC vE vR vS vY),.int .i64 0])∧Below w.heap.size w w'∧MW w.heap.size bm 64 w' m cs vC vE vR vS vY:=by
 obtain ⟨m',vC,vE,vR,vS,vY,er,rfl,hb,h⟩:=h
 rcases h with ⟨rfl,h1,bm,cs,hM⟩ | ⟨rfl,-,h2⟩
 · have e1:=IsM.read rP_law hi ht
   have e2:=IsM.read rP_law h1 hM.siz.typed
   obtain rfl:m'=m:=by rw [←e1,←e2]
   exact ⟨vC,vE,vR,vS,vY,bm,cs,rfl,hb,hM⟩
 · exact absurd hi (h2 m ht)
theorem small_part {m:MediaS} (h:mayM m=true) (ht:TypedM m):(partM m).line.size≤100000∧∀a∈(partM m).attrs,a.value.size≤100000:=by
 have hm:goodM m=true∧(attrsM m).length≤64:=by
  unfold mayM at h
  rw [Bool.and_eq_true,decide_eq_true_eq] at h
  exact h
 obtain ⟨hp,hw,hd,hk,hg⟩:=goodM_parts hm.1
 refine ⟨?_,?_⟩
 · show (bs (lineM m)).size≤_
   rw [bs_size]
   unfold lineM
   have h1:=kindW_len m.kind
   rw [bs_size] at h1
   have h2:=decI_le19 (n:=m.port) (by omega)
   have h3:=typesT_le m.codecs (fun c hc=>(goodC_parts (hg.codecs c hc)).1.2)
   have h4:=hg.counts.1
   simp only [List.length_append,List.length_cons]
   split
   · show _+(_+1+(27+1))≤_ <;> simp <;> omega
   · simp only [List.length_append]
     show _≤_
     have:wStreams.length=9:=rfl
     omega
 · intro a ha
   have ha:a∈attrsM m:=ha
   unfold attrsM attrsR at ha
   simp only [List.mem_cons,List.mem_append] at ha
   rcases ha with rfl | rfl | ha | ha | (ha | ha) | ha | ha | ha
   · have:=(wordP_len hw).2
     rw [tx_length] at this
     show m.mid.size≤_
     omega
   · show (bs []).size≤_
     rw [bs_size];simp
   · obtain ⟨c,hc,ha⟩:=List.mem_flatMap.1 ha
     obtain ⟨⟨t0,t1⟩,hn,⟨k0,k1⟩,hch,hf,hfl,hfe⟩:=goodC_parts (hg.codecs c hc)
     have d1:=decI_le19 (n:=c.type) (by omega)
     have d2:=decI_le19 (n:=c.clock) (by omega)
     have d3:=(wordP_len hn).2
     unfold attrsC formatA at ha
     rw [List.mem_cons,List.mem_append] at ha
     rcases ha with rfl | ha | ha
     · show (bs (codecT c)).size≤_
       rw [bs_size]
       unfold codecT
       have:(if c.chans=2 then ([47,50]:Tx) else []).length≤2:=by split <;> simp
       simp only [List.length_append,List.length_cons]
       omega
     · split at ha
       · cases ha
       · next he =>
         rw [List.mem_singleton] at ha
         subst ha
         show (bs (headT c.type (tx c.format))).size≤_
         rw [bs_size]
         unfold headT
         rcases hf with hf | hf
         · exact absurd hf he
         · have:=plain_len hf
           simp only [List.length_append,List.length_cons]
           omega
     · obtain ⟨f,hfm,rfl⟩:=List.mem_map.1 ha
       have:=plain_len (hfe f hfm)
       show (bs (headT c.type (tx f))).size≤_
       rw [bs_size]
       unfold headT
       simp only [List.length_append,List.length_cons]
       omega
   · obtain ⟨x,hx,rfl⟩:=List.mem_map.1 ha
     have hgx:=hg.exts x hx
     unfold goodE at hgx
     simp only [Bool.and_eq_true,decide_eq_true_eq] at hgx
     have d1:=decI_le19 (n:=x.id) (by omega)
     have hu:(tx x.uri).length≤100:=by
      have:=hgx.2
      unfold uriP at this
      simp only [Bool.and_eq_true,decide_eq_true_eq] at this
      exact this.1.2
     show (bs (headT x.id (tx x.uri))).size≤_
     rw [bs_size]
     unfold headT
     simp only [List.length_append,List.length_cons]
     omega
   · obtain ⟨x,hx,rfl⟩:=List.mem_map.1 ha
     have h1:=(wordP_len (hg.rids x hx)).2
     have h2:=wayW_len m.sending
     show (bs (tx x++32 :: wayW m.sending)).size≤_
     rw [bs_size,List.length_append,List.length_cons]
     omega
   · split at ha
     · cases ha
     · rw [List.mem_singleton] at ha
       subst ha
       have h2:=wayW_len m.sending
       have h3:=semi_le m.rids (fun r hr=>by have:=(wordP_len (hg.rids r hr)).2;rw [tx_length] at this;exact this)
       have h4:=hg.counts.2.2.1
       show (bs (wayW m.sending++32 :: semi m.rids)).size≤_
       rw [bs_size,List.length_append,List.length_cons]
       omega
   · obtain ⟨x,hx,rfl⟩:=List.mem_map.1 ha
     have:=dec_le19 (ht.1 x hx)
     show (bs (dec x)).size≤_
     rw [bs_size]
     omega
   · obtain ⟨x,hx,rfl⟩:=List.mem_map.1 ha
     have hgx:=hg.crypto x hx
     unfold goodY at hgx
     simp only [Bool.and_eq_true,decide_eq_true_eq] at hgx
     have d1:=decI_le19 (n:=x.tag) (by omega)
     have d2:=encK_le 30 x.key (by rw [ht.2 x hx];exact Nat.le_refl _)
     show (bs (cryptoT x)).size≤_
     rw [bs_size]
     unfold cryptoT
     simp only [List.length_append]
     have:wInline.length=32:=rfl
     omega
   · split at ha
     · rw [List.mem_singleton] at ha
       subst ha
       have:=decI_le19 (n:=m.sctp) (by have:=hg.port;omega)
       show (bs (decI m.sctp)).size≤_
       rw [bs_size]
       omega
     · cases ha
theorem names_part (m:MediaS):∀a∈attrsM m,a.name.size≤100:=fun a ha=>by
 rw [←attrsM_known m] at ha
 have h:=(List.mem_filter.1 ha).2
 unfold known at h
 rw [←tx_length]
 have h2:tx a.name∈knownN:=List.contains_iff_mem.1 h
 have h3:∀x∈knownN,x.length≤100:=by decide
 exact h3 _ h2
theorem siz_ses {d:DescS} (hg:goodD d=true) (hm:∀m∈d.media,mayM m=true) (ht:TypedD d):SizS (sesD d):=by
 obtain ⟨h1,h2,h3,h4,h5,h6,h7⟩:=goodD_parts hg
 have w1:=(wordP_len h1).2
 have w2:=(wordP_len h2).2
 rw [tx_length] at w1 w2
 have hB:=goodD_few hg
 have hbs:∀b∈d.bundle,b.size≤16:=fun b hb=>by
  have:=(wordP_len (goodD_bundle hg b hb)).2
  rwa [tx_length] at this
 have hfl:=bundle_fl hbs
 have d1:=dec_len 19 d.id (by rw [show (10:Nat) ^ (19+1)=100000000000000000000 by decide];have:=ht.1;omega)
 have d2:=dec_len 19 d.ver (by rw [show (10:Nat) ^ (19+1)=100000000000000000000 by decide];have:=ht.2.1;omega)
 refine ⟨⟨?_,by show (bs [45]).size≤_;decide,by show (bs [48,32,48]).size≤_;decide⟩,fun i a ha=> ?_,fun i p hp=> ?_⟩
 · show (bs (originT d.id d.ver)).size≤_
   rw [bs_size]
   unfold originT
   simp only [List.length_cons,List.length_append,List.length_nil]
   omega
 · have ha:a∈headA d:=List.mem_of_getElem? ha
   unfold headA at ha
   rw [List.mem_append] at ha
   rcases ha with ha | ha
   · split at ha
     · cases ha
     · rw [List.mem_singleton] at ha
       subst ha
       refine ⟨by show (bs nGroup).size≤_;decide,?_⟩
       show (bs (groupT d.bundle)).size≤_
       rw [bs_size]
       unfold groupT
       rw [List.length_append]
       have h8:d.bundle.length * (16+1)≤8 * (16+1):=Nat.mul_le_mul_right _ hB
       have h9:wBundle.length=6:=rfl
       omega
   · simp only [List.mem_cons,List.not_mem_nil,or_false] at ha
     rcases ha with rfl | rfl
     · exact ⟨by show (bs nUfrag).size≤_;decide,by show d.name.size≤_;omega⟩
     · exact ⟨by show (bs nPwd).size≤_;decide,by show d.pass.size≤_;omega⟩
 · have hp:p∈d.media.map partM:=List.mem_of_getElem? hp
   obtain ⟨m,hmm,rfl⟩:=List.mem_map.1 hp
   obtain ⟨s1,s2⟩:=small_part (hm m hmm) (ht.2.2 m hmm)
   have hf:=attrsM_few (hm m hmm)
   refine ⟨by omega,by show (bs wConn).size≤_;decide,fun j a ha=> ?_,?_⟩
   · have ha:a∈attrsM m:=List.mem_of_getElem? ha
     have:=s2 a ha
     have:=names_part m a ha
     omega
   · show (attrsM m).length * 32≤_
     omega
end Go.Proofs.YtgnpckelbokniaaGreatDoor
