import Derived.Test.YtgnpckelbokniaaGreatDoorPkDescBackA14
namespace Go.Proofs.YtgnpckelbokniaaGreatDoor
open Go.RowKit
set_option linter.unusedVariables false
set_option linter.unusedSimpArgs false
set_option maxHeartbeats 6400000 in
set_option maxRecDepth 100000 in
theorem r7Same_any (X Y:Array Value) (x y:MediaS) (vC vE vR vS vY uC uE uR uS uY:Value) (w:World) (h1:MediaV w w.heap.size X x vC vE vR vS vY) (h2:MediaV w w.heap.size Y y uC uE uR uS uY):Calls Tryz.prog 10 #[.agg X,.agg Y] w (SameB w x y):=by
 obtain ⟨hb0,hx0,hy0⟩:=two_boxes w 28 X Y
 obtain ⟨AC1,kC1,hfC1,hlC1,hmC1,-⟩:=Rows.form h1.codecs
 obtain ⟨AC2,kC2,hfC2,hlC2,hmC2,-⟩:=Rows.form h2.codecs
 obtain ⟨nC,hnC⟩:∃n,x.codecs.length=n:=⟨_,rfl⟩
 obtain ⟨mC,hmC⟩:∃n,y.codecs.length=n:=⟨_,rfl⟩
 rw [hnC] at hfC1 hlC1
 rw [hmC] at hfC2 hlC2
 unfold maxLen at hmC1 hmC2
 have h63C:nC≤9223372036854775807∧mC≤9223372036854775807:=by omega
 subst hfC1 hfC2
 have HNC:=Lib.hid (And.intro hnC hmC)
 clear hnC hmC hlC1 hlC2 hmC1 hmC2
 obtain ⟨AE1,kE1,hfE1,hlE1,hmE1,-⟩:=Rows.form h1.exts
 obtain ⟨AE2,kE2,hfE2,hlE2,hmE2,-⟩:=Rows.form h2.exts
 obtain ⟨nE,hnE⟩:∃n,x.exts.length=n:=⟨_,rfl⟩
 obtain ⟨mE,hmE⟩:∃n,y.exts.length=n:=⟨_,rfl⟩
 rw [hnE] at hfE1 hlE1
 rw [hmE] at hfE2 hlE2
 unfold maxLen at hmE1 hmE2
 have h63E:nE≤9223372036854775807∧mE≤9223372036854775807:=by omega
 subst hfE1 hfE2
 have HNX:=Lib.hid (And.intro hnE hmE)
 clear hnE hmE hlE1 hlE2 hmE1 hmE2
 obtain ⟨AR1,kR1,hfR1,hlR1,hmR1,-⟩:=Rows.form h1.rids
 obtain ⟨AR2,kR2,hfR2,hlR2,hmR2,-⟩:=Rows.form h2.rids
 obtain ⟨nR,hnR⟩:∃n,x.rids.length=n:=⟨_,rfl⟩
 obtain ⟨mR,hmR⟩:∃n,y.rids.length=n:=⟨_,rfl⟩
 rw [hnR] at hfR1 hlR1
 rw [hmR] at hfR2 hlR2
 unfold maxLen at hmR1 hmR2
 have h63R:nR≤9223372036854775807∧mR≤9223372036854775807:=by omega
 subst hfR1 hfR2
 have HNR:=Lib.hid (And.intro hnR hmR)
 clear hnR hmR hlR1 hlR2 hmR1 hmR2
 obtain ⟨AS1,kS1,hfS1,hlS1,hmS1,-⟩:=Rows.form h1.sources
 obtain ⟨AS2,kS2,hfS2,hlS2,hmS2,-⟩:=Rows.form h2.sources
 obtain ⟨nS,hnS⟩:∃n,x.sources.length=n:=⟨_,rfl⟩
 obtain ⟨mS,hmS⟩:∃n,y.sources.length=n:=⟨_,rfl⟩
 rw [hnS] at hfS1 hlS1
 rw [hmS] at hfS2 hlS2
 unfold maxLen at hmS1 hmS2
 have h63S:nS≤9223372036854775807∧mS≤9223372036854775807:=by omega
 subst hfS1 hfS2
 have HNS:=Lib.hid (And.intro hnS hmS)
 clear hnS hmS hlS1 hlS2 hmS1 hmS2
 obtain ⟨AY1,kY1,hfY1,hlY1,hmY1,-⟩:=Rows.form h1.crypto
 obtain ⟨AY2,kY2,hfY2,hlY2,hmY2,-⟩:=Rows.form h2.crypto
 obtain ⟨nY,hnY⟩:∃n,x.crypto.length=n:=⟨_,rfl⟩
 obtain ⟨mY,hmY⟩:∃n,y.crypto.length=n:=⟨_,rfl⟩
 rw [hnY] at hfY1 hlY1
 rw [hmY] at hfY2 hlY2
 unfold maxLen at hmY1 hmY2
 have h63Y:nY≤9223372036854775807∧mY≤9223372036854775807:=by omega
 subst hfY1 hfY2
 have HNY:=Lib.hid (And.intro hnY hmY)
 clear hnY hmY hlY1 hlY2 hmY1 hmY2
 obtain ⟨b6,hb6⟩:=sameBool x.rids y.rids
 have HC6:Hid (∀W,Below w.heap.size w W→Calls Tryz.prog 26 #[.slice AR1 nR kR1,.slice AR2 mR kR2] W fun e w'=>e=.returned (.bool b6)∧Below W.heap.size W w'):=Lib.hid fun W hW =>
  (sameTexts_any _ _ x.rids y.rids W ((h1.rids.below hW).more hW.size) ((h2.rids.below hW).more hW.size)).mono fun e w' h=>h.fix hb6
 have HB6:=Lib.hid hb6
 clear hb6
 have hX:=h1.form
 have hY:=h2.form
 have HV:=Lib.hid (And.intro h1 h2)
 have HP0:Hid (∀W,Below ((w.alloc (.cells X 28)).alloc (.cells Y 28)).heap.size ((w.alloc (.cells X 28)).alloc (.cells Y 28)) W→W.cell? ⟨w.heap.size,0,none⟩=some (.int .i64 x.kind)∧W.cell? ⟨w.heap.size+1,0,none⟩=some (.int .i64 y.kind)):=Lib.hid fun W hW=>⟨((hx0.under hW).cell 0).trans (by rw [hX];rfl),((hy0.under hW).cell 0).trans (by rw [hY];rfl)⟩
 have HP1:Hid (∀W,Below ((w.alloc (.cells X 28)).alloc (.cells Y 28)).heap.size ((w.alloc (.cells X 28)).alloc (.cells Y 28)) W→W.cell? ⟨w.heap.size,1,none⟩=some (.int .i64 x.port)∧W.cell? ⟨w.heap.size+1,1,none⟩=some (.int .i64 y.port)):=Lib.hid fun W hW=>⟨((hx0.under hW).cell 1).trans (by rw [hX];rfl),((hy0.under hW).cell 1).trans (by rw [hY];rfl)⟩
 have HP2:Hid (∀W,Below ((w.alloc (.cells X 28)).alloc (.cells Y 28)).heap.size ((w.alloc (.cells X 28)).alloc (.cells Y 28)) W→W.cell? ⟨w.heap.size,2,none⟩=some (.string x.mid)∧W.cell? ⟨w.heap.size+1,2,none⟩=some (.string y.mid)):=Lib.hid fun W hW=>⟨((hx0.under hW).cell 2).trans (by rw [hX];rfl),((hy0.under hW).cell 2).trans (by rw [hY];rfl)⟩
 have HP3:Hid (∀W,Below ((w.alloc (.cells X 28)).alloc (.cells Y 28)).heap.size ((w.alloc (.cells X 28)).alloc (.cells Y 28)) W→W.cell? ⟨w.heap.size,3,none⟩=some (.int .i64 x.dir)∧W.cell? ⟨w.heap.size+1,3,none⟩=some (.int .i64 y.dir)):=Lib.hid fun W hW=>⟨((hx0.under hW).cell 3).trans (by rw [hX];rfl),((hy0.under hW).cell 3).trans (by rw [hY];rfl)⟩
 have HP4:Hid (∀W,Below ((w.alloc (.cells X 28)).alloc (.cells Y 28)).heap.size ((w.alloc (.cells X 28)).alloc (.cells Y 28)) W→W.cell? ⟨w.heap.size,4,none⟩=some (.slice AC1 nC kC1)∧W.cell? ⟨w.heap.size+1,4,none⟩=some (.slice AC2 mC kC2)):=Lib.hid fun W hW=>⟨((hx0.under hW).cell 4).trans (by rw [hX];rfl),((hy0.under hW).cell 4).trans (by rw [hY];rfl)⟩
 have HP5:Hid (∀W,Below ((w.alloc (.cells X 28)).alloc (.cells Y 28)).heap.size ((w.alloc (.cells X 28)).alloc (.cells Y 28)) W→W.cell? ⟨w.heap.size,5,none⟩=some (.slice AE1 nE kE1)∧W.cell? ⟨w.heap.size+1,5,none⟩=some (.slice AE2 mE kE2)):=Lib.hid fun W hW=>⟨((hx0.under hW).cell 5).trans (by rw [hX];rfl),((hy0.under hW).cell 5).trans (by rw [hY];rfl)⟩
 have HP6:Hid (∀W,Below ((w.alloc (.cells X 28)).alloc (.cells Y 28)).heap.size ((w.alloc (.cells X 28)).alloc (.cells Y 28)) W→W.cell? ⟨w.heap.size,6,none⟩=some (.slice AR1 nR kR1)∧W.cell? ⟨w.heap.size+1,6,none⟩=some (.slice AR2 mR kR2)):=Lib.hid fun W hW=>⟨((hx0.under hW).cell 6).trans (by rw [hX];rfl),((hy0.under hW).cell 6).trans (by rw [hY];rfl)⟩
 have HP7:Hid (∀W,Below ((w.alloc (.cells X 28)).alloc (.cells Y 28)).heap.size ((w.alloc (.cells X 28)).alloc (.cells Y 28)) W→W.cell? ⟨w.heap.size,7,none⟩=some (.bool x.sending)∧W.cell? ⟨w.heap.size+1,7,none⟩=some (.bool y.sending)):=Lib.hid fun W hW=>⟨((hx0.under hW).cell 7).trans (by rw [hX];rfl),((hy0.under hW).cell 7).trans (by rw [hY];rfl)⟩
 have HP8:Hid (∀W,Below ((w.alloc (.cells X 28)).alloc (.cells Y 28)).heap.size ((w.alloc (.cells X 28)).alloc (.cells Y 28)) W→W.cell? ⟨w.heap.size,8,none⟩=some (.slice AS1 nS kS1)∧W.cell? ⟨w.heap.size+1,8,none⟩=some (.slice AS2 mS kS2)):=Lib.hid fun W hW=>⟨((hx0.under hW).cell 8).trans (by rw [hX];rfl),((hy0.under hW).cell 8).trans (by rw [hY];rfl)⟩
 have HP9:Hid (∀W,Below ((w.alloc (.cells X 28)).alloc (.cells Y 28)).heap.size ((w.alloc (.cells X 28)).alloc (.cells Y 28)) W→W.cell? ⟨w.heap.size,9,none⟩=some (.slice AY1 nY kY1)∧W.cell? ⟨w.heap.size+1,9,none⟩=some (.slice AY2 mY kY2)):=Lib.hid fun W hW=>⟨((hx0.under hW).cell 9).trans (by rw [hX];rfl),((hy0.under hW).cell 9).trans (by rw [hY];rfl)⟩
 have HP10:Hid (∀W,Below ((w.alloc (.cells X 28)).alloc (.cells Y 28)).heap.size ((w.alloc (.cells X 28)).alloc (.cells Y 28)) W→W.cell? ⟨w.heap.size,10,none⟩=some (.int .i64 x.sctp)∧W.cell? ⟨w.heap.size+1,10,none⟩=some (.int .i64 y.sctp)):=Lib.hid fun W hW=>⟨((hx0.under hW).cell 10).trans (by rw [hX];rfl),((hy0.under hW).cell 10).trans (by rw [hY];rfl)⟩
 have HEX:Hid (x=y↔x.kind=y.kind∧x.port=y.port∧x.mid=y.mid∧x.dir=y.dir∧x.sending=y.sending∧x.sctp=y.sctp∧x.rids=y.rids∧x.codecs=y.codecs∧x.exts=y.exts∧x.sources=y.sources∧x.crypto=y.crypto):=Lib.hid
  ⟨fun e=>by rw [e];exact ⟨rfl,rfl,rfl,rfl,rfl,rfl,rfl,rfl,rfl,rfl,rfl⟩,fun ⟨a1,a2,a3,a4,a5,a6,a7,a8,a9,a10,a11⟩=>MediaS.ext' a1 a2 a3 a4 a8 a9 a7 a5 a10 a11 a6⟩
 have HBX:=Lib.hid hb0
 clear h1 h2 hx0 hy0 hX hY hb0
 obtain ⟨LC,hLC⟩:∃l,x.codecs=l:=⟨_,rfl⟩
 obtain ⟨MC,hMC⟩:∃l,y.codecs=l:=⟨_,rfl⟩
 obtain ⟨LE,hLE⟩:∃l,x.exts=l:=⟨_,rfl⟩
 obtain ⟨ME,hME⟩:∃l,y.exts=l:=⟨_,rfl⟩
 obtain ⟨LS,hLS⟩:∃l,x.sources=l:=⟨_,rfl⟩
 obtain ⟨MS,hMS⟩:∃l,y.sources=l:=⟨_,rfl⟩
 obtain ⟨LY,hLY⟩:∃l,x.crypto=l:=⟨_,rfl⟩
 obtain ⟨MY,hMY⟩:∃l,y.crypto=l:=⟨_,rfl⟩
 have HVC:Hid (CodecsV w w.heap.size (.slice AC1 nC kC1) LC∧CodecsV w w.heap.size (.slice AC2 mC kC2) MC):=Lib.hid (by rw [←hLC,←hMC];exact ⟨HV.out.1.codecs,HV.out.2.codecs⟩)
 have HVE:Hid (ExtsV w w.heap.size (.slice AE1 nE kE1) LE∧ExtsV w w.heap.size (.slice AE2 mE kE2) ME):=Lib.hid (by rw [←hLE,←hME];exact ⟨HV.out.1.exts,HV.out.2.exts⟩)
 have HVS:Hid (NumsV w w.heap.size (.slice AS1 nS kS1) LS∧NumsV w w.heap.size (.slice AS2 mS kS2) MS):=Lib.hid (by rw [←hLS,←hMS];exact ⟨HV.out.1.sources,HV.out.2.sources⟩)
 have HVY:Hid (CrysV w w.heap.size (.slice AY1 nY kY1) LY∧CrysV w w.heap.size (.slice AY2 mY kY2) MY):=Lib.hid (by rw [←hLY,←hMY];exact ⟨HV.out.1.crypto,HV.out.2.crypto⟩)
 rw [hLC,hMC,hLE,hME,hLS,hMS,hLY,hMY] at HEX
 rw [hLC,hMC] at HNC
 rw [hLE,hME] at HNX
 rw [hLS,hMS] at HNS
 rw [hLY,hMY] at HNY
 clear HV HNR hLC hMC hLE hME hLS hMS hLY hMY
 generalize x.kind=x0 at *
 generalize y.kind=y0 at *
 generalize x.port=x1 at *
 generalize y.port=y1 at *
 generalize x.mid=x2 at *
 generalize y.mid=y2 at *
 generalize x.dir=x3 at *
 generalize y.dir=y3 at *
 generalize x.sending=x7 at *
 generalize y.sending=y7 at *
 generalize x.sctp=x10 at *
 generalize y.sctp=y10 at *
 go_enter Tryz.func10,Tryz.ntmps10
 go_upto_region 1 with fail
 try simp only [Nat.add_assoc,Nat.reduceAdd]
 have HU:Hid (∀W,Below ((w.alloc (.cells X 28)).alloc (.cells Y 28)).heap.size ((w.alloc (.cells X 28)).alloc (.cells Y 28)) W→Below w.heap.size w W):=Lib.hid fun W hW=>below_chain (Nat.le_refl _) HBX.out hW
 generalize ((w.alloc (.cells X 28)).alloc (.cells Y 28))=W0 at *
 clear HBX
 have HR:=Lib.hid (Below.refl W0.heap.size W0)
 have p0:=(HP0.out W0 HR.out).1
 have q0:=(HP0.out W0 HR.out).2
 have p1:=(HP1.out W0 HR.out).1
 have q1:=(HP1.out W0 HR.out).2
 have p2:=(HP2.out W0 HR.out).1
 have q2:=(HP2.out W0 HR.out).2
 have p3:=(HP3.out W0 HR.out).1
 have q3:=(HP3.out W0 HR.out).2
 have p7:=(HP7.out W0 HR.out).1
 have q7:=(HP7.out W0 HR.out).2
 have p10:=(HP10.out W0 HR.out).1
 have q10:=(HP10.out W0 HR.out).2
 have p6:=(HP6.out W0 HR.out).1
 have q6:=(HP6.out W0 HR.out).2
 have HB0:Hid ((x0 == y0)=true↔x0=y0):=Lib.hid beq_iff_eq
 obtain ⟨b0,hb0'⟩:∃b,(x0 == y0)=b:=⟨_,rfl⟩
 rw [hb0'] at HB0
 have hn0':(x0 != y0) = !b0:=by rw [←hb0'];rfl
 cases b0 with
 | false =>
   have HNE:Hid (¬(x=y)):=Lib.hid (fun e=>by have h:=(HEX.out.1 e).1;have:=HB0.out.2 h;cases this)
   go_wp2_with fail
   go_ret
   exact ⟨false,rfl,⟨fun e=>(by cases e),fun e=>(HNE.out e).elim⟩,HU.out _ HR.out⟩
 | true =>
   have HB1:Hid ((x1 == y1)=true↔x1=y1):=Lib.hid beq_iff_eq
   obtain ⟨b1,hb1'⟩:∃b,(x1 == y1)=b:=⟨_,rfl⟩
   rw [hb1'] at HB1
   have hn1':(x1 != y1) = !b1:=by rw [←hb1'];rfl
   cases b1 with
   | false =>
     have HNE:Hid (¬(x=y)):=Lib.hid (fun e=>by have h:=(HEX.out.1 e).2.1;have:=HB1.out.2 h;cases this)
     go_wp2_with fail
     go_ret
     exact ⟨false,rfl,⟨fun e=>(by cases e),fun e=>(HNE.out e).elim⟩,HU.out _ HR.out⟩
   | true =>
     have HB2:Hid ((x2.toList == y2.toList)=true↔x2=y2):=Lib.hid toList_beq
     obtain ⟨b2,hb2'⟩:∃b,(x2.toList == y2.toList)=b:=⟨_,rfl⟩
     rw [hb2'] at HB2
     have hn2':(x2.toList != y2.toList) = !b2:=by rw [←hb2'];rfl
     cases b2 with
     | false =>
       have HNE:Hid (¬(x=y)):=Lib.hid (fun e=>by have h:=(HEX.out.1 e).2.2.1;have:=HB2.out.2 h;cases this)
       go_wp2_with fail
       go_ret
       exact ⟨false,rfl,⟨fun e=>(by cases e),fun e=>(HNE.out e).elim⟩,HU.out _ HR.out⟩
     | true =>
       have HB3:Hid ((x3 == y3)=true↔x3=y3):=Lib.hid beq_iff_eq
       obtain ⟨b3,hb3'⟩:∃b,(x3 == y3)=b:=⟨_,rfl⟩
       rw [hb3'] at HB3
       have hn3':(x3 != y3) = !b3:=by rw [←hb3'];rfl
       cases b3 with
       | false =>
         have HNE:Hid (¬(x=y)):=Lib.hid (fun e=>by have h:=(HEX.out.1 e).2.2.2.1;have:=HB3.out.2 h;cases this)
         go_wp2_with fail
         go_ret
         exact ⟨false,rfl,⟨fun e=>(by cases e),fun e=>(HNE.out e).elim⟩,HU.out _ HR.out⟩
       | true =>
         have HB7:Hid ((x7 == y7)=true↔x7=y7):=Lib.hid beq_iff_eq
         obtain ⟨b7,hb7'⟩:∃b,(x7 == y7)=b:=⟨_,rfl⟩
         rw [hb7'] at HB7
         have hn7':(x7 != y7) = !b7:=by rw [←hb7'];rfl
         cases b7 with
         | false =>
           have HNE:Hid (¬(x=y)):=Lib.hid (fun e=>by have h:=(HEX.out.1 e).2.2.2.2.1;have:=HB7.out.2 h;cases this)
           go_wp2_with fail
           go_ret
           exact ⟨false,rfl,⟨fun e=>(by cases e),fun e=>(HNE.out e).elim⟩,HU.out _ HR.out⟩
         | true =>
           have HB10:Hid ((x10 == y10)=true↔x10=y10):=Lib.hid beq_iff_eq
           obtain ⟨b10,hb10'⟩:∃b,(x10 == y10)=b:=⟨_,rfl⟩
           rw [hb10'] at HB10
           have hn10':(x10 != y10) = !b10:=by rw [←hb10'];rfl
           cases b10 with
           | false =>
             have HNE:Hid (¬(x=y)):=Lib.hid (fun e=>by have h:=(HEX.out.1 e).2.2.2.2.2.1;have:=HB10.out.2 h;cases this)
             go_wp2_with fail
             go_ret
             exact ⟨false,rfl,⟨fun e=>(by cases e),fun e=>(HNE.out e).elim⟩,HU.out _ HR.out⟩
           | true =>
             cases b6 with
             | false =>
               have HNE:Hid (¬(x=y)):=Lib.hid (fun e=>by have h:=(HEX.out.1 e).2.2.2.2.2.2.1;have:=HB6.out.2 h;cases this)
               go_wp2_with (go_at_call 26;(with_reducible refine (HC6.out _ (HU.out _ HR.out)).mono ?_);rintro e w1 ⟨rfl,hb1⟩;have H1:Hid (Below W0.heap.size W0 w1):=Lib.hid hb1;clear hb1;dsimp only)
               go_ret
               exact ⟨false,rfl,⟨fun e=>(by cases e),fun e=>(HNE.out e).elim⟩,HU.out _ H1.out⟩
             | true =>
               go_upto_if 58 with (go_at_call 26;(with_reducible refine (HC6.out _ (HU.out _ HR.out)).mono ?_);rintro e w1 ⟨rfl,hb1⟩;have H1:Hid (Below W0.heap.size W0 w1):=Lib.hid hb1;clear hb1;dsimp only)
               clear p0 q0 p1 q1 p2 q2 p3 q3 p7 q7 p10 q10 p6 q6
               have p4:=(HP4.out w1 H1.out).1
               have q4:=(HP4.out w1 H1.out).2
               have p5:=(HP5.out w1 H1.out).1
               have q5:=(HP5.out w1 H1.out).2
               have p8:=(HP8.out w1 H1.out).1
               have q8:=(HP8.out w1 H1.out).2
               have p9:=(HP9.out w1 H1.out).1
               have q9:=(HP9.out w1 H1.out).2
               have h64C:=h63C
               by_cases hNC:nC=mC
               · skip
                 have h64E:=h63E
                 by_cases hNE:nE=mE
                 · skip
                   have h64S:=h63S
                   by_cases hNS:nS=mS
                   · skip
                     have h64Y:=h63Y
                     by_cases hNY:nY=mY
                     · skip
                       have hzC:((nC:Int) == (mC:Int))=true:=by rw [hNC];simp
                       have hzE:((nE:Int) == (mE:Int))=true:=by rw [hNE];simp
                       have hzS:((nS:Int) == (mS:Int))=true:=by rw [hNS];simp
                       have hzY:((nY:Int) == (mY:Int))=true:=by rw [hNY];simp
                       go_upto_region 5 with fail
                       clear p4 q4 p5 q5 p8 q8 p9 q9
                       subst hNC hNE hNS hNY
                       have p4:=(HP4.out w1 H1.out).1
                       go_wp2
                       clear p4
                       go_loopw [96] (fun s wr=>∃k:Nat,k≤nC∧s=.int .i64 k∧(∀j,j<k→LC[j]? = MC[j]?)∧Below W0.heap.size W0 wr) (fun s _=>nC - (intOf s).toNat)
                       case atStart=>exact ⟨0,Nat.zero_le _,rfl,(fun j hj=>by omega),H1.out⟩
                       case round =>
                        obtain ⟨k,hk,rfl,hsame,hb⟩:=hrel
                        have HS:=Lib.hid (And.intro hsame hb)
                        clear hsame hb
                        have p4:=(HP4.out wr HS.out.2).1
                        have q4:=(HP4.out wr HS.out.2).2
                        have p5:=(HP5.out wr HS.out.2).1
                        have q5:=(HP5.out wr HS.out.2).2
                        have p8:=(HP8.out wr HS.out.2).1
                        have q8:=(HP8.out wr HS.out.2).2
                        have p9:=(HP9.out wr HS.out.2).1
                        have q9:=(HP9.out wr HS.out.2).2
                        have hB:Below w.heap.size w wr:=HU.out _ HS.out.2
                        by_cases hlt:k<nC
                        · obtain ⟨ad1,c1',X1,vf,e1,b1,hx,xs⟩:=CodecsV.cells (HVC.out.1.below hB) (i:=k) (by rw [HNC.out.1];exact hlt)
                          obtain ⟨ad2,c2',X2,uf,e2,b2,hy,ys⟩:=CodecsV.cells (HVC.out.2.below hB) (i:=k) (by rw [HNC.out.2];exact hlt)
                          injection e1 with e1 e1n e1c;clear e1n e1c
                          injection e2 with e2 e2n e2c;clear e2n e2c
                          subst e1 e2
                          have gL:=getD_of (L:=LC) (i:=k) (by rw [HNC.out.1];exact hlt)
                          have gM:=getD_of (L:=MC) (i:=k) (by rw [HNC.out.2];exact hlt)
                          obtain ⟨a,ha⟩:∃a,LC.getD k default=a:=⟨_,rfl⟩
                          obtain ⟨b,hbb⟩:∃b,MC.getD k default=b:=⟨_,rfl⟩
                          rw [ha] at hx gL
                          rw [hbb] at hy gM
                          have HG:=Lib.hid (And.intro gL gM)
                          obtain ⟨AF1,kF1,hvf,-⟩:=Rows.form hx.feeds
                          obtain ⟨AF2,kF2,huf,-⟩:=Rows.form hy.feeds
                          obtain ⟨nF,hnF⟩:∃n,a.feedback.length=n:=⟨_,rfl⟩
                          obtain ⟨mF,hmF⟩:∃n,b.feedback.length=n:=⟨_,rfl⟩
                          rw [hnF] at hvf
                          rw [hmF] at huf
                          subst hvf huf
                          have hk0:(0:Int)≤(k:Int):=by omega
                          have hk1:(k:Int)<(nC:Int):=by omega
                          have hwr:w.heap.size≤wr.heap.size:=hB.size
                          have HXY:=Lib.hid (And.intro hx hy)
                          have HXS:Hid ((X1.size=6∧X1.toList.all (·.oneCell')=true)∧X2.size=6∧X2.toList.all (·.oneCell')=true):=Lib.hid ⟨⟨hx.size,hx.one⟩,hy.size,hy.one⟩
                          have HXC:Hid (X1[0]? = some (.int .i64 a.type)∧X1[1]? = some (.string a.name)∧X1[2]? = some (.int .i64 a.clock)∧X1[3]? = some (.int .i64 a.chans)∧X1[4]? = some (.string a.format)∧X1[5]? = some (.slice AF1 nF kF1)):=Lib.hid (by rw [hx.form];exact ⟨rfl,rfl,rfl,rfl,rfl,rfl⟩)
                          have HYC:Hid (X2[0]? = some (.int .i64 b.type)∧X2[1]? = some (.string b.name)∧X2[2]? = some (.int .i64 b.clock)∧X2[3]? = some (.int .i64 b.chans)∧X2[4]? = some (.string b.format)∧X2[5]? = some (.slice AF2 mF kF2)):=Lib.hid (by rw [hy.form];exact ⟨rfl,rfl,rfl,rfl,rfl,rfl⟩)
                          have HX1:Hid (∀W,Below wr.heap.size wr W→∀j u,X1.toList[j]? = some u→W.cell? ((ad1.add (k * 6)).add j)=some u):=Lib.hid fun W h j u hu=>(h.cell (p:=(ad1.add (k * 6)).add j) (by rw [add_block,add_block];exact Nat.lt_of_lt_of_le b1 hwr)).trans (xs j u hu)
                          have HX2:Hid (∀W,Below wr.heap.size wr W→∀j u,X2.toList[j]? = some u→W.cell? ((ad2.add (k * 6)).add j)=some u):=Lib.hid fun W h j u hu=>(h.cell (p:=(ad2.add (k * 6)).add j) (by rw [add_block,add_block];exact Nat.lt_of_lt_of_le b2 hwr)).trans (ys j u hu)
                          have HF0:Hid (∀W,Below wr.heap.size wr W→W.cell? ⟨w.heap.size,4,none⟩=some (.slice (some ad1) nC kC1)):=Lib.hid fun W h=>(h.cell (p:=⟨w.heap.size,4,none⟩) (block_lt_of_cell p4)).trans p4
                          have HF1:Hid (∀W,Below wr.heap.size wr W→W.cell? ⟨w.heap.size+1,4,none⟩=some (.slice (some ad2) nC kC2)):=Lib.hid fun W h=>(h.cell (p:=⟨w.heap.size+1,4,none⟩) (block_lt_of_cell q4)).trans q4
                          have HKB:Hid (∀W,Below wr.heap.size wr W→Below W0.heap.size W0 W):=Lib.hid fun W hW=>below_chain (Nat.le_refl _) HS.out.2 hW
                          have HWR:Hid (w.heap.size≤wr.heap.size):=Lib.hid hwr
                          have HR0:Hid (Below wr.heap.size wr wr.drew):=Lib.hid (Below.refl _ _).drew
                          clear p4 q4 p5 q5 p8 q8 p9 q9 xs ys hx hy b1 b2 gL gM ha hbb hB hnF hmF hwr
                          go_upto_region 8 with fail
                          refine wp_region_held_drew (S:=fun W=>Below wr.heap.size wr W) (by kernel_rfl) HR0.out (fun hHeld=> ?_)
                          obtain ⟨wd,hwd⟩:∃W,wr.drew=W:=⟨_,rfl⟩
                          rw [hwd] at hHeld ⊢
                          clear hwd HR0
                          refine wpAnyH_take (i:=0) (v:=_) rfl (by as_aux_lemma=>kernel_rfl) (by as_aux_lemma=>kernel_rfl) (by as_aux_lemma=>kernel_rfl) (fun _ _ _ h=>h) (Or.inl ⟨by rfl,fun w h=>by have e0:=HF0.out w h;have e1:=HF1.out w h;clear h;go_simp;(try with_reducible rfl)⟩) (by assumption) ?_
                          simp only [Act.put,List.getElem_toArray,List.getElem_cons_succ,List.getElem_cons_zero,List.setIfInBounds_toArray,List.set_cons_succ,List.set_cons_zero]
                          refine wpAnyH_take (i:=1) (v:=_) rfl (by as_aux_lemma=>kernel_rfl) (by as_aux_lemma=>kernel_rfl) (by as_aux_lemma=>kernel_rfl) (fun _ _ _ h=>h) (Or.inl ⟨by rfl,fun w h=>by have e0:=HF0.out w h;have e1:=HF1.out w h;clear h;go_simp;(try with_reducible rfl)⟩) (by assumption) ?_
                          simp only [Act.put,List.getElem_toArray,List.getElem_cons_succ,List.getElem_cons_zero,List.setIfInBounds_toArray,List.set_cons_succ,List.set_cons_zero]
                          refine wpAnyH_take (i:=2) (v:=_) rfl (by as_aux_lemma=>kernel_rfl) (by as_aux_lemma=>kernel_rfl) (by as_aux_lemma=>kernel_rfl) (fun _ _ _ h=>h) (Or.inl ⟨by rfl,fun w h=>by have e0:=HF0.out w h;have e1:=HF1.out w h;clear h;go_simp;(try with_reducible rfl)⟩) (by assumption) ?_
                          simp only [Act.put,List.getElem_toArray,List.getElem_cons_succ,List.getElem_cons_zero,List.setIfInBounds_toArray,List.set_cons_succ,List.set_cons_zero]
                          refine wpAnyH_take (i:=3) (v:=_) rfl (by as_aux_lemma=>kernel_rfl) (by as_aux_lemma=>kernel_rfl) (by as_aux_lemma=>kernel_rfl) (fun _ _ _ h=>h) (Or.inl ⟨by rfl,fun w h=>by have e0:=HF0.out w h;have e1:=HF1.out w h;clear h;go_simp;(try with_reducible rfl)⟩) (by assumption) ?_
                          simp only [Act.put,List.getElem_toArray,List.getElem_cons_succ,List.getElem_cons_zero,List.setIfInBounds_toArray,List.set_cons_succ,List.set_cons_zero]
                          refine wpAnyH_take (i:=4) (v:=_) rfl (by as_aux_lemma=>kernel_rfl) (by as_aux_lemma=>kernel_rfl) (by as_aux_lemma=>kernel_rfl) (fun _ _ _ h=>h) (yieldsIf_load_at (by rfl) 31 (.tmp 102) rfl _ rfl X1.toList _ (fun w h=>HX1.out w h) Tryz.underlying31 rfl (by rw [Tryz.sizeCodec,Array.length_toList,HXS.out.1.1])) (by assumption) ?_
                          simp only [Act.put,List.getElem_toArray,List.getElem_cons_succ,List.getElem_cons_zero,List.setIfInBounds_toArray,List.set_cons_succ,List.set_cons_zero]
                          refine wpAnyH_take (i:=5) (v:=_) rfl (by as_aux_lemma=>kernel_rfl) (by as_aux_lemma=>kernel_rfl) (by as_aux_lemma=>kernel_rfl) (fun _ _ _ h=>h) (Or.inl ⟨by rfl,fun w h=>by have e0:=HF0.out w h;have e1:=HF1.out w h;clear h;go_simp;(try with_reducible rfl)⟩) (by assumption) ?_
                          simp only [Act.put,List.getElem_toArray,List.getElem_cons_succ,List.getElem_cons_zero,List.setIfInBounds_toArray,List.set_cons_succ,List.set_cons_zero]
                          refine wpAnyH_take (i:=6) (v:=_) rfl (by as_aux_lemma=>kernel_rfl) (by as_aux_lemma=>kernel_rfl) (by as_aux_lemma=>kernel_rfl) (fun _ _ _ h=>h) (Or.inl ⟨by rfl,fun w h=>by have e0:=HF0.out w h;have e1:=HF1.out w h;clear h;go_simp;(try with_reducible rfl)⟩) (by assumption) ?_
                          simp only [Act.put,List.getElem_toArray,List.getElem_cons_succ,List.getElem_cons_zero,List.setIfInBounds_toArray,List.set_cons_succ,List.set_cons_zero]
                          refine wpAnyH_take (i:=7) (v:=_) rfl (by as_aux_lemma=>kernel_rfl) (by as_aux_lemma=>kernel_rfl) (by as_aux_lemma=>kernel_rfl) (fun _ _ _ h=>h) (Or.inl ⟨by rfl,fun w h=>by have e0:=HF0.out w h;have e1:=HF1.out w h;clear h;go_simp;(try with_reducible rfl)⟩) (by assumption) ?_
                          simp only [Act.put,List.getElem_toArray,List.getElem_cons_succ,List.getElem_cons_zero,List.setIfInBounds_toArray,List.set_cons_succ,List.set_cons_zero]
                          refine wpAnyH_take (i:=8) (v:=_) rfl (by as_aux_lemma=>kernel_rfl) (by as_aux_lemma=>kernel_rfl) (by as_aux_lemma=>kernel_rfl) (fun _ _ _ h=>h) (Or.inl ⟨by rfl,fun w h=>by have e0:=HF0.out w h;have e1:=HF1.out w h;clear h;go_simp;(try with_reducible rfl)⟩) (by assumption) ?_
                          simp only [Act.put,List.getElem_toArray,List.getElem_cons_succ,List.getElem_cons_zero,List.setIfInBounds_toArray,List.set_cons_succ,List.set_cons_zero]
                          refine wpAnyH_take (i:=9) (v:=_) rfl (by as_aux_lemma=>kernel_rfl) (by as_aux_lemma=>kernel_rfl) (by as_aux_lemma=>kernel_rfl) (fun _ _ _ h=>h) (yieldsIf_load_at (by rfl) 31 (.tmp 107) rfl _ rfl X2.toList _ (fun w h=>HX2.out w h) Tryz.underlying31 rfl (by rw [Tryz.sizeCodec,Array.length_toList,HXS.out.2.1])) (by assumption) ?_
                          simp only [Act.put,List.getElem_toArray,List.getElem_cons_succ,List.getElem_cons_zero,List.setIfInBounds_toArray,List.set_cons_succ,List.set_cons_zero]
                          clear HF0 HF1 HX1 HX2
                          simp only [Array.toArray_toList]
                          refine wpAnyH_ready (rs:=[10,11]) (by as_aux_lemma=>kernel_rfl) (by simp) ?_
                          refine AllReadyH.cons (i:=10) rfl (fun K hK=> ?_) (AllReadyH.cons (i:=11) rfl (fun K hK=> ?_) AllReadyH.nil)
                          · as_aux_lemma =>
                            go_simp
                            have HA:Hid (Below wr.heap.size wr (wd.alloc (.cells #[.int .i64 0,.string ⟨#[]⟩,.int .i64 0,.int .i64 0,.string ⟨#[]⟩,.slice none 0 0] 31))∧Whole (wd.alloc (.cells #[.int .i64 0,.string ⟨#[]⟩,.int .i64 0,.int .i64 0,.string ⟨#[]⟩,.slice none 0 0] 31)) wd.heap.size 31 #[.int .i64 0,.string ⟨#[]⟩,.int .i64 0,.int .i64 0,.string ⟨#[]⟩,.slice none 0 0]∧wr.heap.size≤wd.heap.size):=Lib.hid ⟨hHeld.alloc hHeld.size _,Whole.new _ _ _,hHeld.size⟩
                            refine hK.out _ _ HA.out.1 (fun _=> ?_)
                            clear hK K
                            try simp only [Act.put,List.setIfInBounds_toArray,List.set_cons_succ,List.set_cons_zero]
                            generalize wd.alloc (.cells #[.int .i64 0,.string ⟨#[]⟩,.int .i64 0,.int .i64 0,.string ⟨#[]⟩,.slice none 0 0] 31)=w5 at *
                            generalize wd.heap.size=g6 at *
                            refine wpAnyH_ready (rs:=[11]) (by as_aux_lemma=>kernel_rfl) (by simp) ?_
                            refine AllReadyH.cons (i:=11) rfl (fun K hK=> ?_) AllReadyH.nil
                            go_simp
                            have HA2:Hid (Below wr.heap.size wr (w5.alloc (.cells #[.int .i64 0,.string ⟨#[]⟩,.int .i64 0,.int .i64 0,.string ⟨#[]⟩,.slice none 0 0] 31))∧Whole (w5.alloc (.cells #[.int .i64 0,.string ⟨#[]⟩,.int .i64 0,.int .i64 0,.string ⟨#[]⟩,.slice none 0 0] 31)) g6 31 #[.int .i64 0,.string ⟨#[]⟩,.int .i64 0,.int .i64 0,.string ⟨#[]⟩,.slice none 0 0]∧Whole (w5.alloc (.cells #[.int .i64 0,.string ⟨#[]⟩,.int .i64 0,.int .i64 0,.string ⟨#[]⟩,.slice none 0 0] 31)) w5.heap.size 31 #[.int .i64 0,.string ⟨#[]⟩,.int .i64 0,.int .i64 0,.string ⟨#[]⟩,.slice none 0 0]∧g6≠w5.heap.size∧wr.heap.size≤g6∧wr.heap.size≤w5.heap.size):=Lib.hid ⟨HA.out.1.alloc HA.out.1.size _,HA.out.2.1.alloc _,Whole.new _ _ _,Nat.ne_of_lt HA.out.2.1.lt,HA.out.2.2,HA.out.1.size⟩
                            refine hK.out _ _ HA2.out.1 (fun _=> ?_)
                            clear hK K HA
                            try simp only [Act.put,List.setIfInBounds_toArray,List.set_cons_succ,List.set_cons_zero]
                            generalize w5.alloc (.cells #[.int .i64 0,.string ⟨#[]⟩,.int .i64 0,.int .i64 0,.string ⟨#[]⟩,.slice none 0 0] 31)=w6 at *
                            generalize w5.heap.size=g7 at *
                            have HQ:Hid (Below wr.heap.size wr w6∧Whole w6 g6 31 #[.int .i64 0,.string ⟨#[]⟩,.int .i64 0,.int .i64 0,.string ⟨#[]⟩,.slice none 0 0]∧Whole w6 g7 31 #[.int .i64 0,.string ⟨#[]⟩,.int .i64 0,.int .i64 0,.string ⟨#[]⟩,.slice none 0 0]∧g6≠g7∧wr.heap.size≤g6∧wr.heap.size≤g7):=Lib.hid ⟨HA2.out.1,HA2.out.2.1,HA2.out.2.2.1,HA2.out.2.2.2.1,HA2.out.2.2.2.2.1,HA2.out.2.2.2.2.2⟩
                            clear HA2 hHeld
                            refine wpAnyH_ready (rs:=[12]) (by as_aux_lemma=>kernel_rfl) (by simp) ?_
                            refine AllReadyH.cons (i:=12) rfl (fun K hK=> ?_) AllReadyH.nil
                            refine step_store_whole (cs:=X1) rfl 31 (.tmp 6) (.tmp 103) rfl rfl rfl HQ.out.2.1 Tryz.sizeCodec HXS.out.1.1 rfl (all_list HXS.out.1.2) ?_
                            refine hK.out _ _ (below_row HQ.out.1 HQ.out.2.2.2.2.1 _) (fun _=> ?_)
                            clear hK K
                            try simp only [Act.put,List.setIfInBounds_toArray,List.set_cons_succ,List.set_cons_zero]
                            have HG2:Hid (Below wr.heap.size wr (w6.setRow g6 X1)∧Whole (w6.setRow g6 X1) g6 31 X1∧Whole (w6.setRow g6 X1) g7 31 #[.int .i64 0,.string ⟨#[]⟩,.int .i64 0,.int .i64 0,.string ⟨#[]⟩,.slice none 0 0]):=Lib.hid ⟨below_row HQ.out.1 HQ.out.2.2.2.2.1 _,HQ.out.2.1.row _,HQ.out.2.2.1.farRow (fun e=>HQ.out.2.2.2.1 e.symm) _⟩
                            refine wpAnyH_ready (rs:=[13]) (by as_aux_lemma=>kernel_rfl) (by simp) ?_
                            refine AllReadyH.cons (i:=13) rfl (fun K hK=> ?_) AllReadyH.nil
                            refine step_store_whole (cs:=X2) rfl 31 (.tmp 7) (.tmp 108) rfl rfl rfl HG2.out.2.2 Tryz.sizeCodec HXS.out.2.1 rfl (all_list HXS.out.2.2) ?_
                            refine hK.out _ _ (below_row HG2.out.1 HQ.out.2.2.2.2.2 _) (fun _=> ?_)
                            clear hK K
                            try simp only [Act.put,List.setIfInBounds_toArray,List.set_cons_succ,List.set_cons_zero]
                            refine wpAnyH_done (by as_aux_lemma=>kernel_rfl) ?_ _
                            have HW:Hid (Below wr.heap.size wr ((w6.setRow g6 X1).setRow g7 X2)∧Whole ((w6.setRow g6 X1).setRow g7 X2) g6 31 X1∧Whole ((w6.setRow g6 X1).setRow g7 X2) g7 31 X2):=Lib.hid ⟨below_row HG2.out.1 HQ.out.2.2.2.2.2 _,HG2.out.2.1.farRow HQ.out.2.2.2.1 _,HG2.out.2.2.row _⟩
                            generalize (w6.setRow g6 X1).setRow g7 X2=w7 at *
                            clear HQ HG2
                            have z0:=(HW.out.2.1.cell 0).trans HXC.out.1
                            have y0:=(HW.out.2.2.cell 0).trans HYC.out.1
                            have z1:=(HW.out.2.1.cell 1).trans HXC.out.2.1
                            have y1:=(HW.out.2.2.cell 1).trans HYC.out.2.1
                            have z2:=(HW.out.2.1.cell 2).trans HXC.out.2.2.1
                            have y2:=(HW.out.2.2.cell 2).trans HYC.out.2.2.1
                            have z3:=(HW.out.2.1.cell 3).trans HXC.out.2.2.2.1
                            have y3:=(HW.out.2.2.cell 3).trans HYC.out.2.2.2.1
                            have z4:=(HW.out.2.1.cell 4).trans HXC.out.2.2.2.2.1
                            have y4:=(HW.out.2.2.cell 4).trans HYC.out.2.2.2.2.1
                            have z5:=(HW.out.2.1.cell 5).trans HXC.out.2.2.2.2.2
                            have y5:=(HW.out.2.2.cell 5).trans HYC.out.2.2.2.2.2
                            obtain ⟨bF,hbF⟩:=sameBool a.feedback b.feedback
                            have HBF:=Lib.hid hbF
                            have HT:Hid (Calls Tryz.prog 26 #[.slice AF1 nF kF1,.slice AF2 mF kF2] w7 fun e w'=>e=.returned (.bool bF)∧Below w7.heap.size w7 w'):=Lib.hid (by
                             have h7:Below w.heap.size wr w7:=HW.out.1.mono HWR.out
                             have h8:w.heap.size≤w7.heap.size:=Nat.le_trans HWR.out HW.out.1.size
                             exact (sameTexts_any _ _ a.feedback b.feedback w7 ((HXY.out.1.feeds.below h7).more h8) ((HXY.out.2.feeds.below h7).more h8)).mono fun e w' h=>h.fix hbF)
                            have HFIN:Hid (∀W,Below w7.heap.size w7 W→Below W0.heap.size W0 W):=Lib.hid fun W hW=>HKB.out _ (below_chain (Nat.le_refl _) HW.out.1 hW)
                            have HNO:Hid (¬a=b→¬(x=y)):=Lib.hid fun hn e=>hn (by have h:=(HEX.out.1 e).2.2.2.2.2.2.2.1;rw [h] at HG;exact Option.some.inj (HG.out.1.symm.trans HG.out.2))
                            clear hbF HW HXC HYC HXS HXY
                            obtain ⟨a0,ha0⟩:∃z,a.type=z:=⟨_,rfl⟩
                            obtain ⟨d0,hd0⟩:∃z,b.type=z:=⟨_,rfl⟩
                            rw [ha0] at z0
                            rw [hd0] at y0
                            have HD0:=Lib.hid (And.intro ha0 hd0)
                            clear ha0 hd0
                            obtain ⟨a1,ha1⟩:∃z,a.name=z:=⟨_,rfl⟩
                            obtain ⟨d1,hd1⟩:∃z,b.name=z:=⟨_,rfl⟩
                            rw [ha1] at z1
                            rw [hd1] at y1
                            have HD1:=Lib.hid (And.intro ha1 hd1)
                            clear ha1 hd1
                            obtain ⟨a2,ha2⟩:∃z,a.clock=z:=⟨_,rfl⟩
                            obtain ⟨d2,hd2⟩:∃z,b.clock=z:=⟨_,rfl⟩
                            rw [ha2] at z2
                            rw [hd2] at y2
                            have HD2:=Lib.hid (And.intro ha2 hd2)
                            clear ha2 hd2
                            obtain ⟨a3,ha3⟩:∃z,a.chans=z:=⟨_,rfl⟩
                            obtain ⟨d3,hd3⟩:∃z,b.chans=z:=⟨_,rfl⟩
                            rw [ha3] at z3
                            rw [hd3] at y3
                            have HD3:=Lib.hid (And.intro ha3 hd3)
                            clear ha3 hd3
                            obtain ⟨a4,ha4⟩:∃z,a.format=z:=⟨_,rfl⟩
                            obtain ⟨d4,hd4⟩:∃z,b.format=z:=⟨_,rfl⟩
                            rw [ha4] at z4
                            rw [hd4] at y4
                            have HD4:=Lib.hid (And.intro ha4 hd4)
                            clear ha4 hd4
                            have HE0:Hid ((a0 == d0)=true↔a0=d0):=Lib.hid beq_iff_eq
                            obtain ⟨e0,he0⟩:∃b,(a0 == d0)=b:=⟨_,rfl⟩
                            rw [he0] at HE0
                            have hn0:(a0 != d0) = !e0:=by rw [←he0];rfl
                            cases e0 with
                            | false =>
                              have HNE:=Lib.hid (HNO.out (fun e=>by have:=HE0.out.2 (by rw [←HD0.out.1,←HD0.out.2,e]);cases this))
                              go_wp2_with fail
                              go_ret
                              exact ⟨false,rfl,⟨fun e=>(by cases e),fun e=>(HNE.out e).elim⟩,HU.out _ (HFIN.out _ (Below.refl _ _))⟩
                            | true =>
                              have HE1:Hid ((a1.toList == d1.toList)=true↔a1=d1):=Lib.hid toList_beq
                              obtain ⟨e1,he1⟩:∃b,(a1.toList == d1.toList)=b:=⟨_,rfl⟩
                              rw [he1] at HE1
                              have hn1:(a1.toList != d1.toList) = !e1:=by rw [←he1];rfl
                              cases e1 with
                              | false =>
                                have HNE:=Lib.hid (HNO.out (fun e=>by have:=HE1.out.2 (by rw [←HD1.out.1,←HD1.out.2,e]);cases this))
                                go_wp2_with fail
                                go_ret
                                exact ⟨false,rfl,⟨fun e=>(by cases e),fun e=>(HNE.out e).elim⟩,HU.out _ (HFIN.out _ (Below.refl _ _))⟩
                              | true =>
                                have HE2:Hid ((a2 == d2)=true↔a2=d2):=Lib.hid beq_iff_eq
                                obtain ⟨e2,he2⟩:∃b,(a2 == d2)=b:=⟨_,rfl⟩
                                rw [he2] at HE2
                                have hn2:(a2 != d2) = !e2:=by rw [←he2];rfl
                                cases e2 with
                                | false =>
                                  have HNE:=Lib.hid (HNO.out (fun e=>by have:=HE2.out.2 (by rw [←HD2.out.1,←HD2.out.2,e]);cases this))
                                  go_wp2_with fail
                                  go_ret
                                  exact ⟨false,rfl,⟨fun e=>(by cases e),fun e=>(HNE.out e).elim⟩,HU.out _ (HFIN.out _ (Below.refl _ _))⟩
                                | true =>
                                  have HE3:Hid ((a3 == d3)=true↔a3=d3):=Lib.hid beq_iff_eq
                                  obtain ⟨e3,he3⟩:∃b,(a3 == d3)=b:=⟨_,rfl⟩
                                  rw [he3] at HE3
                                  have hn3:(a3 != d3) = !e3:=by rw [←he3];rfl
                                  cases e3 with
                                  | false =>
                                    have HNE:=Lib.hid (HNO.out (fun e=>by have:=HE3.out.2 (by rw [←HD3.out.1,←HD3.out.2,e]);cases this))
                                    go_wp2_with fail
                                    go_ret
                                    exact ⟨false,rfl,⟨fun e=>(by cases e),fun e=>(HNE.out e).elim⟩,HU.out _ (HFIN.out _ (Below.refl _ _))⟩
                                  | true =>
                                    have HE4:Hid ((a4.toList == d4.toList)=true↔a4=d4):=Lib.hid toList_beq
                                    obtain ⟨e4,he4⟩:∃b,(a4.toList == d4.toList)=b:=⟨_,rfl⟩
                                    rw [he4] at HE4
                                    have hn4:(a4.toList != d4.toList) = !e4:=by rw [←he4];rfl
                                    cases e4 with
                                    | false =>
                                      have HNE:=Lib.hid (HNO.out (fun e=>by have:=HE4.out.2 (by rw [←HD4.out.1,←HD4.out.2,e]);cases this))
                                      go_wp2_with fail
                                      go_ret
                                      exact ⟨false,rfl,⟨fun e=>(by cases e),fun e=>(HNE.out e).elim⟩,HU.out _ (HFIN.out _ (Below.refl _ _))⟩
                                    | true =>
                                      cases bF with
                                      | false =>
                                        have HNE:=Lib.hid (HNO.out (fun e=>by have:=HBF.out.2 (by rw [e]);cases this))
                                        go_wp2_with (go_at_call 26;(with_reducible refine HT.out.mono ?_);rintro e w8 ⟨rfl,hb8⟩;have HT8:Hid (Below w7.heap.size w7 w8):=Lib.hid hb8;clear hb8;dsimp only)
                                        go_ret
                                        exact ⟨false,rfl,⟨fun e=>(by cases e),fun e=>(HNE.out e).elim⟩,HU.out _ (HFIN.out _ HT8.out)⟩
                                      | true =>
                                        have HEQ:Hid (a=b):=Lib.hid (CodecS.ext' (by rw [HD0.out.1,HD0.out.2];exact HE0.out.1 (by first | rfl | trivial)) (by rw [HD1.out.1,HD1.out.2];exact HE1.out.1 (by first | rfl | trivial)) (by rw [HD2.out.1,HD2.out.2];exact HE2.out.1 (by first | rfl | trivial)) (by rw [HD3.out.1,HD3.out.2];exact HE3.out.1 (by first | rfl | trivial)) (by rw [HD4.out.1,HD4.out.2];exact HE4.out.1 (by first | rfl | trivial)) (HBF.out.1 (by first | rfl | trivial)))
                                        go_wp2_with (go_at_call 26;(with_reducible refine HT.out.mono ?_);rintro e w8 ⟨rfl,hb8⟩;have HT8:Hid (Below w7.heap.size w7 w8):=Lib.hid hb8;clear hb8;dsimp only)
                                        go_roundw
                                        case rel =>
                                         refine ⟨k+1,by omega,by go_num,fun j hj=> ?_,HFIN.out _ HT8.out⟩
                                         by_cases e:j=k
                                         · subst e
                                           rw [HG.out.1,HG.out.2,HEQ.out]
                                         · exact HS.out.1 j (by omega)
                                        case measure=>simp [intOf];omega
                          · as_aux_lemma =>
                            go_simp
                            have HA:Hid (Below wr.heap.size wr (wd.alloc (.cells #[.int .i64 0,.string ⟨#[]⟩,.int .i64 0,.int .i64 0,.string ⟨#[]⟩,.slice none 0 0] 31))∧Whole (wd.alloc (.cells #[.int .i64 0,.string ⟨#[]⟩,.int .i64 0,.int .i64 0,.string ⟨#[]⟩,.slice none 0 0] 31)) wd.heap.size 31 #[.int .i64 0,.string ⟨#[]⟩,.int .i64 0,.int .i64 0,.string ⟨#[]⟩,.slice none 0 0]∧wr.heap.size≤wd.heap.size):=Lib.hid ⟨hHeld.alloc hHeld.size _,Whole.new _ _ _,hHeld.size⟩
                            refine hK.out _ _ HA.out.1 (fun _=> ?_)
                            clear hK K
                            try simp only [Act.put,List.setIfInBounds_toArray,List.set_cons_succ,List.set_cons_zero]
                            generalize wd.alloc (.cells #[.int .i64 0,.string ⟨#[]⟩,.int .i64 0,.int .i64 0,.string ⟨#[]⟩,.slice none 0 0] 31)=w5 at *
                            generalize wd.heap.size=g7 at *
                            refine wpAnyH_ready (rs:=[10]) (by as_aux_lemma=>kernel_rfl) (by simp) ?_
                            refine AllReadyH.cons (i:=10) rfl (fun K hK=> ?_) AllReadyH.nil
                            go_simp
                            have HA2:Hid (Below wr.heap.size wr (w5.alloc (.cells #[.int .i64 0,.string ⟨#[]⟩,.int .i64 0,.int .i64 0,.string ⟨#[]⟩,.slice none 0 0] 31))∧Whole (w5.alloc (.cells #[.int .i64 0,.string ⟨#[]⟩,.int .i64 0,.int .i64 0,.string ⟨#[]⟩,.slice none 0 0] 31)) g7 31 #[.int .i64 0,.string ⟨#[]⟩,.int .i64 0,.int .i64 0,.string ⟨#[]⟩,.slice none 0 0]∧Whole (w5.alloc (.cells #[.int .i64 0,.string ⟨#[]⟩,.int .i64 0,.int .i64 0,.string ⟨#[]⟩,.slice none 0 0] 31)) w5.heap.size 31 #[.int .i64 0,.string ⟨#[]⟩,.int .i64 0,.int .i64 0,.string ⟨#[]⟩,.slice none 0 0]∧g7≠w5.heap.size∧wr.heap.size≤g7∧wr.heap.size≤w5.heap.size):=Lib.hid ⟨HA.out.1.alloc HA.out.1.size _,HA.out.2.1.alloc _,Whole.new _ _ _,Nat.ne_of_lt HA.out.2.1.lt,HA.out.2.2,HA.out.1.size⟩
                            refine hK.out _ _ HA2.out.1 (fun _=> ?_)
                            clear hK K HA
                            try simp only [Act.put,List.setIfInBounds_toArray,List.set_cons_succ,List.set_cons_zero]
                            generalize w5.alloc (.cells #[.int .i64 0,.string ⟨#[]⟩,.int .i64 0,.int .i64 0,.string ⟨#[]⟩,.slice none 0 0] 31)=w6 at *
                            generalize w5.heap.size=g6 at *
                            have HQ:Hid (Below wr.heap.size wr w6∧Whole w6 g6 31 #[.int .i64 0,.string ⟨#[]⟩,.int .i64 0,.int .i64 0,.string ⟨#[]⟩,.slice none 0 0]∧Whole w6 g7 31 #[.int .i64 0,.string ⟨#[]⟩,.int .i64 0,.int .i64 0,.string ⟨#[]⟩,.slice none 0 0]∧g6≠g7∧wr.heap.size≤g6∧wr.heap.size≤g7):=Lib.hid ⟨HA2.out.1,HA2.out.2.2.1,HA2.out.2.1,fun e=>HA2.out.2.2.2.1 e.symm,HA2.out.2.2.2.2.2,HA2.out.2.2.2.2.1⟩
                            clear HA2 hHeld
                            refine wpAnyH_ready (rs:=[12]) (by as_aux_lemma=>kernel_rfl) (by simp) ?_
                            refine AllReadyH.cons (i:=12) rfl (fun K hK=> ?_) AllReadyH.nil
                            refine step_store_whole (cs:=X1) rfl 31 (.tmp 6) (.tmp 103) rfl rfl rfl HQ.out.2.1 Tryz.sizeCodec HXS.out.1.1 rfl (all_list HXS.out.1.2) ?_
                            refine hK.out _ _ (below_row HQ.out.1 HQ.out.2.2.2.2.1 _) (fun _=> ?_)
                            clear hK K
                            try simp only [Act.put,List.setIfInBounds_toArray,List.set_cons_succ,List.set_cons_zero]
                            have HG2:Hid (Below wr.heap.size wr (w6.setRow g6 X1)∧Whole (w6.setRow g6 X1) g6 31 X1∧Whole (w6.setRow g6 X1) g7 31 #[.int .i64 0,.string ⟨#[]⟩,.int .i64 0,.int .i64 0,.string ⟨#[]⟩,.slice none 0 0]):=Lib.hid ⟨below_row HQ.out.1 HQ.out.2.2.2.2.1 _,HQ.out.2.1.row _,HQ.out.2.2.1.farRow (fun e=>HQ.out.2.2.2.1 e.symm) _⟩
                            refine wpAnyH_ready (rs:=[13]) (by as_aux_lemma=>kernel_rfl) (by simp) ?_
                            refine AllReadyH.cons (i:=13) rfl (fun K hK=> ?_) AllReadyH.nil
                            refine step_store_whole (cs:=X2) rfl 31 (.tmp 7) (.tmp 108) rfl rfl rfl HG2.out.2.2 Tryz.sizeCodec HXS.out.2.1 rfl (all_list HXS.out.2.2) ?_
                            refine hK.out _ _ (below_row HG2.out.1 HQ.out.2.2.2.2.2 _) (fun _=> ?_)
                            clear hK K
                            try simp only [Act.put,List.setIfInBounds_toArray,List.set_cons_succ,List.set_cons_zero]
                            refine wpAnyH_done (by as_aux_lemma=>kernel_rfl) ?_ _
                            have HW:Hid (Below wr.heap.size wr ((w6.setRow g6 X1).setRow g7 X2)∧Whole ((w6.setRow g6 X1).setRow g7 X2) g6 31 X1∧Whole ((w6.setRow g6 X1).setRow g7 X2) g7 31 X2):=Lib.hid ⟨below_row HG2.out.1 HQ.out.2.2.2.2.2 _,HG2.out.2.1.farRow HQ.out.2.2.2.1 _,HG2.out.2.2.row _⟩
                            generalize (w6.setRow g6 X1).setRow g7 X2=w7 at *
                            clear HQ HG2
                            have z0:=(HW.out.2.1.cell 0).trans HXC.out.1
                            have y0:=(HW.out.2.2.cell 0).trans HYC.out.1
                            have z1:=(HW.out.2.1.cell 1).trans HXC.out.2.1
                            have y1:=(HW.out.2.2.cell 1).trans HYC.out.2.1
                            have z2:=(HW.out.2.1.cell 2).trans HXC.out.2.2.1
                            have y2:=(HW.out.2.2.cell 2).trans HYC.out.2.2.1
                            have z3:=(HW.out.2.1.cell 3).trans HXC.out.2.2.2.1
                            have y3:=(HW.out.2.2.cell 3).trans HYC.out.2.2.2.1
                            have z4:=(HW.out.2.1.cell 4).trans HXC.out.2.2.2.2.1
                            have y4:=(HW.out.2.2.cell 4).trans HYC.out.2.2.2.2.1
                            have z5:=(HW.out.2.1.cell 5).trans HXC.out.2.2.2.2.2
                            have y5:=(HW.out.2.2.cell 5).trans HYC.out.2.2.2.2.2
                            obtain ⟨bF,hbF⟩:=sameBool a.feedback b.feedback
                            have HBF:=Lib.hid hbF
                            have HT:Hid (Calls Tryz.prog 26 #[.slice AF1 nF kF1,.slice AF2 mF kF2] w7 fun e w'=>e=.returned (.bool bF)∧Below w7.heap.size w7 w'):=Lib.hid (by
                             have h7:Below w.heap.size wr w7:=HW.out.1.mono HWR.out
                             have h8:w.heap.size≤w7.heap.size:=Nat.le_trans HWR.out HW.out.1.size
                             exact (sameTexts_any _ _ a.feedback b.feedback w7 ((HXY.out.1.feeds.below h7).more h8) ((HXY.out.2.feeds.below h7).more h8)).mono fun e w' h=>h.fix hbF)
                            have HFIN:Hid (∀W,Below w7.heap.size w7 W→Below W0.heap.size W0 W):=Lib.hid fun W hW=>HKB.out _ (below_chain (Nat.le_refl _) HW.out.1 hW)
                            have HNO:Hid (¬a=b→¬(x=y)):=Lib.hid fun hn e=>hn (by have h:=(HEX.out.1 e).2.2.2.2.2.2.2.1;rw [h] at HG;exact Option.some.inj (HG.out.1.symm.trans HG.out.2))
                            clear hbF HW HXC HYC HXS HXY
                            obtain ⟨a0,ha0⟩:∃z,a.type=z:=⟨_,rfl⟩
                            obtain ⟨d0,hd0⟩:∃z,b.type=z:=⟨_,rfl⟩
                            rw [ha0] at z0
                            rw [hd0] at y0
                            have HD0:=Lib.hid (And.intro ha0 hd0)
                            clear ha0 hd0
                            obtain ⟨a1,ha1⟩:∃z,a.name=z:=⟨_,rfl⟩
                            obtain ⟨d1,hd1⟩:∃z,b.name=z:=⟨_,rfl⟩
                            rw [ha1] at z1
                            rw [hd1] at y1
                            have HD1:=Lib.hid (And.intro ha1 hd1)
                            clear ha1 hd1
                            obtain ⟨a2,ha2⟩:∃z,a.clock=z:=⟨_,rfl⟩
                            obtain ⟨d2,hd2⟩:∃z,b.clock=z:=⟨_,rfl⟩
                            rw [ha2] at z2
                            rw [hd2] at y2
                            have HD2:=Lib.hid (And.intro ha2 hd2)
                            clear ha2 hd2
                            obtain ⟨a3,ha3⟩:∃z,a.chans=z:=⟨_,rfl⟩
                            obtain ⟨d3,hd3⟩:∃z,b.chans=z:=⟨_,rfl⟩
                            rw [ha3] at z3
                            rw [hd3] at y3
                            have HD3:=Lib.hid (And.intro ha3 hd3)
                            clear ha3 hd3
                            obtain ⟨a4,ha4⟩:∃z,a.format=z:=⟨_,rfl⟩
                            obtain ⟨d4,hd4⟩:∃z,b.format=z:=⟨_,rfl⟩
                            rw [ha4] at z4
                            rw [hd4] at y4
                            have HD4:=Lib.hid (And.intro ha4 hd4)
                            clear ha4 hd4
                            have HE0:Hid ((a0 == d0)=true↔a0=d0):=Lib.hid beq_iff_eq
                            obtain ⟨e0,he0⟩:∃b,(a0 == d0)=b:=⟨_,rfl⟩
                            rw [he0] at HE0
                            have hn0:(a0 != d0) = !e0:=by rw [←he0];rfl
                            cases e0 with
                            | false =>
                              have HNE:=Lib.hid (HNO.out (fun e=>by have:=HE0.out.2 (by rw [←HD0.out.1,←HD0.out.2,e]);cases this))
                              go_wp2_with fail
                              go_ret
                              exact ⟨false,rfl,⟨fun e=>(by cases e),fun e=>(HNE.out e).elim⟩,HU.out _ (HFIN.out _ (Below.refl _ _))⟩
                            | true =>
                              have HE1:Hid ((a1.toList == d1.toList)=true↔a1=d1):=Lib.hid toList_beq
                              obtain ⟨e1,he1⟩:∃b,(a1.toList == d1.toList)=b:=⟨_,rfl⟩
                              rw [he1] at HE1
                              have hn1:(a1.toList != d1.toList) = !e1:=by rw [←he1];rfl
                              cases e1 with
                              | false =>
                                have HNE:=Lib.hid (HNO.out (fun e=>by have:=HE1.out.2 (by rw [←HD1.out.1,←HD1.out.2,e]);cases this))
                                go_wp2_with fail
                                go_ret
                                exact ⟨false,rfl,⟨fun e=>(by cases e),fun e=>(HNE.out e).elim⟩,HU.out _ (HFIN.out _ (Below.refl _ _))⟩
                              | true =>
                                have HE2:Hid ((a2 == d2)=true↔a2=d2):=Lib.hid beq_iff_eq
                                obtain ⟨e2,he2⟩:∃b,(a2 == d2)=b:=⟨_,rfl⟩
                                rw [he2] at HE2
                                have hn2:(a2 != d2) = !e2:=by rw [←he2];rfl
                                cases e2 with
                                | false =>
                                  have HNE:=Lib.hid (HNO.out (fun e=>by have:=HE2.out.2 (by rw [←HD2.out.1,←HD2.out.2,e]);cases this))
                                  go_wp2_with fail
                                  go_ret
                                  exact ⟨false,rfl,⟨fun e=>(by cases e),fun e=>(HNE.out e).elim⟩,HU.out _ (HFIN.out _ (Below.refl _ _))⟩
                                | true =>
                                  have HE3:Hid ((a3 == d3)=true↔a3=d3):=Lib.hid beq_iff_eq
                                  obtain ⟨e3,he3⟩:∃b,(a3 == d3)=b:=⟨_,rfl⟩
                                  rw [he3] at HE3
                                  have hn3:(a3 != d3) = !e3:=by rw [←he3];rfl
                                  cases e3 with
                                  | false =>
                                    have HNE:=Lib.hid (HNO.out (fun e=>by have:=HE3.out.2 (by rw [←HD3.out.1,←HD3.out.2,e]);cases this))
                                    go_wp2_with fail
                                    go_ret
                                    exact ⟨false,rfl,⟨fun e=>(by cases e),fun e=>(HNE.out e).elim⟩,HU.out _ (HFIN.out _ (Below.refl _ _))⟩
                                  | true =>
                                    have HE4:Hid ((a4.toList == d4.toList)=true↔a4=d4):=Lib.hid toList_beq
                                    obtain ⟨e4,he4⟩:∃b,(a4.toList == d4.toList)=b:=⟨_,rfl⟩
                                    rw [he4] at HE4
                                    have hn4:(a4.toList != d4.toList) = !e4:=by rw [←he4];rfl
                                    cases e4 with
                                    | false =>
                                      have HNE:=Lib.hid (HNO.out (fun e=>by have:=HE4.out.2 (by rw [←HD4.out.1,←HD4.out.2,e]);cases this))
                                      go_wp2_with fail
                                      go_ret
                                      exact ⟨false,rfl,⟨fun e=>(by cases e),fun e=>(HNE.out e).elim⟩,HU.out _ (HFIN.out _ (Below.refl _ _))⟩
                                    | true =>
                                      cases bF with
                                      | false =>
                                        have HNE:=Lib.hid (HNO.out (fun e=>by have:=HBF.out.2 (by rw [e]);cases this))
                                        go_wp2_with (go_at_call 26;(with_reducible refine HT.out.mono ?_);rintro e w8 ⟨rfl,hb8⟩;have HT8:Hid (Below w7.heap.size w7 w8):=Lib.hid hb8;clear hb8;dsimp only)
                                        go_ret
                                        exact ⟨false,rfl,⟨fun e=>(by cases e),fun e=>(HNE.out e).elim⟩,HU.out _ (HFIN.out _ HT8.out)⟩
                                      | true =>
                                        have HEQ:Hid (a=b):=Lib.hid (CodecS.ext' (by rw [HD0.out.1,HD0.out.2];exact HE0.out.1 (by first | rfl | trivial)) (by rw [HD1.out.1,HD1.out.2];exact HE1.out.1 (by first | rfl | trivial)) (by rw [HD2.out.1,HD2.out.2];exact HE2.out.1 (by first | rfl | trivial)) (by rw [HD3.out.1,HD3.out.2];exact HE3.out.1 (by first | rfl | trivial)) (by rw [HD4.out.1,HD4.out.2];exact HE4.out.1 (by first | rfl | trivial)) (HBF.out.1 (by first | rfl | trivial)))
                                        go_wp2_with (go_at_call 26;(with_reducible refine HT.out.mono ?_);rintro e w8 ⟨rfl,hb8⟩;have HT8:Hid (Below w7.heap.size w7 w8):=Lib.hid hb8;clear hb8;dsimp only)
                                        go_roundw
                                        case rel =>
                                         refine ⟨k+1,by omega,by go_num,fun j hj=> ?_,HFIN.out _ HT8.out⟩
                                         by_cases e:j=k
                                         · subst e
                                           rw [HG.out.1,HG.out.2,HEQ.out]
                                         · exact HS.out.1 j (by omega)
                                        case measure=>simp [intOf];omega
                        · obtain rfl:nC=k:=by omega
                          have HLC:Hid (LC=MC):=Lib.hid (list_same (by rw [HNC.out.1,HNC.out.2]) (fun j hj=>HS.out.1 j (by rw [HNC.out.1] at hj;exact hj)))
                          clear hlt hk
                          go_wp2
                          clear p4 q4 p5 q5 p8 q8 p9 q9 hB
                          have HS1:=Lib.hid HS.out.2
                          clear HS
                          go_loopw [154] (fun s wr=>∃k:Nat,k≤nE∧s=.int .i64 k∧(∀j,j<k→LE[j]? = ME[j]?)∧Below W0.heap.size W0 wr) (fun s _=>nE - (intOf s).toNat)
                          case atStart=>exact ⟨0,Nat.zero_le _,rfl,(fun j hj=>by omega),HS1.out⟩
                          case round =>
                           obtain ⟨k,hk,rfl,hsame,hb⟩:=hrel
                           have HS:=Lib.hid (And.intro hsame hb)
                           clear hsame hb
                           have p4:=(HP4.out wr HS.out.2).1
                           have q4:=(HP4.out wr HS.out.2).2
                           have p5:=(HP5.out wr HS.out.2).1
                           have q5:=(HP5.out wr HS.out.2).2
                           have p8:=(HP8.out wr HS.out.2).1
                           have q8:=(HP8.out wr HS.out.2).2
                           have p9:=(HP9.out wr HS.out.2).1
                           have q9:=(HP9.out wr HS.out.2).2
                           have hB:Below w.heap.size w wr:=HU.out _ HS.out.2
                           by_cases hlt:k<nE
                           · obtain ⟨ad1,c1',e1,b1,x0,x1⟩:=(HVE.out.1.below hB).at_ (i:=k) (by rw [HNX.out.1];exact hlt)
                             obtain ⟨ad2,c2',e2,b2,y0,y1⟩:=(HVE.out.2.below hB).at_ (i:=k) (by rw [HNX.out.2];exact hlt)
                             injection e1 with e1 e1n e1c;clear e1n e1c
                             injection e2 with e2 e2n e2c;clear e2n e2c
                             subst e1 e2
                             have gL:=getD_of (L:=LE) (i:=k) (by rw [HNX.out.1];exact hlt)
                             have gM:=getD_of (L:=ME) (i:=k) (by rw [HNX.out.2];exact hlt)
                             obtain ⟨a,ha⟩:∃a,LE.getD k default=a:=⟨_,rfl⟩
                             obtain ⟨b,hbb⟩:∃b,ME.getD k default=b:=⟨_,rfl⟩
                             rw [ha] at x0 x1 gL
                             rw [hbb] at y0 y1 gM
                             have HG:=Lib.hid (And.intro gL gM)
                             have hk0:(0:Int)≤(k:Int):=by omega
                             have hk1:(k:Int)<(nE:Int):=by omega
                             clear gL gM ha hbb
                             by_cases heq:a=b
                             · have hq:∀W,(Op.equalIn 10000 71 (.agg #[.int .i64 a.id,.string a.uri]) (.agg #[.int .i64 b.id,.string b.uri])).run Tryz.prog W=.ok true W:=fun W=>by rw [ext_eq,heq];simp
                               have hgd:=ext_guard
                               have HEQ:=Lib.hid heq
                               clear heq b1 b2 hB
                               go_upto_region 15 with fail
                               go_quiet (fail)
                               go_wp2
                               go_roundw
                               case rel =>
                                refine ⟨k+1,by omega,by go_num,fun j hj=> ?_,below_drewN' HS.out.2 _⟩
                                by_cases e:j=k
                                · subst e
                                  rw [HG.out.1,HG.out.2,HEQ.out]
                                · exact HS.out.1 j (by omega)
                               case measure=>simp [intOf];omega
                             · have hq:∀W,(Op.equalIn 10000 71 (.agg #[.int .i64 a.id,.string a.uri]) (.agg #[.int .i64 b.id,.string b.uri])).run Tryz.prog W=.ok false W:=fun W=>by
                                rw [ext_eq]
                                congr 1
                                rw [←Bool.not_eq_true,Bool.and_eq_true,toList_beq,beq_iff_eq]
                                exact fun h=>heq (ExtS.ext' h.1 h.2)
                               have hgd:=ext_guard
                               have HNE:Hid (¬(x=y)):=Lib.hid (fun e=>by have h:=(HEX.out.1 e).2.2.2.2.2.2.2.2.1;rw [h] at HG;have:=HG.out.1.symm.trans HG.out.2;exact heq (Option.some.inj this))
                               clear heq b1 b2 hB
                               go_upto_region 15 with fail
                               go_quiet (fail)
                               go_wp2
                               go_ret
                               exact ⟨false,rfl,⟨fun e=>(by cases e),fun e=>(HNE.out e).elim⟩,HU.out _ (below_drewN' HS.out.2 _)⟩
                           · obtain rfl:nE=k:=by omega
                             have HLE:Hid (LE=ME):=Lib.hid (list_same (by rw [HNX.out.1,HNX.out.2]) (fun j hj=>HS.out.1 j (by rw [HNX.out.1] at hj;exact hj)))
                             clear hlt hk
                             go_wp2
                             clear p4 q4 p5 q5 p8 q8 p9 q9 hB
                             have HS1:=Lib.hid HS.out.2
                             clear HS
                             go_loopw [172] (fun s wr=>∃k:Nat,k≤nS∧s=.int .i64 k∧(∀j,j<k→LS[j]? = MS[j]?)∧Below W0.heap.size W0 wr) (fun s _=>nS - (intOf s).toNat)
                             case atStart=>exact ⟨0,Nat.zero_le _,rfl,(fun j hj=>by omega),HS1.out⟩
                             case round =>
                              obtain ⟨k,hk,rfl,hsame,hb⟩:=hrel
                              have HS:=Lib.hid (And.intro hsame hb)
                              clear hsame hb
                              have p4:=(HP4.out wr HS.out.2).1
                              have q4:=(HP4.out wr HS.out.2).2
                              have p5:=(HP5.out wr HS.out.2).1
                              have q5:=(HP5.out wr HS.out.2).2
                              have p8:=(HP8.out wr HS.out.2).1
                              have q8:=(HP8.out wr HS.out.2).2
                              have p9:=(HP9.out wr HS.out.2).1
                              have q9:=(HP9.out wr HS.out.2).2
                              have hB:Below w.heap.size w wr:=HU.out _ HS.out.2
                              by_cases hlt:k<nS
                              · obtain ⟨ad1,c1',e1,b1,x0⟩:=(HVS.out.1.below hB).at_ (i:=k) (by rw [HNS.out.1];exact hlt)
                                obtain ⟨ad2,c2',e2,b2,y0⟩:=(HVS.out.2.below hB).at_ (i:=k) (by rw [HNS.out.2];exact hlt)
                                injection e1 with e1 e1n e1c;clear e1n e1c
                                injection e2 with e2 e2n e2c;clear e2n e2c
                                subst e1 e2
                                have gL:=getD_of (L:=LS) (i:=k) (by rw [HNS.out.1];exact hlt)
                                have gM:=getD_of (L:=MS) (i:=k) (by rw [HNS.out.2];exact hlt)
                                obtain ⟨a,ha⟩:∃a,LS.getD k default=a:=⟨_,rfl⟩
                                obtain ⟨b,hbb⟩:∃b,MS.getD k default=b:=⟨_,rfl⟩
                                rw [ha] at x0 gL
                                rw [hbb] at y0 gM
                                have HG:=Lib.hid (And.intro gL gM)
                                have hk0:(0:Int)≤(k:Int):=by omega
                                have hk1:(k:Int)<(nS:Int):=by omega
                                clear gL gM ha hbb
                                by_cases heq:a=b
                                · have hq:((a:Int) == (b:Int))=true:=by rw [heq];simp
                                  have HEQ:=Lib.hid heq
                                  clear heq b1 b2 hB
                                  go_upto_region 21 with fail
                                  go_quiet (fail)
                                  go_wp2
                                  go_roundw
                                  case rel =>
                                   refine ⟨k+1,by omega,by go_num,fun j hj=> ?_,below_drewN' HS.out.2 _⟩
                                   by_cases e:j=k
                                   · subst e
                                     rw [HG.out.1,HG.out.2,HEQ.out]
                                   · exact HS.out.1 j (by omega)
                                  case measure=>simp [intOf];omega
                                · have hq:((a:Int) == (b:Int))=false:=by rw [beq_eq_false_iff_ne];omega
                                  have HNE:Hid (¬(x=y)):=Lib.hid (fun e=>by have h:=(HEX.out.1 e).2.2.2.2.2.2.2.2.2.1;rw [h] at HG;have:=HG.out.1.symm.trans HG.out.2;exact heq (Option.some.inj this))
                                  clear heq b1 b2 hB
                                  go_upto_region 21 with fail
                                  go_quiet (fail)
                                  go_wp2
                                  go_ret
                                  exact ⟨false,rfl,⟨fun e=>(by cases e),fun e=>(HNE.out e).elim⟩,HU.out _ (below_drewN' HS.out.2 _)⟩
                              · obtain rfl:nS=k:=by omega
                                have HLS:Hid (LS=MS):=Lib.hid (list_same (by rw [HNS.out.1,HNS.out.2]) (fun j hj=>HS.out.1 j (by rw [HNS.out.1] at hj;exact hj)))
                                clear hlt hk
                                go_wp2
                                clear p4 q4 p5 q5 p8 q8 p9 q9 hB
                                have HS1:=Lib.hid HS.out.2
                                clear HS
                                go_loopw [190] (fun s wr=>∃k:Nat,k≤nY∧s=.int .i64 k∧(∀j,j<k→LY[j]? = MY[j]?)∧Below W0.heap.size W0 wr) (fun s _=>nY - (intOf s).toNat)
                                case atStart=>exact ⟨0,Nat.zero_le _,rfl,(fun j hj=>by omega),HS1.out⟩
                                case round =>
                                 obtain ⟨k,hk,rfl,hsame,hb⟩:=hrel
                                 have HS:=Lib.hid (And.intro hsame hb)
                                 clear hsame hb
                                 have p4:=(HP4.out wr HS.out.2).1
                                 have q4:=(HP4.out wr HS.out.2).2
                                 have p5:=(HP5.out wr HS.out.2).1
                                 have q5:=(HP5.out wr HS.out.2).2
                                 have p8:=(HP8.out wr HS.out.2).1
                                 have q8:=(HP8.out wr HS.out.2).2
                                 have p9:=(HP9.out wr HS.out.2).1
                                 have q9:=(HP9.out wr HS.out.2).2
                                 have hB:Below w.heap.size w wr:=HU.out _ HS.out.2
                                 by_cases hlt:k<nY
                                 · obtain ⟨ad1,c1',e1,b1,l1,x0⟩:=(HVY.out.1.below hB).at_ (i:=k) (by rw [HNY.out.1];exact hlt)
                                   obtain ⟨ad2,c2',e2,b2,l2,y0⟩:=(HVY.out.2.below hB).at_ (i:=k) (by rw [HNY.out.2];exact hlt)
                                   injection e1 with e1 e1n e1c;clear e1n e1c
                                   injection e2 with e2 e2n e2c;clear e2n e2c
                                   subst e1 e2
                                   have gL:=getD_of (L:=LY) (i:=k) (by rw [HNY.out.1];exact hlt)
                                   have gM:=getD_of (L:=MY) (i:=k) (by rw [HNY.out.2];exact hlt)
                                   obtain ⟨a,ha⟩:∃a,LY.getD k default=a:=⟨_,rfl⟩
                                   obtain ⟨b,hbb⟩:∃b,MY.getD k default=b:=⟨_,rfl⟩
                                   rw [ha] at x0 l1 gL
                                   rw [hbb] at y0 l2 gM
                                   have HG:=Lib.hid (And.intro gL gM)
                                   have hk0:(0:Int)≤(k:Int):=by omega
                                   have hk1:(k:Int)<(nY:Int):=by omega
                                   clear gL gM ha hbb
                                   by_cases heq:a=b
                                   · have hq:∀W,(Op.equalIn 10000 75 (.agg (cryC a).toArray) (.agg (cryC b).toArray)).run Tryz.prog W=.ok true W:=fun W=>by rw [crypto_eq a b l1 l2,decide_eq_true heq]
                                     have hgd:=crypto_guard
                                     have HLL:=Lib.hid (And.intro (cryC_len l1) (cryC_len l2))
                                     have HLT:Hid (ad1.block<wr.heap.size∧ad2.block<wr.heap.size):=Lib.hid ⟨Nat.lt_of_lt_of_le b1 hB.size,Nat.lt_of_lt_of_le b2 hB.size⟩
                                     obtain ⟨XL,hXL⟩:∃l,cryC a=l:=⟨_,rfl⟩
                                     obtain ⟨YL,hYL⟩:∃l,cryC b=l:=⟨_,rfl⟩
                                     rw [hXL] at x0 hq HLL
                                     rw [hYL] at y0 hq HLL
                                     have HX1:Hid (∀W,Below wr.heap.size wr W→∀j u,XL[j]? = some u→W.cell? ((ad1.add (k * 31)).add j)=some u):=Lib.hid fun W h j u hu=>(h.cell (p:=(ad1.add (k * 31)).add j) (by rw [add_block,add_block];exact HLT.out.1)).trans (x0 j u hu)
                                     have HX2:Hid (∀W,Below wr.heap.size wr W→∀j u,YL[j]? = some u→W.cell? ((ad2.add (k * 31)).add j)=some u):=Lib.hid fun W h j u hu=>(h.cell (p:=(ad2.add (k * 31)).add j) (by rw [add_block,add_block];exact HLT.out.2)).trans (y0 j u hu)
                                     have HF0:Hid (∀W,Below wr.heap.size wr W→W.cell? ⟨w.heap.size,9,none⟩=some (.slice (some ad1) nY kY1)):=Lib.hid fun W h=>(h.cell (p:=⟨w.heap.size,9,none⟩) (block_lt_of_cell p9)).trans p9
                                     have HF1:Hid (∀W,Below wr.heap.size wr W→W.cell? ⟨w.heap.size+1,9,none⟩=some (.slice (some ad2) nY kY2)):=Lib.hid fun W h=>(h.cell (p:=⟨w.heap.size+1,9,none⟩) (block_lt_of_cell q9)).trans q9
                                     have HR0:Hid (Below wr.heap.size wr wr.drew):=Lib.hid (Below.refl _ _).drew
                                     clear hXL hYL x0 y0 b1 b2 l1 l2 hB p4 p5 p8 p9 q4 q5 q8 q9
                                     have HEQ:=Lib.hid heq
                                     clear heq
                                     go_upto_region 27 with fail
                                     refine wp_region_held_drew (S:=fun W=>Below wr.heap.size wr W) (by kernel_rfl) HR0.out (fun hHeld=> ?_)
                                     refine wpAnyH_take (i:=0) (v:=_) rfl (by as_aux_lemma=>kernel_rfl) (by as_aux_lemma=>kernel_rfl) (by as_aux_lemma=>kernel_rfl) (fun _ _ _ h=>h) (Or.inl ⟨by rfl,fun w h=>by have e0:=HF0.out w h;have e1:=HF1.out w h;clear h;go_simp;(try with_reducible rfl)⟩) (by assumption) ?_
                                     simp only [Act.put,List.getElem_toArray,List.getElem_cons_succ,List.getElem_cons_zero,List.setIfInBounds_toArray,List.set_cons_succ,List.set_cons_zero]
                                     refine wpAnyH_take (i:=1) (v:=_) rfl (by as_aux_lemma=>kernel_rfl) (by as_aux_lemma=>kernel_rfl) (by as_aux_lemma=>kernel_rfl) (fun _ _ _ h=>h) (Or.inl ⟨by rfl,fun w h=>by have e0:=HF0.out w h;have e1:=HF1.out w h;clear h;go_simp;(try with_reducible rfl)⟩) (by assumption) ?_
                                     simp only [Act.put,List.getElem_toArray,List.getElem_cons_succ,List.getElem_cons_zero,List.setIfInBounds_toArray,List.set_cons_succ,List.set_cons_zero]
                                     refine wpAnyH_take (i:=2) (v:=_) rfl (by as_aux_lemma=>kernel_rfl) (by as_aux_lemma=>kernel_rfl) (by as_aux_lemma=>kernel_rfl) (fun _ _ _ h=>h) (Or.inl ⟨by rfl,fun w h=>by have e0:=HF0.out w h;have e1:=HF1.out w h;clear h;go_simp;(try with_reducible rfl)⟩) (by assumption) ?_
                                     simp only [Act.put,List.getElem_toArray,List.getElem_cons_succ,List.getElem_cons_zero,List.setIfInBounds_toArray,List.set_cons_succ,List.set_cons_zero]
                                     refine wpAnyH_take (i:=3) (v:=_) rfl (by as_aux_lemma=>kernel_rfl) (by as_aux_lemma=>kernel_rfl) (by as_aux_lemma=>kernel_rfl) (fun _ _ _ h=>h) (Or.inl ⟨by rfl,fun w h=>by have e0:=HF0.out w h;have e1:=HF1.out w h;clear h;go_simp;(try with_reducible rfl)⟩) (by assumption) ?_
                                     simp only [Act.put,List.getElem_toArray,List.getElem_cons_succ,List.getElem_cons_zero,List.setIfInBounds_toArray,List.set_cons_succ,List.set_cons_zero]
                                     refine wpAnyH_take (i:=4) (v:=_) rfl (by as_aux_lemma=>kernel_rfl) (by as_aux_lemma=>kernel_rfl) (by as_aux_lemma=>kernel_rfl) (fun _ _ _ h=>h) (yieldsIf_load_at (by rfl) 75 (.tmp 196) rfl _ rfl XL _ (fun w h=>HX1.out w h) Tryz.underlying75 rfl (by rw [Tryz.sizeCrypto,HLL.out.1])) (by assumption) ?_
                                     simp only [Act.put,List.getElem_toArray,List.getElem_cons_succ,List.getElem_cons_zero,List.setIfInBounds_toArray,List.set_cons_succ,List.set_cons_zero]
                                     refine wpAnyH_take (i:=5) (v:=_) rfl (by as_aux_lemma=>kernel_rfl) (by as_aux_lemma=>kernel_rfl) (by as_aux_lemma=>kernel_rfl) (fun _ _ _ h=>h) (Or.inl ⟨by rfl,fun w h=>by have e0:=HF0.out w h;have e1:=HF1.out w h;clear h;go_simp;(try with_reducible rfl)⟩) (by assumption) ?_
                                     simp only [Act.put,List.getElem_toArray,List.getElem_cons_succ,List.getElem_cons_zero,List.setIfInBounds_toArray,List.set_cons_succ,List.set_cons_zero]
                                     refine wpAnyH_take (i:=6) (v:=_) rfl (by as_aux_lemma=>kernel_rfl) (by as_aux_lemma=>kernel_rfl) (by as_aux_lemma=>kernel_rfl) (fun _ _ _ h=>h) (Or.inl ⟨by rfl,fun w h=>by have e0:=HF0.out w h;have e1:=HF1.out w h;clear h;go_simp;(try with_reducible rfl)⟩) (by assumption) ?_
                                     simp only [Act.put,List.getElem_toArray,List.getElem_cons_succ,List.getElem_cons_zero,List.setIfInBounds_toArray,List.set_cons_succ,List.set_cons_zero]
                                     refine wpAnyH_take (i:=7) (v:=_) rfl (by as_aux_lemma=>kernel_rfl) (by as_aux_lemma=>kernel_rfl) (by as_aux_lemma=>kernel_rfl) (fun _ _ _ h=>h) (Or.inl ⟨by rfl,fun w h=>by have e0:=HF0.out w h;have e1:=HF1.out w h;clear h;go_simp;(try with_reducible rfl)⟩) (by assumption) ?_
                                     simp only [Act.put,List.getElem_toArray,List.getElem_cons_succ,List.getElem_cons_zero,List.setIfInBounds_toArray,List.set_cons_succ,List.set_cons_zero]
                                     refine wpAnyH_take (i:=8) (v:=_) rfl (by as_aux_lemma=>kernel_rfl) (by as_aux_lemma=>kernel_rfl) (by as_aux_lemma=>kernel_rfl) (fun _ _ _ h=>h) (Or.inl ⟨by rfl,fun w h=>by have e0:=HF0.out w h;have e1:=HF1.out w h;clear h;go_simp;(try with_reducible rfl)⟩) (by assumption) ?_
                                     simp only [Act.put,List.getElem_toArray,List.getElem_cons_succ,List.getElem_cons_zero,List.setIfInBounds_toArray,List.set_cons_succ,List.set_cons_zero]
                                     refine wpAnyH_take (i:=9) (v:=_) rfl (by as_aux_lemma=>kernel_rfl) (by as_aux_lemma=>kernel_rfl) (by as_aux_lemma=>kernel_rfl) (fun _ _ _ h=>h) (yieldsIf_load_at (by rfl) 75 (.tmp 201) rfl _ rfl YL _ (fun w h=>HX2.out w h) Tryz.underlying75 rfl (by rw [Tryz.sizeCrypto,HLL.out.2])) (by assumption) ?_
                                     simp only [Act.put,List.getElem_toArray,List.getElem_cons_succ,List.getElem_cons_zero,List.setIfInBounds_toArray,List.set_cons_succ,List.set_cons_zero]
                                     refine wpAnyH_take (i:=10) (v:=_) rfl (by as_aux_lemma=>kernel_rfl) (by as_aux_lemma=>kernel_rfl) (by as_aux_lemma=>kernel_rfl) (fun _ _ _ h=>h) (Or.inl ⟨by rfl,fun w h=>by have e0:=HF0.out w h;have e1:=HF1.out w h;clear h;go_simp;(try with_reducible rfl)⟩) (by assumption) ?_
                                     simp only [Act.put,List.getElem_toArray,List.getElem_cons_succ,List.getElem_cons_zero,List.setIfInBounds_toArray,List.set_cons_succ,List.set_cons_zero]
                                     refine wpAnyH_done (by as_aux_lemma=>kernel_rfl) ?_ _
                                     go_wp2
                                     go_roundw
                                     case rel =>
                                      refine ⟨k+1,by omega,by go_num,fun j hj=> ?_,below_chain (Nat.le_refl _) HS.out.2 hHeld⟩
                                      by_cases e:j=k
                                      · subst e
                                        rw [HG.out.1,HG.out.2,HEQ.out]
                                      · exact HS.out.1 j (by omega)
                                     case measure=>simp [intOf];omega
                                   · have hq:∀W,(Op.equalIn 10000 75 (.agg (cryC a).toArray) (.agg (cryC b).toArray)).run Tryz.prog W=.ok false W:=fun W=>by rw [crypto_eq a b l1 l2,decide_eq_false heq]
                                     have hgd:=crypto_guard
                                     have HLL:=Lib.hid (And.intro (cryC_len l1) (cryC_len l2))
                                     have HLT:Hid (ad1.block<wr.heap.size∧ad2.block<wr.heap.size):=Lib.hid ⟨Nat.lt_of_lt_of_le b1 hB.size,Nat.lt_of_lt_of_le b2 hB.size⟩
                                     obtain ⟨XL,hXL⟩:∃l,cryC a=l:=⟨_,rfl⟩
                                     obtain ⟨YL,hYL⟩:∃l,cryC b=l:=⟨_,rfl⟩
                                     rw [hXL] at x0 hq HLL
                                     rw [hYL] at y0 hq HLL
                                     have HX1:Hid (∀W,Below wr.heap.size wr W→∀j u,XL[j]? = some u→W.cell? ((ad1.add (k * 31)).add j)=some u):=Lib.hid fun W h j u hu=>(h.cell (p:=(ad1.add (k * 31)).add j) (by rw [add_block,add_block];exact HLT.out.1)).trans (x0 j u hu)
                                     have HX2:Hid (∀W,Below wr.heap.size wr W→∀j u,YL[j]? = some u→W.cell? ((ad2.add (k * 31)).add j)=some u):=Lib.hid fun W h j u hu=>(h.cell (p:=(ad2.add (k * 31)).add j) (by rw [add_block,add_block];exact HLT.out.2)).trans (y0 j u hu)
                                     have HF0:Hid (∀W,Below wr.heap.size wr W→W.cell? ⟨w.heap.size,9,none⟩=some (.slice (some ad1) nY kY1)):=Lib.hid fun W h=>(h.cell (p:=⟨w.heap.size,9,none⟩) (block_lt_of_cell p9)).trans p9
                                     have HF1:Hid (∀W,Below wr.heap.size wr W→W.cell? ⟨w.heap.size+1,9,none⟩=some (.slice (some ad2) nY kY2)):=Lib.hid fun W h=>(h.cell (p:=⟨w.heap.size+1,9,none⟩) (block_lt_of_cell q9)).trans q9
                                     have HR0:Hid (Below wr.heap.size wr wr.drew):=Lib.hid (Below.refl _ _).drew
                                     clear hXL hYL x0 y0 b1 b2 l1 l2 hB p4 p5 p8 p9 q4 q5 q8 q9
                                     have HNE:Hid (¬(x=y)):=Lib.hid (fun e=>by have h:=(HEX.out.1 e).2.2.2.2.2.2.2.2.2.2;rw [h] at HG;have:=HG.out.1.symm.trans HG.out.2;exact heq (Option.some.inj this))
                                     clear heq
                                     go_upto_region 27 with fail
                                     refine wp_region_held_drew (S:=fun W=>Below wr.heap.size wr W) (by kernel_rfl) HR0.out (fun hHeld=> ?_)
                                     refine wpAnyH_take (i:=0) (v:=_) rfl (by as_aux_lemma=>kernel_rfl) (by as_aux_lemma=>kernel_rfl) (by as_aux_lemma=>kernel_rfl) (fun _ _ _ h=>h) (Or.inl ⟨by rfl,fun w h=>by have e0:=HF0.out w h;have e1:=HF1.out w h;clear h;go_simp;(try with_reducible rfl)⟩) (by assumption) ?_
                                     simp only [Act.put,List.getElem_toArray,List.getElem_cons_succ,List.getElem_cons_zero,List.setIfInBounds_toArray,List.set_cons_succ,List.set_cons_zero]
                                     refine wpAnyH_take (i:=1) (v:=_) rfl (by as_aux_lemma=>kernel_rfl) (by as_aux_lemma=>kernel_rfl) (by as_aux_lemma=>kernel_rfl) (fun _ _ _ h=>h) (Or.inl ⟨by rfl,fun w h=>by have e0:=HF0.out w h;have e1:=HF1.out w h;clear h;go_simp;(try with_reducible rfl)⟩) (by assumption) ?_
                                     simp only [Act.put,List.getElem_toArray,List.getElem_cons_succ,List.getElem_cons_zero,List.setIfInBounds_toArray,List.set_cons_succ,List.set_cons_zero]
                                     refine wpAnyH_take (i:=2) (v:=_) rfl (by as_aux_lemma=>kernel_rfl) (by as_aux_lemma=>kernel_rfl) (by as_aux_lemma=>kernel_rfl) (fun _ _ _ h=>h) (Or.inl ⟨by rfl,fun w h=>by have e0:=HF0.out w h;have e1:=HF1.out w h;clear h;go_simp;(try with_reducible rfl)⟩) (by assumption) ?_
                                     simp only [Act.put,List.getElem_toArray,List.getElem_cons_succ,List.getElem_cons_zero,List.setIfInBounds_toArray,List.set_cons_succ,List.set_cons_zero]
                                     refine wpAnyH_take (i:=3) (v:=_) rfl (by as_aux_lemma=>kernel_rfl) (by as_aux_lemma=>kernel_rfl) (by as_aux_lemma=>kernel_rfl) (fun _ _ _ h=>h) (Or.inl ⟨by rfl,fun w h=>by have e0:=HF0.out w h;have e1:=HF1.out w h;clear h;go_simp;(try with_reducible rfl)⟩) (by assumption) ?_
                                     simp only [Act.put,List.getElem_toArray,List.getElem_cons_succ,List.getElem_cons_zero,List.setIfInBounds_toArray,List.set_cons_succ,List.set_cons_zero]
                                     refine wpAnyH_take (i:=4) (v:=_) rfl (by as_aux_lemma=>kernel_rfl) (by as_aux_lemma=>kernel_rfl) (by as_aux_lemma=>kernel_rfl) (fun _ _ _ h=>h) (yieldsIf_load_at (by rfl) 75 (.tmp 196) rfl _ rfl XL _ (fun w h=>HX1.out w h) Tryz.underlying75 rfl (by rw [Tryz.sizeCrypto,HLL.out.1])) (by assumption) ?_
                                     simp only [Act.put,List.getElem_toArray,List.getElem_cons_succ,List.getElem_cons_zero,List.setIfInBounds_toArray,List.set_cons_succ,List.set_cons_zero]
                                     refine wpAnyH_take (i:=5) (v:=_) rfl (by as_aux_lemma=>kernel_rfl) (by as_aux_lemma=>kernel_rfl) (by as_aux_lemma=>kernel_rfl) (fun _ _ _ h=>h) (Or.inl ⟨by rfl,fun w h=>by have e0:=HF0.out w h;have e1:=HF1.out w h;clear h;go_simp;(try with_reducible rfl)⟩) (by assumption) ?_
                                     simp only [Act.put,List.getElem_toArray,List.getElem_cons_succ,List.getElem_cons_zero,List.setIfInBounds_toArray,List.set_cons_succ,List.set_cons_zero]
                                     refine wpAnyH_take (i:=6) (v:=_) rfl (by as_aux_lemma=>kernel_rfl) (by as_aux_lemma=>kernel_rfl) (by as_aux_lemma=>kernel_rfl) (fun _ _ _ h=>h) (Or.inl ⟨by rfl,fun w h=>by have e0:=HF0.out w h;have e1:=HF1.out w h;clear h;go_simp;(try with_reducible rfl)⟩) (by assumption) ?_
                                     simp only [Act.put,List.getElem_toArray,List.getElem_cons_succ,List.getElem_cons_zero,List.setIfInBounds_toArray,List.set_cons_succ,List.set_cons_zero]
                                     refine wpAnyH_take (i:=7) (v:=_) rfl (by as_aux_lemma=>kernel_rfl) (by as_aux_lemma=>kernel_rfl) (by as_aux_lemma=>kernel_rfl) (fun _ _ _ h=>h) (Or.inl ⟨by rfl,fun w h=>by have e0:=HF0.out w h;have e1:=HF1.out w h;clear h;go_simp;(try with_reducible rfl)⟩) (by assumption) ?_
                                     simp only [Act.put,List.getElem_toArray,List.getElem_cons_succ,List.getElem_cons_zero,List.setIfInBounds_toArray,List.set_cons_succ,List.set_cons_zero]
                                     refine wpAnyH_take (i:=8) (v:=_) rfl (by as_aux_lemma=>kernel_rfl) (by as_aux_lemma=>kernel_rfl) (by as_aux_lemma=>kernel_rfl) (fun _ _ _ h=>h) (Or.inl ⟨by rfl,fun w h=>by have e0:=HF0.out w h;have e1:=HF1.out w h;clear h;go_simp;(try with_reducible rfl)⟩) (by assumption) ?_
                                     simp only [Act.put,List.getElem_toArray,List.getElem_cons_succ,List.getElem_cons_zero,List.setIfInBounds_toArray,List.set_cons_succ,List.set_cons_zero]
                                     refine wpAnyH_take (i:=9) (v:=_) rfl (by as_aux_lemma=>kernel_rfl) (by as_aux_lemma=>kernel_rfl) (by as_aux_lemma=>kernel_rfl) (fun _ _ _ h=>h) (yieldsIf_load_at (by rfl) 75 (.tmp 201) rfl _ rfl YL _ (fun w h=>HX2.out w h) Tryz.underlying75 rfl (by rw [Tryz.sizeCrypto,HLL.out.2])) (by assumption) ?_
                                     simp only [Act.put,List.getElem_toArray,List.getElem_cons_succ,List.getElem_cons_zero,List.setIfInBounds_toArray,List.set_cons_succ,List.set_cons_zero]
                                     refine wpAnyH_take (i:=10) (v:=_) rfl (by as_aux_lemma=>kernel_rfl) (by as_aux_lemma=>kernel_rfl) (by as_aux_lemma=>kernel_rfl) (fun _ _ _ h=>h) (Or.inl ⟨by rfl,fun w h=>by have e0:=HF0.out w h;have e1:=HF1.out w h;clear h;go_simp;(try with_reducible rfl)⟩) (by assumption) ?_
                                     simp only [Act.put,List.getElem_toArray,List.getElem_cons_succ,List.getElem_cons_zero,List.setIfInBounds_toArray,List.set_cons_succ,List.set_cons_zero]
                                     refine wpAnyH_done (by as_aux_lemma=>kernel_rfl) ?_ _
                                     go_wp2
                                     go_ret
                                     exact ⟨false,rfl,⟨fun e=>(by cases e),fun e=>(HNE.out e).elim⟩,HU.out _ (below_chain (Nat.le_refl _) HS.out.2 hHeld)⟩
                                 · obtain rfl:nY=k:=by omega
                                   have HLY:Hid (LY=MY):=Lib.hid (list_same (by rw [HNY.out.1,HNY.out.2]) (fun j hj=>HS.out.1 j (by rw [HNY.out.1] at hj;exact hj)))
                                   clear hlt hk
                                   have HEQ:Hid (x=y):=Lib.hid (HEX.out.2 ⟨HB0.out.1 (by first | rfl | trivial),HB1.out.1 (by first | rfl | trivial),HB2.out.1 (by first | rfl | trivial),HB3.out.1 (by first | rfl | trivial),HB7.out.1 (by first | rfl | trivial),HB10.out.1 (by first | rfl | trivial),HB6.out.1 (by first | rfl | trivial),HLC.out,HLE.out,HLS.out,HLY.out⟩)
                                   go_wp2
                                   go_ret
                                   exact ⟨true,rfl,⟨fun _=>HEQ.out,fun _=>rfl⟩,HU.out _ HS.out.2⟩
                     · have hz:((nY:Int) == (mY:Int))=false:=by rw [beq_eq_false_iff_ne];omega
                       have HNE:Hid (¬(x=y)):=Lib.hid (fun e=>by have h:=(HEX.out.1 e).2.2.2.2.2.2.2.2.2.2;exact hNY (by rw [←HNY.out.1,←HNY.out.2,h]))
                       go_wp2
                       go_ret
                       exact ⟨false,rfl,⟨fun e=>(by cases e),fun e=>(HNE.out e).elim⟩,HU.out _ H1.out⟩
                   · have hz:((nS:Int) == (mS:Int))=false:=by rw [beq_eq_false_iff_ne];omega
                     have HNE:Hid (¬(x=y)):=Lib.hid (fun e=>by have h:=(HEX.out.1 e).2.2.2.2.2.2.2.2.2.1;exact hNS (by rw [←HNS.out.1,←HNS.out.2,h]))
                     go_wp2
                     go_ret
                     exact ⟨false,rfl,⟨fun e=>(by cases e),fun e=>(HNE.out e).elim⟩,HU.out _ H1.out⟩
                 · have hz:((nE:Int) == (mE:Int))=false:=by rw [beq_eq_false_iff_ne];omega
                   have HNE:Hid (¬(x=y)):=Lib.hid (fun e=>by have h:=(HEX.out.1 e).2.2.2.2.2.2.2.2.1;exact hNE (by rw [←HNX.out.1,←HNX.out.2,h]))
                   go_wp2
                   go_ret
                   exact ⟨false,rfl,⟨fun e=>(by cases e),fun e=>(HNE.out e).elim⟩,HU.out _ H1.out⟩
               · have hz:((nC:Int) == (mC:Int))=false:=by rw [beq_eq_false_iff_ne];omega
                 have HNE:Hid (¬(x=y)):=Lib.hid (fun e=>by have h:=(HEX.out.1 e).2.2.2.2.2.2.2.1;exact hNC (by rw [←HNC.out.1,←HNC.out.2,h]))
                 go_wp2
                 go_ret
                 exact ⟨false,rfl,⟨fun e=>(by cases e),fun e=>(HNE.out e).elim⟩,HU.out _ H1.out⟩
end Go.Proofs.YtgnpckelbokniaaGreatDoor
