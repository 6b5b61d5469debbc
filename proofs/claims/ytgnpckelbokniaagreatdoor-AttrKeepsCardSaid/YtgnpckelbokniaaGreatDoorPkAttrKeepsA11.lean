import Derived.Test.YtgnpckelbokniaaGreatDoorPkAttrKeepsA10
import Derived.Test.YtgnpckelbokniaaGreatDoorPkAttrKeepsA07
namespace Go.Proofs.YtgnpckelbokniaaGreatDoor
open Go.RowKit
set_option linter.unusedVariables false
set_option linter.unusedSimpArgs false
theorem Tryz.sizeU8 (w:World):(sizeOf 5).run Tryz.prog w=.ok 1 w:=by kernel_rfl
theorem key_same (d:Nat) (k:Tx) (hk:k.length=30) (w:World):(Op.equalIn (d+2) 73 (.agg (keyC k).toArray) (.agg (keyC k).toArray)).run Tryz.prog w=.ok true w:=by
 rw [Op.equalIn]
 simp only [Sem.run_bind,run_underlying Tryz.underlying73,Result.andThen_ok,Tryz.sizeU8,Std.Legacy.Range.forIn_eq_forIn_range',Std.Legacy.Range.size,Nat.sub_zero,Nat.add_sub_cancel,Nat.div_one]
 have hl:∀i∈List.range' 0 30 1,i<30:=fun i hi=>by simpa using (List.mem_range'_1.1 hi).2
 generalize List.range' 0 30 1=l at hl ⊢
 induction l with
 | nil=>simp
 | cons i l ih =>
   have hi:i<30:=hl i (by simp)
   have hki:i<k.length:=by omega
   have px:(part 5 (keyC k).toArray (i * 1)).run Tryz.prog w=.ok (.int .u8 (k[i].toNat:Int)) w:=by
    have:(keyC k).toArray[i]? = some (.int .u8 (k[i].toNat:Int)):=by simp [keyC,List.getElem?_eq_getElem hki]
    simp [part,isAgg,run_underlying Tryz.underlying5,this]
   have pe:(Op.equalIn (d+1) 5 (.int .u8 (k[i].toNat:Int)) (.int .u8 (k[i].toNat:Int))).run Tryz.prog w=.ok true w:=by
    rw [run_equalIn_int w d 5 .u8 .u8 _ _ Tryz.underlying5]
    simp
   simp only [List.forIn_cons,Sem.run_bind,px,pe,Result.andThen_ok,Bool.not_true,Bool.false_eq_true,if_false,Sem.run_pure]
   exact ih fun j hj=>hl j (by simp [hj])
theorem cry_part0:∀(k0 k1 k2 k3 k4 k5 k6 k7 k8 k9 k10 k11 k12 k13 k14 k15 k16 k17 k18 k19 k20 k21 k22 k23 k24 k25 k26 k27 k28 k29:UInt8) (z:Int) (w:World),(part 3 (#[.int .i64 z,.int .u8 (k0.toNat:Int),.int .u8 (k1.toNat:Int),.int .u8 (k2.toNat:Int),.int .u8 (k3.toNat:Int),.int .u8 (k4.toNat:Int),.int .u8 (k5.toNat:Int),.int .u8 (k6.toNat:Int),.int .u8 (k7.toNat:Int),.int .u8 (k8.toNat:Int),.int .u8 (k9.toNat:Int),.int .u8 (k10.toNat:Int),.int .u8 (k11.toNat:Int),.int .u8 (k12.toNat:Int),.int .u8 (k13.toNat:Int),.int .u8 (k14.toNat:Int),.int .u8 (k15.toNat:Int),.int .u8 (k16.toNat:Int),.int .u8 (k17.toNat:Int),.int .u8 (k18.toNat:Int),.int .u8 (k19.toNat:Int),.int .u8 (k20.toNat:Int),.int .u8 (k21.toNat:Int),.int .u8 (k22.toNat:Int),.int .u8 (k23.toNat:Int),.int .u8 (k24.toNat:Int),.int .u8 (k25.toNat:Int),.int .u8 (k26.toNat:Int),.int .u8 (k27.toNat:Int),.int .u8 (k28.toNat:Int),.int .u8 (k29.toNat:Int)]:Array Value) 0).run Tryz.prog w=.ok (.int .i64 z) w:=by intros;kernel_rfl
theorem cry_part1:∀(k0 k1 k2 k3 k4 k5 k6 k7 k8 k9 k10 k11 k12 k13 k14 k15 k16 k17 k18 k19 k20 k21 k22 k23 k24 k25 k26 k27 k28 k29:UInt8) (z:Int) (w:World),(part 73 (#[.int .i64 z,.int .u8 (k0.toNat:Int),.int .u8 (k1.toNat:Int),.int .u8 (k2.toNat:Int),.int .u8 (k3.toNat:Int),.int .u8 (k4.toNat:Int),.int .u8 (k5.toNat:Int),.int .u8 (k6.toNat:Int),.int .u8 (k7.toNat:Int),.int .u8 (k8.toNat:Int),.int .u8 (k9.toNat:Int),.int .u8 (k10.toNat:Int),.int .u8 (k11.toNat:Int),.int .u8 (k12.toNat:Int),.int .u8 (k13.toNat:Int),.int .u8 (k14.toNat:Int),.int .u8 (k15.toNat:Int),.int .u8 (k16.toNat:Int),.int .u8 (k17.toNat:Int),.int .u8 (k18.toNat:Int),.int .u8 (k19.toNat:Int),.int .u8 (k20.toNat:Int),.int .u8 (k21.toNat:Int),.int .u8 (k22.toNat:Int),.int .u8 (k23.toNat:Int),.int .u8 (k24.toNat:Int),.int .u8 (k25.toNat:Int),.int .u8 (k26.toNat:Int),.int .u8 (k27.toNat:Int),.int .u8 (k28.toNat:Int),.int .u8 (k29.toNat:Int)]:Array Value) 1).run Tryz.prog w=.ok (.agg #[.int .u8 (k0.toNat:Int),.int .u8 (k1.toNat:Int),.int .u8 (k2.toNat:Int),.int .u8 (k3.toNat:Int),.int .u8 (k4.toNat:Int),.int .u8 (k5.toNat:Int),.int .u8 (k6.toNat:Int),.int .u8 (k7.toNat:Int),.int .u8 (k8.toNat:Int),.int .u8 (k9.toNat:Int),.int .u8 (k10.toNat:Int),.int .u8 (k11.toNat:Int),.int .u8 (k12.toNat:Int),.int .u8 (k13.toNat:Int),.int .u8 (k14.toNat:Int),.int .u8 (k15.toNat:Int),.int .u8 (k16.toNat:Int),.int .u8 (k17.toNat:Int),.int .u8 (k18.toNat:Int),.int .u8 (k19.toNat:Int),.int .u8 (k20.toNat:Int),.int .u8 (k21.toNat:Int),.int .u8 (k22.toNat:Int),.int .u8 (k23.toNat:Int),.int .u8 (k24.toNat:Int),.int .u8 (k25.toNat:Int),.int .u8 (k26.toNat:Int),.int .u8 (k27.toNat:Int),.int .u8 (k28.toNat:Int),.int .u8 (k29.toNat:Int)]) w:=by intros;kernel_rfl
set_option maxRecDepth 10000 in
theorem cry_p0 (z:Int) (k:Tx) (hk:k.length=30) (w:World):(part 3 (cryC ⟨z,k⟩).toArray 0).run Tryz.prog w=.ok (.int .i64 z) w:=by
 match k,hk with
 | [k0,k1,k2,k3,k4,k5,k6,k7,k8,k9,k10,k11,k12,k13,k14,k15,k16,k17,k18,k19,k20,k21,k22,k23,k24,k25,k26,k27,k28,k29],_=>exact cry_part0 k0 k1 k2 k3 k4 k5 k6 k7 k8 k9 k10 k11 k12 k13 k14 k15 k16 k17 k18 k19 k20 k21 k22 k23 k24 k25 k26 k27 k28 k29 z w
set_option maxRecDepth 10000 in
theorem cry_p1 (z:Int) (k:Tx) (hk:k.length=30) (w:World):(part 73 (cryC ⟨z,k⟩).toArray 1).run Tryz.prog w=.ok (.agg (keyC k).toArray) w:=by
 match k,hk with
 | [k0,k1,k2,k3,k4,k5,k6,k7,k8,k9,k10,k11,k12,k13,k14,k15,k16,k17,k18,k19,k20,k21,k22,k23,k24,k25,k26,k27,k28,k29],_=>exact cry_part1 k0 k1 k2 k3 k4 k5 k6 k7 k8 k9 k10 k11 k12 k13 k14 k15 k16 k17 k18 k19 k20 k21 k22 k23 k24 k25 k26 k27 k28 k29 z w
theorem cry_fields:(Tryz.prog.fieldsOf 75).toList.map (fun f=>(f.type,f.offset))=[(3,0),(73,1)]:=by kernel_rfl
theorem cry_names : (Tryz.prog.fieldsOf 75).toList.all (fun f => f.name != "_") = true := by kernel_rfl
theorem int_same (d:Nat) (z:Int) (w:World):(Op.equalIn (d+1) 3 (.int .i64 z) (.int .i64 z)).run Tryz.prog w=.ok true w:=by
 rw [run_equalIn_int w d 3 .i64 .i64 _ _ Tryz.underlying3]
 simp
theorem two_same (d : Nat) (X : Array Value) (l : List Field) (hf : l.map (fun f => (f.type, f.offset)) = [(3, 0), (73, 1)]) (hn : l.all (fun f => f.name != "_") = true) (z : Int) (k : Tx) (hk : k.length = 30) (w : World)
 (p0:(part 3 X 0).run Tryz.prog w=.ok (.int .i64 z) w) (p1:(part 73 X 1).run Tryz.prog w=.ok (.agg (keyC k).toArray) w):(Op.eqFields (d+2) X X l).run Tryz.prog w=.ok true w:=by
 have e0:=int_same (d+1) z w
 have e1:=key_same d k hk w
 have hlen:l.length=2:=by
  have:=congrArg List.length hf
  simpa using this
 obtain ⟨f,g,rfl⟩:∃f g,l=[f,g]:=by
  rcases l with _ | ⟨f,_ | ⟨g,_ | ⟨_,_⟩⟩⟩
  · simp at hlen
  · simp at hlen
  · exact ⟨f,g,rfl⟩
  · simp at hlen
 have h0:=congrArg (fun l=>l[0]?) hf
 have h1:=congrArg (fun l=>l[1]?) hf
 simp only [List.map_cons,List.map_nil,List.getElem?_cons_zero,List.getElem?_cons_succ,Option.some.injEq,Prod.mk.injEq] at h0 h1
 obtain ⟨f1,f2⟩:=h0
 obtain ⟨g1,g2⟩:=h1
 simp only [List.all_cons,List.all_nil,Bool.and_true,Bool.and_eq_true,bne_iff_ne] at hn
 obtain ⟨f3,g3⟩:=hn
 rw [←f1,←f2] at p0
 rw [←g1,←g2] at p1
 rw [←f1] at e0
 rw [←g1] at e1
 clear f1 f2 g1 g2 hf hlen
 unfold Op.eqFields
 split
 · simp only [Sem.run_bind,p0,e0,Result.andThen_ok,Bool.not_true,Bool.false_eq_true,if_false]
   unfold Op.eqFields
   split
   · simp only [Sem.run_bind,p1,e1,Result.andThen_ok,Bool.not_true,Bool.false_eq_true,if_false]
     unfold Op.eqFields
     rw [Sem.run_pure]
   · next h=>exact absurd g3 h
 · next h=>exact absurd f3 h
theorem crypto_same (z:Int) (k:Tx) (hk:k.length=30) (w:World):(Op.equalIn 10000 75 (.agg (cryC ⟨z,k⟩).toArray) (.agg (cryC ⟨z,k⟩).toArray)).run Tryz.prog w=.ok true w:=by
 have p0:=cry_p0 z k hk w
 have p1:=cry_p1 z k hk w
 generalize (cryC ⟨z,k⟩).toArray=X at *
 have e:∀d,d=9999→(Op.equalIn (d+1) 75 (.agg X) (.agg X)).run Tryz.prog w=.ok true w:=fun d hd=>by
  rw [run_equalIn_agg w d 75 X X (by kernel_rfl) (by kernel_rfl)]
  obtain ⟨e,rfl⟩:∃e,d=e+2:=⟨d - 2,by omega⟩
  exact two_same e X _ cry_fields cry_names z k hk w p0 p1
 exact e 9999 rfl
theorem crypto_guard:Tryz.prog.eqGuardType Tryz.prog.depth 75=false:=by kernel_rfl
theorem ext_same (i:Int) (u:ByteArray) (w:World):(Op.equalIn 10000 71 (.agg #[.int .i64 i,.string u]) (.agg #[.int .i64 i,.string u])).run Tryz.prog w=.ok true w:=by
 go_simp
theorem ext_guard:Tryz.prog.eqGuardType Tryz.prog.depth 71=false:=by kernel_rfl
set_option maxHeartbeats 6400000 in
set_option maxRecDepth 100000 in
theorem same_yes (m:MediaS) (vC vE vR vS vY uC uE uR uS uY:Value) (w:World) (h1:MediaV w w.heap.size (mcell m vC vE vR vS vY) m vC vE vR vS vY) (h2:MediaV w w.heap.size (mcell m uC uE uR uS uY) m uC uE uR uS uY) :
 Calls Tryz.prog 10 #[.agg (mcell m vC vE vR vS vY),.agg (mcell m uC uE uR uS uY)] w fun e w'=>e=.returned (.bool true)∧Below w.heap.size w w':=by
 obtain ⟨AC1,kC1,rfl,hC1,mC1,-⟩:=Rows.form h1.codecs
 obtain ⟨AC2,kC2,rfl,hC2,mC2,-⟩:=Rows.form h2.codecs
 obtain ⟨AE1,kE1,rfl,hE1,mE1,-⟩:=Rows.form h1.exts
 obtain ⟨AE2,kE2,rfl,hE2,mE2,-⟩:=Rows.form h2.exts
 obtain ⟨AR1,kR1,rfl,hR1,mR1,-⟩:=Rows.form h1.rids
 obtain ⟨AR2,kR2,rfl,hR2,mR2,-⟩:=Rows.form h2.rids
 obtain ⟨AS1,kS1,rfl,hS1,mS1,-⟩:=Rows.form h1.sources
 obtain ⟨AS2,kS2,rfl,hS2,mS2,-⟩:=Rows.form h2.sources
 obtain ⟨AY1,kY1,rfl,hY1,mY1,-⟩:=Rows.form h1.crypto
 obtain ⟨AY2,kY2,rfl,hY2,mY2,-⟩:=Rows.form h2.crypto
 obtain ⟨nC,hnC⟩:∃n,m.codecs.length=n:=⟨_,rfl⟩
 rw [hnC] at h1 h2 hC1 hC2 ⊢
 have HNC:=Lib.hid hnC
 obtain ⟨nE,hnE⟩:∃n,m.exts.length=n:=⟨_,rfl⟩
 rw [hnE] at h1 h2 hE1 hE2 ⊢
 have HNE:=Lib.hid hnE
 obtain ⟨nR,hnR⟩:∃n,m.rids.length=n:=⟨_,rfl⟩
 rw [hnR] at h1 h2 hR1 hR2 ⊢
 obtain ⟨nS,hnS⟩:∃n,m.sources.length=n:=⟨_,rfl⟩
 rw [hnS] at h1 h2 hS1 hS2 ⊢
 have HNS:=Lib.hid hnS
 obtain ⟨nY,hnY⟩:∃n,m.crypto.length=n:=⟨_,rfl⟩
 rw [hnY] at h1 h2 hY1 hY2 ⊢
 have HNY:=Lib.hid hnY
 unfold maxLen at mC1 mC2 mE1 mE2 mR1 mR2 mS1 mS2 mY1 mY2
 have hC:nC≤9223372036854775807:=by omega
 have hE:nE≤9223372036854775807:=by omega
 have hS:nS≤9223372036854775807:=by omega
 have hY:nY≤9223372036854775807:=by omega
 clear hnC hnE hnR hnS hnY hC1 hC2 hE1 hE2 hR1 hR2 hS1 hS2 hY1 hY2 mC1 mC2 mE1 mE2 mR1 mR2 mS1 mS2 mY1 mY2
 unfold mcell at h1 h2 ⊢
 have hb:=two_new (w:=w) 28 28 #[.int .i64 m.kind,.int .i64 m.port,.string m.mid,.int .i64 m.dir,.slice AC1 nC kC1,.slice AE1 nE kE1,.slice AR1 nR kR1,.bool m.sending,.slice AS1 nS kS1,.slice AY1 nY kY1,.int .i64 m.sctp] #[.int .i64 m.kind,.int .i64 m.port,.string m.mid,.int .i64 m.dir,.slice AC2 nC kC2,.slice AE2 nE kE2,.slice AR2 nR kR2,.bool m.sending,.slice AS2 nS kS2,.slice AY2 nY kY2,.int .i64 m.sctp]
 have g1:=(Whole.new w 28 #[.int .i64 m.kind,.int .i64 m.port,.string m.mid,.int .i64 m.dir,.slice AC1 nC kC1,.slice AE1 nE kE1,.slice AR1 nR kR1,.bool m.sending,.slice AS1 nS kS1,.slice AY1 nY kY1,.int .i64 m.sctp]).alloc (.cells #[.int .i64 m.kind,.int .i64 m.port,.string m.mid,.int .i64 m.dir,.slice AC2 nC kC2,.slice AE2 nE kE2,.slice AR2 nR kR2,.bool m.sending,.slice AS2 nS kS2,.slice AY2 nY kY2,.int .i64 m.sctp] 28)
 have g2:=Whole.new2 w (.cells #[.int .i64 m.kind,.int .i64 m.port,.string m.mid,.int .i64 m.dir,.slice AC1 nC kC1,.slice AE1 nE kE1,.slice AR1 nR kR1,.bool m.sending,.slice AS1 nS kS1,.slice AY1 nY kY1,.int .i64 m.sctp] 28) 28 #[.int .i64 m.kind,.int .i64 m.port,.string m.mid,.int .i64 m.dir,.slice AC2 nC kC2,.slice AE2 nE kE2,.slice AR2 nR kR2,.bool m.sending,.slice AS2 nS kS2,.slice AY2 nY kY2,.int .i64 m.sctp]
 have H0:=Lib.hid (And.intro hb (And.intro g1 g2))
 have HV:=Lib.hid (And.intro h1 h2)
 clear hb g1 g2 h1 h2
 obtain ⟨N,hN⟩:∃N,w.heap.size=N:=⟨_,rfl⟩
 have HN:Hid (w.heap.size=N):=Lib.hid hN
 rw [hN] at H0 HV ⊢
 clear hN
 go_enter Tryz.func10,Tryz.ntmps10
 go_upto_region 1 with fail
 simp only [HN.out]
 generalize (w.alloc (.cells #[.int .i64 m.kind,.int .i64 m.port,.string m.mid,.int .i64 m.dir,.slice AC1 nC kC1,.slice AE1 nE kE1,.slice AR1 nR kR1,.bool m.sending,.slice AS1 nS kS1,.slice AY1 nY kY1,.int .i64 m.sctp] 28)).alloc (.cells #[.int .i64 m.kind,.int .i64 m.port,.string m.mid,.int .i64 m.dir,.slice AC2 nC kC2,.slice AE2 nE kE2,.slice AR2 nR kR2,.bool m.sending,.slice AS2 nS kS2,.slice AY2 nY kY2,.int .i64 m.sctp] 28)=W0 at *
 have c1_0:W0.cell? ⟨N,0,none⟩=some (.int .i64 m.kind):=H0.out.2.1.cell 0
 have c1_1:W0.cell? ⟨N,1,none⟩=some (.int .i64 m.port):=H0.out.2.1.cell 1
 have c1_2:W0.cell? ⟨N,2,none⟩=some (.string m.mid):=H0.out.2.1.cell 2
 have c1_3:W0.cell? ⟨N,3,none⟩=some (.int .i64 m.dir):=H0.out.2.1.cell 3
 have c1_4:W0.cell? ⟨N,4,none⟩=some (.slice AC1 nC kC1):=H0.out.2.1.cell 4
 have c1_5:W0.cell? ⟨N,5,none⟩=some (.slice AE1 nE kE1):=H0.out.2.1.cell 5
 have c1_6:W0.cell? ⟨N,6,none⟩=some (.slice AR1 nR kR1):=H0.out.2.1.cell 6
 have c1_7:W0.cell? ⟨N,7,none⟩=some (.bool m.sending):=H0.out.2.1.cell 7
 have c1_8:W0.cell? ⟨N,8,none⟩=some (.slice AS1 nS kS1):=H0.out.2.1.cell 8
 have c1_9:W0.cell? ⟨N,9,none⟩=some (.slice AY1 nY kY1):=H0.out.2.1.cell 9
 have c1_10:W0.cell? ⟨N,10,none⟩=some (.int .i64 m.sctp):=H0.out.2.1.cell 10
 have c2_0:W0.cell? ⟨N+1,0,none⟩=some (.int .i64 m.kind):=H0.out.2.2.cell 0
 have c2_1:W0.cell? ⟨N+1,1,none⟩=some (.int .i64 m.port):=H0.out.2.2.cell 1
 have c2_2:W0.cell? ⟨N+1,2,none⟩=some (.string m.mid):=H0.out.2.2.cell 2
 have c2_3:W0.cell? ⟨N+1,3,none⟩=some (.int .i64 m.dir):=H0.out.2.2.cell 3
 have c2_4:W0.cell? ⟨N+1,4,none⟩=some (.slice AC2 nC kC2):=H0.out.2.2.cell 4
 have c2_5:W0.cell? ⟨N+1,5,none⟩=some (.slice AE2 nE kE2):=H0.out.2.2.cell 5
 have c2_6:W0.cell? ⟨N+1,6,none⟩=some (.slice AR2 nR kR2):=H0.out.2.2.cell 6
 have c2_7:W0.cell? ⟨N+1,7,none⟩=some (.bool m.sending):=H0.out.2.2.cell 7
 have c2_8:W0.cell? ⟨N+1,8,none⟩=some (.slice AS2 nS kS2):=H0.out.2.2.cell 8
 have c2_9:W0.cell? ⟨N+1,9,none⟩=some (.slice AY2 nY kY2):=H0.out.2.2.cell 9
 have c2_10:W0.cell? ⟨N+1,10,none⟩=some (.int .i64 m.sctp):=H0.out.2.2.cell 10
 have HST:Hid (Calls Tryz.prog 26 #[.slice AR1 nR kR1,.slice AR2 nR kR2] W0 fun e w'=>e=.returned (.bool true)∧Below W0.heap.size W0 w'):=Lib.hid (by
  have hs:=H0.out.1.size
  exact sameTexts_yes _ _ m.rids W0 ((HV.out.1.rids.below H0.out.1).more (by rw [←HN.out];exact hs)) ((HV.out.2.rids.below H0.out.1).more (by rw [←HN.out];exact hs)))
 have hsz0:N≤W0.heap.size:=by rw [←HN.out];exact H0.out.1.size
 go_upto_region 3 with (go_at_call 26;(with_reducible refine HST.out.mono ?_);rintro e w1 ⟨rfl,hb1⟩;have H1:=Lib.hid hb1;clear hb1;dsimp only)
 have HB:Hid (Below N w w1):=Lib.hid (H0.out.1.trans (H1.out.mono hsz0))
 have HW1:Hid (Whole w1 N 28 #[.int .i64 m.kind,.int .i64 m.port,.string m.mid,.int .i64 m.dir,.slice AC1 nC kC1,.slice AE1 nE kE1,.slice AR1 nR kR1,.bool m.sending,.slice AS1 nS kS1,.slice AY1 nY kY1,.int .i64 m.sctp]∧Whole w1 (N+1) 28 #[.int .i64 m.kind,.int .i64 m.port,.string m.mid,.int .i64 m.dir,.slice AC2 nC kC2,.slice AE2 nE kE2,.slice AR2 nR kR2,.bool m.sending,.slice AS2 nS kS2,.slice AY2 nY kY2,.int .i64 m.sctp]):=Lib.hid ⟨H0.out.2.1.under H1.out,H0.out.2.2.under H1.out⟩
 clear HST H1 H0 c1_0 c1_1 c1_2 c1_3 c1_4 c1_5 c1_6 c1_7 c1_8 c1_9 c1_10 c2_0 c2_1 c2_2 c2_3 c2_4 c2_5 c2_6 c2_7 c2_8 c2_9 c2_10
 have c1_4:w1.cell? ⟨N,4,none⟩=some (.slice AC1 nC kC1):=HW1.out.1.cell 4
 have c1_5:w1.cell? ⟨N,5,none⟩=some (.slice AE1 nE kE1):=HW1.out.1.cell 5
 have c1_8:w1.cell? ⟨N,8,none⟩=some (.slice AS1 nS kS1):=HW1.out.1.cell 8
 have c1_9:w1.cell? ⟨N,9,none⟩=some (.slice AY1 nY kY1):=HW1.out.1.cell 9
 have c2_4:w1.cell? ⟨N+1,4,none⟩=some (.slice AC2 nC kC2):=HW1.out.2.cell 4
 have c2_5:w1.cell? ⟨N+1,5,none⟩=some (.slice AE2 nE kE2):=HW1.out.2.cell 5
 have c2_8:w1.cell? ⟨N+1,8,none⟩=some (.slice AS2 nS kS2):=HW1.out.2.cell 8
 have c2_9:w1.cell? ⟨N+1,9,none⟩=some (.slice AY2 nY kY2):=HW1.out.2.cell 9
 have hsz:Hid (N≤w1.heap.size):=Lib.hid (by rw [←HN.out];exact HB.out.size)
 clear c1_4 c1_5 c1_8 c1_9 c2_4 c2_5 c2_8 c2_9
 have HLOW:Hid (Below w1.heap.size w1 w1):=Lib.hid (Below.refl _ _)
 have c1_4:w1.cell? ⟨N,4,none⟩=some (.slice AC1 nC kC1):=HW1.out.1.cell 4
 have c1_5:w1.cell? ⟨N,5,none⟩=some (.slice AE1 nE kE1):=HW1.out.1.cell 5
 have c1_8:w1.cell? ⟨N,8,none⟩=some (.slice AS1 nS kS1):=HW1.out.1.cell 8
 have c1_9:w1.cell? ⟨N,9,none⟩=some (.slice AY1 nY kY1):=HW1.out.1.cell 9
 have c2_4:w1.cell? ⟨N+1,4,none⟩=some (.slice AC2 nC kC2):=HW1.out.2.cell 4
 have c2_5:w1.cell? ⟨N+1,5,none⟩=some (.slice AE2 nE kE2):=HW1.out.2.cell 5
 have c2_8:w1.cell? ⟨N+1,8,none⟩=some (.slice AS2 nS kS2):=HW1.out.2.cell 8
 have c2_9:w1.cell? ⟨N+1,9,none⟩=some (.slice AY2 nY kY2):=HW1.out.2.cell 9
 go_upto_region 5 with fail
 go_wp2
 go_loopw [96] (fun s wr=>∃k:Nat,k≤nC∧s=.int .i64 k∧Below w1.heap.size w1 wr) (fun s _=>nC - (intOf s).toNat)
 case atStart=>exact ⟨0,Nat.zero_le _,rfl,HLOW.out⟩
 case round =>
  obtain ⟨k,hk,rfl,hst⟩:=hrel
  have HS:=Lib.hid hst
  clear hst
  have c1_4:wr.cell? ⟨N,4,none⟩=some (.slice AC1 nC kC1):=(HW1.out.1.under HS.out).cell 4
  have c1_5:wr.cell? ⟨N,5,none⟩=some (.slice AE1 nE kE1):=(HW1.out.1.under HS.out).cell 5
  have c1_8:wr.cell? ⟨N,8,none⟩=some (.slice AS1 nS kS1):=(HW1.out.1.under HS.out).cell 8
  have c1_9:wr.cell? ⟨N,9,none⟩=some (.slice AY1 nY kY1):=(HW1.out.1.under HS.out).cell 9
  have c2_4:wr.cell? ⟨N+1,4,none⟩=some (.slice AC2 nC kC2):=(HW1.out.2.under HS.out).cell 4
  have c2_5:wr.cell? ⟨N+1,5,none⟩=some (.slice AE2 nE kE2):=(HW1.out.2.under HS.out).cell 5
  have c2_8:wr.cell? ⟨N+1,8,none⟩=some (.slice AS2 nS kS2):=(HW1.out.2.under HS.out).cell 8
  have c2_9:wr.cell? ⟨N+1,9,none⟩=some (.slice AY2 nY kY2):=(HW1.out.2.under HS.out).cell 9
  have HBW:Hid (Below N w wr):=Lib.hid (HB.out.trans (HS.out.mono hsz.out))
  by_cases hlt:k<nC
  · have hltC:k<m.codecs.length:=by rw [HNC.out];exact hlt
    obtain ⟨ad1,q1,vf1,e1,b1,x0,x1,x2,x3,x4,x5,xf⟩:=(HV.out.1.codecs.below HBW.out).at_ hltC
    obtain ⟨ad2,q2,vf2,e2,b2,y0,y1,y2,y3,y4,y5,yf⟩:=(HV.out.2.codecs.below HBW.out).at_ hltC
    injection e1 with e1 e1n e1c;clear e1n e1c
    injection e2 with e2 e2n e2c;clear e2n e2c
    subst e1 e2
    obtain ⟨AF1,kF1,rfl,-⟩:=Rows.form xf
    obtain ⟨AF2,kF2,rfl,-⟩:=Rows.form yf
    obtain ⟨c,hc⟩:∃c,m.codecs.getD k default=c:=⟨_,rfl⟩
    rw [hc] at x0 x1 x2 x3 x4 x5 xf y0 y1 y2 y3 y4 y5 yf
    obtain ⟨ct,cnm,cck,cch,cfm,cfb⟩:=c
    simp only at x0 x1 x2 x3 x4 x5 xf y0 y1 y2 y3 y4 y5 yf
    obtain ⟨nF,hnF⟩:∃n,cfb.length=n:=⟨_,rfl⟩
    rw [hnF] at x5 xf y5 yf
    have HTX:=Lib.hid (And.intro xf yf)
    have HLT:Hid (ad1.block<wr.heap.size∧ad2.block<wr.heap.size∧N<wr.heap.size∧N+1<wr.heap.size∧N≤wr.heap.size):=Lib.hid ⟨Nat.lt_of_lt_of_le b1 (by rw [←HN.out];exact HBW.out.size),Nat.lt_of_lt_of_le b2 (by rw [←HN.out];exact HBW.out.size),(HW1.out.1.under HS.out).lt,(HW1.out.2.under HS.out).lt,Nat.le_of_lt (HW1.out.1.under HS.out).lt⟩
    have hk0:(0:Int)≤(k:Int):=by omega
    have hk1:(k:Int)<(nC:Int):=by omega
    have HF0:Hid (∀W,Below wr.heap.size wr W→W.cell? ⟨N,4,none⟩=some (.slice (some ad1) nC kC1)):=Lib.hid fun W h=>(h.cell (p:=⟨N,4,none⟩) (by show N<_;exact HLT.out.2.2.1)).trans c1_4
    have HF1:Hid (∀W,Below wr.heap.size wr W→W.cell? ⟨N+1,4,none⟩=some (.slice (some ad2) nC kC2)):=Lib.hid fun W h=>(h.cell (p:=⟨N+1,4,none⟩) (by show N+1<_;exact HLT.out.2.2.2.1)).trans c2_4
    have HF2:Hid (∀W,Below wr.heap.size wr W→W.cell? (ad1.add (k * 6))=some (.int .i64 ct)):=Lib.hid fun W h=>(h.cell (p:=(ad1.add (k * 6))) (by rw [add_block];exact HLT.out.1)).trans x0
    have HF3:Hid (∀W,Below wr.heap.size wr W→W.cell? ⟨(ad1.add (k * 6)).block,(ad1.add (k * 6)).off+1,none⟩=some (.string cnm)):=Lib.hid fun W h=>(h.cell (p:=⟨(ad1.add (k * 6)).block,(ad1.add (k * 6)).off+1,none⟩) (by show (ad1.add (k * 6)).block<_;rw [add_block];exact HLT.out.1)).trans x1
    have HF4:Hid (∀W,Below wr.heap.size wr W→W.cell? ⟨(ad1.add (k * 6)).block,(ad1.add (k * 6)).off+2,none⟩=some (.int .i64 cck)):=Lib.hid fun W h=>(h.cell (p:=⟨(ad1.add (k * 6)).block,(ad1.add (k * 6)).off+2,none⟩) (by show (ad1.add (k * 6)).block<_;rw [add_block];exact HLT.out.1)).trans x2
    have HF5:Hid (∀W,Below wr.heap.size wr W→W.cell? ⟨(ad1.add (k * 6)).block,(ad1.add (k * 6)).off+3,none⟩=some (.int .i64 cch)):=Lib.hid fun W h=>(h.cell (p:=⟨(ad1.add (k * 6)).block,(ad1.add (k * 6)).off+3,none⟩) (by show (ad1.add (k * 6)).block<_;rw [add_block];exact HLT.out.1)).trans x3
    have HF6:Hid (∀W,Below wr.heap.size wr W→W.cell? ⟨(ad1.add (k * 6)).block,(ad1.add (k * 6)).off+4,none⟩=some (.string cfm)):=Lib.hid fun W h=>(h.cell (p:=⟨(ad1.add (k * 6)).block,(ad1.add (k * 6)).off+4,none⟩) (by show (ad1.add (k * 6)).block<_;rw [add_block];exact HLT.out.1)).trans x4
    have HF7:Hid (∀W,Below wr.heap.size wr W→W.cell? ⟨(ad1.add (k * 6)).block,(ad1.add (k * 6)).off+5,none⟩=some (.slice AF1 nF kF1)):=Lib.hid fun W h=>(h.cell (p:=⟨(ad1.add (k * 6)).block,(ad1.add (k * 6)).off+5,none⟩) (by show (ad1.add (k * 6)).block<_;rw [add_block];exact HLT.out.1)).trans x5
    have HF8:Hid (∀W,Below wr.heap.size wr W→W.cell? (ad2.add (k * 6))=some (.int .i64 ct)):=Lib.hid fun W h=>(h.cell (p:=(ad2.add (k * 6))) (by rw [add_block];exact HLT.out.2.1)).trans y0
    have HF9:Hid (∀W,Below wr.heap.size wr W→W.cell? ⟨(ad2.add (k * 6)).block,(ad2.add (k * 6)).off+1,none⟩=some (.string cnm)):=Lib.hid fun W h=>(h.cell (p:=⟨(ad2.add (k * 6)).block,(ad2.add (k * 6)).off+1,none⟩) (by show (ad2.add (k * 6)).block<_;rw [add_block];exact HLT.out.2.1)).trans y1
    have HF10:Hid (∀W,Below wr.heap.size wr W→W.cell? ⟨(ad2.add (k * 6)).block,(ad2.add (k * 6)).off+2,none⟩=some (.int .i64 cck)):=Lib.hid fun W h=>(h.cell (p:=⟨(ad2.add (k * 6)).block,(ad2.add (k * 6)).off+2,none⟩) (by show (ad2.add (k * 6)).block<_;rw [add_block];exact HLT.out.2.1)).trans y2
    have HF11:Hid (∀W,Below wr.heap.size wr W→W.cell? ⟨(ad2.add (k * 6)).block,(ad2.add (k * 6)).off+3,none⟩=some (.int .i64 cch)):=Lib.hid fun W h=>(h.cell (p:=⟨(ad2.add (k * 6)).block,(ad2.add (k * 6)).off+3,none⟩) (by show (ad2.add (k * 6)).block<_;rw [add_block];exact HLT.out.2.1)).trans y3
    have HF12:Hid (∀W,Below wr.heap.size wr W→W.cell? ⟨(ad2.add (k * 6)).block,(ad2.add (k * 6)).off+4,none⟩=some (.string cfm)):=Lib.hid fun W h=>(h.cell (p:=⟨(ad2.add (k * 6)).block,(ad2.add (k * 6)).off+4,none⟩) (by show (ad2.add (k * 6)).block<_;rw [add_block];exact HLT.out.2.1)).trans y4
    have HF13:Hid (∀W,Below wr.heap.size wr W→W.cell? ⟨(ad2.add (k * 6)).block,(ad2.add (k * 6)).off+5,none⟩=some (.slice AF2 nF kF2)):=Lib.hid fun W h=>(h.cell (p:=⟨(ad2.add (k * 6)).block,(ad2.add (k * 6)).off+5,none⟩) (by show (ad2.add (k * 6)).block<_;rw [add_block];exact HLT.out.2.1)).trans y5
    have HR0:Hid (Below wr.heap.size wr wr.drew):=Lib.hid (Below.refl _ _).drew
    clear x0 x1 x2 x3 x4 x5 xf y0 y1 y2 y3 y4 y5 yf hc hltC b1 b2 c1_4 c1_5 c1_8 c1_9 c2_4 c2_5 c2_8 c2_9 hnF
    go_upto_region 8 with fail
    refine wp_region_held_drew (S:=fun W=>Below wr.heap.size wr W) (by kernel_rfl) HR0.out (fun hHeld=> ?_)
    obtain ⟨wd,hwd⟩:∃W,wr.drew=W:=⟨_,rfl⟩
    rw [hwd] at hHeld ⊢
    clear hwd HR0
    refine wpAnyH_take (i:=0) (v:=_) rfl (by as_aux_lemma=>kernel_rfl) (by as_aux_lemma=>kernel_rfl) (by as_aux_lemma=>kernel_rfl) (fun _ _ _ h=>h) (Or.inl ⟨by rfl,fun w h=>by have e0:=HF0.out w h;have e1:=HF1.out w h;have e2:=HF2.out w h;have e3:=HF3.out w h;have e4:=HF4.out w h;have e5:=HF5.out w h;have e6:=HF6.out w h;have e7:=HF7.out w h;have e8:=HF8.out w h;have e9:=HF9.out w h;have e10:=HF10.out w h;have e11:=HF11.out w h;have e12:=HF12.out w h;have e13:=HF13.out w h;clear h;go_simp;(try with_reducible rfl)⟩) (by assumption) ?_
    simp only [Act.put,List.getElem_toArray,List.getElem_cons_succ,List.getElem_cons_zero,List.setIfInBounds_toArray,List.set_cons_succ,List.set_cons_zero]
    refine wpAnyH_take (i:=1) (v:=_) rfl (by as_aux_lemma=>kernel_rfl) (by as_aux_lemma=>kernel_rfl) (by as_aux_lemma=>kernel_rfl) (fun _ _ _ h=>h) (Or.inl ⟨by rfl,fun w h=>by have e0:=HF0.out w h;have e1:=HF1.out w h;have e2:=HF2.out w h;have e3:=HF3.out w h;have e4:=HF4.out w h;have e5:=HF5.out w h;have e6:=HF6.out w h;have e7:=HF7.out w h;have e8:=HF8.out w h;have e9:=HF9.out w h;have e10:=HF10.out w h;have e11:=HF11.out w h;have e12:=HF12.out w h;have e13:=HF13.out w h;clear h;go_simp;(try with_reducible rfl)⟩) (by assumption) ?_
    simp only [Act.put,List.getElem_toArray,List.getElem_cons_succ,List.getElem_cons_zero,List.setIfInBounds_toArray,List.set_cons_succ,List.set_cons_zero]
    refine wpAnyH_take (i:=2) (v:=_) rfl (by as_aux_lemma=>kernel_rfl) (by as_aux_lemma=>kernel_rfl) (by as_aux_lemma=>kernel_rfl) (fun _ _ _ h=>h) (Or.inl ⟨by rfl,fun w h=>by have e0:=HF0.out w h;have e1:=HF1.out w h;have e2:=HF2.out w h;have e3:=HF3.out w h;have e4:=HF4.out w h;have e5:=HF5.out w h;have e6:=HF6.out w h;have e7:=HF7.out w h;have e8:=HF8.out w h;have e9:=HF9.out w h;have e10:=HF10.out w h;have e11:=HF11.out w h;have e12:=HF12.out w h;have e13:=HF13.out w h;clear h;go_simp;(try with_reducible rfl)⟩) (by assumption) ?_
    simp only [Act.put,List.getElem_toArray,List.getElem_cons_succ,List.getElem_cons_zero,List.setIfInBounds_toArray,List.set_cons_succ,List.set_cons_zero]
    refine wpAnyH_take (i:=3) (v:=_) rfl (by as_aux_lemma=>kernel_rfl) (by as_aux_lemma=>kernel_rfl) (by as_aux_lemma=>kernel_rfl) (fun _ _ _ h=>h) (Or.inl ⟨by rfl,fun w h=>by have e0:=HF0.out w h;have e1:=HF1.out w h;have e2:=HF2.out w h;have e3:=HF3.out w h;have e4:=HF4.out w h;have e5:=HF5.out w h;have e6:=HF6.out w h;have e7:=HF7.out w h;have e8:=HF8.out w h;have e9:=HF9.out w h;have e10:=HF10.out w h;have e11:=HF11.out w h;have e12:=HF12.out w h;have e13:=HF13.out w h;clear h;go_simp;(try with_reducible rfl)⟩) (by assumption) ?_
    simp only [Act.put,List.getElem_toArray,List.getElem_cons_succ,List.getElem_cons_zero,List.setIfInBounds_toArray,List.set_cons_succ,List.set_cons_zero]
    refine wpAnyH_take (i:=4) (v:=_) rfl (by as_aux_lemma=>kernel_rfl) (by as_aux_lemma=>kernel_rfl) (by as_aux_lemma=>kernel_rfl) (fun _ _ _ h=>h) (Or.inl ⟨by rfl,fun w h=>by have e0:=HF0.out w h;have e1:=HF1.out w h;have e2:=HF2.out w h;have e3:=HF3.out w h;have e4:=HF4.out w h;have e5:=HF5.out w h;have e6:=HF6.out w h;have e7:=HF7.out w h;have e8:=HF8.out w h;have e9:=HF9.out w h;have e10:=HF10.out w h;have e11:=HF11.out w h;have e12:=HF12.out w h;have e13:=HF13.out w h;clear h;go_simp;(try with_reducible rfl)⟩) (by assumption) ?_
    simp only [Act.put,List.getElem_toArray,List.getElem_cons_succ,List.getElem_cons_zero,List.setIfInBounds_toArray,List.set_cons_succ,List.set_cons_zero]
    refine wpAnyH_take (i:=5) (v:=_) rfl (by as_aux_lemma=>kernel_rfl) (by as_aux_lemma=>kernel_rfl) (by as_aux_lemma=>kernel_rfl) (fun _ _ _ h=>h) (Or.inl ⟨by rfl,fun w h=>by have e0:=HF0.out w h;have e1:=HF1.out w h;have e2:=HF2.out w h;have e3:=HF3.out w h;have e4:=HF4.out w h;have e5:=HF5.out w h;have e6:=HF6.out w h;have e7:=HF7.out w h;have e8:=HF8.out w h;have e9:=HF9.out w h;have e10:=HF10.out w h;have e11:=HF11.out w h;have e12:=HF12.out w h;have e13:=HF13.out w h;clear h;go_simp;(try with_reducible rfl)⟩) (by assumption) ?_
    simp only [Act.put,List.getElem_toArray,List.getElem_cons_succ,List.getElem_cons_zero,List.setIfInBounds_toArray,List.set_cons_succ,List.set_cons_zero]
    refine wpAnyH_take (i:=6) (v:=_) rfl (by as_aux_lemma=>kernel_rfl) (by as_aux_lemma=>kernel_rfl) (by as_aux_lemma=>kernel_rfl) (fun _ _ _ h=>h) (Or.inl ⟨by rfl,fun w h=>by have e0:=HF0.out w h;have e1:=HF1.out w h;have e2:=HF2.out w h;have e3:=HF3.out w h;have e4:=HF4.out w h;have e5:=HF5.out w h;have e6:=HF6.out w h;have e7:=HF7.out w h;have e8:=HF8.out w h;have e9:=HF9.out w h;have e10:=HF10.out w h;have e11:=HF11.out w h;have e12:=HF12.out w h;have e13:=HF13.out w h;clear h;go_simp;(try with_reducible rfl)⟩) (by assumption) ?_
    simp only [Act.put,List.getElem_toArray,List.getElem_cons_succ,List.getElem_cons_zero,List.setIfInBounds_toArray,List.set_cons_succ,List.set_cons_zero]
    refine wpAnyH_take (i:=7) (v:=_) rfl (by as_aux_lemma=>kernel_rfl) (by as_aux_lemma=>kernel_rfl) (by as_aux_lemma=>kernel_rfl) (fun _ _ _ h=>h) (Or.inl ⟨by rfl,fun w h=>by have e0:=HF0.out w h;have e1:=HF1.out w h;have e2:=HF2.out w h;have e3:=HF3.out w h;have e4:=HF4.out w h;have e5:=HF5.out w h;have e6:=HF6.out w h;have e7:=HF7.out w h;have e8:=HF8.out w h;have e9:=HF9.out w h;have e10:=HF10.out w h;have e11:=HF11.out w h;have e12:=HF12.out w h;have e13:=HF13.out w h;clear h;go_simp;(try with_reducible rfl)⟩) (by assumption) ?_
    simp only [Act.put,List.getElem_toArray,List.getElem_cons_succ,List.getElem_cons_zero,List.setIfInBounds_toArray,List.set_cons_succ,List.set_cons_zero]
    refine wpAnyH_take (i:=8) (v:=_) rfl (by as_aux_lemma=>kernel_rfl) (by as_aux_lemma=>kernel_rfl) (by as_aux_lemma=>kernel_rfl) (fun _ _ _ h=>h) (Or.inl ⟨by rfl,fun w h=>by have e0:=HF0.out w h;have e1:=HF1.out w h;have e2:=HF2.out w h;have e3:=HF3.out w h;have e4:=HF4.out w h;have e5:=HF5.out w h;have e6:=HF6.out w h;have e7:=HF7.out w h;have e8:=HF8.out w h;have e9:=HF9.out w h;have e10:=HF10.out w h;have e11:=HF11.out w h;have e12:=HF12.out w h;have e13:=HF13.out w h;clear h;go_simp;(try with_reducible rfl)⟩) (by assumption) ?_
    simp only [Act.put,List.getElem_toArray,List.getElem_cons_succ,List.getElem_cons_zero,List.setIfInBounds_toArray,List.set_cons_succ,List.set_cons_zero]
    refine wpAnyH_take (i:=9) (v:=_) rfl (by as_aux_lemma=>kernel_rfl) (by as_aux_lemma=>kernel_rfl) (by as_aux_lemma=>kernel_rfl) (fun _ _ _ h=>h) (Or.inl ⟨by rfl,fun w h=>by have e0:=HF0.out w h;have e1:=HF1.out w h;have e2:=HF2.out w h;have e3:=HF3.out w h;have e4:=HF4.out w h;have e5:=HF5.out w h;have e6:=HF6.out w h;have e7:=HF7.out w h;have e8:=HF8.out w h;have e9:=HF9.out w h;have e10:=HF10.out w h;have e11:=HF11.out w h;have e12:=HF12.out w h;have e13:=HF13.out w h;clear h;go_simp;(try with_reducible rfl)⟩) (by assumption) ?_
    simp only [Act.put,List.getElem_toArray,List.getElem_cons_succ,List.getElem_cons_zero,List.setIfInBounds_toArray,List.set_cons_succ,List.set_cons_zero]
    clear HF0 HF1 HF2 HF3 HF4 HF5 HF6 HF7 HF8 HF9 HF10 HF11 HF12 HF13
    refine wpAnyH_ready (rs:=[10,11]) (by as_aux_lemma=>kernel_rfl) (by simp) ?_
    refine AllReadyH.cons (i:=10) rfl (fun K hK=> ?_) (AllReadyH.cons (i:=11) rfl (fun K hK=> ?_) AllReadyH.nil)
    · skip
      go_simp
      have HA:Hid (Below wr.heap.size wr (wd.alloc (.cells #[.int .i64 0,.string ⟨#[]⟩,.int .i64 0,.int .i64 0,.string ⟨#[]⟩,.slice none 0 0] 31))∧Whole (wd.alloc (.cells #[.int .i64 0,.string ⟨#[]⟩,.int .i64 0,.int .i64 0,.string ⟨#[]⟩,.slice none 0 0] 31)) wd.heap.size 31 #[.int .i64 0,.string ⟨#[]⟩,.int .i64 0,.int .i64 0,.string ⟨#[]⟩,.slice none 0 0]∧wr.heap.size≤wd.heap.size):=Lib.hid ⟨hHeld.alloc hHeld.size _,Whole.new _ _ _,hHeld.size⟩
      refine hK.out _ _ HA.out.1 (fun _=> ?_)
      clear hK K
      try simp only [Act.put,List.setIfInBounds_toArray,List.set_cons_succ,List.set_cons_zero]
      generalize wd.alloc (.cells #[.int .i64 0,.string ⟨#[]⟩,.int .i64 0,.int .i64 0,.string ⟨#[]⟩,.slice none 0 0] 31)=w5 at *
      generalize wd.heap.size=g6 at *
      refine wpAnyH_ready (rs:=[11]) (by as_aux_lemma=>kernel_rfl) (by simp) ?_
      refine AllReadyH.cons (i:=11) rfl (fun K hK=> ?_) AllReadyH.nil
      go_simp
      have HA2:Hid (Below wr.heap.size wr (w5.alloc (.cells #[.int .i64 0,.string ⟨#[]⟩,.int .i64 0,.int .i64 0,.string ⟨#[]⟩,.slice none 0 0] 31))∧Whole (w5.alloc (.cells #[.int .i64 0,.string ⟨#[]⟩,.int .i64 0,.int .i64 0,.string ⟨#[]⟩,.slice none 0 0] 31)) g6 31 #[.int .i64 0,.string ⟨#[]⟩,.int .i64 0,.int .i64 0,.string ⟨#[]⟩,.slice none 0 0]∧Whole (w5.alloc (.cells #[.int .i64 0,.string ⟨#[]⟩,.int .i64 0,.int .i64 0,.string ⟨#[]⟩,.slice none 0 0] 31)) w5.heap.size 31 #[.int .i64 0,.string ⟨#[]⟩,.int .i64 0,.int .i64 0,.string ⟨#[]⟩,.slice none 0 0]∧g6≠w5.heap.size∧wr.heap.size≤g6∧wr.heap.size≤w5.heap.size):=Lib.hid ⟨HA.out.1.alloc HA.out.1.size _,HA.out.2.1.alloc _,Whole.new _ _ _,Nat.ne_of_lt HA.out.2.1.lt,HA.out.2.2,HA.out.1.size⟩
      refine hK.out _ _ HA2.out.1 (fun _=> ?_)
      clear hK K HA
      try simp only [Act.put,List.setIfInBounds_toArray,List.set_cons_succ,List.set_cons_zero]
      generalize w5.alloc (.cells #[.int .i64 0,.string ⟨#[]⟩,.int .i64 0,.int .i64 0,.string ⟨#[]⟩,.slice none 0 0] 31)=w6 at *
      generalize w5.heap.size=g7 at *
      have HG:Hid (Below wr.heap.size wr w6∧Whole w6 g6 31 #[.int .i64 0,.string ⟨#[]⟩,.int .i64 0,.int .i64 0,.string ⟨#[]⟩,.slice none 0 0]∧Whole w6 g7 31 #[.int .i64 0,.string ⟨#[]⟩,.int .i64 0,.int .i64 0,.string ⟨#[]⟩,.slice none 0 0]∧g6≠g7∧wr.heap.size≤g6∧wr.heap.size≤g7):=Lib.hid ⟨HA2.out.1,HA2.out.2.1,HA2.out.2.2.1,HA2.out.2.2.2.1,HA2.out.2.2.2.2.1,HA2.out.2.2.2.2.2⟩
      clear HA2 hHeld
      refine wpAnyH_ready (rs:=[12]) (by as_aux_lemma=>kernel_rfl) (by simp) ?_
      refine AllReadyH.cons (i:=12) rfl (fun K hK=> ?_) AllReadyH.nil
      refine step_store_whole (cs:=#[.int .i64 ct,.string cnm,.int .i64 cck,.int .i64 cch,.string cfm,.slice AF1 nF kF1]) rfl 31 (.tmp 6) (.tmp 103) rfl rfl rfl HG.out.2.1 Tryz.sizeCodec rfl rfl (all_list rfl) ?_
      refine hK.out _ _ (below_row HG.out.1 HG.out.2.2.2.2.1 _) (fun _=> ?_)
      clear hK K
      try simp only [Act.put,List.setIfInBounds_toArray,List.set_cons_succ,List.set_cons_zero]
      have HG2:Hid (Below wr.heap.size wr (w6.setRow g6 #[.int .i64 ct,.string cnm,.int .i64 cck,.int .i64 cch,.string cfm,.slice AF1 nF kF1])∧Whole (w6.setRow g6 #[.int .i64 ct,.string cnm,.int .i64 cck,.int .i64 cch,.string cfm,.slice AF1 nF kF1]) g6 31 #[.int .i64 ct,.string cnm,.int .i64 cck,.int .i64 cch,.string cfm,.slice AF1 nF kF1]∧Whole (w6.setRow g6 #[.int .i64 ct,.string cnm,.int .i64 cck,.int .i64 cch,.string cfm,.slice AF1 nF kF1]) g7 31 #[.int .i64 0,.string ⟨#[]⟩,.int .i64 0,.int .i64 0,.string ⟨#[]⟩,.slice none 0 0]):=Lib.hid ⟨below_row HG.out.1 HG.out.2.2.2.2.1 _,HG.out.2.1.row _,HG.out.2.2.1.farRow (fun e=>HG.out.2.2.2.1 e.symm) _⟩
      refine wpAnyH_ready (rs:=[13]) (by as_aux_lemma=>kernel_rfl) (by simp) ?_
      refine AllReadyH.cons (i:=13) rfl (fun K hK=> ?_) AllReadyH.nil
      refine step_store_whole (cs:=#[.int .i64 ct,.string cnm,.int .i64 cck,.int .i64 cch,.string cfm,.slice AF2 nF kF2]) rfl 31 (.tmp 7) (.tmp 108) rfl rfl rfl HG2.out.2.2 Tryz.sizeCodec rfl rfl (all_list rfl) ?_
      refine hK.out _ _ (below_row HG2.out.1 HG.out.2.2.2.2.2 _) (fun _=> ?_)
      clear hK K
      try simp only [Act.put,List.setIfInBounds_toArray,List.set_cons_succ,List.set_cons_zero]
      refine wpAnyH_done (by as_aux_lemma=>kernel_rfl) ?_ _
      have HW:Hid (Below wr.heap.size wr ((w6.setRow g6 #[.int .i64 ct,.string cnm,.int .i64 cck,.int .i64 cch,.string cfm,.slice AF1 nF kF1]).setRow g7 #[.int .i64 ct,.string cnm,.int .i64 cck,.int .i64 cch,.string cfm,.slice AF2 nF kF2])∧Whole ((w6.setRow g6 #[.int .i64 ct,.string cnm,.int .i64 cck,.int .i64 cch,.string cfm,.slice AF1 nF kF1]).setRow g7 #[.int .i64 ct,.string cnm,.int .i64 cck,.int .i64 cch,.string cfm,.slice AF2 nF kF2]) g6 31 #[.int .i64 ct,.string cnm,.int .i64 cck,.int .i64 cch,.string cfm,.slice AF1 nF kF1]∧Whole ((w6.setRow g6 #[.int .i64 ct,.string cnm,.int .i64 cck,.int .i64 cch,.string cfm,.slice AF1 nF kF1]).setRow g7 #[.int .i64 ct,.string cnm,.int .i64 cck,.int .i64 cch,.string cfm,.slice AF2 nF kF2]) g7 31 #[.int .i64 ct,.string cnm,.int .i64 cck,.int .i64 cch,.string cfm,.slice AF2 nF kF2]):=Lib.hid ⟨below_row HG2.out.1 HG.out.2.2.2.2.2 _,HG2.out.2.1.farRow HG.out.2.2.2.1 _,HG2.out.2.2.row _⟩
      generalize (w6.setRow g6 #[.int .i64 ct,.string cnm,.int .i64 cck,.int .i64 cch,.string cfm,.slice AF1 nF kF1]).setRow g7 #[.int .i64 ct,.string cnm,.int .i64 cck,.int .i64 cch,.string cfm,.slice AF2 nF kF2]=w7 at *
      clear HG HG2
      have zg60:w7.cell? ⟨g6,0,none⟩=some (.int .i64 ct):=HW.out.2.1.cell 0
      have zg61:w7.cell? ⟨g6,1,none⟩=some (.string cnm):=HW.out.2.1.cell 1
      have zg62:w7.cell? ⟨g6,2,none⟩=some (.int .i64 cck):=HW.out.2.1.cell 2
      have zg63:w7.cell? ⟨g6,3,none⟩=some (.int .i64 cch):=HW.out.2.1.cell 3
      have zg64:w7.cell? ⟨g6,4,none⟩=some (.string cfm):=HW.out.2.1.cell 4
      have zg65:w7.cell? ⟨g6,5,none⟩=some (.slice AF1 nF kF1):=HW.out.2.1.cell 5
      have zg70:w7.cell? ⟨g7,0,none⟩=some (.int .i64 ct):=HW.out.2.2.cell 0
      have zg71:w7.cell? ⟨g7,1,none⟩=some (.string cnm):=HW.out.2.2.cell 1
      have zg72:w7.cell? ⟨g7,2,none⟩=some (.int .i64 cck):=HW.out.2.2.cell 2
      have zg73:w7.cell? ⟨g7,3,none⟩=some (.int .i64 cch):=HW.out.2.2.cell 3
      have zg74:w7.cell? ⟨g7,4,none⟩=some (.string cfm):=HW.out.2.2.cell 4
      have zg75:w7.cell? ⟨g7,5,none⟩=some (.slice AF2 nF kF2):=HW.out.2.2.cell 5
      have HT:Hid (Calls Tryz.prog 26 #[.slice AF1 nF kF1,.slice AF2 nF kF2] w7 fun e w'=>e=.returned (.bool true)∧Below w7.heap.size w7 w'):=Lib.hid (by
       have h7:Below N wr w7:=HW.out.1.mono HLT.out.2.2.2.2
       have h8:N≤w7.heap.size:=Nat.le_trans HLT.out.2.2.2.2 HW.out.1.size
       exact sameTexts_yes _ _ cfb w7 ((HTX.out.1.below h7).more h8) ((HTX.out.2.below h7).more h8))
      go_wp2_with (go_at_call 26;(with_reducible refine HT.out.mono ?_);rintro e w8 ⟨rfl,hb8⟩;have H8:Hid (Below w1.heap.size w1 w8):=Lib.hid (HS.out.trans (below_chain (Nat.le_refl _) HW.out.1 hb8 |>.mono HS.out.size));clear hb8;dsimp only)
      go_roundw
      case rel=>exact ⟨k+1,by omega,by go_num,H8.out⟩
      case measure=>simp [intOf];omega
    · skip
      go_simp
      have HA:Hid (Below wr.heap.size wr (wd.alloc (.cells #[.int .i64 0,.string ⟨#[]⟩,.int .i64 0,.int .i64 0,.string ⟨#[]⟩,.slice none 0 0] 31))∧Whole (wd.alloc (.cells #[.int .i64 0,.string ⟨#[]⟩,.int .i64 0,.int .i64 0,.string ⟨#[]⟩,.slice none 0 0] 31)) wd.heap.size 31 #[.int .i64 0,.string ⟨#[]⟩,.int .i64 0,.int .i64 0,.string ⟨#[]⟩,.slice none 0 0]∧wr.heap.size≤wd.heap.size):=Lib.hid ⟨hHeld.alloc hHeld.size _,Whole.new _ _ _,hHeld.size⟩
      refine hK.out _ _ HA.out.1 (fun _=> ?_)
      clear hK K
      try simp only [Act.put,List.setIfInBounds_toArray,List.set_cons_succ,List.set_cons_zero]
      generalize wd.alloc (.cells #[.int .i64 0,.string ⟨#[]⟩,.int .i64 0,.int .i64 0,.string ⟨#[]⟩,.slice none 0 0] 31)=w5 at *
      generalize wd.heap.size=g7 at *
      refine wpAnyH_ready (rs:=[10]) (by as_aux_lemma=>kernel_rfl) (by simp) ?_
      refine AllReadyH.cons (i:=10) rfl (fun K hK=> ?_) AllReadyH.nil
      go_simp
      have HA2:Hid (Below wr.heap.size wr (w5.alloc (.cells #[.int .i64 0,.string ⟨#[]⟩,.int .i64 0,.int .i64 0,.string ⟨#[]⟩,.slice none 0 0] 31))∧Whole (w5.alloc (.cells #[.int .i64 0,.string ⟨#[]⟩,.int .i64 0,.int .i64 0,.string ⟨#[]⟩,.slice none 0 0] 31)) g7 31 #[.int .i64 0,.string ⟨#[]⟩,.int .i64 0,.int .i64 0,.string ⟨#[]⟩,.slice none 0 0]∧Whole (w5.alloc (.cells #[.int .i64 0,.string ⟨#[]⟩,.int .i64 0,.int .i64 0,.string ⟨#[]⟩,.slice none 0 0] 31)) w5.heap.size 31 #[.int .i64 0,.string ⟨#[]⟩,.int .i64 0,.int .i64 0,.string ⟨#[]⟩,.slice none 0 0]∧g7≠w5.heap.size∧wr.heap.size≤g7∧wr.heap.size≤w5.heap.size):=Lib.hid ⟨HA.out.1.alloc HA.out.1.size _,HA.out.2.1.alloc _,Whole.new _ _ _,Nat.ne_of_lt HA.out.2.1.lt,HA.out.2.2,HA.out.1.size⟩
      refine hK.out _ _ HA2.out.1 (fun _=> ?_)
      clear hK K HA
      try simp only [Act.put,List.setIfInBounds_toArray,List.set_cons_succ,List.set_cons_zero]
      generalize w5.alloc (.cells #[.int .i64 0,.string ⟨#[]⟩,.int .i64 0,.int .i64 0,.string ⟨#[]⟩,.slice none 0 0] 31)=w6 at *
      generalize w5.heap.size=g6 at *
      have HG:Hid (Below wr.heap.size wr w6∧Whole w6 g6 31 #[.int .i64 0,.string ⟨#[]⟩,.int .i64 0,.int .i64 0,.string ⟨#[]⟩,.slice none 0 0]∧Whole w6 g7 31 #[.int .i64 0,.string ⟨#[]⟩,.int .i64 0,.int .i64 0,.string ⟨#[]⟩,.slice none 0 0]∧g6≠g7∧wr.heap.size≤g6∧wr.heap.size≤g7):=Lib.hid ⟨HA2.out.1,HA2.out.2.2.1,HA2.out.2.1,fun e=>HA2.out.2.2.2.1 e.symm,HA2.out.2.2.2.2.2,HA2.out.2.2.2.2.1⟩
      clear HA2 hHeld
      refine wpAnyH_ready (rs:=[12]) (by as_aux_lemma=>kernel_rfl) (by simp) ?_
      refine AllReadyH.cons (i:=12) rfl (fun K hK=> ?_) AllReadyH.nil
      refine step_store_whole (cs:=#[.int .i64 ct,.string cnm,.int .i64 cck,.int .i64 cch,.string cfm,.slice AF1 nF kF1]) rfl 31 (.tmp 6) (.tmp 103) rfl rfl rfl HG.out.2.1 Tryz.sizeCodec rfl rfl (all_list rfl) ?_
      refine hK.out _ _ (below_row HG.out.1 HG.out.2.2.2.2.1 _) (fun _=> ?_)
      clear hK K
      try simp only [Act.put,List.setIfInBounds_toArray,List.set_cons_succ,List.set_cons_zero]
      have HG2:Hid (Below wr.heap.size wr (w6.setRow g6 #[.int .i64 ct,.string cnm,.int .i64 cck,.int .i64 cch,.string cfm,.slice AF1 nF kF1])∧Whole (w6.setRow g6 #[.int .i64 ct,.string cnm,.int .i64 cck,.int .i64 cch,.string cfm,.slice AF1 nF kF1]) g6 31 #[.int .i64 ct,.string cnm,.int .i64 cck,.int .i64 cch,.string cfm,.slice AF1 nF kF1]∧Whole (w6.setRow g6 #[.int .i64 ct,.string cnm,.int .i64 cck,.int .i64 cch,.string cfm,.slice AF1 nF kF1]) g7 31 #[.int .i64 0,.string ⟨#[]⟩,.int .i64 0,.int .i64 0,.string ⟨#[]⟩,.slice none 0 0]):=Lib.hid ⟨below_row HG.out.1 HG.out.2.2.2.2.1 _,HG.out.2.1.row _,HG.out.2.2.1.farRow (fun e=>HG.out.2.2.2.1 e.symm) _⟩
      refine wpAnyH_ready (rs:=[13]) (by as_aux_lemma=>kernel_rfl) (by simp) ?_
      refine AllReadyH.cons (i:=13) rfl (fun K hK=> ?_) AllReadyH.nil
      refine step_store_whole (cs:=#[.int .i64 ct,.string cnm,.int .i64 cck,.int .i64 cch,.string cfm,.slice AF2 nF kF2]) rfl 31 (.tmp 7) (.tmp 108) rfl rfl rfl HG2.out.2.2 Tryz.sizeCodec rfl rfl (all_list rfl) ?_
      refine hK.out _ _ (below_row HG2.out.1 HG.out.2.2.2.2.2 _) (fun _=> ?_)
      clear hK K
      try simp only [Act.put,List.setIfInBounds_toArray,List.set_cons_succ,List.set_cons_zero]
      refine wpAnyH_done (by as_aux_lemma=>kernel_rfl) ?_ _
      have HW:Hid (Below wr.heap.size wr ((w6.setRow g6 #[.int .i64 ct,.string cnm,.int .i64 cck,.int .i64 cch,.string cfm,.slice AF1 nF kF1]).setRow g7 #[.int .i64 ct,.string cnm,.int .i64 cck,.int .i64 cch,.string cfm,.slice AF2 nF kF2])∧Whole ((w6.setRow g6 #[.int .i64 ct,.string cnm,.int .i64 cck,.int .i64 cch,.string cfm,.slice AF1 nF kF1]).setRow g7 #[.int .i64 ct,.string cnm,.int .i64 cck,.int .i64 cch,.string cfm,.slice AF2 nF kF2]) g6 31 #[.int .i64 ct,.string cnm,.int .i64 cck,.int .i64 cch,.string cfm,.slice AF1 nF kF1]∧Whole ((w6.setRow g6 #[.int .i64 ct,.string cnm,.int .i64 cck,.int .i64 cch,.string cfm,.slice AF1 nF kF1]).setRow g7 #[.int .i64 ct,.string cnm,.int .i64 cck,.int .i64 cch,.string cfm,.slice AF2 nF kF2]) g7 31 #[.int .i64 ct,.string cnm,.int .i64 cck,.int .i64 cch,.string cfm,.slice AF2 nF kF2]):=Lib.hid ⟨below_row HG2.out.1 HG.out.2.2.2.2.2 _,HG2.out.2.1.farRow HG.out.2.2.2.1 _,HG2.out.2.2.row _⟩
      generalize (w6.setRow g6 #[.int .i64 ct,.string cnm,.int .i64 cck,.int .i64 cch,.string cfm,.slice AF1 nF kF1]).setRow g7 #[.int .i64 ct,.string cnm,.int .i64 cck,.int .i64 cch,.string cfm,.slice AF2 nF kF2]=w7 at *
      clear HG HG2
      have zg60:w7.cell? ⟨g6,0,none⟩=some (.int .i64 ct):=HW.out.2.1.cell 0
      have zg61:w7.cell? ⟨g6,1,none⟩=some (.string cnm):=HW.out.2.1.cell 1
      have zg62:w7.cell? ⟨g6,2,none⟩=some (.int .i64 cck):=HW.out.2.1.cell 2
      have zg63:w7.cell? ⟨g6,3,none⟩=some (.int .i64 cch):=HW.out.2.1.cell 3
      have zg64:w7.cell? ⟨g6,4,none⟩=some (.string cfm):=HW.out.2.1.cell 4
      have zg65:w7.cell? ⟨g6,5,none⟩=some (.slice AF1 nF kF1):=HW.out.2.1.cell 5
      have zg70:w7.cell? ⟨g7,0,none⟩=some (.int .i64 ct):=HW.out.2.2.cell 0
      have zg71:w7.cell? ⟨g7,1,none⟩=some (.string cnm):=HW.out.2.2.cell 1
      have zg72:w7.cell? ⟨g7,2,none⟩=some (.int .i64 cck):=HW.out.2.2.cell 2
      have zg73:w7.cell? ⟨g7,3,none⟩=some (.int .i64 cch):=HW.out.2.2.cell 3
      have zg74:w7.cell? ⟨g7,4,none⟩=some (.string cfm):=HW.out.2.2.cell 4
      have zg75:w7.cell? ⟨g7,5,none⟩=some (.slice AF2 nF kF2):=HW.out.2.2.cell 5
      have HT:Hid (Calls Tryz.prog 26 #[.slice AF1 nF kF1,.slice AF2 nF kF2] w7 fun e w'=>e=.returned (.bool true)∧Below w7.heap.size w7 w'):=Lib.hid (by
       have h7:Below N wr w7:=HW.out.1.mono HLT.out.2.2.2.2
       have h8:N≤w7.heap.size:=Nat.le_trans HLT.out.2.2.2.2 HW.out.1.size
       exact sameTexts_yes _ _ cfb w7 ((HTX.out.1.below h7).more h8) ((HTX.out.2.below h7).more h8))
      go_wp2_with (go_at_call 26;(with_reducible refine HT.out.mono ?_);rintro e w8 ⟨rfl,hb8⟩;have H8:Hid (Below w1.heap.size w1 w8):=Lib.hid (HS.out.trans (below_chain (Nat.le_refl _) HW.out.1 hb8 |>.mono HS.out.size));clear hb8;dsimp only)
      go_roundw
      case rel=>exact ⟨k+1,by omega,by go_num,H8.out⟩
      case measure=>simp [intOf];omega
  · obtain rfl:nC=k:=by omega
    clear hlt hk
    go_wp2
    go_loopw [154] (fun s wr=>∃k:Nat,k≤nE∧s=.int .i64 k∧Below w1.heap.size w1 wr) (fun s _=>nE - (intOf s).toNat)
    case atStart=>exact ⟨0,Nat.zero_le _,rfl,HS.out⟩
    case round =>
     clear HS HBW
     clear c1_4 c1_5 c1_8 c1_9 c2_4 c2_5 c2_8 c2_9
     obtain ⟨k,hk,rfl,hst⟩:=hrel
     have HS:=Lib.hid hst
     clear hst
     have c1_4:wr.cell? ⟨N,4,none⟩=some (.slice AC1 nC kC1):=(HW1.out.1.under HS.out).cell 4
     have c1_5:wr.cell? ⟨N,5,none⟩=some (.slice AE1 nE kE1):=(HW1.out.1.under HS.out).cell 5
     have c1_8:wr.cell? ⟨N,8,none⟩=some (.slice AS1 nS kS1):=(HW1.out.1.under HS.out).cell 8
     have c1_9:wr.cell? ⟨N,9,none⟩=some (.slice AY1 nY kY1):=(HW1.out.1.under HS.out).cell 9
     have c2_4:wr.cell? ⟨N+1,4,none⟩=some (.slice AC2 nC kC2):=(HW1.out.2.under HS.out).cell 4
     have c2_5:wr.cell? ⟨N+1,5,none⟩=some (.slice AE2 nE kE2):=(HW1.out.2.under HS.out).cell 5
     have c2_8:wr.cell? ⟨N+1,8,none⟩=some (.slice AS2 nS kS2):=(HW1.out.2.under HS.out).cell 8
     have c2_9:wr.cell? ⟨N+1,9,none⟩=some (.slice AY2 nY kY2):=(HW1.out.2.under HS.out).cell 9
     have HBW:Hid (Below N w wr):=Lib.hid (HB.out.trans (HS.out.mono hsz.out))
     by_cases hlt:k<nE
     · have hltE:k<m.exts.length:=by rw [HNE.out];exact hlt
       obtain ⟨ad1,q1,e1,b1,x0,x1⟩:=(HV.out.1.exts.below HBW.out).at_ hltE
       obtain ⟨ad2,q2,e2,b2,y0,y1⟩:=(HV.out.2.exts.below HBW.out).at_ hltE
       injection e1 with e1 e1n e1c;clear e1n e1c
       injection e2 with e2 e2n e2c;clear e2n e2c
       subst e1 e2
       obtain ⟨x,hx⟩:∃c,m.exts.getD k default=c:=⟨_,rfl⟩
       rw [hx] at x0 x1 y0 y1
       obtain ⟨xi,xu⟩:=x
       simp only at x0 x1 y0 y1
       have hq:∀W,(Op.equalIn 10000 71 (.agg #[.int .i64 xi,.string xu]) (.agg #[.int .i64 xi,.string xu])).run Tryz.prog W=.ok true W:=fun W=>ext_same xi xu W
       have hgd:=ext_guard
       have hk0:(0:Int)≤(k:Int):=by omega
       have hk1:(k:Int)<(nE:Int):=by omega
       clear hx hltE b1 b2
       go_upto_region 15 with fail
       go_quiet (fail)
       go_wp2
       go_roundw
       case rel=>exact ⟨k+1,by omega,by go_num,below_drewN' HS.out _⟩
       case measure=>simp [intOf];omega
     · obtain rfl:nE=k:=by omega
       clear hlt hk
       go_wp2
       go_loopw [172] (fun s wr=>∃k:Nat,k≤nS∧s=.int .i64 k∧Below w1.heap.size w1 wr) (fun s _=>nS - (intOf s).toNat)
       case atStart=>exact ⟨0,Nat.zero_le _,rfl,HS.out⟩
       case round =>
        clear HS HBW
        clear c1_4 c1_5 c1_8 c1_9 c2_4 c2_5 c2_8 c2_9
        obtain ⟨k,hk,rfl,hst⟩:=hrel
        have HS:=Lib.hid hst
        clear hst
        have c1_4:wr.cell? ⟨N,4,none⟩=some (.slice AC1 nC kC1):=(HW1.out.1.under HS.out).cell 4
        have c1_5:wr.cell? ⟨N,5,none⟩=some (.slice AE1 nE kE1):=(HW1.out.1.under HS.out).cell 5
        have c1_8:wr.cell? ⟨N,8,none⟩=some (.slice AS1 nS kS1):=(HW1.out.1.under HS.out).cell 8
        have c1_9:wr.cell? ⟨N,9,none⟩=some (.slice AY1 nY kY1):=(HW1.out.1.under HS.out).cell 9
        have c2_4:wr.cell? ⟨N+1,4,none⟩=some (.slice AC2 nC kC2):=(HW1.out.2.under HS.out).cell 4
        have c2_5:wr.cell? ⟨N+1,5,none⟩=some (.slice AE2 nE kE2):=(HW1.out.2.under HS.out).cell 5
        have c2_8:wr.cell? ⟨N+1,8,none⟩=some (.slice AS2 nS kS2):=(HW1.out.2.under HS.out).cell 8
        have c2_9:wr.cell? ⟨N+1,9,none⟩=some (.slice AY2 nY kY2):=(HW1.out.2.under HS.out).cell 9
        have HBW:Hid (Below N w wr):=Lib.hid (HB.out.trans (HS.out.mono hsz.out))
        by_cases hlt:k<nS
        · have hltS:k<m.sources.length:=by rw [HNS.out];exact hlt
          obtain ⟨ad1,q1,e1,b1,x0⟩:=(HV.out.1.sources.below HBW.out).at_ hltS
          obtain ⟨ad2,q2,e2,b2,y0⟩:=(HV.out.2.sources.below HBW.out).at_ hltS
          injection e1 with e1 e1n e1c;clear e1n e1c
          injection e2 with e2 e2n e2c;clear e2n e2c
          subst e1 e2
          obtain ⟨x,hx⟩:∃c,m.sources.getD k default=c:=⟨_,rfl⟩
          rw [hx] at x0 y0
          have hk0:(0:Int)≤(k:Int):=by omega
          have hk1:(k:Int)<(nS:Int):=by omega
          clear hx hltS b1 b2
          go_upto_region 21 with fail
          go_quiet (fail)
          go_wp2
          go_roundw
          case rel=>exact ⟨k+1,by omega,by go_num,below_drewN' HS.out _⟩
          case measure=>simp [intOf];omega
        · obtain rfl:nS=k:=by omega
          clear hlt hk
          go_wp2
          go_loopw [190] (fun s wr=>∃k:Nat,k≤nY∧s=.int .i64 k∧Below w1.heap.size w1 wr) (fun s _=>nY - (intOf s).toNat)
          case atStart=>exact ⟨0,Nat.zero_le _,rfl,HS.out⟩
          case round =>
           clear HS HBW
           clear c1_4 c1_5 c1_8 c1_9 c2_4 c2_5 c2_8 c2_9
           obtain ⟨k,hk,rfl,hst⟩:=hrel
           have HS:=Lib.hid hst
           clear hst
           have c1_4:wr.cell? ⟨N,4,none⟩=some (.slice AC1 nC kC1):=(HW1.out.1.under HS.out).cell 4
           have c1_5:wr.cell? ⟨N,5,none⟩=some (.slice AE1 nE kE1):=(HW1.out.1.under HS.out).cell 5
           have c1_8:wr.cell? ⟨N,8,none⟩=some (.slice AS1 nS kS1):=(HW1.out.1.under HS.out).cell 8
           have c1_9:wr.cell? ⟨N,9,none⟩=some (.slice AY1 nY kY1):=(HW1.out.1.under HS.out).cell 9
           have c2_4:wr.cell? ⟨N+1,4,none⟩=some (.slice AC2 nC kC2):=(HW1.out.2.under HS.out).cell 4
           have c2_5:wr.cell? ⟨N+1,5,none⟩=some (.slice AE2 nE kE2):=(HW1.out.2.under HS.out).cell 5
           have c2_8:wr.cell? ⟨N+1,8,none⟩=some (.slice AS2 nS kS2):=(HW1.out.2.under HS.out).cell 8
           have c2_9:wr.cell? ⟨N+1,9,none⟩=some (.slice AY2 nY kY2):=(HW1.out.2.under HS.out).cell 9
           have HBW:Hid (Below N w wr):=Lib.hid (HB.out.trans (HS.out.mono hsz.out))
           by_cases hlt:k<nY
           · have hltY:k<m.crypto.length:=by rw [HNY.out];exact hlt
             obtain ⟨ad1,q1,e1,b1,l1,x0⟩:=(HV.out.1.crypto.below HBW.out).at_ hltY
             obtain ⟨ad2,q2,e2,b2,l2,y0⟩:=(HV.out.2.crypto.below HBW.out).at_ hltY
             injection e1 with e1 e1n e1c;clear e1n e1c
             injection e2 with e2 e2n e2c;clear e2n e2c
             subst e1 e2
             obtain ⟨x,hx⟩:∃c,m.crypto.getD k default=c:=⟨_,rfl⟩
             rw [hx] at x0 y0 l1
             have hq:∀W,(Op.equalIn 10000 75 (.agg (cryC x).toArray) (.agg (cryC x).toArray)).run Tryz.prog W=.ok true W:=fun W=>crypto_same x.tag x.key l1 W
             have hgd:=crypto_guard
             have HLL:=Lib.hid (cryC_len l1)
             have HLT:Hid (ad1.block<wr.heap.size∧ad2.block<wr.heap.size∧N<wr.heap.size∧N+1<wr.heap.size):=Lib.hid ⟨Nat.lt_of_lt_of_le b1 (by rw [←HN.out];exact HBW.out.size),Nat.lt_of_lt_of_le b2 (by rw [←HN.out];exact HBW.out.size),(HW1.out.1.under HS.out).lt,(HW1.out.2.under HS.out).lt⟩
             obtain ⟨XL,hXL⟩:∃l,cryC x=l:=⟨_,rfl⟩
             rw [hXL] at x0 y0 hq HLL
             have HX1:Hid (∀W,Below wr.heap.size wr W→∀j u,XL[j]? = some u→W.cell? ((ad1.add (k * 31)).add j)=some u):=Lib.hid fun W h j u hu=>(h.cell (p:=(ad1.add (k * 31)).add j) (by rw [add_block,add_block];exact HLT.out.1)).trans (x0 j u hu)
             have HX2:Hid (∀W,Below wr.heap.size wr W→∀j u,XL[j]? = some u→W.cell? ((ad2.add (k * 31)).add j)=some u):=Lib.hid fun W h j u hu=>(h.cell (p:=(ad2.add (k * 31)).add j) (by rw [add_block,add_block];exact HLT.out.2.1)).trans (y0 j u hu)
             have HF0:Hid (∀W,Below wr.heap.size wr W→W.cell? ⟨N,9,none⟩=some (.slice (some ad1) nY kY1)):=Lib.hid fun W h=>(h.cell (p:=⟨N,9,none⟩) (by show N<_;exact HLT.out.2.2.1)).trans c1_9
             have HF1:Hid (∀W,Below wr.heap.size wr W→W.cell? ⟨N+1,9,none⟩=some (.slice (some ad2) nY kY2)):=Lib.hid fun W h=>(h.cell (p:=⟨N+1,9,none⟩) (by show N+1<_;exact HLT.out.2.2.2)).trans c2_9
             have hk0:(0:Int)≤(k:Int):=by omega
             have hk1:(k:Int)<(nY:Int):=by omega
             have HR0:Hid (Below wr.heap.size wr wr.drew):=Lib.hid (Below.refl _ _).drew
             clear hx hltY b1 b2 x0 y0 l1 l2 hXL c1_4 c1_5 c1_8 c1_9 c2_4 c2_5 c2_8 c2_9
             go_upto_region 27 with fail
             refine wp_region_held_drew (S:=fun W=>Below wr.heap.size wr W) (by kernel_rfl) HR0.out (fun hHeld=> ?_)
             refine wpAnyH_take (i:=0) (v:=_) rfl (by as_aux_lemma=>kernel_rfl) (by as_aux_lemma=>kernel_rfl) (by as_aux_lemma=>kernel_rfl) (fun _ _ _ h=>h) (Or.inl ⟨by rfl,fun w h=>by have e0:=HF0.out w h;have e1:=HF1.out w h;clear h;go_simp;(try with_reducible rfl)⟩) (by assumption) ?_
             simp only [Act.put,List.getElem_toArray,List.getElem_cons_succ,List.getElem_cons_zero,List.setIfInBounds_toArray,List.set_cons_succ,List.set_cons_zero]
             refine wpAnyH_take (i:=1) (v:=_) rfl (by as_aux_lemma=>kernel_rfl) (by as_aux_lemma=>kernel_rfl) (by as_aux_lemma=>kernel_rfl) (fun _ _ _ h=>h) (Or.inl ⟨by rfl,fun w h=>by have e0:=HF0.out w h;have e1:=HF1.out w h;clear h;go_simp;(try with_reducible rfl)⟩) (by assumption) ?_
             simp only [Act.put,List.getElem_toArray,List.getElem_cons_succ,List.getElem_cons_zero,List.setIfInBounds_toArray,List.set_cons_succ,List.set_cons_zero]
             refine wpAnyH_take (i:=2) (v:=_) rfl (by as_aux_lemma=>kernel_rfl) (by as_aux_lemma=>kernel_rfl) (by as_aux_lemma=>kernel_rfl) (fun _ _ _ h=>h) (Or.inl ⟨by rfl,fun w h=>by have e0:=HF0.out w h;have e1:=HF1.out w h;clear h;go_simp;(try with_reducible rfl)⟩) (by assumption) ?_
             simp only [Act.put,List.getElem_toArray,List.getElem_cons_succ,List.getElem_cons_zero,List.setIfInBounds_toArray,List.set_cons_succ,List.set_cons_zero]
             refine wpAnyH_take (i:=3) (v:=_) rfl (by as_aux_lemma=>kernel_rfl) (by as_aux_lemma=>kernel_rfl) (by as_aux_lemma=>kernel_rfl) (fun _ _ _ h=>h) (Or.inl ⟨by rfl,fun w h=>by have e0:=HF0.out w h;have e1:=HF1.out w h;clear h;go_simp;(try with_reducible rfl)⟩) (by assumption) ?_
             simp only [Act.put,List.getElem_toArray,List.getElem_cons_succ,List.getElem_cons_zero,List.setIfInBounds_toArray,List.set_cons_succ,List.set_cons_zero]
             refine wpAnyH_take (i:=4) (v:=_) rfl (by as_aux_lemma=>kernel_rfl) (by as_aux_lemma=>kernel_rfl) (by as_aux_lemma=>kernel_rfl) (fun _ _ _ h=>h) (yieldsIf_load_at (by rfl) 75 (.tmp 196) rfl _ rfl XL _ (fun w h=>HX1.out w h) Tryz.underlying75 rfl (by rw [Tryz.sizeCrypto,HLL.out])) (by assumption) ?_
             simp only [Act.put,List.getElem_toArray,List.getElem_cons_succ,List.getElem_cons_zero,List.setIfInBounds_toArray,List.set_cons_succ,List.set_cons_zero]
             refine wpAnyH_take (i:=5) (v:=_) rfl (by as_aux_lemma=>kernel_rfl) (by as_aux_lemma=>kernel_rfl) (by as_aux_lemma=>kernel_rfl) (fun _ _ _ h=>h) (Or.inl ⟨by rfl,fun w h=>by have e0:=HF0.out w h;have e1:=HF1.out w h;clear h;go_simp;(try with_reducible rfl)⟩) (by assumption) ?_
             simp only [Act.put,List.getElem_toArray,List.getElem_cons_succ,List.getElem_cons_zero,List.setIfInBounds_toArray,List.set_cons_succ,List.set_cons_zero]
             refine wpAnyH_take (i:=6) (v:=_) rfl (by as_aux_lemma=>kernel_rfl) (by as_aux_lemma=>kernel_rfl) (by as_aux_lemma=>kernel_rfl) (fun _ _ _ h=>h) (Or.inl ⟨by rfl,fun w h=>by have e0:=HF0.out w h;have e1:=HF1.out w h;clear h;go_simp;(try with_reducible rfl)⟩) (by assumption) ?_
             simp only [Act.put,List.getElem_toArray,List.getElem_cons_succ,List.getElem_cons_zero,List.setIfInBounds_toArray,List.set_cons_succ,List.set_cons_zero]
             refine wpAnyH_take (i:=7) (v:=_) rfl (by as_aux_lemma=>kernel_rfl) (by as_aux_lemma=>kernel_rfl) (by as_aux_lemma=>kernel_rfl) (fun _ _ _ h=>h) (Or.inl ⟨by rfl,fun w h=>by have e0:=HF0.out w h;have e1:=HF1.out w h;clear h;go_simp;(try with_reducible rfl)⟩) (by assumption) ?_
             simp only [Act.put,List.getElem_toArray,List.getElem_cons_succ,List.getElem_cons_zero,List.setIfInBounds_toArray,List.set_cons_succ,List.set_cons_zero]
             refine wpAnyH_take (i:=8) (v:=_) rfl (by as_aux_lemma=>kernel_rfl) (by as_aux_lemma=>kernel_rfl) (by as_aux_lemma=>kernel_rfl) (fun _ _ _ h=>h) (Or.inl ⟨by rfl,fun w h=>by have e0:=HF0.out w h;have e1:=HF1.out w h;clear h;go_simp;(try with_reducible rfl)⟩) (by assumption) ?_
             simp only [Act.put,List.getElem_toArray,List.getElem_cons_succ,List.getElem_cons_zero,List.setIfInBounds_toArray,List.set_cons_succ,List.set_cons_zero]
             refine wpAnyH_take (i:=9) (v:=_) rfl (by as_aux_lemma=>kernel_rfl) (by as_aux_lemma=>kernel_rfl) (by as_aux_lemma=>kernel_rfl) (fun _ _ _ h=>h) (yieldsIf_load_at (by rfl) 75 (.tmp 201) rfl _ rfl XL _ (fun w h=>HX2.out w h) Tryz.underlying75 rfl (by rw [Tryz.sizeCrypto,HLL.out])) (by assumption) ?_
             simp only [Act.put,List.getElem_toArray,List.getElem_cons_succ,List.getElem_cons_zero,List.setIfInBounds_toArray,List.set_cons_succ,List.set_cons_zero]
             refine wpAnyH_take (i:=10) (v:=_) rfl (by as_aux_lemma=>kernel_rfl) (by as_aux_lemma=>kernel_rfl) (by as_aux_lemma=>kernel_rfl) (fun _ _ _ h=>h) (Or.inl ⟨by rfl,fun w h=>by have e0:=HF0.out w h;have e1:=HF1.out w h;clear h;go_simp;(try with_reducible rfl)⟩) (by assumption) ?_
             simp only [Act.put,List.getElem_toArray,List.getElem_cons_succ,List.getElem_cons_zero,List.setIfInBounds_toArray,List.set_cons_succ,List.set_cons_zero]
             refine wpAnyH_done (by as_aux_lemma=>kernel_rfl) ?_ _
             go_wp2
             go_roundw
             case rel=>exact ⟨k+1,by omega,by go_num,HS.out.trans (hHeld.mono HS.out.size)⟩
             case measure=>simp [intOf];omega
           · obtain rfl:nY=k:=by omega
             go_wp2
             go_ret
             exact ⟨rfl,HBW.out⟩
end Go.Proofs.YtgnpckelbokniaaGreatDoor
