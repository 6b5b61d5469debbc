import Derived.Test.YtgnpckelbokniaaGreatDoorPkAttrKeepsA01
import Derived.Deep.CutBlock
import Derived.Great.BuildSlice
namespace Go.Proofs.YtgnpckelbokniaaGreatDoor
open Go.RowKit
set_option linter.unusedVariables false
set_option linter.unusedSimpArgs false
theorem Tryz.infoExt:(Tryz.prog.info? 71).map (fun i=>(i.zero,i.size,i.bytes))=some (some (.agg #[.int .i64 0,.string ⟨#[]⟩]),2,24):=by kernel_rfl
theorem MW.extA {base bm n:Nat} {w w':World} {m:MediaS} {cs:List (CodecS×Value)} {vC vE vR vS vY v':Value} (h:MW base bm n w m cs vC vE vR vS vY) {x:ExtS} (ho:Own w' base 71 2 v' (m.exts.map ecell++[ecell x])) (hg:w.grownBy w' vE.ownBlock) (hb:base≤w.heap.size) (hx:x.uri.size≤140737488355328) (hn:n≤64) :
 MW base bm (n+1) (w'.setCell ⟨bm,5,none⟩ v') {m with exts:=m.exts++[x]} cs vC v' vR vS vY∧Rdt base bm w (w'.setCell ⟨bm,5,none⟩ v'):=by
 have hbx:Whole w' bm 28 (mcell m vC vE vR vS vY):=h.box.grown hg (fun e=>(h.hE.apart h.box (by decide)) e.symm)
 have kC:=h.hC.grown hg (h.hC.apart2 h.hE (by decide))
 have kR:=h.hR.grown hg (h.hR.apart2 h.hE (by decide))
 have kS:=h.hS.grown hg (h.hS.apart2 h.hE (by decide))
 have kY:=h.hY.grown hg (h.hY.apart2 h.hE (by decide))
 have kF:=fun c hc=>(h.hF c hc).grown hg ((h.hF c hc).apart2 h.hE (by decide))
 obtain ⟨l1,l2,l3,l4,l5,l6⟩:=h.lens
 refine ⟨⟨h.eqC,?_,kC.far (p:=⟨bm,5,none⟩) (kC.apart hbx (by decide)) _,fun c hc=>(kF c hc).far (p:=⟨bm,5,none⟩) ((kF c hc).apart hbx (by decide)) _,?_,kR.far (p:=⟨bm,5,none⟩) (kR.apart hbx (by decide)) _,kS.far (p:=⟨bm,5,none⟩) (kS.apart hbx (by decide)) _,kY.far (p:=⟨bm,5,none⟩) (kY.apart hbx (by decide)) _,h.ap,h.hbm,?_,?_⟩,?_,?_,(h.hE.others hg).trans (Go.KeepsOthers.setCell _ _ _)⟩
 · exact hbx.set 5 v'
 · show Own _ _ _ _ _ ((m.exts++[x]).map ecell)
   rw [List.map_append]
   exact ho.far (p:=⟨bm,5,none⟩) (ho.apart hbx (by decide)) _
 · obtain ⟨z1,z2,z3,z4,z5,z6,z8⟩:=h.siz
   refine ⟨z1,z2,z3,fun y hy=> ?_,z5,z6,?_⟩
   · rcases List.mem_append.1 hy with hy | hy
     · exact z4 y hy
     · simp at hy
       subst hy
       exact hx
   · show m.codecs.length≤_∧(m.exts++[x]).length≤_∧m.rids.length≤_∧m.sources.length≤_∧m.crypto.length≤_
     rw [List.length_append,List.length_singleton]
     omega
 · refine ⟨by show m.codecs.length≤_;omega,by show (m.exts++[x]).length≤_;rw [List.length_append,List.length_singleton];omega,by show m.rids.length≤_;omega,by show m.sources.length≤_;omega,by show m.crypto.length≤_;omega,fun c hc=>by have:=l6 c hc;omega⟩
 · exact (Below.refl base w).grown hg hb (fun j hj=>(h.hE.lt hj).1) |>.setCell (p:=⟨bm,5,none⟩) h.hbm _
 · intro g t ds hw h1 h2 h3 h4 h5 h6
   exact (hw.grown hg (fun e=>(h.hE.apart hw (fun e2=>h2 e2.symm)) e.symm)).far (p:=⟨bm,5,none⟩) h6 _
theorem Tryz.infoCodec:(Tryz.prog.info? 31).map (fun i=>(i.zero,i.size,i.bytes))=some (some (.agg #[.int .i64 0,.string ⟨#[]⟩,.int .i64 0,.int .i64 0,.string ⟨#[]⟩,.slice none 0 0]),6,80):=by kernel_rfl
theorem Tryz.infoU32:(Tryz.prog.info? 72).map (fun i=>(i.zero,i.size,i.bytes))=some (some (.int .u32 0),1,4):=by kernel_rfl
theorem Tryz.infoCrypto:(Tryz.prog.info? 75).map (fun i=>(i.zero,i.size,i.bytes))=some (some (.agg (#[.int .i64 0]++zKey)),31,40):=by kernel_rfl
theorem apart_flip {a b:Option Nat} (h:a=none∨a≠b):b=none∨b≠a:=by
 by_cases e:b=none
 · exact .inl e
 · right
   rcases h with rfl | h
   · exact e
   · exact fun e2=>h e2.symm
theorem MW.codecsA {base bm n:Nat} {w w':World} {m:MediaS} {cs:List (CodecS×Value)} {vC vE vR vS vY v':Value} (h:MW base bm n w m cs vC vE vR vS vY) {x:CodecS} (ho:Own w' base 31 6 v' ((cs.map fun c=>ccell c.1 c.2)++[ccell x (.slice none 0 0)])) (hg:w.grownBy w' vC.ownBlock) (hb:base≤w.heap.size) (hf:x.feedback=[]) (hx:x.name.size≤140737488355328∧x.format.size≤140737488355328) (hn:n≤64) :
 MW base bm (n+1) (w'.setCell ⟨bm,4,none⟩ v') {m with codecs:=m.codecs++[x]} (cs++[(x,.slice none 0 0)]) v' vE vR vS vY∧Rdt base bm w (w'.setCell ⟨bm,4,none⟩ v'):=by
 have hbx:Whole w' bm 28 (mcell m vC vE vR vS vY):=h.box.grown hg (fun e=>(h.hC.apart h.box (by decide)) e.symm)
 have kE:=h.hE.grown hg (h.hE.apart2 h.hC (by decide))
 have kR:=h.hR.grown hg (h.hR.apart2 h.hC (by decide))
 have kS:=h.hS.grown hg (h.hS.apart2 h.hC (by decide))
 have kY:=h.hY.grown hg (h.hY.apart2 h.hC (by decide))
 have kF:=fun c hc=>(h.hF c hc).grown hg ((h.hF c hc).apart2 h.hC (by decide))
 obtain ⟨l1,l2,l3,l4,l5,l6⟩:=h.lens
 obtain ⟨z1,z2,z3,z4,z5,z6,z8⟩:=h.siz
 refine ⟨⟨?_,?box,?own,?feed,kE.far (p:=⟨bm,4,none⟩) (kE.apart hbx (by decide)) _,kR.far (p:=⟨bm,4,none⟩) (kR.apart hbx (by decide)) _,kS.far (p:=⟨bm,4,none⟩) (kS.apart hbx (by decide)) _,kY.far (p:=⟨bm,4,none⟩) (kY.apart hbx (by decide)) _,?ap,h.hbm,?siz,?lens⟩,?low,?kept,(h.hC.others hg).trans (Go.KeepsOthers.setCell _ _ _)⟩
 · show m.codecs++[x]=(cs++[(x,Value.slice none 0 0)]).map (·.1)
   rw [List.map_append,h.eqC]
   rfl
 case feed =>
  intro c hc
  rcases List.mem_append.1 hc with hc | hc
  · exact (kF c hc).far (p:=⟨bm,4,none⟩) ((kF c hc).apart hbx (by decide)) _
  · simp at hc
    subst hc
    rw [hf]
    exact Own.nil _ _ _ _
 case box=>exact hbx.set 4 v'
 case own =>
  show Own _ _ _ _ _ ((cs++[(x,Value.slice none 0 0)]).map fun c=>ccell c.1 c.2)
  rw [List.map_append]
  exact ho.far (p:=⟨bm,4,none⟩) (ho.apart hbx (by decide)) _
 case ap =>
  show (vR :: (cs++[(x,Value.slice none 0 0)]).map (·.2)).Pairwise _
  rw [List.map_append,←List.cons_append]
  refine List.pairwise_append.2 ⟨h.ap,by simp,fun a ha b hb=> ?_⟩
  simp at hb
  subst hb
  by_cases e:a.ownBlock=none
  · exact .inl e
  · exact .inr e
 case siz =>
  refine ⟨z1,fun c hc=> ?_,fun c hc=> ?_,z4,z5,z6,?_⟩
  · rcases List.mem_append.1 hc with hc | hc
    · exact z2 c hc
    · simp at hc
      subst hc
      exact ⟨hx.1,hx.2,by rw [hf];intro f h;cases h⟩
  · rcases List.mem_append.1 hc with hc | hc
    · exact z3 c hc
    · simp at hc
      subst hc
      rw [hf]
      exact Nat.zero_le _
  · show (m.codecs++[x]).length≤_∧m.exts.length≤_∧m.rids.length≤_∧m.sources.length≤_∧m.crypto.length≤_
    rw [List.length_append,List.length_singleton]
    omega
 case lens =>
  exact ⟨by show (m.codecs++[x]).length≤_;rw [List.length_append,List.length_singleton];omega,by show m.exts.length≤_;omega,by show m.rids.length≤_;omega,by show m.sources.length≤_;omega,by show m.crypto.length≤_;omega,fun c hc=>by
   rcases List.mem_append.1 hc with hc | hc
   · have:=l6 c hc;omega
   · simp at hc
     subst hc
     rw [hf]
     exact Nat.zero_le _⟩
 case low=>exact (Below.refl base w).grown hg hb (fun j hj=>(h.hC.lt hj).1) |>.setCell (p:=⟨bm,4,none⟩) h.hbm _
 case kept =>
  intro g t ds hw h1 h2 h3 h4 h5 h6
  exact (hw.grown hg (fun e=>(h.hC.apart hw (fun e2=>h1 e2.symm)) e.symm)).far (p:=⟨bm,4,none⟩) h6 _
theorem MW.sourcesA {base bm n:Nat} {w w':World} {m:MediaS} {cs:List (CodecS×Value)} {vC vE vR vS vY v':Value} (h:MW base bm n w m cs vC vE vR vS vY) {x:Nat} (ho:Own w' base 72 1 v' ((m.sources.map ucell)++[ucell x])) (hg:w.grownBy w' vS.ownBlock) (hb:base≤w.heap.size) (hx:x<4294967296) (hn:n≤64) :
 MW base bm (n+1) (w'.setCell ⟨bm,8,none⟩ v') {m with sources:=m.sources++[x]} cs vC vE vR v' vY∧Rdt base bm w (w'.setCell ⟨bm,8,none⟩ v'):=by
 have hbx:Whole w' bm 28 (mcell m vC vE vR vS vY):=h.box.grown hg (fun e=>(h.hS.apart h.box (by decide)) e.symm)
 have kC:=h.hC.grown hg (h.hC.apart2 h.hS (by decide))
 have kE:=h.hE.grown hg (h.hE.apart2 h.hS (by decide))
 have kR:=h.hR.grown hg (h.hR.apart2 h.hS (by decide))
 have kY:=h.hY.grown hg (h.hY.apart2 h.hS (by decide))
 have kF:=fun c hc=>(h.hF c hc).grown hg ((h.hF c hc).apart2 h.hS (by decide))
 obtain ⟨l1,l2,l3,l4,l5,l6⟩:=h.lens
 obtain ⟨z1,z2,z3,z4,z5,z6,z8⟩:=h.siz
 refine ⟨⟨h.eqC,?box,kC.far (p:=⟨bm,8,none⟩) (kC.apart hbx (by decide)) _,fun c hc=>(kF c hc).far (p:=⟨bm,8,none⟩) ((kF c hc).apart hbx (by decide)) _,kE.far (p:=⟨bm,8,none⟩) (kE.apart hbx (by decide)) _,kR.far (p:=⟨bm,8,none⟩) (kR.apart hbx (by decide)) _,?own,kY.far (p:=⟨bm,8,none⟩) (kY.apart hbx (by decide)) _,?ap,h.hbm,?siz,?lens⟩,?low,?kept,(h.hS.others hg).trans (Go.KeepsOthers.setCell _ _ _)⟩
 case box=>exact hbx.set 8 v'
 case own =>
  show Own _ _ _ _ _ ((m.sources++[x]).map ucell)
  rw [List.map_append]
  exact ho.far (p:=⟨bm,8,none⟩) (ho.apart hbx (by decide)) _
 case ap =>
  exact h.ap
 case siz =>
  refine ⟨z1,z2,z3,z4,z5,⟨fun y hy=> ?_,z6.2⟩,?_⟩
  · rcases List.mem_append.1 hy with hy | hy
    · exact z6.1 y hy
    · simp at hy
      subst hy
      exact hx
  · show m.codecs.length≤_∧m.exts.length≤_∧m.rids.length≤_∧(m.sources++[x]).length≤_∧m.crypto.length≤_
    rw [List.length_append,List.length_singleton]
    omega
 case lens =>
  exact ⟨by show m.codecs.length≤_;omega,by show m.exts.length≤_;omega,by show m.rids.length≤_;omega,by show (m.sources++[x]).length≤_;rw [List.length_append,List.length_singleton];omega,by show m.crypto.length≤_;omega,fun c hc=>by have:=l6 c hc;omega⟩
 case low=>exact (Below.refl base w).grown hg hb (fun j hj=>(h.hS.lt hj).1) |>.setCell (p:=⟨bm,8,none⟩) h.hbm _
 case kept =>
  intro g t ds hw h1 h2 h3 h4 h5 h6
  exact (hw.grown hg (fun e=>(h.hS.apart hw (fun e2=>h4 e2.symm)) e.symm)).far (p:=⟨bm,8,none⟩) h6 _
theorem MW.cryptoA {base bm n:Nat} {w w':World} {m:MediaS} {cs:List (CodecS×Value)} {vC vE vR vS vY v':Value} (h:MW base bm n w m cs vC vE vR vS vY) {x:CryptoS} (ho:Own w' base 75 31 v' ((m.crypto.map cryC)++[cryC x])) (hg:w.grownBy w' vY.ownBlock) (hb:base≤w.heap.size) (hx:x.key.length=30) (hn:n≤64) :
 MW base bm (n+1) (w'.setCell ⟨bm,9,none⟩ v') {m with crypto:=m.crypto++[x]} cs vC vE vR vS v'∧Rdt base bm w (w'.setCell ⟨bm,9,none⟩ v'):=by
 have hbx:Whole w' bm 28 (mcell m vC vE vR vS vY):=h.box.grown hg (fun e=>(h.hY.apart h.box (by decide)) e.symm)
 have kC:=h.hC.grown hg (h.hC.apart2 h.hY (by decide))
 have kE:=h.hE.grown hg (h.hE.apart2 h.hY (by decide))
 have kR:=h.hR.grown hg (h.hR.apart2 h.hY (by decide))
 have kS:=h.hS.grown hg (h.hS.apart2 h.hY (by decide))
 have kF:=fun c hc=>(h.hF c hc).grown hg ((h.hF c hc).apart2 h.hY (by decide))
 obtain ⟨l1,l2,l3,l4,l5,l6⟩:=h.lens
 obtain ⟨z1,z2,z3,z4,z5,z6,z8⟩:=h.siz
 refine ⟨⟨h.eqC,?box,kC.far (p:=⟨bm,9,none⟩) (kC.apart hbx (by decide)) _,fun c hc=>(kF c hc).far (p:=⟨bm,9,none⟩) ((kF c hc).apart hbx (by decide)) _,kE.far (p:=⟨bm,9,none⟩) (kE.apart hbx (by decide)) _,kR.far (p:=⟨bm,9,none⟩) (kR.apart hbx (by decide)) _,kS.far (p:=⟨bm,9,none⟩) (kS.apart hbx (by decide)) _,?own,?ap,h.hbm,?siz,?lens⟩,?low,?kept,(h.hY.others hg).trans (Go.KeepsOthers.setCell _ _ _)⟩
 case box=>exact hbx.set 9 v'
 case own =>
  show Own _ _ _ _ _ ((m.crypto++[x]).map cryC)
  rw [List.map_append]
  exact ho.far (p:=⟨bm,9,none⟩) (ho.apart hbx (by decide)) _
 case ap =>
  exact h.ap
 case siz =>
  refine ⟨z1,z2,z3,z4,z5,⟨z6.1,fun y hy=> ?_⟩,?_⟩
  · rcases List.mem_append.1 hy with hy | hy
    · exact z6.2 y hy
    · simp at hy
      subst hy
      exact hx
  · show m.codecs.length≤_∧m.exts.length≤_∧m.rids.length≤_∧m.sources.length≤_∧(m.crypto++[x]).length≤_
    rw [List.length_append,List.length_singleton]
    omega
 case lens =>
  exact ⟨by show m.codecs.length≤_;omega,by show m.exts.length≤_;omega,by show m.rids.length≤_;omega,by show m.sources.length≤_;omega,by show (m.crypto++[x]).length≤_;rw [List.length_append,List.length_singleton];omega,fun c hc=>by have:=l6 c hc;omega⟩
 case low=>exact (Below.refl base w).grown hg hb (fun j hj=>(h.hY.lt hj).1) |>.setCell (p:=⟨bm,9,none⟩) h.hbm _
 case kept =>
  intro g t ds hw h1 h2 h3 h4 h5 h6
  exact (hw.grown hg (fun e=>(h.hY.apart hw (fun e2=>h5 e2.symm)) e.symm)).far (p:=⟨bm,9,none⟩) h6 _
theorem MW.ridsA {base bm n:Nat} {w w':World} {m:MediaS} {cs:List (CodecS×Value)} {vC vE vR vS vY v':Value} (h:MW base bm n w m cs vC vE vR vS vY) {x:ByteArray} (ho:Own w' base 9 1 v' ((m.rids.map tcell)++[tcell x])) (hg:w.grownBy w' vR.ownBlock) (hb:base≤w.heap.size) (hx:x.size≤140737488355328) (hn:n≤64) (hn8:v'.ownBlock=vR.ownBlock∨v'.ownBlock=some w.heap.size) :
 MW base bm (n+1) (w'.setCell ⟨bm,6,none⟩ v') {m with rids:=m.rids++[x]} cs vC vE v' vS vY∧Rdt base bm w (w'.setCell ⟨bm,6,none⟩ v'):=by
 have hbx:Whole w' bm 28 (mcell m vC vE vR vS vY):=h.box.grown hg (fun e=>(h.hR.apart h.box (by decide)) e.symm)
 have kC:=h.hC.grown hg (h.hC.apart2 h.hR (by decide))
 have kE:=h.hE.grown hg (h.hE.apart2 h.hR (by decide))
 have kS:=h.hS.grown hg (h.hS.apart2 h.hR (by decide))
 have kY:=h.hY.grown hg (h.hY.apart2 h.hR (by decide))
 have kF:=fun c hc=>(h.hF c hc).grown hg (apart_flip ((List.pairwise_cons.1 h.ap).1 c.2 (List.mem_map_of_mem hc)))
 obtain ⟨l1,l2,l3,l4,l5,l6⟩:=h.lens
 obtain ⟨z1,z2,z3,z4,z5,z6,z8⟩:=h.siz
 refine ⟨⟨h.eqC,?box,kC.far (p:=⟨bm,6,none⟩) (kC.apart hbx (by decide)) _,fun c hc=>(kF c hc).far (p:=⟨bm,6,none⟩) ((kF c hc).apart hbx (by decide)) _,kE.far (p:=⟨bm,6,none⟩) (kE.apart hbx (by decide)) _,?own,kS.far (p:=⟨bm,6,none⟩) (kS.apart hbx (by decide)) _,kY.far (p:=⟨bm,6,none⟩) (kY.apart hbx (by decide)) _,?ap,h.hbm,?siz,?lens⟩,?low,?kept,(h.hR.others hg).trans (Go.KeepsOthers.setCell _ _ _)⟩
 case box=>exact hbx.set 6 v'
 case own =>
  show Own _ _ _ _ _ ((m.rids++[x]).map tcell)
  rw [List.map_append]
  exact ho.far (p:=⟨bm,6,none⟩) (ho.apart hbx (by decide)) _
 case ap =>
  refine List.pairwise_cons.2 ⟨fun b hb=> ?_,(List.pairwise_cons.1 h.ap).2⟩
  rcases hn8 with e | e
  · rw [e]
    exact (List.pairwise_cons.1 h.ap).1 b hb
  · right
    rw [e]
    intro e2
    obtain ⟨c,hc,rfl⟩:=List.mem_map.1 hb
    exact absurd ((h.hF c hc).lt e2.symm).2 (Nat.lt_irrefl _)
 case siz =>
  refine ⟨z1,z2,z3,z4,fun y hy=> ?_,z6,?_⟩
  · rcases List.mem_append.1 hy with hy | hy
    · exact z5 y hy
    · simp at hy
      subst hy
      exact hx
  · show m.codecs.length≤_∧m.exts.length≤_∧(m.rids++[x]).length≤_∧m.sources.length≤_∧m.crypto.length≤_
    rw [List.length_append,List.length_singleton]
    omega
 case lens =>
  exact ⟨by show m.codecs.length≤_;omega,by show m.exts.length≤_;omega,by show (m.rids++[x]).length≤_;rw [List.length_append,List.length_singleton];omega,by show m.sources.length≤_;omega,by show m.crypto.length≤_;omega,fun c hc=>by have:=l6 c hc;omega⟩
 case low=>exact (Below.refl base w).grown hg hb (fun j hj=>(h.hR.lt hj).1) |>.setCell (p:=⟨bm,6,none⟩) h.hbm _
 case kept =>
  intro g t ds hw h1 h2 h3 h4 h5 h6
  exact (hw.grown hg (fun e=>(h.hR.apart hw (fun e2=>h3 e2.symm)) e.symm)).far (p:=⟨bm,6,none⟩) h6 _
theorem wp_sliceOne {a:Act} {o:Oper} {K:Act→World→Prop} {Q:Exit→Act→World→Prop} {t:TypeId} {n i:Nat} {x:Operand} (ho:o.op=.buildSlice t n #[(i,x)]) {u v:Value} {w w':World} (hx:a.eval x=u) (hr:(Instr.buildSlice t n #[(i,u)]).run Tryz.prog w=.ok v w') (h:K (a.put o.dst v) w'):o.wp Tryz.prog a w K Q:=by
 unfold Oper.wp execOp
 simp only [ho,Sem.run_bind,List.map_toArray,List.map_cons,List.map_nil,hx,hr,Result.andThen_ok,Sem.run_pure]
 exact h
theorem fill_cry:∀(k0 k1 k2 k3 k4 k5 k6 k7 k8 k9 k10 k11 k12 k13 k14 k15 k16 k17 k18 k19 k20 k21 k22 k23 k24 k25 k26 k27 k28 k29 z:Int),Instr.fill (fun i=>some (i * 31,31)) ((Array.range (1 * 31)).map ((Value.agg (#[.int .i64 0]++zKey)).cells[· % (Value.agg (#[.int .i64 0]++zKey)).cells.size]!)) [(0,.agg #[.int .i64 z,.int .u8 k0,.int .u8 k1,.int .u8 k2,.int .u8 k3,.int .u8 k4,.int .u8 k5,.int .u8 k6,.int .u8 k7,.int .u8 k8,.int .u8 k9,.int .u8 k10,.int .u8 k11,.int .u8 k12,.int .u8 k13,.int .u8 k14,.int .u8 k15,.int .u8 k16,.int .u8 k17,.int .u8 k18,.int .u8 k19,.int .u8 k20,.int .u8 k21,.int .u8 k22,.int .u8 k23,.int .u8 k24,.int .u8 k25,.int .u8 k26,.int .u8 k27,.int .u8 k28,.int .u8 k29])]=some #[.int .i64 z,.int .u8 k0,.int .u8 k1,.int .u8 k2,.int .u8 k3,.int .u8 k4,.int .u8 k5,.int .u8 k6,.int .u8 k7,.int .u8 k8,.int .u8 k9,.int .u8 k10,.int .u8 k11,.int .u8 k12,.int .u8 k13,.int .u8 k14,.int .u8 k15,.int .u8 k16,.int .u8 k17,.int .u8 k18,.int .u8 k19,.int .u8 k20,.int .u8 k21,.int .u8 k22,.int .u8 k23,.int .u8 k24,.int .u8 k25,.int .u8 k26,.int .u8 k27,.int .u8 k28,.int .u8 k29]:=by intros;kernel_rfl
theorem slice_cry (z:Int) (k:Tx) (h:k.length=30) (w:World):(Instr.buildSlice 26 1 #[(0,.agg (cryC ⟨z,k⟩).toArray)]).run Tryz.prog w=.ok (.slice (some ⟨w.heap.size,0,none⟩) 1 1) (w.alloc (.cells (cryC ⟨z,k⟩).toArray 75)):=by
 obtain ⟨i0,hi,hz0,hz1,hz2⟩:=info_parts Tryz.infoCrypto
 refine run_buildSlice w 26 75 1 _ _ i0 _ Tryz.underlying26 hi hz0 (by rw [hz1];decide) (by rw [hz1];decide) ?_
 rw [hz1]
 match k,h with
 | [k0,k1,k2,k3,k4,k5,k6,k7,k8,k9,k10,k11,k12,k13,k14,k15,k16,k17,k18,k19,k20,k21,k22,k23,k24,k25,k26,k27,k28,k29],_=>exact fill_cry k0.toNat k1.toNat k2.toNat k3.toNat k4.toNat k5.toNat k6.toNat k7.toNat k8.toNat k9.toNat k10.toNat k11.toNat k12.toNat k13.toNat k14.toNat k15.toNat k16.toNat k17.toNat k18.toNat k19.toNat k20.toNat k21.toNat k22.toNat k23.toNat k24.toNat k25.toNat k26.toNat k27.toNat k28.toNat k29.toNat z
section
variable {base bm n:Nat} {w w':World} {m:MediaS} {cs:List (CodecS×Value)} {vC vE vR vS vY:Value}
theorem codecs_snoc {cs0:List (CodecS×Value)} {c:CodecS×Value} (h:MW base bm n w m (cs0++[c]) vC vE vR vS vY) (f:CodecS→CodecS):onLast f m.codecs=cs0.map (·.1)++[f c.1]:=by
 rw [h.eqC,List.map_append]
 exact onLast_snoc f _ c.1
theorem MW.formatL {cs0:List (CodecS×Value)} {c:CodecS×Value} (h:MW base bm n w m (cs0++[c]) vC vE vR vS vY) {g:Nat} (hg:vC.ownBlock=some g) {b:ByteArray} (hb:b.size≤140737488355328) :
 MW base bm n (w.setCell ⟨g,cs0.length * 6+4,none⟩ (.string b)) {m with codecs:=onLast (fun c=>{c with format:=b}) m.codecs} (cs0++[({c.1 with format:=b},c.2)]) vC vE vR vS vY∧Rdt base bm w (w.setCell ⟨g,cs0.length * 6+4,none⟩ (.string b)):=by
 have hl:=codecs_snoc h (fun c=>{c with format:=b})
 have hgl:=h.hC.lt hg
 obtain ⟨l1,l2,l3,l4,l5,l6⟩:=h.lens
 obtain ⟨z1,z2,z3,z4,z5,z6,z8⟩:=h.siz
 have hcm:m.codecs.length=cs0.length+1:=by rw [h.eqC];simp
 have hin:c.1∈m.codecs:=by rw [h.eqC];simp
 have hin0:∀x∈cs0.map (·.1),x∈m.codecs:=fun x hx=>by rw [h.eqC,List.map_append];exact List.mem_append_left _ hx
 have hbg:bm≠g:=fun e=>h.hC.apart h.box (by decide) (by rw [hg,e])
 have far:∀{e:TypeId} {sz:Nat} {v:Value} {rs:List (List Value)},Own w base e sz v rs→e≠31→Own (w.setCell ⟨g,cs0.length * 6+4,none⟩ (.string b)) base e sz v rs:=fun {e sz v rs} ho he =>
  ho.far (p:=⟨g,cs0.length * 6+4,none⟩) (by
   rcases ho.apart2 h.hC he with h1 | h1
   · rw [h1];exact fun e=>by cases e
   · rw [hg] at h1;exact h1) _
 refine ⟨⟨?eq,h.box.far (p:=⟨g,cs0.length * 6+4,none⟩) hbg _,?own,?feed,far h.hE (by decide),far h.hR (by decide),far h.hS (by decide),far h.hY (by decide),?ap,h.hbm,?siz,?lens⟩,?low,?kept,Go.KeepsOthers.setCell _ _ _⟩
 case eq=>show onLast _ m.codecs=_;rw [hl];simp
 case own =>
  have:=h.hC.put hg (i:=cs0.length) (j:=4) (r:=ccell c.1 c.2) (by simp) (by decide) (.string b)
  have e:((cs0++[c]).map fun c=>ccell c.1 c.2).set cs0.length ((ccell c.1 c.2).set 4 (.string b))=(cs0++[(({c.1 with format:=b}:CodecS),c.2)]).map fun c=>ccell c.1 c.2:=by
   rw [List.map_append,List.set_append_right (h:=by simp)]
   simp [ccell]
  rw [e] at this
  exact this
 case feed =>
  intro d hd
  rcases List.mem_append.1 hd with hd | hd
  · exact far (h.hF d (List.mem_append_left _ hd)) (by decide)
  · simp at hd
    subst hd
    exact far (h.hF c (by simp)) (by decide)
 case ap =>
  have:=h.ap
  simp only [List.map_append,List.map_cons,List.map_nil] at this ⊢
  exact this
 case siz =>
  refine ⟨z1,fun d hd=> ?_,fun d hd=> ?_,z4,z5,z6,?_⟩
  · have hd:d∈onLast (fun c=>{c with format:=b}) m.codecs:=hd
    rw [hl] at hd
    rcases List.mem_append.1 hd with hd | hd
    · exact z2 d (hin0 d hd)
    · simp at hd
      subst hd
      exact ⟨(z2 c.1 hin).1,hb,(z2 c.1 hin).2.2⟩
  · have hd:d∈onLast (fun c=>{c with format:=b}) m.codecs:=hd
    rw [hl] at hd
    rcases List.mem_append.1 hd with hd | hd
    · exact z3 d (hin0 d hd)
    · simp at hd
      subst hd
      exact z3 c.1 hin
  · show (onLast (fun c=>{c with format:=b}) m.codecs).length≤_∧_
    rw [hl,List.length_append,List.length_map,List.length_singleton,←hcm]
    exact z8
 case lens =>
  refine ⟨?_,l2,l3,l4,l5,fun d hd=> ?_⟩
  · show (onLast (fun c=>{c with format:=b}) m.codecs).length≤_
    rw [hl,List.length_append,List.length_map,List.length_singleton,←hcm]
    exact l1
  · have hd:d∈onLast (fun c=>{c with format:=b}) m.codecs:=hd
    rw [hl] at hd
    rcases List.mem_append.1 hd with hd | hd
    · exact l6 d (hin0 d hd)
    · simp at hd
      subst hd
      exact l6 c.1 hin
 case low=>exact (Below.refl base w).setCell (p:=⟨g,cs0.length * 6+4,none⟩) hgl.1 _
 case kept =>
  intro k t ds hw h1 h2 h3 h4 h5 h6
  refine hw.far (p:=⟨g,cs0.length * 6+4,none⟩) (fun e=> ?_) _
  have:=h.hC.apart hw (fun e2=>h1 e2.symm)
  exact this (by rw [hg,e])
theorem MW.feedL {cs0:List (CodecS×Value)} {c:CodecS×Value} {v':Value} (h:MW base bm n w m (cs0++[c]) vC vE vR vS vY) {g:Nat} (hg:vC.ownBlock=some g) {b:ByteArray} (ho:Own w' base 9 1 v' (c.1.feedback.map tcell++[tcell b])) (hgr:w.grownBy w' c.2.ownBlock) (hbw:base≤w.heap.size) (hb:b.size≤140737488355328) (hn:n≤64) (hn8:v'.ownBlock=c.2.ownBlock∨v'.ownBlock=some w.heap.size) :
 MW base bm (n+1) (w'.setCell ⟨g,cs0.length * 6+5,none⟩ v') {m with codecs:=onLast (fun c=>{c with feedback:=c.feedback++[b]}) m.codecs} (cs0++[({c.1 with feedback:=c.1.feedback++[b]},v')]) vC vE vR vS vY∧Rdt base bm w (w'.setCell ⟨g,cs0.length * 6+5,none⟩ v'):=by
 have hl:=codecs_snoc h (fun c=>{c with feedback:=c.feedback++[b]})
 have hfc:=h.hF c (by simp)
 obtain ⟨l1,l2,l3,l4,l5,l6⟩:=h.lens
 obtain ⟨z1,z2,z3,z4,z5,z6,z8⟩:=h.siz
 have hcm:m.codecs.length=cs0.length+1:=by rw [h.eqC];simp
 have hin:c.1∈m.codecs:=by rw [h.eqC];simp
 have hin0:∀x∈cs0.map (·.1),x∈m.codecs:=fun x hx=>by rw [h.eqC,List.map_append];exact List.mem_append_left _ hx
 have hpw:(vR :: cs0.map (·.2)).Pairwise (fun a b=>a.ownBlock=none∨a.ownBlock≠b.ownBlock)∧∀a∈vR :: cs0.map (·.2),a.ownBlock=none∨a.ownBlock≠c.2.ownBlock:=by
  have:=h.ap
  simp only [List.map_append,List.map_cons,List.map_nil] at this
  rw [←List.cons_append,List.pairwise_append] at this
  exact ⟨this.1,fun a ha=>this.2.2 a ha c.2 (by simp)⟩
 have hbx:Whole w' bm 28 (mcell m vC vE vR vS vY):=h.box.grown hgr (fun e=>(hfc.apart h.box (by decide)) e.symm)
 have hC:=h.hC.grown hgr (h.hC.apart2 hfc (by decide))
 have hgl:=hC.lt hg
 have hbg:bm≠g:=fun e=>hC.apart hbx (by decide) (by rw [hg,e])
 have far:∀{e:TypeId} {sz:Nat} {v:Value} {rs:List (List Value)},Own w' base e sz v rs→e≠31→Own (w'.setCell ⟨g,cs0.length * 6+5,none⟩ v') base e sz v rs:=fun {e sz v rs} ho he =>
  ho.far (p:=⟨g,cs0.length * 6+5,none⟩) (by
   rcases ho.apart2 hC he with h1 | h1
   · rw [h1];exact fun e=>by cases e
   · rw [hg] at h1;exact h1) _
 refine ⟨⟨?eq,hbx.far (p:=⟨g,cs0.length * 6+5,none⟩) hbg _,?own,?feed,far (h.hE.grown hgr (h.hE.apart2 hfc (by decide))) (by decide),far (h.hR.grown hgr (hpw.2 vR (by simp))) (by decide),far (h.hS.grown hgr (h.hS.apart2 hfc (by decide))) (by decide),far (h.hY.grown hgr (h.hY.apart2 hfc (by decide))) (by decide),?ap,h.hbm,?siz,?lens⟩,?low,?kept,(hfc.others hgr).trans (Go.KeepsOthers.setCell _ _ _)⟩
 case eq=>show onLast _ m.codecs=_;rw [hl];simp
 case own =>
  have:=hC.put hg (i:=cs0.length) (j:=5) (r:=ccell c.1 c.2) (by simp) (by decide) v'
  have e:((cs0++[c]).map fun c=>ccell c.1 c.2).set cs0.length ((ccell c.1 c.2).set 5 v')=(cs0++[(({c.1 with feedback:=c.1.feedback++[b]}:CodecS),v')]).map fun c=>ccell c.1 c.2:=by
   rw [List.map_append,List.set_append_right (h:=by simp)]
   simp [ccell]
  rw [e] at this
  exact this
 case feed =>
  intro d hd
  rcases List.mem_append.1 hd with hd | hd
  · exact far ((h.hF d (List.mem_append_left _ hd)).grown hgr (hpw.2 d.2 (List.mem_cons_of_mem _ (List.mem_map_of_mem hd)))) (by decide)
  · simp at hd
    subst hd
    have e:(c.1.feedback++[b]).map tcell=c.1.feedback.map tcell++[tcell b]:=by simp
    show Own _ _ _ _ v' ((c.1.feedback++[b]).map tcell)
    rw [e]
    exact far ho (by decide)
 case ap =>
  show (vR :: (cs0++[(({c.1 with feedback:=c.1.feedback++[b]}:CodecS),v')]).map (·.2)).Pairwise _
  rw [List.map_append,←List.cons_append]
  refine List.pairwise_append.2 ⟨hpw.1,by simp,fun a ha d hd=> ?_⟩
  simp at hd
  subst hd
  rcases hn8 with e | e
  · rw [e];exact hpw.2 a ha
  · right
    rw [e]
    intro e2
    rcases List.mem_cons.1 ha with rfl | ha
    · exact absurd (h.hR.lt e2).2 (Nat.lt_irrefl _)
    · obtain ⟨x,hx,rfl⟩:=List.mem_map.1 ha
      exact absurd ((h.hF x (List.mem_append_left _ hx)).lt e2).2 (Nat.lt_irrefl _)
 case siz =>
  refine ⟨z1,fun d hd=> ?_,fun d hd=> ?_,z4,z5,z6,?_⟩
  · have hd:d∈onLast (fun c=>{c with feedback:=c.feedback++[b]}) m.codecs:=hd
    rw [hl] at hd
    rcases List.mem_append.1 hd with hd | hd
    · exact z2 d (hin0 d hd)
    · simp at hd
      subst hd
      refine ⟨(z2 c.1 hin).1,(z2 c.1 hin).2.1,fun f hf=> ?_⟩
      rcases List.mem_append.1 hf with hf | hf
      · exact (z2 c.1 hin).2.2 f hf
      · simp at hf
        subst hf
        exact hb
  · have hd:d∈onLast (fun c=>{c with feedback:=c.feedback++[b]}) m.codecs:=hd
    rw [hl] at hd
    rcases List.mem_append.1 hd with hd | hd
    · exact z3 d (hin0 d hd)
    · simp at hd
      subst hd
      show (c.1.feedback++[b]).length≤_
      rw [List.length_append,List.length_singleton]
      have:=l6 c.1 hin
      omega
  · show (onLast (fun c=>{c with feedback:=c.feedback++[b]}) m.codecs).length≤_∧_
    rw [hl,List.length_append,List.length_map,List.length_singleton,←hcm]
    exact z8
 case lens =>
  refine ⟨?_,by show m.exts.length≤_;omega,by show m.rids.length≤_;omega,by show m.sources.length≤_;omega,by show m.crypto.length≤_;omega,fun d hd=> ?_⟩
  · show (onLast (fun c=>{c with feedback:=c.feedback++[b]}) m.codecs).length≤_
    rw [hl,List.length_append,List.length_map,List.length_singleton,←hcm]
    omega
  · have hd:d∈onLast (fun c=>{c with feedback:=c.feedback++[b]}) m.codecs:=hd
    rw [hl] at hd
    rcases List.mem_append.1 hd with hd | hd
    · have:=l6 d (hin0 d hd);omega
    · simp at hd
      subst hd
      show (c.1.feedback++[b]).length≤_
      rw [List.length_append,List.length_singleton]
      have:=l6 c.1 hin
      omega
 case low=>exact ((Below.refl base w).grown hgr hbw (fun j hj=>(hfc.lt hj).1)).setCell (p:=⟨g,cs0.length * 6+5,none⟩) hgl.1 _
 case kept =>
  intro k t ds hw h1 h2 h3 h4 h5 h6
  have hw':Whole w' k t ds:=hw.grown hgr (fun e=>(hfc.apart hw (fun e2=>h3 e2.symm)) e.symm)
  refine hw'.far (p:=⟨g,cs0.length * 6+5,none⟩) (fun e=> ?_) _
  have:=hC.apart hw' (fun e2=>h1 e2.symm)
  exact this (by rw [hg,e])
end
def dirK (l:Tx):Option Int:=if l=nInactive then some 0 else if l=nSendonly then some 1 else if l=nRecvonly then some 2 else if l=nSendrecv then some 3 else none
inductive RdrV (l:Tx) (v:Value) (w:World):Prop
 | mid (h:l=nMid) (hv:v=.func (.func 114) #[] #[])
 | rtpmap (h:l=nCodec) (hv:v=.func (.func 115) #[] #[])
 | fmtp (h:l=nFormat) (hv:v=.func (.func 116) #[] #[])
 | rtcpfb (h:l=nFeedback) (hv:v=.func (.func 117) #[] #[])
 | extmap (h:l=nExt) (hv:v=.func (.func 118) #[] #[])
 | rid (h:l=nRid) (hv:v=.func (.func 119) #[] #[])
 | simulcast (h:l=nSimulcast) (hv:v=.func (.func 120) #[] #[])
 | ssrc (h:l=nSource) (hv:v=.func (.func 121) #[] #[])
 | crypto (h:l=nCrypto) (hv:v=.func (.func 122) #[] #[])
 | sctpport (h:l=nSctp) (hv:v=.func (.func 123) #[] #[])
 | dir (k:Int) (g:Nat) (h:dirK l=some k) (hv:v=.func (.func 124) #[] #[.pointer (some ⟨g,0,none⟩)]) (hg:Whole w g 3 #[.int .i64 k])
 | other (h:knownN.contains l=false) (hv:v=.nilFunc)
theorem RdrV.under {l:Tx} {v:Value} {w w':World} (h:RdrV l v w) (hb:Below w.heap.size w w'):RdrV l v w':=by
 cases h with
 | mid h hv=>exact .mid h hv
 | rtpmap h hv=>exact .rtpmap h hv
 | fmtp h hv=>exact .fmtp h hv
 | rtcpfb h hv=>exact .rtcpfb h hv
 | extmap h hv=>exact .extmap h hv
 | rid h hv=>exact .rid h hv
 | simulcast h hv=>exact .simulcast h hv
 | ssrc h hv=>exact .ssrc h hv
 | crypto h hv=>exact .crypto h hv
 | sctpport h hv=>exact .sctpport h hv
 | dir k g h hv hg=>exact .dir k g h hv (hg.under hb)
 | other h hv=>exact .other h hv
theorem dirK_known {l:Tx} {k:Int} (h:dirK l=some k):knownN.contains l=true:=by
 unfold dirK at h
 split at h
 · next e=>rw [e];decide
 · split at h
   · next e=>rw [e];decide
   · split at h
     · next e=>rw [e];decide
     · split at h
       · next e=>rw [e];decide
       · cases h
theorem RdrV.nil {l:Tx} {v:Value} {w:World} (h:RdrV l v w):(knownN.contains l=false∧v=.nilFunc)∨(knownN.contains l=true∧∃f cap,v=.func f #[] cap):=by
 cases h with
 | mid h hv=>exact .inr ⟨by rw [h];decide,_,_,hv⟩
 | rtpmap h hv=>exact .inr ⟨by rw [h];decide,_,_,hv⟩
 | fmtp h hv=>exact .inr ⟨by rw [h];decide,_,_,hv⟩
 | rtcpfb h hv=>exact .inr ⟨by rw [h];decide,_,_,hv⟩
 | extmap h hv=>exact .inr ⟨by rw [h];decide,_,_,hv⟩
 | rid h hv=>exact .inr ⟨by rw [h];decide,_,_,hv⟩
 | simulcast h hv=>exact .inr ⟨by rw [h];decide,_,_,hv⟩
 | ssrc h hv=>exact .inr ⟨by rw [h];decide,_,_,hv⟩
 | crypto h hv=>exact .inr ⟨by rw [h];decide,_,_,hv⟩
 | sctpport h hv=>exact .inr ⟨by rw [h];decide,_,_,hv⟩
 | dir k g h hv hg=>exact .inr ⟨dirK_known h,_,_,hv⟩
 | other h hv=>exact .inl ⟨h,hv⟩
end Go.Proofs.YtgnpckelbokniaaGreatDoor
