import Derived.Test.YtgnpckelbokniaaGreatDoorPkAttrKeepsA03
import Derived.Test.YtgnpckelbokniaaGreatDoorPkAttrKeepsA05
import Derived.Test.YtgnpckelbokniaaGreatDoorPkAttrKeepsA06
import Derived.Test.YtgnpckelbokniaaGreatDoorPkAttrKeepsA02
import Derived.Test.YtgnpckelbokniaaGreatDoorPkAttrKeepsA00
import Derived.Test.YtgnpckelbokniaaGreatDoorPkAttrKeepsA01
namespace Go.Proofs.YtgnpckelbokniaaGreatDoor
open Go.RowKit Go.Shelf
set_option linter.unusedVariables false
set_option linter.unusedSimpArgs false
def Cells (w w':World):Prop:=∀(g:Nat) (t:TypeId) (cs:Array Value),Whole w g t cs→Whole w' g t cs
theorem cells_other {W W':World} {row:Option Nat} (hg:W.grownBy W' row) (hr:∀r,row=some r→∃o:Obj,W.heap[r]? = some o∧o.isCells=false):Cells W W':=fun g t cs h=>h.grown hg (fun e=>by
 obtain ⟨o,ho,hc⟩:=hr g e.symm
 have h':W.heap[g]? = some (Obj.cells cs t (0,0)):=h
 rw [h'] at ho
 cases ho
 cases hc)
section
variable {base bm n:Nat} {w w':World} {m:MediaS} {cs:List (CodecS×Value)} {vC vE vR vS vY:Value}
theorem Own.cells {e:TypeId} {sz:Nat} {v:Value} {rs:List (List Value)} (h:Own w base e sz v rs) (hk:Cells w w'):Own w' base e sz v rs:=h.keep fun g cs _ hw=>hk g e cs hw
theorem MW.cells (h:MW base bm n w m cs vC vE vR vS vY) (hk:Cells w w'):MW base bm n w' m cs vC vE vR vS vY :=
 ⟨h.eqC,hk _ _ _ h.box,h.hC.cells hk,fun c hc=>(h.hF c hc).cells hk,h.hE.cells hk,h.hR.cells hk,h.hS.cells hk,h.hY.cells hk,h.ap,h.hbm,h.siz,h.lens⟩
theorem MW.wider {n':Nat} (h:MW base bm n w m cs vC vE vR vS vY) (hn:n≤n'):MW base bm n' w m cs vC vE vR vS vY :=
 ⟨h.eqC,h.box,h.hC,h.hF,h.hE,h.hR,h.hS,h.hY,h.ap,h.hbm,h.siz,by obtain ⟨l1,l2,l3,l4,l5,l6⟩:=h.lens;exact ⟨by omega,by omega,by omega,by omega,by omega,fun c hc=>by have:=l6 c hc;omega⟩⟩
end
theorem RdrV.cells {l:Tx} {v:Value} {w w':World} (h:RdrV l v w) (hk:∀g cs,Whole w g 3 cs→Whole w' g 3 cs):RdrV l v w':=by
 cases h with
 | mid h hv=>exact .mid h hv
 | rtpmap h hv=>exact .rtpmap h hv
 | fmtp h hv=>exact .fmtp h hv
 | rtcpfb h hv=>exact .rtcpfb h hv
 | extmap h hv=>exact .extmap h hv
 | rid h hv=>exact .rid h hv
 | simulcast h hv=>exact .simulcast h hv
 | ssrc h hv=>exact .ssrc h hv
 | crypto h hv=>exact .crypto h hv
 | sctpport h hv=>exact .sctpport h hv
 | dir k g h hv hg=>exact .dir k g h hv (hk _ _ hg)
 | other h hv=>exact .other h hv
abbrev zeroM:Array Value:=#[.int .i64 0,.int .i64 0,.string ⟨#[]⟩,.int .i64 0,.slice none 0 0,.slice none 0 0,.slice none 0 0,.bool false,.slice none 0 0,.slice none 0 0,.int .i64 0]
structure RI (w0:World) (P:Array Value) (m0:MediaS) (L:List AttrS) (W:World):Prop where
 low:Below w0.heap.size w0 W
 part:Whole W w0.heap.size 34 P
 res:Whole W (w0.heap.size+1) 28 zeroM
 err:Whole W (w0.heap.size+2) 35 #[.int .i64 0]
 med:∃cs vC vE vR vS vY,MW w0.heap.size (w0.heap.size+3) L.length W (L.foldl (rd rP) m0) cs vC vE vR vS vY
 att:∃va,Whole W (w0.heap.size+4) 32 #[va]∧Own W w0.heap.size 65 2 va (L.map acell)
 few:L.length≤64
theorem RI.cells {w0 W W':World} {P:Array Value} {m0:MediaS} {L:List AttrS} (h:RI w0 P m0 L W) (hk:Cells W W') (hb:Below w0.heap.size W W'):RI w0 P m0 L W':=by
 obtain ⟨cs,vC,vE,vR,vS,vY,hm⟩:=h.med
 obtain ⟨va,h1,h2⟩:=h.att
 exact ⟨h.low.trans hb,hk _ _ _ h.part,hk _ _ _ h.res,hk _ _ _ h.err,⟨cs,vC,vE,vR,vS,vY,hm.cells hk⟩,⟨va,hk _ _ _ h1,h2.cells hk⟩,h.few⟩
theorem RI.grown {w0 W W':World} {P:Array Value} {m0:MediaS} {L:List AttrS} {K:Nat} (h:RI w0 P m0 L W) (hK:w0.heap.size≤K) {row:Option Nat} (hg:W.grownBy W' row) (hr:∀r,row=some r→K≤r∧∃o:Obj,W.heap[r]? = some o∧o.isCells=false):RI w0 P m0 L W' :=
 h.cells (cells_other hg fun r e=>(hr r e).2) ((Below.refl _ W).grown hg h.low.size (fun r e=>Nat.le_trans hK (hr r e).1))
theorem cells_under {W W':World} (hb:Below W.heap.size W W'):Cells W W':=fun g t cs h=>h.under hb
theorem RI.under {w0 W W':World} {P:Array Value} {m0:MediaS} {L:List AttrS} (h:RI w0 P m0 L W) (hb:Below W.heap.size W W'):RI w0 P m0 L W':=h.cells (cells_under hb) (hb.mono h.low.size)
theorem RI.laid {w0 W W':World} {P:Array Value} {m0:MediaS} {L:List AttrS} {va v':Value} {a:AttrS} (h:RI w0 P m0 L W) (h1:Whole W (w0.heap.size+4) 32 #[va]) (h2:Own W w0.heap.size 65 2 va (L.map acell))
 (ho:Own W' w0.heap.size 65 2 v' (L.map acell++[acell a])) (hg:W.grownBy W' va.ownBlock) :
 Below w0.heap.size w0 (W'.setCell ⟨w0.heap.size+4,0,none⟩ v')∧Whole (W'.setCell ⟨w0.heap.size+4,0,none⟩ v') w0.heap.size 34 P∧Whole (W'.setCell ⟨w0.heap.size+4,0,none⟩ v') (w0.heap.size+1) 28 zeroM∧Whole (W'.setCell ⟨w0.heap.size+4,0,none⟩ v') (w0.heap.size+2) 35 #[.int .i64 0] ∧
 (∃cs vC vE vR vS vY,MW w0.heap.size (w0.heap.size+3) L.length (W'.setCell ⟨w0.heap.size+4,0,none⟩ v') (L.foldl (rd rP) m0) cs vC vE vR vS vY)∧Whole (W'.setCell ⟨w0.heap.size+4,0,none⟩ v') (w0.heap.size+4) 32 #[v']∧Own (W'.setCell ⟨w0.heap.size+4,0,none⟩ v') w0.heap.size 65 2 v' ((L++[a]).map acell) ∧
 (∀g t cs,t≠65→g≠w0.heap.size+4→Whole W g t cs→Whole (W'.setCell ⟨w0.heap.size+4,0,none⟩ v') g t cs)∧Go.KeepsOthers W (W'.setCell ⟨w0.heap.size+4,0,none⟩ v'):=by
 have hk:∀g t cs,t≠65→g≠w0.heap.size+4→Whole W g t cs→Whole (W'.setCell ⟨w0.heap.size+4,0,none⟩ v') g t cs:=fun g t cs ht hne hw =>
  (hw.grown hg (fun e=>(h2.apart hw (fun e2=>ht e2.symm)) e.symm)).far (p:=⟨w0.heap.size+4,0,none⟩) hne _
 have hb4:Whole W' (w0.heap.size+4) 32 #[va]:=h1.grown hg (fun e=>(h2.apart h1 (by decide)) e.symm)
 obtain ⟨cs,vC,vE,vR,vS,vY,hm⟩:=h.med
 have own:∀{e:TypeId} {sz:Nat} {v:Value} {rs:List (List Value)},Own W w0.heap.size e sz v rs→e≠65→e≠32→Own (W'.setCell ⟨w0.heap.size+4,0,none⟩ v') w0.heap.size e sz v rs:=fun {e sz v rs} ho he he2 =>
  ho.keep fun g cs hg' hw=>hk g e cs he (fun e3=>ho.apart h1 he2 (by rw [hg',e3])) hw
 refine ⟨?_,hk _ _ _ (by decide) (by omega) h.part,hk _ _ _ (by decide) (by omega) h.res,hk _ _ _ (by decide) (by omega) h.err,⟨cs,vC,vE,vR,vS,vY,?_⟩,?_,?_,hk,(h2.others hg).trans (Go.KeepsOthers.setCell _ _ _)⟩
 · exact (h.low.grown hg h.low.size (fun j hj=>(h2.lt hj).1)).setCell (p:=⟨w0.heap.size+4,0,none⟩) (by show w0.heap.size≤w0.heap.size+4;omega) _
 · exact ⟨hm.eqC,hk _ _ _ (by decide) (by omega) hm.box,own hm.hC (by decide) (by decide),fun c hc=>own (hm.hF c hc) (by decide) (by decide),own hm.hE (by decide) (by decide),own hm.hR (by decide) (by decide),own hm.hS (by decide) (by decide),own hm.hY (by decide) (by decide),hm.ap,hm.hbm,hm.siz,hm.lens⟩
 · exact hb4.set 0 v'
 · rw [List.map_append]
   exact ho.far (p:=⟨w0.heap.size+4,0,none⟩) (ho.apart hb4 (by decide)) _
theorem RI.read {w0 W W':World} {P:Array Value} {m0:MediaS} {L:List AttrS} {v':Value} {a:AttrS} {m':MediaS} (h0:Below w0.heap.size w0 W) (h1:Whole W w0.heap.size 34 P) (h2:Whole W (w0.heap.size+1) 28 zeroM) (h3:Whole W (w0.heap.size+2) 35 #[.int .i64 0]) (h4:Whole W (w0.heap.size+4) 32 #[v'])
 (h5:Own W w0.heap.size 65 2 v' ((L++[a]).map acell)) (hl:L.length<64) (hm:m'=rd rP (L.foldl (rd rP) m0) a) {X:Array Value} (hbx:Whole W (w0.heap.size+3) 28 X) {e:Ending} {n:Nat} (hn:n≤L.length+1) (hr:RdO w0.heap.size (w0.heap.size+3) n W m' e W'):e=.returned (.tuple #[])∧RI w0 P m0 (L++[a]) W'∧Go.KeepsOthers W W'∧Below w0.heap.size W W':=by
 obtain ⟨rfl,⟨cs,vC,vE,vR,vS,vY,hM⟩,hR⟩:=hr
 refine ⟨rfl,⟨h0.trans hR.low,?_,?_,?_,⟨cs,vC,vE,vR,vS,vY,?_⟩,⟨v',?_,?_⟩,?_⟩,hR.rest,hR.low⟩
 · exact hR.kept _ _ _ h1 (by decide) (by decide) (by decide) (by decide) (by decide) (by omega)
 · exact hR.kept _ _ _ h2 (by decide) (by decide) (by decide) (by decide) (by decide) (by omega)
 · exact hR.kept _ _ _ h3 (by decide) (by decide) (by decide) (by decide) (by decide) (by omega)
 · rw [List.foldl_append,List.length_append]
   show MW _ _ _ _ (rd rP (L.foldl (rd rP) m0) a) _ _ _ _ _ _
   rw [←hm]
   exact hM.wider hn
 · exact hR.kept _ _ _ h4 (by decide) (by decide) (by decide) (by decide) (by decide) (by omega)
 · exact h5.keep fun g cs hg hw=>hR.kept _ _ _ hw (by decide) (by decide) (by decide) (by decide) (by decide) (fun e=>h5.apart hbx (by decide) (by rw [hg,e]))
 · rw [List.length_append,List.length_singleton]
   omega
end Go.Proofs.YtgnpckelbokniaaGreatDoor
namespace Go.Proofs.YtgnpckelbokniaaGreatDoor
open Go.RowKit
set_option linter.unusedVariables false
set_option linter.unusedSimpArgs false
end Go.Proofs.YtgnpckelbokniaaGreatDoor
namespace Go.Proofs.YtgnpckelbokniaaGreatDoor
open Go.RowKit Go.Shelf
set_option linter.unusedVariables false
set_option linter.unusedSimpArgs false
def puts (W:World) (g:Nat):List Value→Nat→World
 | [],_=>W
 | u :: r,i=>puts (W.setCell ⟨g,i,none⟩ u) g r (i+1)
def putsA (cs:Array Value):List Value→Nat→Array Value
 | [],_=>cs
 | u :: r,i=>putsA (cs.setIfInBounds i u) r (i+1)
theorem puts_below {B g:Nat} (hB:B≤g):∀(L:List Value) (i:Nat) (W:World),Below B W (puts W g L i)
 | [],_,W=>Below.refl B W
 | u :: r,i,W=>((Below.refl B W).setCell (p:=⟨g,i,none⟩) hB u).trans (puts_below hB r (i+1) _)
theorem puts_far {g k:Nat} {t:TypeId} {cs:Array Value} (hk:k≠g):∀(L:List Value) (i:Nat) (W:World),Whole W k t cs→Whole (puts W g L i) k t cs
 | [],_,W,h=>h
 | u :: r,i,W,h=>puts_far hk r (i+1) _ (h.far (p:=⟨g,i,none⟩) hk u)
theorem puts_same {g:Nat} {t:TypeId}:∀(L:List Value) (i:Nat) (W:World) (cs:Array Value),Whole W g t cs→Whole (puts W g L i) g t (putsA cs L i)
 | [],_,W,cs,h=>h
 | u :: r,i,W,cs,h=>puts_same r (i+1) _ _ (h.set i u)
end Go.Proofs.YtgnpckelbokniaaGreatDoor
namespace Go.Proofs.YtgnpckelbokniaaGreatDoor
open Go.RowKit
set_option linter.unusedVariables false
set_option linter.unusedSimpArgs false
def partW (m:MediaS):PartS:=if mayM m=true then partM m else ⟨bs [],bs [],[]⟩
def errW (m:MediaS):Int:=if mayM m=true then 0 else 1
theorem WriteO.part {E:TypeId} {w w':World} {m:MediaS} {e:Ending} (h:WriteO E w m e w'):∃v,e=.returned (.tuple #[.agg #[.string (partW m).line,.string (partW m).conn,v],.int .i64 (errW m)])∧Own w' w.heap.size E 2 v ((partW m).attrs.map acell)∧Below w.heap.size w w':=by
 obtain ⟨P,rfl,hb,hy,hn⟩:=h
 unfold partW errW
 by_cases hm:mayM m=true
 · obtain ⟨v,rfl,ho⟩:=hy hm
   rw [if_pos hm,if_pos hm]
   exact ⟨v,rfl,ho,hb⟩
 · have hm':mayM m=false:=by simpa using hm
   obtain rfl:=hn hm'
   rw [if_neg hm,if_neg hm]
   exact ⟨.slice none 0 0,rfl,Own.nil _ _ _ _,hb⟩
theorem WriteO.reads {E:TypeId} {w w':World} {m:MediaS} {e:Ending} (h:WriteO E w m e w'):∃A c,e=.returned (.tuple #[.agg #[.string (partW m).line,.string (partW m).conn,.slice A (partW m).attrs.length c],.int .i64 (errW m)])∧AttrsV w' w'.heap.size (.slice A (partW m).attrs.length c) (partW m).attrs∧Below w.heap.size w w':=by
 obtain ⟨v,rfl,ho,hb⟩:=h.part
 obtain ⟨A,c,hv,-⟩:=Own.form ho
 rw [List.length_map] at hv
 subst hv
 exact ⟨A,c,rfl,ho.reads (Nat.le_refl _),hb⟩
end Go.Proofs.YtgnpckelbokniaaGreatDoor
