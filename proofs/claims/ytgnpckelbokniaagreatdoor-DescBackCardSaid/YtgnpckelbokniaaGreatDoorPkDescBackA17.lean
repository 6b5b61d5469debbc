import Derived.Test.YtgnpckelbokniaaGreatDoorPkDescBackA10
import Derived.Test.YtgnpckelbokniaaGreatDoorPkDescBackA11
namespace Go.Proofs.YtgnpckelbokniaaGreatDoor
open Go.RowKit
set_option linter.unusedVariables false
set_option linter.unusedSimpArgs false
abbrev TR:Ty3:=⟨79,88,85⟩
theorem TR.ok:TR.Ok:=by unfold Ty3.Ok;decide
structure RK (T:Ty3) (w1:World) (N1:Nat) (l:Tx) (ss:List ByteArray) (rem:Tx) (st:PSt) (i:Nat) (q:Addr) (pp cur vA vP:Value) (us:List Value) (wr:World):Prop where
 pv:PV T N1 N1 st q pp cur vA vP us wr
 below:Below N1 w1 wr
 le:i≤ss.length
 runs:∃rest,rest.length≤8192∧Cuts rest ((ss.drop i).map tx) rem∧∀r,Runs st (i+1) rest r→Runs PSt.init 1 l r
 ok:st.Ok (i+1)
section
variable {T:Ty3} {w w1 W:World} {N N1:Nat} {l:Tx} {ss:List ByteArray} {rem:Tx} {st:PSt} {i:Nat} {q:Addr} {pp cur vA vP:Value} {us:List Value} {wr:World} {a:ByteArray}
theorem RK.line (h:RK T w1 N1 l ss rem st i q pp cur vA vP us wr) (ha:ss[i]? = some a):∃rest b,rest.length≤8192∧cutS crlf rest=(tx a,b,true)∧Cuts b ((ss.drop (i+1)).map tx) rem∧∀r,Runs st (i+1) rest r→Runs PSt.init 1 l r:=by
 obtain ⟨rest,h1,h2,h3⟩:=h.runs
 have hi:i<ss.length:=(List.getElem?_eq_some_iff.1 ha).1
 have ha':ss[i]=a:=(List.getElem?_eq_some_iff.1 ha).2
 rw [List.drop_eq_getElem_cons hi,ha',List.map_cons] at h2
 cases h2 with
 | cons hc hr=>exact ⟨rest,_,h1,hc,hr,h3⟩
theorem RK.size (h:RK T w1 N1 l ss rem st i q pp cur vA vP us wr) (ha:ss[i]? = some a):a.size≤8192:=by
 obtain ⟨rest,b,h1,h2,_⟩:=h.line ha
 have:=(cutS_len crlf rest).1
 rw [h2,tx_length] at this
 omega
theorem RK.bad (h:RK T w1 N1 l ss rem st i q pp cur vA vP us wr) (hl:l.length≤8192) (ha:ss[i]? = some a) {er:Int} (he:er=2∨er=3) (hs:stepP st (i+1) (tx a)=.bad er) (hN:w.heap.size=N) (hb:Below N w W) :
 ParseO w l (.returned (.tuple #[.agg zSes,.int .i64 ((i:Int)+1),.int .i64 er])) W:=by
 subst hN
 obtain ⟨rest,b,h1,h2,h3,h4⟩:=h.line ha
 exact ⟨zSes,SesS.none,_,_,i+1,er,rfl,zSes_v _ _,.inr ⟨he,rfl,.inr ⟨hl,h4 _ (.bad h2 hs)⟩⟩,hb⟩
theorem RK.next (h:RK T w1 N1 l ss rem st i q pp cur vA vP us wr) (ha:ss[i]? = some a) {st':PSt} (hs:stepP st (i+1) (tx a)=.go st') {q':Addr} {pp' cur' vA' vP':Value} {us':List Value} {w5:World} (hp:PV T N1 N1 st' q' pp' cur' vA' vP' us' w5) (hb:Below N1 w1 w5) :
 RK T w1 N1 l ss rem st' (i+1) q' pp' cur' vA' vP' us' w5:=by
 obtain ⟨rest,b,h1,h2,h3,h4⟩:=h.line ha
 have hi:i<ss.length:=(List.getElem?_eq_some_iff.1 ha).1
 refine ⟨hp,hb,hi,⟨b,?_,h3,fun r hr=>h4 r (.step h2 hs hr)⟩,(stepP_ok (by omega) h.ok hs).1⟩
 have:=(cutS_len crlf rest).2
 rw [h2] at this
 simp only at this
 omega
theorem RK.head (h:RK T w1 N1 l ss rem st i q pp cur vA vP us wr) (hT:T.Ok) (ha:ss[i]? = some a) {o n t:ByteArray} (hs:stepP st (i+1) (tx a)=.go {st with o:=o,n:=n,t:=t}) {w5:World} (hw:Whole w5 N1 T.s #[.string o,.string n,.string t,vA,vP]) (ho:Only (·=N1) wr w5) (hN:w1.heap.size=N1) :
 RK T w1 N1 l ss rem {st with o:=o,n:=n,t:=t} (i+1) q pp cur vA vP us w5 :=
 h.next ha hs (h.pv.head hT hw ho) (h.below.trans (ho.below (fun j e=>by omega) (by have:=h.below.size;omega)))
end
section
variable {T:Ty3} {w w1 W:World} {N N1:Nat} {l:Tx} {ss:List ByteArray} {rem:Tx} {st:PSt} {i:Nat} {q:Addr} {pp cur vA vP:Value} {us:List Value} {wr:World}
theorem RK.rest (h:RK T w1 N1 l ss rem st i q pp cur vA vP us wr) (hi:i=ss.length):(cutS crlf rem).2.2=false∧∀r,Runs st (i+1) rem r→Runs PSt.init 1 l r:=by
 obtain ⟨rest,h1,h2,h3⟩:=h.runs
 rw [hi,List.drop_length] at h2
 cases h2 with
 | nil hc=>exact ⟨hc,h3⟩
theorem RK.torn (h:RK T w1 N1 l ss rem st i q pp cur vA vP us wr) (hi:i=ss.length) (hl:l.length≤8192) (hr:rem≠[]∨i<4) (hN:w.heap.size=N) (hb:Below N w W) :
 ParseO w l (.returned (.tuple #[.agg zSes,.int .i64 ((i:Int)+1),.int .i64 2])) W:=by
 subst hN
 obtain ⟨h1,h2⟩:=h.rest hi
 refine ⟨zSes,SesS.none,_,_,i+1,2,rfl,zSes_v _ _,.inr ⟨.inl rfl,rfl,.inr ⟨hl,h2 _ (.torn (fun e=> ?_) h1)⟩⟩,hb⟩
 rcases hr with hr | hr
 · exact hr e.2
 · omega
theorem RK.all (h:RK T w1 N1 l ss rem st i q pp cur vA vP us wr) (hT:T.Ok) (hi:i=ss.length) (hl:l.length≤8192) (hr:rem=[]) (h4:4≤i) {zs:Array Value} (hN:w.heap.size=N) (hres:Whole wr N T.s zs) (hne:N1≠N) (hb:Below N w wr) :
 ParseO w l (.returned (.tuple #[.agg #[.string st.o,.string st.n,.string st.t,vA,vP],.int .i64 0,.int .i64 0])) (wr.setRow N #[.string st.o,.string st.n,.string st.t,vA,vP]):=by
 subst hN
 obtain ⟨h1,h2⟩:=h.rest hi
 have hp:=h.pv.res hT hres hne #[.string st.o,.string st.n,.string st.t,vA,vP]
 refine ⟨_,st.ses,vA,vP,0,0,rfl,hp.sesV (Nat.le_refl _),.inl ⟨rfl,rfl,.inr ⟨hl,h2 _ ?_⟩⟩,below_row hb (Nat.le_refl _) _⟩
 rw [hr]
 exact .done (by omega)
end
end Go.Proofs.YtgnpckelbokniaaGreatDoor
