import Derived.Test.YtgnpckelbokniaaGreatDoorPkDescBackA13
import Derived.Test.YtgnpckelbokniaaGreatDoorPkDescBackA01
namespace Go.Proofs.YtgnpckelbokniaaGreatDoor
open Go.RowKit
set_option linter.unusedVariables false
set_option linter.unusedSimpArgs false
theorem sameBool {α:Type} (x y:α):∃b:Bool,b=true↔x=y:=by classical exact ⟨decide (x=y),by simp⟩
theorem SameB.fix {α:Type} {w w':World} {x y:α} {e:Ending} {b0:Bool} (h0:b0=true↔x=y) (h:SameB w x y e w'):e=.returned (.bool b0)∧Below w.heap.size w w':=by
 obtain ⟨b,rfl,hb,hw⟩:=h
 have:b=b0:=by rw [Bool.eq_iff_iff,hb,h0]
 exact ⟨by rw [this],hw⟩
theorem MediaS.ext' {a b:MediaS} (h1:a.kind=b.kind) (h2:a.port=b.port) (h3:a.mid=b.mid) (h4:a.dir=b.dir) (h5:a.codecs=b.codecs) (h6:a.exts=b.exts) (h7:a.rids=b.rids) (h8:a.sending=b.sending) (h9:a.sources=b.sources) (h10:a.crypto=b.crypto) (h11:a.sctp=b.sctp):a=b:=by
 cases a;cases b;simp_all
theorem CodecS.ext' {a b:CodecS} (h1:a.type=b.type) (h2:a.name=b.name) (h3:a.clock=b.clock) (h4:a.chans=b.chans) (h5:a.format=b.format) (h6:a.feedback=b.feedback):a=b:=by
 cases a;cases b;simp_all
structure CodecV (w:World) (B:Nat) (C:Array Value) (c:CodecS) (vf:Value):Prop where
 form:C=#[.int .i64 c.type,.string c.name,.int .i64 c.clock,.int .i64 c.chans,.string c.format,vf]
 feeds:TextsV w B vf c.feedback
theorem CodecV.below {w w':World} {B:Nat} {C:Array Value} {c:CodecS} {vf:Value} (h:CodecV w B C c vf) (hb:Below B w w'):CodecV w' B C c vf:=⟨h.form,h.feeds.below hb⟩
theorem CodecV.more {w:World} {B B':Nat} {C:Array Value} {c:CodecS} {vf:Value} (h:CodecV w B C c vf) (hB:B≤B'):CodecV w B' C c vf:=⟨h.form,h.feeds.more hB⟩
theorem CodecV.under {w w':World} {C:Array Value} {c:CodecS} {vf:Value} (h:CodecV w w.heap.size C c vf) (hb:Below w.heap.size w w'):CodecV w' w'.heap.size C c vf:=(h.below hb).more hb.size
theorem CodecV.size {w:World} {B:Nat} {C:Array Value} {c:CodecS} {vf:Value} (h:CodecV w B C c vf):C.size=6:=by rw [h.form];rfl
theorem CodecV.one {w:World} {B:Nat} {C:Array Value} {c:CodecS} {vf:Value} (h:CodecV w B C c vf):C.toList.all (·.oneCell')=true:=by
 obtain ⟨A1,c1,rfl,-⟩:=Rows.form h.feeds
 rw [h.form]
 rfl
theorem CodecsV.cells {w:World} {B:Nat} {v:Value} {L:List CodecS} (h:CodecsV w B v L) {i:Nat} (hi:i<L.length):∃ad c C vf,v=.slice (some ad) L.length c∧ad.block<B∧CodecV w B C (L.getD i default) vf ∧
 ∀j u,C.toList[j]? = some u→w.cell? ((ad.add (i * 6)).add j)=some u:=by
 obtain ⟨ad,c,h1,h2,_,_,q0,q1,q2,q3,q4,vf,q5,q6⟩:=Rows.at_ h (List.getElem?_eq_getElem hi)
 have e:L.getD i default=L[i]:=by simp [List.getD,hi]
 rw [e]
 refine ⟨ad,c,_,vf,h1,h2,⟨rfl,q6⟩,fun j u hu=> ?_⟩
 rw [Go.Deep.add_add]
 match j,hu with
 | 0,hu=>simp at hu;subst hu;exact q0
 | 1,hu=>simp at hu;subst hu;exact q1
 | 2,hu=>simp at hu;subst hu;exact q2
 | 3,hu=>simp at hu;subst hu;exact q3
 | 4,hu=>simp at hu;subst hu;exact q4
 | 5,hu=>simp at hu;subst hu;exact q5
 | j+6,hu=>simp at hu
theorem two_boxes (w:World) (t:TypeId) (X Y:Array Value):Below w.heap.size w ((w.alloc (.cells X t)).alloc (.cells Y t))∧Whole ((w.alloc (.cells X t)).alloc (.cells Y t)) w.heap.size t X∧Whole ((w.alloc (.cells X t)).alloc (.cells Y t)) (w.heap.size+1) t Y :=
 ⟨two_new _ _ _ _,(Whole.new w _ _).alloc _,Whole.new2 _ _ _ _⟩
end Go.Proofs.YtgnpckelbokniaaGreatDoor
