import Derived.Test.YtgnpckelbokniaaGreatDoorPkDescBackA01
import Derived.RangeFuncNested
import Derived.RangeFuncBound
import Derived.RangeFuncCalls
import Derived.RangeFuncLeaves
import Derived.Shelf.Abstract
import Derived.OwnWalkIn
import Derived.TacticsInMore
import Derived.LoopNIn
import Derived.LoopIn
import Derived.Deep.DeepMust
import Derived.Test.YtgnpckelbokniaaGreatDoorPkDescBackA04
import Derived.Test.YtgnpckelbokniaaGreatDoorPkDescBackA03
namespace Go.Proofs.YtgnpckelbokniaaGreatDoor
open Go.RowKit Go.Shelf
set_option linter.unusedVariables false
set_option linter.unusedSimpArgs false
structure Books (K:Nat) (r:Loop) (W:World):Prop where
 loop:W.heap[K+1]? = some (.loop r)
 late:W.heap[K]? = some (.deferred (some []))
theorem Books.keeps {K:Nat} {r:Loop} {W W':World} (h:Books K r W) (k:KeepsFrom K W W'):Books K r W':=⟨k.same _ _ (by omega) h.loop rfl,k.same _ _ (Nat.le_refl _) h.late rfl⟩
theorem Books.under {K:Nat} {r:Loop} {W W':World} (h:Books K r W) (k:Below W.heap.size W W'):Books K r W':=h.keeps ((others_under k).from K)
theorem take_known {L:List AttrS} {j:Nat} {a:AttrS} (h:L[j]? = some a):(L.take (j+1)).filter known=(L.take j).filter known++(if known a then [a] else []):=by
 rw [List.take_add_one,h,List.filter_append]
 congr 1
 simp only [Option.toList_some,List.filter_cons,List.filter_nil]
attribute [local go_sem] Oper.semAt_some
end Go.Proofs.YtgnpckelbokniaaGreatDoor
namespace Go.Proofs.YtgnpckelbokniaaGreatDoor
open Go.RowKit
set_option linter.unusedVariables false
set_option linter.unusedSimpArgs false
def AtR (w:World) (base:Nat) (v:Value) (L:List AttrS):Prop:=Own w base 85 2 v (L.map acell)
theorem AtR.under {w w':World} {base:Nat} {v:Value} {L:List AttrS} (h:AtR w base v L) (hb:Below w.heap.size w w'):AtR w' base v L:=Own.under h hb
theorem AtR.base {w:World} {base:Nat} {v:Value} {L:List AttrS} (h:AtR w base v L):∀k,v.ownBlock=some k→base≤k:=fun k hk=>(Own.lt h hk).1
theorem AtR.form {w:World} {base:Nat} {v:Value} {L:List AttrS} (h:AtR w base v L):∃A n c,v=.slice A n c:=by
 obtain ⟨A,c,e,-⟩:=Own.form h
 exact ⟨A,_,c,e⟩
section
variable {ops:Array Oper} {rest:List Oper} {o:Oper} {a:Act} {Q:Exit→Act→World→Prop} {K:Act→World→Prop} {w:World} {base:Nat} {v:Value} {L:List AttrS} {n val:ByteArray} {c:Nat}
end
theorem AtR.two {w:World} {base:Nat} (hb:base≤w.heap.size) (a b c d:ByteArray):AtR (w.alloc (.cells #[.string a,.string b,.string c,.string d] 85)) base (.slice (some ⟨w.heap.size,0,none⟩) 2 2) [⟨a,b⟩,⟨c,d⟩] :=
 ⟨World.ownsRow_lit w _ 2 hb (by decide) rfl,fun r hr=>by simp [acell] at hr;rcases hr with rfl | rfl <;> rfl⟩
abbrev zPart:Array Value:=#[.string ⟨#[]⟩,.string ⟨#[]⟩,.slice none 0 0]
abbrev connB:ByteArray:=⟨#[73,78,32,73,80,52,32,48,46,48,46,48,46,48]⟩
structure WB (w0:World) (M:Array Value) (pb:Nat) (ln:ByteArray) (w:World):Prop where
 low:Below w0.heap.size w0 w
 box:Whole w w0.heap.size 28 M
 res:Whole w (w0.heap.size+1) 88 zPart
 prt:Whole w pb 88 #[.string ln,.string connB,.slice none 0 0]
 hpb:w0.heap.size≤pb
 hne:w0.heap.size+1≠pb
section
variable {w0 w w':World} {M:Array Value} {pb:Nat} {ln:ByteArray}
theorem WB.under (h:WB w0 M pb ln w) (hb:Below w.heap.size w w'):WB w0 M pb ln w':=⟨h.low.trans (hb.mono h.low.size),h.box.under hb,h.res.under hb,h.prt.under hb,h.hpb,h.hne⟩
theorem WB.drew (h:WB w0 M pb ln w):WB w0 M pb ln w.drew:=⟨h.low.drew,h.box,h.res,h.prt,h.hpb,h.hne⟩
theorem WB.alloc (h:WB w0 M pb ln w) (o:Obj):WB w0 M pb ln (w.alloc o):=h.under ((Below.refl _ w).alloc (Nat.le_refl _) o)
theorem WB.add {v v':Value} {L:List AttrS} (h:WB w0 M pb ln w) (ho:AtR w w0.heap.size v L) (hg:Grew w v w' v'):WB w0 M pb ln w' :=
 ⟨h.low.trans (hg.below ho.base h.low.size),hg.whole h.box (Own.apart ho h.box (by decide)),hg.whole h.res (Own.apart ho h.res (by decide)),hg.whole h.prt (Own.apart ho h.prt (by decide)),h.hpb,h.hne⟩
theorem WB.line (h:WB w0 M pb ln w) (s:ByteArray):WB w0 M pb s (w.setCell ⟨pb,0,none⟩ (.string s)) :=
 ⟨h.low.setCell (p:=⟨pb,0,none⟩) h.hpb _,h.box.far (p:=⟨pb,0,none⟩) (h.box.ne h.prt (by decide)) _,h.res.far (p:=⟨pb,0,none⟩) h.hne _,h.prt.set 0 _,h.hpb,h.hne⟩
theorem AtR.line {v:Value} {L:List AttrS} (h:WB w0 M pb ln w) (ho:AtR w w0.heap.size v L) (u:Value) (i:Nat):AtR (w.setCell ⟨pb,i,none⟩ u) w0.heap.size v L:=Own.far (p:=⟨pb,i,none⟩) ho (Own.apart ho h.prt (by decide)) u
end
def ItR (w0:World) (M:Array Value) (pb:Nat) (ln:ByteArray) (g:Nat) (T:TypeId) (X:Array Value) (w:World):Prop:=WB w0 M pb ln w∧Whole w g T X
section
variable {w0 w w':World} {M X:Array Value} {pb g:Nat} {ln:ByteArray} {T:TypeId}
theorem ItR.under (h:ItR w0 M pb ln g T X w) (hb:Below w.heap.size w w'):ItR w0 M pb ln g T X w':=⟨h.1.under hb,h.2.under hb⟩
theorem ItR.drew (h:ItR w0 M pb ln g T X w):ItR w0 M pb ln g T X w.drew:=⟨h.1.drew,h.2⟩
theorem ItR.alloc (h:ItR w0 M pb ln g T X w) (o:Obj):ItR w0 M pb ln g T X (w.alloc o):=⟨h.1.alloc o,h.2.alloc o⟩
theorem ItR.add {v v':Value} {L:List AttrS} (h:ItR w0 M pb ln g T X w) (ho:AtR w w0.heap.size v L) (hT:85≠T) (hg:Grew w v w' v'):ItR w0 M pb ln g T X w':=⟨h.1.add ho hg,hg.whole h.2 (Own.apart ho h.2 hT)⟩
theorem ItR.line (h:ItR w0 M pb ln g T X w) (hT:T≠88) (s:ByteArray):ItR w0 M pb s g T X (w.setCell ⟨pb,0,none⟩ (.string s)):=⟨h.1.line s,h.2.far (p:=⟨pb,0,none⟩) (h.2.ne h.1.prt hT) _⟩
end
end Go.Proofs.YtgnpckelbokniaaGreatDoor
