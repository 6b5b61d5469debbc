import Derived.Test.YtgnpckelbokniaaGreatDoorPkAttrKeepsA05
import Derived.Test.YtgnpckelbokniaaGreatDoorPkAttrKeepsA00
namespace Go.Proofs.YtgnpckelbokniaaGreatDoor
open Go.RowKit
set_option linter.unusedVariables false
set_option linter.unusedSimpArgs false
structure CpIn (PI PO EO:TypeId) (w0:World) (M:Array Value) (go:Nat) (ln cn:ByteArray) (L:List AttrS) (v:Value) (w:World):Prop where
 low:Below w0.heap.size w0 w
 box:Whole w w0.heap.size PI M
 res:Whole w (w0.heap.size+1) PO #[.string ⟨#[]⟩,.string ⟨#[]⟩,.slice none 0 0]
 out:Whole w go PO #[.string ln,.string cn,v]
 own:Own w w0.heap.size EO 2 v (L.map acell)
 hgo:w0.heap.size≤go
 hne:w0.heap.size+1≠go
section
variable {PI PO EO:TypeId} {w0 w w':World} {M:Array Value} {go:Nat} {ln cn:ByteArray} {L:List AttrS} {v:Value}
theorem CpIn.alloc (h:CpIn PI PO EO w0 M go ln cn L v w) (o:Obj):CpIn PI PO EO w0 M go ln cn L v (w.alloc o):=⟨h.low.alloc h.low.size o,h.box.alloc o,h.res.alloc o,h.out.alloc o,h.own.alloc o,h.hgo,h.hne⟩
theorem CpIn.drew (h:CpIn PI PO EO w0 M go ln cn L v w):CpIn PI PO EO w0 M go ln cn L v w.drew:=⟨h.low.drew,h.box,h.res,h.out,h.own,h.hgo,h.hne⟩
end
end Go.Proofs.YtgnpckelbokniaaGreatDoor
