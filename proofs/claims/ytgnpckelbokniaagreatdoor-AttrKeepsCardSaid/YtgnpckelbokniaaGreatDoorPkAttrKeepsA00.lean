import Derived.OrdersHeld
import Derived.WalkKit
import Derived.Lib.Hide
import Derived.Test.YtgnpckelbokniaaGreatDoorProg
import Derived.Deep.RegionHeld3
import Derived.Deep.MidRow
import Derived.ProofKit
import Derived.WalkSpells
import Derived.Below
import Derived.Deep.Draws
import Derived.Laws.Rows
import Derived.ArgAppend
import Derived.Laws.IdiomCopy
import Derived.Maps.AppendAt
import Derived.Deep.RegionLaw
import Derived.OwnWalk
import Derived.Outline
import Derived.Handy
import Derived.LoopTactic
import Derived.RegionTactic
import Derived.ChangeAlike
import Derived.BigRegion
import Derived.Deep.QuietTactic
import Derived.BigQuiet
import Derived.Deep.DeepMust
import Derived.Deep.CutRange
import Derived.Deep.DeepCutAuto
import Derived.Deep.LoopGhost
import Derived.StillTailTactics
import Derived.Laws.AppendOwnNone
import Derived.Lib.AppendZeros
import Derived.Laws.CopyOwn
import Derived.Laws.BytesArg
import Derived.Shelf.Abstract
import Derived.Laws.StructEq
import Derived.Lib.IndexMore
import Derived.Lib.Join
import Derived.Shelf.Strings.Builder1
import Derived.Shelf.Strings.Builder2
import Derived.Shelf.Strings.OnBuilder
import Derived.Shelf.Small.Strs
import Derived.Shelf.Strings.BuilderF
import Derived.Shelf.Strconv.Atoi
import Derived.Shelf.Strconv.Itoa0
import Derived.Shelf.Strconv.Itoa1
import Derived.Shelf.LaysM
import Derived.Shelf.Strconv.Itoa2
import Derived.Shelf.Strconv.Itoa3
import Derived.Shelf.Strconv.AtoiErrFast
import Derived.Shelf.Strconv.ParseIntEmpty
import Derived.Shelf.Strconv.AtoiFail
import Derived.Shelf.Strconv.Clone
import Derived.Shelf.Strconv.SyntaxError
import Derived.Shelf.LaysC
import Derived.Shelf.Strconv.ToError
import Derived.Shelf.Strconv.Lower
import Derived.Shelf.Strconv.ParseUint10
import Derived.Shelf.Strconv.ParseUint10Empty
import Derived.Shelf.Strconv.ParseUint10Any
import Derived.Shelf.Strconv.ParseInt10
import Derived.Shelf.Strconv.AtoiLong
import Derived.Shelf.Strconv.AtoiInnerAll
import Derived.Shelf.Strconv.RangeError
import Derived.Shelf.Strconv.ToErrorRange
import Derived.Shelf.Strconv.AtoiAll
import Derived.Ground.MpProg
import Derived.Shelf.Pu.ParseUintPublic10
import Derived.Shelf.Strings.Search1
import Derived.Shelf.Strings.Search2
import Derived.Shelf.Strings.Search3
import Derived.Shelf.Strings.Cut
import Derived.Shelf.Strings.Count
import Derived.Shelf.Strings.Shaped
import Derived.Shelf.Strings.Prefix
import Derived.Shelf.Strings.Split
import Derived.Shelf.Unicode.DecodeSlow
import Derived.Shelf.Slices.Equal
import Derived.Lib.SmallJoins
import Derived.Lib.AppendIntMem
namespace Go.Proofs.YtgnpckelbokniaaGreatDoor
open Go Go.RowKit
set_option linter.unusedVariables false
section
variable {P:Program} {ops:Array Oper} {Q:Exit→Act→World→Prop} {md:Region.Mode} {T:Array Bool→World→Prop}
def wpLate (P:Program) (md:Region.Mode) (ops:Array Oper) (Q:Exit→Act→World→Prop) (T:Array Bool→World→Prop):Nat→Array Bool→Act→World→Prop
 | 0,L,a,w=>Region.ready md ops L=[]∧Q .normal a w
 | n+1,L,a,w=>(Region.ready md ops L=[]→Q .normal a w) ∧
   ∀i∈Region.ready md ops L,wpOp P ops Q i (fun a' w'=>T (L.setIfInBounds i true) w'∧wpLate P md ops Q T n (L.setIfInBounds i true) a' w') a w
theorem wpLate.any:∀(n:Nat) (L:Array Bool) (a:Act) (w:World),wpLate P md ops Q T n L a w→wpAny P md ops Q n L a w
 | 0,_,_,_,h=>h
 | n+1,_,_,_,h=>⟨h.1,fun i hi=>wpOp_mono (fun _ _ k=>wpLate.any n _ _ _ k.2) (h.2 i hi)⟩
def Ahead (T:Array Bool→World→Prop) (q:Nat) (w:World):Prop:=∃L:Array Bool,L.getD q true=false∧T L w
def waits (md:Region.Mode) (ops:Array Oper) (q i:Nat):Bool:=(ops[q]?.map fun o=>o.after.toList.any fun e=>Region.binds md e && e.on == i) == some true
theorem waits_spec {q i:Nat} (h:waits md ops q i=true):∃o,ops[q]? = some o∧∃e∈o.after,Region.binds md e=true∧e.on=i:=by
 unfold waits at h
 cases ho:ops[q]? with
 | none=>rw [ho] at h;simp at h
 | some o =>
   rw [ho] at h
   have h':(o.after.toList.any fun e=>Region.binds md e && e.on == i)=true:=by simpa using h
   obtain ⟨e,he,h1⟩:=List.any_eq_true.1 h'
   rw [Bool.and_eq_true,beq_iff_eq] at h1
   exact ⟨o,rfl,e,by simpa using he,h1.1,h1.2⟩
theorem wpLate.first {i q:Nat} {oi:Oper} {v:Value} (hi:ops[i]? = some oi) (hs:∀(j:Nat) (o:Oper) cs b,ops[j]? = some o→o.op≠.select cs b)
 (hQ:∀c a w,Q (.panic c) (a.put oi.dst v) w→Q (.panic c) a w) (hw:waits md ops q i=true) (hT:∀L w,T (L.setIfInBounds i true) w↔T L w) :
 ∀(n:Nat) (L:Array Bool) (a:Act) (w:World),
  (∀j oj,ops[j]? = some oj→j≠i→L.getD j true=false→(∀e∈oj.after,Region.binds md e=true→e.on≠i)→oi.apart ops oj=true) →
  i∈Region.ready md ops L→L.getD q true=false→YieldsIf P ops (Ahead T q) oi v a→T L w →
  wpLate P md ops Q T n (L.setIfInBounds i true) (a.put oi.dst v) w→wpLate P md ops Q T (n+1) L a w:=by
 obtain ⟨oq,hoq,eq,heq,hb,hon⟩:=waits_spec hw
 intro n
 induction n with
 | zero =>
   intro L a w _ hr hq hy hTw H
   refine ⟨fun h=>(by rw [h] at hr;cases hr),fun j hj=> ?_⟩
   by_cases hji:j=i
   · subst hji;exact hy.wpOp hi ⟨L,hq,hTw⟩ ⟨(hT L w).2 hTw,H⟩
   · have:=ready_mono hj hji
     rw [H.1] at this
     cases this
 | succ n ih =>
   intro L a w hfree hr hq hy hTw H
   refine ⟨fun h=>(by rw [h] at hr;cases hr),fun j hj=> ?_⟩
   by_cases hji:j=i
   · subst hji;exact hy.wpOp hi ⟨L,hq,hTw⟩ ⟨(hT L w).2 hTw,H⟩
   · have h1:=H.2 j (ready_mono hj hji)
     obtain ⟨hjun,oj,hoj,hall⟩:=mem_ready.1 hj
     have hnot:∀e∈oj.after,Region.binds md e=true→e.on≠i:=fun e he hb2 he2=>by
      have g1:=hall e he hb2
      have g0:=(mem_ready.1 hr).1
      rw [he2] at g1
      rcases Nat.lt_or_ge i L.size with h' | h'
      · simp [h'] at g0 g1;rw [g0] at g1;cases g1
      · simp [Array.getElem?_eq_none h'] at g1
     have hjq:j≠q:=by
      rintro rfl
      rw [hoq] at hoj
      cases hoj
      exact hnot eq heq hb hon
     have h2:=wpOp_putIf hoj (hfree j oj hoj hji hjun hnot) (fun cs b=>hs i oi cs b hi) (fun cs b=>hs j oj cs b hoj) hQ hy h1
     refine wpOp_mono (fun a' w' h3=> ?_) h2
     rw [Array.setIfInBounds_comm _ _ (Ne.symm hji)] at h3
     have hT3:=(hT _ _).1 h3.2.1
     refine ⟨hT3,ih (L.setIfInBounds j true) a' w' (fun k ok hk hki hun hno=> ?_) (ready_mono hr (Ne.symm hji)) (by rw [getD_set_ne true hjq];exact hq) h3.1 hT3 h3.2.2⟩
     refine hfree k ok hk hki ?_ hno
     by_cases hjk:j=k
     · subst hjk;exact hjun
     · rw [getD_set_ne true hjk] at hun;exact hun
theorem wpLate.take {i q:Nat} {oi:Oper} {v:Value} {n:Nat} {L:Array Bool} {a:Act} {w:World} (hi:ops[i]? = some oi)
 (hs:Region.noSelect ops=true) (hf:Region.free md ops L i=true) (hr:(Region.ready md ops L).contains i=true) (hw:waits md ops q i=true) (hq:L.getD q true=false)
 (hQ:∀c a w,Q (.panic c) (a.put oi.dst v) w→Q (.panic c) a w) (hT:∀L w,T (L.setIfInBounds i true) w↔T L w) (hTw:T L w) (hy:YieldsIf P ops (Ahead T q) oi v a)
 (h:wpLate P md ops Q T n (L.setIfInBounds i true) (a.put oi.dst v) w):wpLate P md ops Q T (n+1) L a w :=
 wpLate.first hi (Region.noSelect_spec hs) hQ hw hT n L a w (Region.free_spec hi hf) (by simpa using hr) hq hy hTw h
def eachLate (P:Program) (md:Region.Mode) (ops:Array Oper) (Q:Exit→Act→World→Prop) (T:Array Bool→World→Prop) (n:Nat) (L:Array Bool) (a:Act) (w:World) (rs:List Nat):Prop :=
 ∀i∈rs,wpOp P ops Q i (fun a' w'=>T (L.setIfInBounds i true) w'∧wpLate P md ops Q T n (L.setIfInBounds i true) a' w') a w
theorem eachLate.nil {n:Nat} {L:Array Bool} {a:Act} {w:World}:eachLate P md ops Q T n L a w []:=fun _ h=>by cases h
theorem eachLate.cons {n:Nat} {L:Array Bool} {a:Act} {w:World} {i:Nat} {o:Oper} {rs:List Nat} (ho:ops[i]? = some o)
 (h:∀K':Act→World→Prop,Hid (∀a w,T (L.setIfInBounds i true) w→wpLate P md ops Q T n (L.setIfInBounds i true) a w→K' a w)→if Region.wanted o (yielded ops a.tmps)=true then Oper.wp P o a w K' Q else K' (a.put o.dst undef) w)
 (hs:eachLate P md ops Q T n L a w rs):eachLate P md ops Q T n L a w (i :: rs):=fun j hj=>by
 rcases List.mem_cons.1 hj with rfl | hj
 · exact wpOp_step ho (fun K' hK=>h K' (Lib.hid fun a w h1 h2=>hK a w ⟨h1,h2⟩))
 · exact hs j hj
theorem wpLate.ready {rs:List Nat} {n:Nat} {L:Array Bool} {a:Act} {w:World} (hr:Region.ready md ops L=rs) (hne:rs≠[]) (h:eachLate P md ops Q T n L a w rs):wpLate P md ops Q T (n+1) L a w :=
 ⟨fun h0=>absurd (hr ▸ h0) hne,hr ▸ h⟩
theorem wpLate.done {L:Array Bool} {a:Act} {w:World} (hr:Region.ready md ops L=[]) (h:Q .normal a w):∀n,wpLate P md ops Q T n L a w
 | 0=>⟨hr,h⟩
 | _+1=>⟨fun _=>h,by rw [hr];simp⟩
theorem wp_region_late {id:Nat} {a:Act} {w:World} (T:Array Bool→World→Prop) (hm:P.follows .mixedOrders=true)
 (h:wpLate P .any ops Q T ops.size (Array.replicate ops.size false) a w.drew):(Code.region id ops true).wp P Q a w :=
 wp_region_any hm (wpLate.any _ _ _ _ h)
def TillTwo (S0 S1 S2:World→Prop) (q1 q2:Nat) (L:Array Bool) (w:World):Prop:=S0 w∧(L.getD q1 true=false→S1 w)∧(L.getD q2 true=false→S2 w)
theorem TillTwo.set {S0 S1 S2:World→Prop} {q1 q2 i:Nat} (h1:i≠q1) (h2:i≠q2) (L:Array Bool) (w:World):TillTwo S0 S1 S2 q1 q2 (L.setIfInBounds i true) w↔TillTwo S0 S1 S2 q1 q2 L w:=by
 unfold TillTwo
 rw [getD_set_ne true h1,getD_set_ne true h2]
theorem TillTwo.one {S0 S1 S2:World→Prop} {q1 q2:Nat} {w:World} (h:Ahead (TillTwo S0 S1 S2 q1 q2) q1 w):S0 w∧S1 w:=by
 obtain ⟨L,hL,h⟩:=h
 exact ⟨h.1,h.2.1 hL⟩
theorem TillTwo.two {S0 S1 S2:World→Prop} {q1 q2:Nat} {w:World} (h:Ahead (TillTwo S0 S1 S2 q1 q2) q2 w):S0 w∧S2 w:=by
 obtain ⟨L,hL,h⟩:=h
 exact ⟨h.1,h.2.2 hL⟩
theorem TillTwo.mk {S0 S1 S2:World→Prop} {q1 q2:Nat} {L:Array Bool} {w:World} (h0:S0 w) (h1:L.getD q1 true=true∨S1 w) (h2:L.getD q2 true=true∨S2 w):TillTwo S0 S1 S2 q1 q2 L w :=
 ⟨h0,fun e=>h1.elim (fun e2=>by rw [e] at e2;cases e2) id,fun e=>h2.elim (fun e2=>by rw [e] at e2;cases e2) id⟩
end
end Go.Proofs.YtgnpckelbokniaaGreatDoor
namespace Go.Proofs.YtgnpckelbokniaaGreatDoor
open Go.RowKit
def Whole (w:World) (g:Nat) (t:TypeId) (cs:Array Value):Prop:=w.heap[g]? = some (Obj.cells cs t (0,0))
section
variable {w w':World} {g:Nat} {t:TypeId} {cs:Array Value}
theorem Whole.lt (h:Whole w g t cs):g<w.heap.size:=(Array.getElem?_eq_some_iff.1 h).1
theorem Whole.cell (h:Whole w g t cs) (i:Nat):w.cell? ⟨g,i,none⟩=cs[i]? :=cell_of_row w g i cs t (0,0) h
theorem Whole.frz (h:Whole w g t cs) (i:Nat):w.frozen? ⟨g,i,none⟩=false:=by
 have h':w.heap[g]? = some (Obj.cells cs t (0,0)):=h
 simp [World.frozen?,h']
theorem Whole.new (w:World) (t:TypeId) (cs:Array Value):Whole (w.alloc (.cells cs t)) w.heap.size t cs:=by
 show (w.heap.push _)[w.heap.size]? = _
 simp
theorem Whole.drewN (h:Whole w g t cs) (n:Nat):Whole (w.drewN n) g t cs:=h
theorem Whole.drew (h:Whole w g t cs):Whole w.drew g t cs:=h
theorem Whole.alloc (h:Whole w g t cs) (o:Obj):Whole (w.alloc o) g t cs:=(Below.heap_alloc w o g h.lt).trans h
theorem Whole.set (h:Whole w g t cs) (i:Nat) (u:Value):Whole (w.setCell ⟨g,i,none⟩ u) g t (cs.setIfInBounds i u):=by
 have h':w.heap[g]? = some (Obj.cells cs t (0,0)):=h
 show (w.setCell ⟨g,i,none⟩ u).heap[g]? = _
 simp [World.setCell,Array.getElem?_modify,h']
theorem Whole.far (h:Whole w g t cs) {p:Addr} (hp:g≠p.block) (u:Value):Whole (w.setCell p u) g t cs:=(Below.heap_setCell w p u g hp).trans h
theorem Whole.below {B:Nat} (h:Whole w g t cs) (hb:Below B w w') (hg:g<B):Whole w' g t cs:=(hb.block g hg).trans h
theorem Whole.under (h:Whole w g t cs) (hb:Below w.heap.size w w'):Whole w' g t cs:=(hb.block g h.lt).trans h
theorem Whole.grown {row:Option Nat} (h:Whole w g t cs) (hb:w.grownBy w' row) (hg:some g≠row):Whole w' g t cs:=(hb.block g h.lt hg).trans h
theorem Whole.ne {g':Nat} {t':TypeId} {cs':Array Value} (h:Whole w g t cs) (h':Whole w g' t' cs') (hne:t≠t'):g≠g':=by
 intro e
 subst e
 have e1:some (Obj.cells cs t (0,0))=some (Obj.cells cs' t' (0,0)):=Eq.trans (Eq.symm h) h'
 injection e1 with e2
 injection e2 with _ e3
 exact hne e3
end
theorem take_get {cur:Array Value} {n:Nat} {xs:List Value} (h:cur.toList.take n=xs) {i:Nat} {u:Value} (hi:xs[i]? = some u):cur[i]? = some u:=by
 subst h
 rw [List.getElem?_take] at hi
 split at hi
 · simpa using hi
 · cases hi
theorem below_drewN' {B:Nat} {a w:World} (h:Below B a w) (n:Nat):Below B a (w.drewN n):=⟨h.os,h.tape,h.output,h.size,h.block⟩
end Go.Proofs.YtgnpckelbokniaaGreatDoor
namespace Go.Proofs.YtgnpckelbokniaaGreatDoor
open Go.RowKit
set_option linter.unusedVariables false
structure Only (S:Nat→Prop) (w w':World):Prop where
 os:w'.os=w.os
 tape:w'.tape=w.tape
 output:w'.output=w.output
 size:w.heap.size≤w'.heap.size
 block:∀k,k<w.heap.size→¬S k→w'.heap[k]? = w.heap[k]?
section
variable {S T:Nat→Prop} {a w w':World}
theorem Only.refl (S:Nat→Prop) (w:World):Only S w w:=⟨rfl,rfl,rfl,Nat.le_refl _,fun _ _ _=>rfl⟩
theorem Only.next (h:Only S a w) (k:Only T w w') (hs:∀j,T j→S j∨a.heap.size≤j):Only S a w' :=
 ⟨k.os.trans h.os,k.tape.trans h.tape,k.output.trans h.output,Nat.le_trans h.size k.size,fun i hi hn =>
  (k.block i (Nat.lt_of_lt_of_le hi h.size) (fun ht=>by
    rcases hs i ht with h1 | h1
    · exact hn h1
    · omega)).trans (h.block i hi hn)⟩
theorem Only.mono (h:Only S w w') (hs:∀j,S j→T j):Only T w w':=⟨h.os,h.tape,h.output,h.size,fun i hi hn=>h.block i hi (fun e=>hn (hs i e))⟩
theorem Only.drewN (h:Only S a w) (n:Nat):Only S a (w.drewN n):=⟨h.os,h.tape,h.output,h.size,h.block⟩
theorem Only.drew (h:Only S a w):Only S a w.drew:=⟨h.os,h.tape,h.output,h.size,h.block⟩
theorem Only.alloc (h:Only S a w) (o:Obj):Only S a (w.alloc o) :=
 ⟨h.os,h.tape,h.output,Nat.le_trans h.size (by simp),fun i hi hn=>(Below.heap_alloc w o i (Nat.lt_of_lt_of_le hi h.size)).trans (h.block i hi hn)⟩
theorem Only.setCell (h:Only S a w) {p:Addr} (hp:S p.block∨a.heap.size≤p.block) (u:Value):Only S a (w.setCell p u) :=
 ⟨h.os,h.tape,h.output,by simpa [World.setCell] using h.size,fun i hi hn=>(Below.heap_setCell w p u i (by
  intro e
  subst e
  rcases hp with hp | hp
  · exact hn hp
  · omega)).trans (h.block i hi hn)⟩
theorem Only.grown {row:Option Nat} (h:Only S a w) (hg:w.grownBy w' row) (hr:∀k,row=some k→S k∨a.heap.size≤k):Only S a w' :=
 h.next (T:=fun k=>row=some k) ⟨hg.os,hg.tape,hg.output,hg.size,fun i hi hn=>hg.block i hi (fun e=>hn e.symm)⟩ (fun j e=>hr j e)
theorem Only.under (h:Only S a w) (hb:Below w.heap.size w w'):Only S a w' :=
 h.next (T:=fun _=>False) ⟨hb.os,hb.tape,hb.output,hb.size,fun i hi _=>hb.block i hi⟩ (fun _ e=>e.elim)
theorem Only.below {B:Nat} (h:Only S w w') (hs:∀k,S k→B≤k) (hB:B≤w.heap.size):Below B w w' :=
 ⟨h.os,h.tape,h.output,h.size,fun k hk=>h.block k (by omega) (fun e=>by have:=hs k e;omega)⟩
theorem Only.same (h:Only S w w') {o:Obj} {k:Nat} (hk:w.heap[k]? = some o) (hn:¬S k):w'.heap[k]? = some o:=(h.block k (Array.getElem?_eq_some_iff.1 hk).1 hn).trans hk
theorem Whole.only {g:Nat} {t:TypeId} {cs:Array Value} (h:Whole w g t cs) (k:Only S w w') (hn:¬S g):Whole w' g t cs:=k.same h hn
end
section
variable {w w':World} {g:Nat} {t:TypeId}
theorem Whole.row {old:Array Value} (h:Whole w g t old) (cs:Array Value):Whole (w.setRow g cs) g t cs:=setRow_heap w g old cs t (0,0) h
theorem Whole.farRow {cs:Array Value} (h:Whole w g t cs) {g':Nat} (hne:g≠g') (cs':Array Value):Whole (w.setRow g' cs') g t cs:=(setRow_other w g' g cs' hne).trans h
theorem below_row {B:Nat} {a w:World} (h:Below B a w) {g:Nat} (hg:B≤g) (cs:Array Value):Below B a (w.setRow g cs):=below_setRow h hg cs
theorem Whole.new2 (w:World) (o:Obj) (t:TypeId) (cs:Array Value):Whole ((w.alloc o).alloc (.cells cs t)) (w.heap.size+1) t cs:=by
 have:=Whole.new (w.alloc o) t cs
 rw [World.size_alloc] at this
 exact this
end
theorem two_new {w:World} (t t':TypeId) (cs cs':Array Value):Below w.heap.size w ((w.alloc (.cells cs t)).alloc (.cells cs' t')):=((Below.refl _ w).alloc (Nat.le_refl _) _).alloc (by simp) _
section
variable {ops:Array Oper} {rest:List Oper} {o:Oper} {a:Act} {w:World} {Q:Exit→Act→World→Prop} {g:Nat} {t ty:TypeId} {cs:Array Value} {n:Nat}
theorem wpList_store_whole {old:Array Value} (hgd:o.guard=none) (ty:TypeId) (x y:Operand) (ho:o.op=.store ty x y) (hx:a.eval x=.pointer (some ⟨g,0,none⟩)) (hy:a.eval y=.agg cs) (hg:Whole w g t old)
 (hi:(Tryz.prog.info? ty).map (·.size)=some n) (hn:cs.size=n) (hold:old.size=n) (h1:cs.all (·.oneCell')=true)
 (h:wpList Tryz.prog ops Q rest (a.put o.dst undef) (w.setRow g cs)):wpList Tryz.prog ops Q (o :: rest) a w :=
 wpList_store_row hgd ty x y ho g cs hx hy t old hg (by rw [hi,hn]) (by rw [hn,hold]) h1 h
end
theorem wp_store_whole {o:Oper} {a:Act} {w:World} {K:Act→World→Prop} {Q:Exit→Act→World→Prop} {g n:Nat} {t:TypeId} {cs old:Array Value} (ty:TypeId) (x y:Operand) (ho:o.op=.store ty x y) (hx:a.eval x=.pointer (some ⟨g,0,none⟩)) (hy:a.eval y=.agg cs) (hg:Whole w g t old)
 (hi:(Tryz.prog.info? ty).map (·.size)=some n) (hn:cs.size=n) (hold:old.size=n) (h1:cs.all (·.oneCell')=true)
 (h:K (a.put o.dst undef) (w.setRow g cs)):o.wp Tryz.prog a w K Q :=
 wp_store_row ty x y ho g cs hx hy t old hg (by rw [hi,hn]) (by rw [hn,hold]) h1 h
theorem step_store_whole {ops:Array Oper} {o:Oper} {a:Act} {w:World} {K:Act→World→Prop} {Q:Exit→Act→World→Prop} {E:Prop} {g n:Nat} {t:TypeId} {cs old:Array Value} (hgd:o.guard=none) (ty:TypeId) (x y:Operand) (ho:o.op=.store ty x y) (hx:a.eval x=.pointer (some ⟨g,0,none⟩)) (hy:a.eval y=.agg cs) (hg:Whole w g t old)
 (hi:(Tryz.prog.info? ty).map (·.size)=some n) (hn:cs.size=n) (hold:old.size=n) (h1:cs.all (·.oneCell')=true)
 (h:K (a.put o.dst undef) (w.setRow g cs)):if Region.wanted o (yielded ops a.tmps)=true then Oper.wp Tryz.prog o a w K Q else E:=by
 have hw:Region.wanted o (yielded ops a.tmps)=true:=by simp [Region.wanted,hgd]
 rw [if_pos hw]
 exact wp_store_whole ty x y ho hx hy hg hi hn hold h1 h
theorem all_list {cs:Array Value} (h:cs.toList.all (·.oneCell')=true):cs.all (·.oneCell')=true:=by rw [←Array.all_toList];exact h
theorem wpList_storeS {ops:Array Oper} {rest:List Oper} {o:Oper} {a:Act} {w:World} {Q:Exit→Act→World→Prop} {g:Nat} {t:TypeId} {old:Array Value} (cs:Array Value) (hgd:o.guard=none) (ty:TypeId) (x y:Operand) (ho:o.op=.store ty x y) (hx:a.eval x=.pointer (some ⟨g,0,none⟩)) (hy:a.eval y=.agg cs) (hg:Whole w g t old)
 {n:Nat} (hi:(Tryz.prog.info? ty).map (·.size)=some n) (hn:cs.size=n) (hold:old.size=n) (h1:cs.toList.all (·.oneCell')=true)
 (h:wpList Tryz.prog ops Q rest (a.put o.dst undef) (w.setRow g cs)):wpList Tryz.prog ops Q (o :: rest) a w :=
 wpList_store_whole hgd ty x y ho hx hy hg hi hn hold (all_list h1) h
theorem Whole.rangeA {w:World} {g:Nat} {t:TypeId} {cs:Array Value} (h:Whole w g t cs):w.rangeAt g 0 cs.toList:=fun j v hv=>by
 rw [Nat.zero_add,h.cell]
 simpa using hv
theorem wpList_load_all {ops:Array Oper} {rest:List Oper} {o:Oper} {a:Act} {w:World} {Q:Exit→Act→World→Prop} (hgd:o.guard=none) (ty:TypeId) (x:Operand) (ho:o.op=.load ty x) {g:Nat} {t:TypeId} {cs:Array Value} (hg:Whole w g t cs)
 (hx:a.eval x=.pointer (some ⟨g,0,none⟩)) {n:Nat} (hi:(Tryz.prog.info? ty).map (·.size)=some n) (hn:cs.size=n) {d:TypeDesc} (hu:Tryz.prog.underlying ty=some d) (hd:d.isRow=true)
 (h:wpList Tryz.prog ops Q rest (a.put o.dst (.agg cs)) w):wpList Tryz.prog ops Q (o :: rest) a w:=by
 have e:cs.toList.toArray=cs:=by simp
 refine wpList_load_mid hgd ty x ho g 0 hx cs.toList d hg.rangeA hu hd (by rw [hi,←hn];simp) ?_
 rw [e]
 exact h
theorem wpList_load_allG {ops:Array Oper} {rest:List Oper} {o:Oper} {a:Act} {w:World} {Q:Exit→Act→World→Prop} (hw:Region.wanted o (yielded ops a.tmps)=true) (ty:TypeId) (x:Operand) (ho:o.op=.load ty x) {g:Nat} {t:TypeId} {cs:Array Value} (hg:Whole w g t cs)
 (hx:a.eval x=.pointer (some ⟨g,0,none⟩)) {n:Nat} (hi:(Tryz.prog.info? ty).map (·.size)=some n) (hn:cs.size=n) {d:TypeDesc} (hu:Tryz.prog.underlying ty=some d) (hd:d.isRow=true)
 (h:wpList Tryz.prog ops Q rest (a.put o.dst (.agg cs)) w):wpList Tryz.prog ops Q (o :: rest) a w:=by
 have e:cs.toList.toArray=cs:=by simp
 refine wpList_step fun K hK=>by
  rw [if_pos hw]
  refine wp_load_mid ty x ho g 0 hx cs.toList d hg.rangeA hu hd (by rw [hi,←hn];simp) (hK _ _ ?_)
  rw [e]
  exact h
theorem ret_struct {fn:Func} {p:Tmp} {ty t:TypeId} {cs:Array Value} {n g:Nat} {tmps:Array Value} {w:World} (h:fn.results=#[.cell p ty]) (hp:tmps.getD p undef=.pointer (some ⟨g,0,none⟩)) (hg:Whole w g t cs)
 {d:TypeDesc} (hu:Tryz.prog.underlying ty=some d) (hd:d.isRow=true) (hi:(Tryz.prog.info? ty).map (·.size)=some n) (hn:cs.size=n):(results fn tmps).run Tryz.prog w=.ok (.agg cs) w :=
 results_cell_row h tmps w g t cs (0,0) d hp hg hu (by cases d <;> simp_all [TypeDesc.isRow]) (by rw [hi,hn])
theorem ret_struct2 {fn:Func} {p s:Tmp} {ty t:TypeId} {cs:Array Value} {n g:Nat} {tmps:Array Value} {w:World} (h:fn.results=#[.cell p ty,.tmp s]) (hp:tmps.getD p undef=.pointer (some ⟨g,0,none⟩)) (hg:Whole w g t cs)
 {d:TypeDesc} (hu:Tryz.prog.underlying ty=some d) (hd:d.isRow=true) (hi:(Tryz.prog.info? ty).map (·.size)=some n) (hn:cs.size=n):(results fn tmps).run Tryz.prog w=.ok (.tuple #[.agg cs,tmps.getD s undef]) w:=by
 have hp':tmps[p]?.getD undef=.pointer (some ⟨g,0,none⟩):=by simpa using hp
 have hl:(loadVar ty ⟨g,0,none⟩).run Tryz.prog w=.ok (.agg cs) w:=run_loadVar_row (P:=Tryz.prog) w g t ty cs (0,0) d hg hu (by cases d <;> simp_all [TypeDesc.isRow]) (by rw [hi,hn])
 simp [results,h,hp',asAddr,hl]
theorem step_of {ops:Array Oper} {o:Oper} {a:Act} {w:World} {K:Act→World→Prop} {Q:Exit→Act→World→Prop} {E:Prop} (hgd:o.guard=none) (h:o.wp Tryz.prog a w K Q):if Region.wanted o (yielded ops a.tmps)=true then Oper.wp Tryz.prog o a w K Q else E:=by
 have hw:Region.wanted o (yielded ops a.tmps)=true:=by simp [Region.wanted,hgd]
 rw [if_pos hw]
 exact h
def TillOne (S0 S1:World→Prop) (q:Nat) (L:Array Bool) (w:World):Prop:=S0 w∧(L.getD q true=false→S1 w)
theorem TillOne.set {S0 S1:World→Prop} {q i:Nat} (h:i≠q) (L:Array Bool) (w:World):TillOne S0 S1 q (L.setIfInBounds i true) w↔TillOne S0 S1 q L w:=by
 unfold TillOne
 rw [getD_set_ne true h]
theorem TillOne.get {S0 S1:World→Prop} {q:Nat} {w:World} (h:Ahead (TillOne S0 S1 q) q w):S0 w∧S1 w:=by
 obtain ⟨L,hL,h⟩:=h
 exact ⟨h.1,h.2 hL⟩
theorem TillOne.mk {S0 S1:World→Prop} {q:Nat} {L:Array Bool} {w:World} (h0:S0 w) (h1:S1 w):TillOne S0 S1 q L w:=⟨h0,fun _=>h1⟩
theorem TillOne.past {S0 S1:World→Prop} {q:Nat} {L:Array Bool} {w:World} (h0:S0 w) (h1:L.getD q true=true):TillOne S0 S1 q L w:=⟨h0,fun e=>by rw [h1] at e;cases e⟩
theorem add_block (a:Addr) (n:Nat):(a.add n).block=a.block:=by unfold Addr.add;split <;> rfl
def Rows {α:Type} (w:World) (B:Nat) (sz:Nat) (R:(Nat→Option Value)→α→Prop) (v:Value) (L:List α):Prop :=
 ∃A c,v=.slice A L.length c∧L.length≤c∧c≤maxLen∧(A=none→c=0) ∧
  (0<L.length→∃ad,A=some ad∧ad.block<B∧∀i x,L[i]? = some x→R (fun j=>w.cell? (ad.add (i * sz+j))) x)
section
variable {α:Type} {w w':World} {B:Nat} {sz:Nat} {R R':(Nat→Option Value)→α→Prop} {v:Value} {L:List α}
theorem Rows.nil (w:World) (B sz:Nat) (R:(Nat→Option Value)→α→Prop):Rows w B sz R (.slice none 0 0) []:=⟨none,0,rfl,Nat.le_refl _,Nat.zero_le _,fun _=>rfl,fun h=>by simp at h⟩
theorem Rows.one (h:Rows w B sz R v L):v.oneCell'=true:=by
 obtain ⟨A,c,rfl,_⟩:=h
 rfl
theorem Rows.more {B':Nat} (h:Rows w B sz R v L) (hB:B≤B'):Rows w B' sz R v L:=by
 obtain ⟨A,c,h1,h2,h3,h4,h5⟩:=h
 refine ⟨A,c,h1,h2,h3,h4,fun hn=> ?_⟩
 obtain ⟨ad,e1,e2,e3⟩:=h5 hn
 exact ⟨ad,e1,by omega,e3⟩
theorem Rows.mono (h:Rows w B sz R v L) (hR:∀f x,x∈L→R f x→R' f x):Rows w B sz R' v L:=by
 obtain ⟨A,c,h1,h2,h3,h4,h5⟩:=h
 refine ⟨A,c,h1,h2,h3,h4,fun hn=> ?_⟩
 obtain ⟨ad,e1,e2,e3⟩:=h5 hn
 exact ⟨ad,e1,e2,fun i x hx=>hR _ x (List.mem_of_getElem? hx) (e3 i x hx)⟩
theorem Rows.below (h:Rows w B sz R v L) (hb:Below B w w') (hR:∀f x,x∈L→R f x→R' f x):Rows w' B sz R' v L:=by
 obtain ⟨A,c,h1,h2,h3,h4,h5⟩:=h
 refine ⟨A,c,h1,h2,h3,h4,fun hn=> ?_⟩
 obtain ⟨ad,e1,e2,e3⟩:=h5 hn
 refine ⟨ad,e1,e2,fun i x hx=>hR _ x (List.mem_of_getElem? hx) ?_⟩
 have e:(fun j=>w'.cell? (ad.add (i * sz+j)))=fun j=>w.cell? (ad.add (i * sz+j)):=by
  funext j
  exact hb.cell (p:=ad.add (i * sz+j)) (by rw [add_block];exact e2)
 rw [e]
 exact e3 i x hx
theorem Rows.at_ (h:Rows w B sz R v L) {i:Nat} {x:α} (hx:L[i]? = some x):∃ad c,v=.slice (some ad) L.length c∧ad.block<B∧L.length≤c∧c≤maxLen∧R (fun j=>w.cell? (ad.add (i * sz+j))) x:=by
 obtain ⟨A,c,h1,h2,h3,h4,h5⟩:=h
 have hi:i<L.length:=(List.getElem?_eq_some_iff.1 hx).1
 obtain ⟨ad,rfl,e2,e3⟩:=h5 (by omega)
 exact ⟨ad,c,h1,e2,h2,h3,e3 i x hx⟩
theorem Rows.form (h:Rows w B sz R v L):∃A c,v=.slice A L.length c∧L.length≤c∧c≤maxLen∧(A=none→c=0):=by
 obtain ⟨A,c,h1,h2,h3,h4,_⟩:=h
 exact ⟨A,c,h1,h2,h3,h4⟩
end
theorem add_next (a:Addr) (n k:Nat) (hk:k≠0):a.add (n+k)=⟨(a.add n).block,(a.add n).off+k,none⟩:=by
 unfold Addr.add
 rw [if_neg (by omega)]
 split
 · next h=>subst h;simp
 · simp [Nat.add_assoc]
def Own (w:World) (base:Nat) (e:TypeId) (sz:Nat) (v:Value) (rs:List (List Value)):Prop:=w.ownsRow base e sz v rs.length rs.flatten∧∀r∈rs,r.length=sz
section
variable {w w':World} {base:Nat} {e:TypeId} {sz:Nat} {v:Value} {rs:List (List Value)}
theorem flatten_at {sz:Nat}:∀{rs:List (List Value)} (_:∀r∈rs,r.length=sz) {i j:Nat} {r:List Value},rs[i]? = some r→j<sz→rs.flatten[i * sz+j]? = r[j]?
 | [],_,i,j,r,h,_=>by simp at h
 | q :: rs,hl,i,j,r,h,hj=>by
   have hq:=hl q (by simp)
   cases i with
   | zero =>
     simp at h
     subst h
     rw [Nat.zero_mul,Nat.zero_add,List.flatten_cons,List.getElem?_append_left (by omega)]
   | succ i =>
     have:=flatten_at (rs:=rs) (fun r hr=>hl r (by simp [hr])) (i:=i) (j:=j) (r:=r) (by simpa using h) hj
     rw [List.flatten_cons,List.getElem?_append_right (by rw [hq,Nat.succ_mul];omega),←this,hq]
     congr 1
     rw [Nat.succ_mul]
     omega
theorem flatten_len {sz:Nat}:∀{rs:List (List Value)} (_:∀r∈rs,r.length=sz),rs.flatten.length=rs.length * sz
 | [],_=>by simp
 | q :: rs,hl=>by
   have:=flatten_len (rs:=rs) (fun r hr=>hl r (by simp [hr]))
   rw [List.flatten_cons,List.length_append,this,hl q (by simp),List.length_cons,Nat.succ_mul]
   omega
theorem flatten_set {sz:Nat}:∀{rs:List (List Value)} (_:∀r∈rs,r.length=sz) {i j:Nat} {r:List Value} (u:Value),rs[i]? = some r→j<sz→rs.flatten.set (i * sz+j) u=(rs.set i (r.set j u)).flatten
 | [],_,i,j,r,u,h,_=>by simp at h
 | q :: rs,hl,i,j,r,u,h,hj=>by
   have hq:=hl q (by simp)
   cases i with
   | zero =>
     simp at h
     subst h
     rw [Nat.zero_mul,Nat.zero_add,List.flatten_cons,List.set_cons_zero,List.flatten_cons,List.set_append_left _ _ (by omega)]
   | succ i =>
     have:=flatten_set (rs:=rs) (fun r hr=>hl r (by simp [hr])) (i:=i) (j:=j) (r:=r) u (by simpa using h) hj
     rw [List.flatten_cons,List.set_cons_succ,List.flatten_cons,←this,List.set_append_right _ _ (by rw [hq,Nat.succ_mul];omega),hq]
     congr 2
     rw [Nat.succ_mul]
     omega
theorem Own.nil (w:World) (base:Nat) (e:TypeId) (sz:Nat):Own w base e sz (.slice none 0 0) []:=⟨World.ownsRow_nil w base e sz,fun r hr=>by cases hr⟩
theorem Own.keep (h:Own w base e sz v rs) (hk:∀g cs,v.ownBlock=some g→Whole w g e cs→Whole w' g e cs):Own w' base e sz v rs:=by
 refine ⟨⟨h.1.1,?_⟩,h.2⟩
 rcases h.1.2 with h0 | ⟨g,cap,cur,h1,h2,h3,h4⟩
 · exact .inl h0
 · exact .inr ⟨g,cap,cur,h1,h2,hk g cur (by rw [h1];rfl) h3,h4⟩
theorem Own.under (h:Own w base e sz v rs) (hb:Below w.heap.size w w'):Own w' base e sz v rs:=h.keep fun g cs _ hg=>hg.under hb
theorem Own.alloc (h:Own w base e sz v rs) (o:Obj):Own (w.alloc o) base e sz v rs:=h.keep fun g cs _ hg=>hg.alloc o
theorem Own.drew (h:Own w base e sz v rs):Own w.drew base e sz v rs:=h
theorem Own.drewN (h:Own w base e sz v rs) (n:Nat):Own (w.drewN n) base e sz v rs:=h
theorem Own.far (h:Own w base e sz v rs) {p:Addr} (hp:v.ownBlock≠some p.block) (u:Value):Own (w.setCell p u) base e sz v rs:=h.keep fun g cs hg hw=>hw.far (fun e=>hp (by rw [hg,e])) u
theorem Own.farRow (h:Own w base e sz v rs) {g:Nat} (hp:v.ownBlock≠some g) (cs:Array Value):Own (w.setRow g cs) base e sz v rs:=h.keep fun g' cs' hg hw=>hw.farRow (fun e=>hp (by rw [hg,e])) cs
theorem Own.grown {row:Option Nat} (h:Own w base e sz v rs) (hg:w.grownBy w' row) (hne:v.ownBlock=none∨v.ownBlock≠row):Own w' base e sz v rs:=h.keep fun g cs hb hw=>hw.grown hg (fun e=>by
 rcases hne with hn | hn
 · rw [hn] at hb;cases hb
 · exact hn (hb.trans e))
theorem Own.lt (h:Own w base e sz v rs) {k:Nat} (hk:v.ownBlock=some k):base≤k∧k<w.heap.size:=World.ownsRow.lt h.1 k hk
theorem Own.base_le {b:Nat} (h:Own w base e sz v rs) (hb:b≤base):Own w b e sz v rs:=by
 refine ⟨⟨h.1.1,?_⟩,h.2⟩
 rcases h.1.2 with h0 | ⟨g,cap,cur,h1,h2,h3,h4⟩
 · exact .inl h0
 · exact .inr ⟨g,cap,cur,h1,by omega,h3,h4⟩
theorem Own.whole (h:Own w base e sz v rs) {g:Nat} (hg:v.ownBlock=some g):∃cs,Whole w g e cs:=by
 rcases h.1.2 with ⟨rfl,_⟩ | ⟨g',cap,cur,rfl,_,h3,_⟩
 · cases hg
 · have:g'=g:=by simpa [Value.ownBlock] using hg
   subst this
   exact ⟨cur,h3⟩
theorem Own.apart (h:Own w base e sz v rs) {g:Nat} {t:TypeId} {cs:Array Value} (hg:Whole w g t cs) (he:e≠t):v.ownBlock≠some g:=fun e2=>by
 obtain ⟨cs2,h2⟩:=h.whole e2
 exact (h2.ne hg he) rfl
theorem Own.apart2 {e':TypeId} {sz':Nat} {v':Value} {rs':List (List Value)} (h:Own w base e sz v rs) (h':Own w base e' sz' v' rs') (he:e≠e'):v.ownBlock=none∨v.ownBlock≠v'.ownBlock:=by
 cases hv:v.ownBlock with
 | none=>exact .inl rfl
 | some g =>
   refine .inr fun e2=> ?_
   obtain ⟨cs,hc⟩:=h.whole hv
   exact h'.apart hc (Ne.symm he) e2.symm
theorem Own.form (h:Own w base e sz v rs):∃A c,v=.slice A rs.length c∧rs.length≤c∧c≤maxLen∧(A=none→c=0):=by
 rcases h.1.2 with ⟨rfl,h0⟩ | ⟨g,cap,cur,rfl,h2,h3,h4,h5,_⟩
 · exact ⟨none,0,by rw [h0],by omega,Nat.zero_le _,fun _=>rfl⟩
 · exact ⟨_,cap,rfl,h4,h5,fun e=>by cases e⟩
theorem Own.one (h:Own w base e sz v rs):v.oneCell'=true:=by
 obtain ⟨A,c,rfl,_⟩:=h.form
 rfl
theorem Own.at_ (h:Own w base e sz v rs) {i:Nat} {r:List Value} (hr:rs[i]? = some r):∃g c,v=.slice (some ⟨g,0,none⟩) rs.length c∧v.ownBlock=some g∧base≤g∧g<w.heap.size∧rs.length≤c∧c≤maxLen ∧
 (∀j,j<sz→w.cell? ⟨g,i * sz+j,none⟩=r[j]?)∧∀j,w.frozen? ⟨g,j,none⟩=false:=by
 have hi:i<rs.length:=(List.getElem?_eq_some_iff.1 hr).1
 rcases h.1.2 with ⟨rfl,h0⟩ | ⟨g,cap,cur,rfl,h2,h3,h4,h5,h6,h7⟩
 · omega
 · have h3:Whole w g e cur:=h3
   refine ⟨g,cap,rfl,rfl,h2,h3.lt,h4,h5,fun j hj=> ?_,fun j=>h3.frz j⟩
   have hf:=flatten_at h.2 hr hj
   have hjr:j<r.length:=by rw [h.2 r (List.mem_of_getElem? hr)];exact hj
   have hx:=List.getElem?_eq_getElem hjr
   rw [hx] at hf ⊢
   rw [h3.cell]
   exact take_get h7 hf
theorem Own.put (h:Own w base e sz v rs) {g:Nat} (hg:v.ownBlock=some g) {i j:Nat} {r:List Value} (hr:rs[i]? = some r) (hj:j<sz) (u:Value):Own (w.setCell ⟨g,i * sz+j,none⟩ u) base e sz v (rs.set i (r.set j u)):=by
 have hi:i<rs.length:=(List.getElem?_eq_some_iff.1 hr).1
 have hlen:∀q∈rs.set i (r.set j u),q.length=sz:=fun q hq=>by
  rcases List.mem_or_eq_of_mem_set hq with hq | rfl
  · exact h.2 q hq
  · rw [List.length_set];exact h.2 r (List.mem_of_getElem? hr)
 refine ⟨⟨by rw [flatten_len hlen],?_⟩,hlen⟩
 rcases h.1.2 with ⟨rfl,h0⟩ | ⟨g',cap,cur,rfl,h2,h3,h4,h5,h6,h7⟩
 · cases hg
 · have:g'=g:=by simpa [Value.ownBlock] using hg
   subst this
   have h3:Whole w g' e cur:=h3
   refine .inr ⟨g',cap,_,by rw [List.length_set],h2,h3.set _ u,by rw [List.length_set];exact h4,h5,by simpa using h6,?_⟩
   rw [List.length_set,←flatten_set h.2 u hr hj,←h7]
   have hlt:i * sz+j<rs.length * sz:=by
    have:=Nat.mul_le_mul_right sz hi
    rw [Nat.succ_mul] at this
    omega
   apply List.ext_getElem?
   intro k
   simp only [Array.toList_setIfInBounds]
   rw [List.getElem?_take,List.getElem?_set,List.getElem?_set,List.getElem?_take]
   by_cases hk:k<rs.length * sz
   · simp [hk]
     by_cases he:i * sz+j=k
     · subst he
       have h6':rs.length * sz≤cur.size:=by rw [h6];exact Nat.mul_le_mul_right sz h4
       have hs:i * sz+j<cur.size:=by omega
       have hm:i * sz+j<min (rs.length * sz) cur.size:=by omega
       simp [hs,hm]
     · simp [he]
   · simp [hk]
     intro he
     omega
theorem Own.rows {α:Type} {R:(Nat→Option Value)→α→Prop} {L:List α} (h:Own w base e sz v rs) {B:Nat} (hB:w.heap.size≤B) (hl:L.length=rs.length)
 (hR:∀(i:Nat) (r:List Value) (x:α) (f:Nat→Option Value),rs[i]? = some r→L[i]? = some x→(∀j,j<sz→f j=r[j]?)→R f x):Rows w B sz R v L:=by
 obtain ⟨A,c,hv,h1,h2,h3⟩:=h.form
 refine ⟨A,c,by rw [hl];exact hv,by omega,h2,h3,fun hn=> ?_⟩
 have h0:∃r0,rs[0]? = some r0:=⟨_,List.getElem?_eq_getElem (by omega)⟩
 obtain ⟨r0,hr0⟩:=h0
 obtain ⟨g,c',hv',hg,_,hlt,_⟩:=h.at_ hr0
 rw [hv'] at hv
 injection hv with e1 e2 e3
 subst e1
 refine ⟨_,rfl,Nat.lt_of_lt_of_le hlt hB,fun i x hx=> ?_⟩
 have hi:i<rs.length:=by rw [←hl];exact (List.getElem?_eq_some_iff.1 hx).1
 obtain ⟨g2,c2,hv2,hg2,_,_,_,_,hc,_⟩:=h.at_ (i:=i) (r:=rs[i]) (List.getElem?_eq_getElem hi)
 have:g2=g:=by rw [hg] at hg2;exact (Option.some.inj hg2).symm
 subst this
 refine hR i rs[i] x _ (List.getElem?_eq_getElem hi) hx fun j hj=> ?_
 rw [Addr.add_lit,Nat.zero_add]
 exact hc j hj
theorem run_appendE {T:TypeId} {z:Value} {by_:Nat} (ty:TypeId) (hT:Tryz.prog.underlying T=some (.slice e)) (hi:(Tryz.prog.info? e).map (fun i=>(i.zero,i.size,i.bytes))=some (some z,sz,by_)) (hz:z.cells.size=sz) (hsz:0<sz) (hown:Own w base e sz v rs) {g c:Nat} {r:List Value}
 (hg:Whole w g e r.toArray) (hrl:r.length=sz) (hu:∀u∈r,u.oneCell'=true) (h63:(rs.length+1) * by_≤140737488355328) (h64:rs.length+1≤140737488355328) (hbase:base≤w.heap.size) :
 ∃v' w',(Builtin.append_ #[T,T] ty #[v,.slice (some ⟨g,0,none⟩) 1 c]).run Tryz.prog w=.ok v' w'∧Own w' base e sz v' (rs++[r])∧w.grownBy w' v.ownBlock∧(v'.ownBlock=v.ownBlock∨v'.ownBlock=some w.heap.size):=by
 obtain ⟨i0,hi0,hz0,hz1,hz2⟩:=info_parts hi
 obtain ⟨v',w',hrun,h2,h3,_,h5⟩:=run_append_own_at (P:=Tryz.prog) w base T ty e i0 z sz by_ hT hi0 hz0 hz1 hz2 hz (by omega) v rs.length rs.flatten hown.1 ⟨g,0,none⟩ 1 c r (by rw [hrl,Nat.one_mul])
  (fun j y hj=>by
    rw [Addr.add_lit,Nat.zero_add,hg.cell]
    simpa using hj) hu (by unfold maxLen;omega) h63 hbase
 refine ⟨v',w',hrun,⟨?_,fun q hq=> ?_⟩,h3,h5⟩
 · rw [List.flatten_append,List.length_append]
   simpa using h2
 · rw [List.mem_append,List.mem_singleton] at hq
   rcases hq with hq | rfl
   · exact hown.2 q hq
   · exact hrl
theorem wp_appendE {o:Oper} {a:Act} {K:Act→World→Prop} {Q:Exit→Act→World→Prop} {T:TypeId} {z:Value} {by_:Nat} (s y:Operand) (ho:o.op=.call {callee:=.builtin .append,args:=#[s,y],argTypes:=#[T,T]})
 (hT:Tryz.prog.underlying T=some (.slice e)) (hi:(Tryz.prog.info? e).map (fun i=>(i.zero,i.size,i.bytes))=some (some z,sz,by_)) (hz:z.cells.size=sz) (hsz:0<sz) (hs:a.eval s=v) (hown:Own w base e sz v rs) {g c:Nat} (hy:a.eval y=.slice (some ⟨g,0,none⟩) 1 c) {r:List Value}
 (hg:Whole w g e r.toArray) (hrl:r.length=sz) (hu:∀u∈r,u.oneCell'=true) (h63:(rs.length+1) * by_≤140737488355328) (h64:rs.length+1≤140737488355328) (hbase:base≤w.heap.size)
 (h:∀v' w',Own w' base e sz v' (rs++[r])→w.grownBy w' v.ownBlock→(v'.ownBlock=v.ownBlock∨v'.ownBlock=some w.heap.size)→K (a.put o.dst v') w'):o.wp Tryz.prog a w K Q:=by
 obtain ⟨v',w',hrun,h2,h3,h4⟩:=run_appendE o.type hT hi hz hsz hown (c:=c) hg hrl hu h63 h64 hbase
 unfold Oper.wp execOp
 simp only [ho,resolve,invoke,builtin,Sem.run_bind,Sem.run_pure,Result.andThen_ok,List.map_toArray,List.map_cons,List.map_nil,hs,hy,hrun]
 exact h v' w' h2 h3 h4
theorem wpList_appendE {ops:Array Oper} {rest:List Oper} {o:Oper} {a:Act} {Q:Exit→Act→World→Prop} (hgd:o.guard=none) {T:TypeId} {z:Value} {by_:Nat} (s y:Operand) (ho:o.op=.call {callee:=.builtin .append,args:=#[s,y],argTypes:=#[T,T]})
 (hT:Tryz.prog.underlying T=some (.slice e)) (hi:(Tryz.prog.info? e).map (fun i=>(i.zero,i.size,i.bytes))=some (some z,sz,by_)) (hz:z.cells.size=sz) (hsz:0<sz) (hs:a.eval s=v) (hown:Own w base e sz v rs) {g c:Nat} (hy:a.eval y=.slice (some ⟨g,0,none⟩) 1 c) {r:List Value}
 (hg:Whole w g e r.toArray) (hrl:r.length=sz) (hu:∀u∈r,u.oneCell'=true) (h63:(rs.length+1) * by_≤140737488355328) (h64:rs.length+1≤140737488355328) (hbase:base≤w.heap.size)
 (h:∀v' w',Own w' base e sz v' (rs++[r])→w.grownBy w' v.ownBlock→(v'.ownBlock=v.ownBlock∨v'.ownBlock=some w.heap.size)→wpList Tryz.prog ops Q rest (a.put o.dst v') w'):wpList Tryz.prog ops Q (o :: rest) a w :=
 wpList_plain hgd fun _ hK=>wp_appendE s y ho hT hi hz hsz hs hown hy hg hrl hu h63 h64 hbase fun v' w' h2 h3 h4=>hK _ _ (h v' w' h2 h3 h4)
end
end Go.Proofs.YtgnpckelbokniaaGreatDoor
namespace Go.Proofs.YtgnpckelbokniaaGreatDoor
set_option linter.unusedVariables false
abbrev Tx:=List UInt8
def tx (s:ByteArray):Tx:=s.data.toList
def bs (l:Tx):ByteArray:=⟨l.toArray⟩
@[simp] theorem tx_bs (l:Tx):tx (bs l)=l:=by simp [tx,bs]
@[simp] theorem bs_tx (s:ByteArray):bs (tx s)=s:=Lib.mk_data s
theorem tx_length (s:ByteArray):(tx s).length=s.size:=(Lib.size_eq s).symm
theorem tx_inj {s t:ByteArray} (h:tx s=tx t):s=t:=by rw [←bs_tx s,←bs_tx t,h]
theorem tx_extract (s:ByteArray) (a b:Nat):tx (s.extract a b)=((tx s).drop a).take (b - a):=Lib.extract_data s a b
theorem toList_tx (s:ByteArray):s.toList=tx s:=Lib.toList_data s
theorem bs_size (l:Tx):(bs l).size=l.length:=by rw [←tx_length,tx_bs]
theorem tx_append (s t:ByteArray):tx (s++t)=tx s++tx t:=by
 obtain ⟨⟨l⟩⟩:=s
 obtain ⟨⟨k⟩⟩:=t
 simp [tx,ByteArray.data_append]
def cutS (sep:Tx):Tx→Tx×Tx×Bool
 | []=>if sep.isEmpty then ([],[],true) else ([],[],false)
 | c :: r=>if sep.isPrefixOf (c :: r) then ([],(c :: r).drop sep.length,true) else (c :: (cutS sep r).1,(cutS sep r).2.1,(cutS sep r).2.2)
theorem cutS_some (sep:Tx):∀s,(cutS sep s).2.2=true→s=(cutS sep s).1++sep++(cutS sep s).2.1
 | [],h=>by
   unfold cutS at h ⊢
   cases sep <;> simp at h ⊢
 | c :: r,h=>by
   unfold cutS at h ⊢
   by_cases hp:sep.isPrefixOf (c :: r)=true
   · rw [if_pos hp]
     obtain ⟨t,ht⟩:=List.isPrefixOf_iff_prefix.1 hp
     simp [←ht]
   · rw [if_neg hp] at h ⊢
     have:=cutS_some sep r h
     simp only [List.cons_append]
     rw [←this]
theorem cutS_none (sep:Tx):∀s,(cutS sep s).2.2=false→(cutS sep s).1=s∧(cutS sep s).2.1=[]
 | [],h=>by
   unfold cutS
   cases sep <;> simp
 | c :: r,h=>by
   unfold cutS at h ⊢
   by_cases hp:sep.isPrefixOf (c :: r)=true
   · rw [if_pos hp] at h
     cases h
   · rw [if_neg hp] at h ⊢
     have:=cutS_none sep r h
     simp only
     rw [this.1,this.2]
     exact ⟨rfl,rfl⟩
theorem cutS_len (sep:Tx) (s:Tx):(cutS sep s).1.length≤s.length∧(cutS sep s).2.1.length≤s.length:=by
 cases h:(cutS sep s).2.2 with
 | false=>rw [(cutS_none sep s h).1,(cutS_none sep s h).2];simp
 | true =>
   have:=congrArg List.length (cutS_some sep s h)
   simp at this
   omega
theorem cutS_clean {c0:UInt8} {t:Tx} (a b:Tx) (h:∀c∈a,c≠c0):cutS (c0 :: t) (a++(c0 :: t)++b)=(a,b,true):=by
 induction a with
 | nil =>
   simp only [List.nil_append,List.cons_append]
   unfold cutS
   rw [if_pos (by simp)]
   simp
 | cons c r ih =>
   have hc:=h c (by simp)
   have:=ih (fun d hd=>h d (by simp [hd]))
   simp only [List.cons_append] at this ⊢
   unfold cutS
   rw [if_neg (by simp [List.isPrefixOf,Ne.symm hc]),this]
theorem cutS_free {c0:UInt8} {t:Tx} (a:Tx) (h:∀c∈a,c≠c0):cutS (c0 :: t) a=(a,[],false):=by
 induction a with
 | nil=>rfl
 | cons c r ih =>
   have hc:=h c (by simp)
   have:=ih (fun d hd=>h d (by simp [hd]))
   unfold cutS
   rw [if_neg (by simp [List.isPrefixOf,Ne.symm hc]),this]
end Go.Proofs.YtgnpckelbokniaaGreatDoor
namespace Go.Proofs.YtgnpckelbokniaaGreatDoor
set_option linter.unusedVariables false
set_option linter.unusedSimpArgs false
structure AttrS where
 name:ByteArray
 value:ByteArray
structure PartS where
 line:ByteArray
 conn:ByteArray
 attrs:List AttrS
structure SesS where
 origin:ByteArray
 name:ByteArray
 time:ByteArray
 attrs:List AttrS
 parts:List PartS
instance:Inhabited ByteArray:=⟨ByteArray.empty⟩
instance:Inhabited AttrS:=⟨⟨bs [],bs []⟩⟩
instance:Inhabited PartS:=⟨⟨bs [],bs [],[]⟩⟩
def inVal (c:UInt8):Bool:=decide (32≤c.toNat) && decide (c.toNat≤126)
def inWd (c:UInt8):Bool:=(decide (97≤c.toNat) && decide (c.toNat≤122)) || (decide (65≤c.toNat) && decide (c.toNat≤90)) || (decide (48≤c.toNat) && decide (c.toNat≤57)) || c == 45 || c == 95
def valP (l:Tx):Bool:=l.all inVal && (decide (1≤l.length) && decide (l.length≤200))
def wordP (lo hi:Nat) (l:Tx):Bool:=l.all inWd && (decide (lo≤l.length) && decide (l.length≤hi))
def maybeP (l:Tx):Bool:=l.isEmpty || valP l
theorem wordP_in {lo hi:Nat} {l:Tx} (h:wordP lo hi l=true):∀c∈l,inWd c=true:=by
 unfold wordP at h
 rw [Bool.and_eq_true,List.all_eq_true] at h
 exact h.1
theorem wordP_len {lo hi:Nat} {l:Tx} (h:wordP lo hi l=true):lo≤l.length∧l.length≤hi:=by
 unfold wordP at h
 simp only [Bool.and_eq_true,decide_eq_true_eq] at h
 exact h.2
theorem inWd_not {c:UInt8} (h:inWd c=true):c≠13∧c≠58∧c≠32:=by
 unfold inWd at h
 refine ⟨?_,?_,?_⟩ <;> (intro e;subst e;simp at h)
def attrP (l:Tx):Option AttrS :=
 if wordP 1 32 (cutS [58] l).1 && (!(cutS [58] l).2.2 || valP (cutS [58] l).2.1) then some ⟨bs (cutS [58] l).1,bs (cutS [58] l).2.1⟩ else none
structure PSt where
 o:ByteArray
 n:ByteArray
 t:ByteArray
 attrs:List AttrS
 done:List PartS
 cur:Option PartS
def PSt.init:PSt:=⟨bs [],bs [],bs [],[],[],none⟩
def PSt.parts (st:PSt):List PartS:=st.done++st.cur.toList
def PSt.ses (st:PSt):SesS:=⟨st.o,st.n,st.t,st.attrs,st.parts⟩
def PSt.here (st:PSt):List AttrS:=match st.cur with
 | none=>st.attrs
 | some p=>p.attrs
def PSt.push (st:PSt) (a:AttrS):PSt:=match st.cur with
 | none=>{st with attrs:=st.attrs++[a]}
 | some p=>{st with cur:=some {p with attrs:=p.attrs++[a]}}
def PSt.part (st:PSt) (v:Tx):PSt:={st with done:=st.done++st.cur.toList,cur:=some ⟨bs v,bs [],[]⟩}
def PSt.conn (st:PSt) (v:Tx):PSt:=match st.cur with
 | none=>st
 | some p=>{st with cur:=some {p with conn:=bs v}}
def PSt.bare (st:PSt):Bool:=match st.cur with
 | none=>false
 | some p=>(tx p.conn).isEmpty && p.attrs.isEmpty
inductive Out where
 | go (st:PSt)
 | bad (e:Int)
def bodyP (st:PSt) (l:Tx):Out :=
 if l.take 2=[109,61] then
  if valP (l.drop 2) then (if 8≤st.parts.length then .bad 3 else .go (st.part (l.drop 2))) else .bad 2
 else if l.take 2=[99,61] then
  if valP (l.drop 2) && st.bare then .go (st.conn (l.drop 2)) else .bad 2
 else if l.take 2=[97,61] then
  match attrP (l.drop 2) with
  | none=>.bad 2
  | some a=>if 64≤st.here.length then .bad 3 else .go (st.push a)
 else .bad 2
def stepP (st:PSt) (k:Nat) (l:Tx):Out :=
 if k=1 then (if l.take 2=[118,61]∧l.drop 2=[48] then .go st else .bad 2)
 else if k=2 then (if l.take 2=[111,61]∧valP (l.drop 2)=true then .go {st with o:=bs (l.drop 2)} else .bad 2)
 else if k=3 then (if l.take 2=[115,61]∧valP (l.drop 2)=true then .go {st with n:=bs (l.drop 2)} else .bad 2)
 else if k=4 then (if l.take 2=[116,61]∧valP (l.drop 2)=true then .go {st with t:=bs (l.drop 2)} else .bad 2)
 else bodyP st l
inductive Res where
 | ok (x:SesS)
 | err (k:Nat) (e:Int)
abbrev crlf:Tx:=[13,10]
inductive Runs:PSt→Nat→Tx→Res→Prop
 | done {st:PSt} {k:Nat} (h:4<k):Runs st k [] (.ok st.ses)
 | torn {st:PSt} {k:Nat} {l:Tx} (h:¬(4<k∧l=[])) (hc:(cutS crlf l).2.2=false):Runs st k l (.err k 2)
 | bad {st:PSt} {k:Nat} {l a b:Tx} {e:Int} (hc:cutS crlf l=(a,b,true)) (hs:stepP st k a=.bad e):Runs st k l (.err k e)
 | step {st st':PSt} {k:Nat} {l a b:Tx} {r:Res} (hc:cutS crlf l=(a,b,true)) (hs:stepP st k a=.go st') (hr:Runs st' (k+1) b r):Runs st k l r
def Parsed (l:Tx) (r:Res):Prop:=(8192<l.length∧r=.err 0 3)∨(l.length≤8192∧Runs PSt.init 1 l r)
theorem Runs.one {st:PSt} {k:Nat} {l:Tx} {r r':Res} (h:Runs st k l r) (h':Runs st k l r'):r=r':=by
 induction h with
 | done h =>
   cases h' with
   | done _=>rfl
   | torn h1 _=>exact (h1 ⟨h,rfl⟩).elim
   | bad hc _=>simp [cutS] at hc
   | step hc _ _=>simp [cutS] at hc
 | torn h hc =>
   cases h' with
   | done h1=>exact (h ⟨h1,rfl⟩).elim
   | torn _ _=>rfl
   | bad hc' _=>rw [hc'] at hc;cases hc
   | step hc' _ _=>rw [hc'] at hc;cases hc
 | bad hc hs =>
   cases h' with
   | done _=>simp [cutS] at hc
   | torn _ hc'=>rw [hc] at hc';cases hc'
   | bad hc' hs' =>
     rw [hc] at hc'
     cases hc'
     rw [hs] at hs'
     cases hs'
     rfl
   | step hc' hs' _ =>
     rw [hc] at hc'
     cases hc'
     rw [hs] at hs'
     cases hs'
 | step hc hs hr ih =>
   cases h' with
   | done _=>simp [cutS] at hc
   | torn _ hc'=>rw [hc] at hc';cases hc'
   | bad hc' hs' =>
     rw [hc] at hc'
     cases hc'
     rw [hs] at hs'
     cases hs'
   | step hc' hs' hr' =>
     rw [hc] at hc'
     cases hc'
     rw [hs] at hs'
     cases hs'
     exact ih hr'
theorem Parsed.one {l:Tx} {r r':Res} (h:Parsed l r) (h':Parsed l r'):r=r':=by
 rcases h with ⟨h,rfl⟩ | ⟨h,hr⟩
 · rcases h' with ⟨_,rfl⟩ | ⟨h1,_⟩
   · rfl
   · omega
 · rcases h' with ⟨h1,_⟩ | ⟨_,hr'⟩
   · omega
   · exact hr.one hr'
def okAt (a:AttrS):Bool:=wordP 1 32 (tx a.name) && maybeP (tx a.value)
def okA (L:List AttrS):Bool:=decide (L.length≤64) && L.all okAt
def okP (p:PartS):Bool:=valP (tx p.line) && maybeP (tx p.conn) && okA p.attrs
structure PSt.Ok (st:PSt) (k:Nat):Prop where
 o:2<k→valP (tx st.o)=true
 n:3<k→valP (tx st.n)=true
 t:4<k→valP (tx st.t)=true
 attrs:okA st.attrs=true
 parts:st.parts.length≤8
 each:∀p∈st.parts,okP p=true
 early:k≤4→st.attrs=[]∧st.parts=[]
 first:st.cur=none→st.done=[]
theorem PSt.Ok.here {st:PSt} {k:Nat} (h:st.Ok k):okA st.here=true:=by
 unfold PSt.here
 cases hc:st.cur with
 | none=>exact h.attrs
 | some p =>
   have:=h.each p (by simp [PSt.parts,hc])
   unfold okP at this
   rw [Bool.and_eq_true] at this
   exact this.2
inductive Steps:PSt→Nat→List Tx→PSt→Prop
 | nil {st:PSt} {k:Nat}:Steps st k [] st
 | cons {st st' st2:PSt} {k:Nat} {a:Tx} {ls:List Tx} (hs:stepP st k a=.go st') (h:Steps st' (k+1) ls st2):Steps st k (a :: ls) st2
theorem Steps.append {st st' st2:PSt} {k:Nat} {a b:List Tx} (h:Steps st k a st') (h':Steps st' (k+a.length) b st2):Steps st k (a++b) st2:=by
 induction h with
 | nil=>simpa using h'
 | cons hs h ih =>
   refine .cons hs (ih ?_)
   rw [List.length_cons] at h'
   rwa [Nat.add_assoc,Nat.add_comm 1]
end Go.Proofs.YtgnpckelbokniaaGreatDoor
namespace Go.Proofs.YtgnpckelbokniaaGreatDoor
open Go.RowKit
set_option linter.unusedVariables false
set_option linter.unusedSimpArgs false
theorem ret_bool {a b:Bool} (h:a=b):Ending.returned (.bool a)=.returned (.bool b):=by rw [h]
set_option maxHeartbeats 800000 in
theorem inValue_any (c:UInt8) (w:World):Calls Tryz.prog 136 #[.int .u8 (c.toNat:Int)] w fun e w'=>e=.returned (.bool (inVal c))∧w=w':=by
 have hc:=c.toNat_lt
 have HE:Hid (inVal c=(decide (32≤c.toNat) && decide (c.toNat≤126))):=Lib.hid rfl
 generalize c.toNat=n at *
 by_cases h1:32≤n
 · have HR:Hid (decide ((n:Int)≤126)=inVal c):=Lib.hid (by rw [HE.out,Bool.eq_iff_iff];simp [h1];omega)
   have h1:(32:Int)≤(n:Int):=by omega
   clear HE
   go_enter Tryz.func136,Tryz.ntmps136
   go_wp2
   go_ret
   exact ⟨ret_bool HR.out,rfl⟩
 · have HR:Hid (inVal c=false):=Lib.hid (by rw [HE.out];simp [h1])
   have h1:(n:Int)<32:=by omega
   clear HE
   go_enter Tryz.func136,Tryz.ntmps136
   go_wp2
   go_ret
   exact ⟨ret_bool HR.out.symm,rfl⟩
set_option maxHeartbeats 1600000 in
theorem inWord_any (c:UInt8) (w:World):Calls Tryz.prog 146 #[.int .u8 (c.toNat:Int)] w fun e w'=>e=.returned (.bool (inWd c))∧w=w':=by
 have hc:=c.toNat_lt
 have HE:Hid (inWd c=((decide (97≤c.toNat) && decide (c.toNat≤122)) || (decide (65≤c.toNat) && decide (c.toNat≤90)) || (decide (48≤c.toNat) && decide (c.toNat≤57)) || decide (c.toNat=45) || decide (c.toNat=95))):=Lib.hid (by
  unfold inWd
  have e1:(c == 45)=decide (c.toNat=45):=by rw [Bool.eq_iff_iff];simp [←UInt8.toNat_inj]
  have e2:(c == 95)=decide (c.toNat=95):=by rw [Bool.eq_iff_iff];simp [←UInt8.toNat_inj]
  rw [e1,e2])
 generalize c.toNat=n at *
 have hn:(0:Int)≤(n:Int):=by omega
 by_cases h1:(97≤n∧n≤122)∨(65≤n∧n≤90)∨(48≤n∧n≤57)
 · have HR:Hid (inWd c=true):=Lib.hid (by rw [HE.out];simp;omega)
   clear HE
   rcases h1 with ⟨ha,hb⟩ | ⟨ha,hb⟩ | ⟨ha,hb⟩
   all_goals
    go_enter Tryz.func146,Tryz.ntmps146
    go_wp2
    all_goals first
     | (exfalso;omega)
     | (go_ret;exact ⟨ret_bool HR.out.symm,rfl⟩)
 · by_cases h2:n=45
   · have HR:Hid (inWd c=true):=Lib.hid (by rw [HE.out];simp [h2])
     clear HE h1
     subst h2
     go_enter Tryz.func146,Tryz.ntmps146
     go_wp2
     go_ret
     exact ⟨ret_bool HR.out.symm,rfl⟩
   · have HR:Hid (((n:Int) == 95)=inWd c):=Lib.hid (by rw [HE.out,Bool.eq_iff_iff];simp;omega)
     clear HE
     have h3:((n:Int) == 45)=false:=by rw [beq_eq_false_iff_ne];omega
     go_enter Tryz.func146,Tryz.ntmps146
     go_wp2
     all_goals first
      | (exfalso;omega)
      | (go_ret;exact ⟨ret_bool HR.out,rfl⟩)
set_option maxHeartbeats 800000 in
theorem allValue_any (s:ByteArray) (w:World) (hs:s.size≤maxLen):Calls Tryz.prog 135 #[.string s,.func (.func 136) #[] #[]] w fun e w'=>e=.returned (.bool ((tx s).all inVal))∧w=w':=by
 unfold maxLen at hs
 have HC:Hid (∀c W,Calls Tryz.prog 136 #[.int .u8 ((c:UInt8).toNat:Int)] W fun e w'=>e=.returned (.bool (inVal c))∧W=w'):=Lib.hid fun c W=>inValue_any c W
 have HT:Hid (∀k,s.size≤k→(tx s).take k=tx s):=Lib.hid fun k hk=>List.take_of_length_le (by rw [tx_length];exact hk)
 go_enter Tryz.func135,Tryz.ntmps135
 go_wp2
 go_loop [8] (fun i=>∃k:Nat,k≤s.size∧i=.int .i64 k∧((tx s).take k).all inVal=true) (fun i=>s.size - (intOf i).toNat)
 case atStart=>exact ⟨0,Nat.zero_le _,rfl,rfl⟩
 case round =>
  obtain ⟨k,hk,rfl,hall⟩:=hrel
  have HA:=Lib.hid hall
  clear hall
  by_cases hlt:k<s.size
  · have HN:Hid ((tx s).take (k+1)=(tx s).take k++[s[k]]):=Lib.hid (by
     have hk':k<(tx s).length:=by rw [tx_length];exact hlt
     rw [List.take_succ_eq_append_getElem hk']
     rfl)
    have HM:Hid (s[k]∈tx s):=Lib.hid (by
     have hk':k<(tx s).length:=by rw [tx_length];exact hlt
     exact List.getElem_mem (l:=tx s) hk')
    obtain ⟨b,hb⟩:∃b,inVal s[k]=b:=⟨_,rfl⟩
    have HB:=Lib.hid hb
    have HCC:=Lib.hid (HC.out s[k])
    rw [hb] at HCC
    clear hb
    cases b with
    | true =>
      go_wp2_with (go_at_call 136;(with_reducible refine (HCC.out _).mono ?_);rintro e w' ⟨rfl,rfl⟩)
      go_round
      case rel=>exact ⟨k+1,by omega,by go_num,by rw [HN.out,List.all_append,HA.out];simp [HB.out]⟩
      case measure=>simp [intOf];omega
    | false =>
      have HR:Hid ((tx s).all inVal=false):=Lib.hid (by
       rw [Bool.eq_false_iff]
       intro h
       rw [List.all_eq_true] at h
       have:=h _ HM.out
       rw [HB.out] at this
       cases this)
      go_wp2_with (go_at_call 136;(with_reducible refine (HCC.out _).mono ?_);rintro e w' ⟨rfl,rfl⟩)
      go_ret
      exact ⟨ret_bool HR.out.symm,rfl⟩
  · have HR:Hid ((tx s).all inVal=true):=Lib.hid (by have:=HA.out;rwa [HT.out k (by omega)] at this)
    go_wp2
    go_ret
    exact ⟨ret_bool HR.out.symm,rfl⟩
set_option maxHeartbeats 800000 in
theorem allWord_any (s:ByteArray) (w:World) (hs:s.size≤maxLen):Calls Tryz.prog 135 #[.string s,.func (.func 146) #[] #[]] w fun e w'=>e=.returned (.bool ((tx s).all inWd))∧w=w':=by
 unfold maxLen at hs
 have HC:Hid (∀c W,Calls Tryz.prog 146 #[.int .u8 ((c:UInt8).toNat:Int)] W fun e w'=>e=.returned (.bool (inWd c))∧W=w'):=Lib.hid fun c W=>inWord_any c W
 have HT:Hid (∀k,s.size≤k→(tx s).take k=tx s):=Lib.hid fun k hk=>List.take_of_length_le (by rw [tx_length];exact hk)
 go_enter Tryz.func135,Tryz.ntmps135
 go_wp2
 go_loop [8] (fun i=>∃k:Nat,k≤s.size∧i=.int .i64 k∧((tx s).take k).all inWd=true) (fun i=>s.size - (intOf i).toNat)
 case atStart=>exact ⟨0,Nat.zero_le _,rfl,rfl⟩
 case round =>
  obtain ⟨k,hk,rfl,hall⟩:=hrel
  have HA:=Lib.hid hall
  clear hall
  by_cases hlt:k<s.size
  · have HN:Hid ((tx s).take (k+1)=(tx s).take k++[s[k]]):=Lib.hid (by
     have hk':k<(tx s).length:=by rw [tx_length];exact hlt
     rw [List.take_succ_eq_append_getElem hk']
     rfl)
    have HM:Hid (s[k]∈tx s):=Lib.hid (by
     have hk':k<(tx s).length:=by rw [tx_length];exact hlt
     exact List.getElem_mem (l:=tx s) hk')
    obtain ⟨b,hb⟩:∃b,inWd s[k]=b:=⟨_,rfl⟩
    have HB:=Lib.hid hb
    have HCC:=Lib.hid (HC.out s[k])
    rw [hb] at HCC
    clear hb
    cases b with
    | true =>
      go_wp2_with (go_at_call 146;(with_reducible refine (HCC.out _).mono ?_);rintro e w' ⟨rfl,rfl⟩)
      go_round
      case rel=>exact ⟨k+1,by omega,by go_num,by rw [HN.out,List.all_append,HA.out];simp [HB.out]⟩
      case measure=>simp [intOf];omega
    | false =>
      have HR:Hid ((tx s).all inWd=false):=Lib.hid (by
       rw [Bool.eq_false_iff]
       intro h
       rw [List.all_eq_true] at h
       have:=h _ HM.out
       rw [HB.out] at this
       cases this)
      go_wp2_with (go_at_call 146;(with_reducible refine (HCC.out _).mono ?_);rintro e w' ⟨rfl,rfl⟩)
      go_ret
      exact ⟨ret_bool HR.out.symm,rfl⟩
  · have HR:Hid ((tx s).all inWd=true):=Lib.hid (by have:=HA.out;rwa [HT.out k (by omega)] at this)
    go_wp2
    go_ret
    exact ⟨ret_bool HR.out.symm,rfl⟩
set_option maxHeartbeats 400000 in
theorem between_any (n:Nat) (m:Int) (w:World) (hn:n≤maxLen):Calls Tryz.prog 134 #[.int .i64 n,.int .i64 m] w fun e w'=>e=.returned (.bool (decide (1≤n) && decide ((n:Int)≤m)))∧w=w':=by
 unfold maxLen at hn
 by_cases h1:1≤n
 · have HR:Hid (decide ((n:Int)≤m)=(decide (1≤n) && decide ((n:Int)≤m))):=Lib.hid (by simp [h1])
   have h1:(1:Int)≤(n:Int):=by omega
   go_enter Tryz.func134,Tryz.ntmps134
   go_wp2
   go_ret
   exact ⟨ret_bool HR.out,rfl⟩
 · obtain ⟨r,hr⟩:∃r,(decide (1≤n) && decide ((n:Int)≤m))=r:=⟨_,rfl⟩
   have HR:Hid (r=false):=Lib.hid (by rw [←hr];simp [h1])
   rw [hr]
   clear hr
   have h1:(n:Int)<1:=by omega
   go_enter Tryz.func134,Tryz.ntmps134
   go_wp2
   go_ret
   exact ⟨ret_bool HR.out.symm,rfl⟩
set_option maxHeartbeats 800000 in
theorem value_any (s:ByteArray) (w:World) (hs:s.size≤maxLen):Calls Tryz.prog 78 #[.string s] w fun e w'=>e=.returned (.bool (valP (tx s)))∧w=w':=by
 have HA:=Lib.hid (allValue_any s w hs)
 have HB:=Lib.hid (between_any s.size 200 w hs)
 have HE:Hid (valP (tx s)=((tx s).all inVal && (decide (1≤s.size) && decide ((s.size:Int)≤200)))):=Lib.hid (by
  show ((tx s).all _ && (decide (1≤(tx s).length) && decide ((tx s).length≤200)))=_
  rw [tx_length]
  have:decide (s.size≤200)=decide ((s.size:Int)≤200):=by rw [Bool.eq_iff_iff];simp;omega
  rw [this])
 generalize valP (tx s)=r at *
 generalize (tx s).all inVal=y at *
 generalize hb:(decide (1≤s.size) && decide ((s.size:Int)≤200))=b at *
 clear hb
 unfold maxLen at hs
 cases b with
 | true =>
   have HR:Hid (y=r):=Lib.hid (by rw [HE.out];simp)
   go_enter Tryz.func78,Tryz.ntmps78
   go_wp2_with (first | (go_at_call 134;(with_reducible refine HB.out.mono ?_);rintro e w' ⟨rfl,rfl⟩) | (go_at_call 135;(with_reducible refine HA.out.mono ?_);rintro e w' ⟨rfl,rfl⟩))
   go_ret
   exact ⟨ret_bool HR.out,rfl⟩
 | false =>
   have HR:Hid (false=r):=Lib.hid (by rw [HE.out];simp)
   go_enter Tryz.func78,Tryz.ntmps78
   go_wp2_with (go_at_call 134;(with_reducible refine HB.out.mono ?_);rintro e w' ⟨rfl,rfl⟩)
   go_ret
   exact ⟨ret_bool HR.out,rfl⟩
set_option maxHeartbeats 800000 in
theorem word_any (s:ByteArray) (w:World) (hs:s.size≤maxLen):Calls Tryz.prog 93 #[.string s] w fun e w'=>e=.returned (.bool (wordP 1 32 (tx s)))∧w=w':=by
 have HA:=Lib.hid (allWord_any s w hs)
 have HB:=Lib.hid (between_any s.size 32 w hs)
 have HE:Hid (wordP 1 32 (tx s)=((tx s).all inWd && (decide (1≤s.size) && decide ((s.size:Int)≤32)))):=Lib.hid (by
  show ((tx s).all _ && (decide (1≤(tx s).length) && decide ((tx s).length≤32)))=_
  rw [tx_length]
  have:decide (s.size≤32)=decide ((s.size:Int)≤32):=by rw [Bool.eq_iff_iff];simp;omega
  rw [this])
 generalize wordP 1 32 (tx s)=r at *
 generalize (tx s).all inWd=y at *
 generalize hb:(decide (1≤s.size) && decide ((s.size:Int)≤32))=b at *
 clear hb
 unfold maxLen at hs
 cases b with
 | true =>
   have HR:Hid (y=r):=Lib.hid (by rw [HE.out];simp)
   go_enter Tryz.func93,Tryz.ntmps93
   go_wp2_with (first | (go_at_call 134;(with_reducible refine HB.out.mono ?_);rintro e w' ⟨rfl,rfl⟩) | (go_at_call 135;(with_reducible refine HA.out.mono ?_);rintro e w' ⟨rfl,rfl⟩))
   go_ret
   exact ⟨ret_bool HR.out,rfl⟩
 | false =>
   have HR:Hid (false=r):=Lib.hid (by rw [HE.out];simp)
   go_enter Tryz.func93,Tryz.ntmps93
   go_wp2_with (go_at_call 134;(with_reducible refine HB.out.mono ?_);rintro e w' ⟨rfl,rfl⟩)
   go_ret
   exact ⟨ret_bool HR.out,rfl⟩
theorem Tryz.sizeSPart:(Tryz.prog.info? 34).map (·.size)=some 3:=by kernel_rfl
theorem Tryz.infoSAttr:(Tryz.prog.info? 65).map (fun i=>(i.zero,i.size,i.bytes))=some (some (.agg #[.string ⟨#[]⟩,.string ⟨#[]⟩]),2,32):=by kernel_rfl
theorem Tryz.infoStr:(Tryz.prog.info? 9).map (fun i=>(i.zero,i.size,i.bytes))=some (some (.string ⟨#[]⟩),1,16):=by kernel_rfl
def RAt (f:Nat→Option Value) (a:AttrS):Prop:=f 0=some (.string a.name)∧f 1=some (.string a.value)
def AttrsV (w:World) (B:Nat) (v:Value) (L:List AttrS):Prop:=Rows w B 2 RAt v L
def RPt (w:World) (B:Nat) (f:Nat→Option Value) (p:PartS):Prop:=f 0=some (.string p.line)∧f 1=some (.string p.conn)∧∃v,f 2=some v∧AttrsV w B v p.attrs
def PartsV (w:World) (B:Nat) (v:Value) (L:List PartS):Prop:=Rows w B 3 (RPt w B) v L
theorem AttrsV.below {w w':World} {B:Nat} {v:Value} {L:List AttrS} (h:AttrsV w B v L) (hb:Below B w w'):AttrsV w' B v L:=Rows.below h hb fun _ _ _ h=>h
theorem AttrsV.more {w:World} {B B':Nat} {v:Value} {L:List AttrS} (h:AttrsV w B v L) (hB:B≤B'):AttrsV w B' v L:=Rows.more h hB
theorem RPt.below {w w':World} {B:Nat} {f:Nat→Option Value} {p:PartS} (h:RPt w B f p) (hb:Below B w w'):RPt w' B f p:=by
 obtain ⟨h1,h2,v,h3,h4⟩:=h
 exact ⟨h1,h2,v,h3,h4.below hb⟩
theorem RPt.more {w:World} {B B':Nat} {f:Nat→Option Value} {p:PartS} (h:RPt w B f p) (hB:B≤B'):RPt w B' f p:=by
 obtain ⟨h1,h2,v,h3,h4⟩:=h
 exact ⟨h1,h2,v,h3,h4.more hB⟩
theorem PartsV.below {w w':World} {B:Nat} {v:Value} {L:List PartS} (h:PartsV w B v L) (hb:Below B w w'):PartsV w' B v L:=Rows.below h hb fun _ _ _ h=>h.below hb
theorem PartsV.more {w:World} {B B':Nat} {v:Value} {L:List PartS} (h:PartsV w B v L) (hB:B≤B'):PartsV w B' v L:=Rows.more (Rows.mono h fun _ _ _ h=>h.more hB) hB
theorem AttrsV.nil (w:World) (B:Nat):AttrsV w B (.slice none 0 0) []:=Rows.nil _ _ _ _
theorem PartsV.nil (w:World) (B:Nat):PartsV w B (.slice none 0 0) []:=Rows.nil _ _ _ _
theorem AttrsV.at_ {w:World} {B:Nat} {v:Value} {L:List AttrS} (h:AttrsV w B v L) {i:Nat} (hi:i<L.length):∃ad c,v=.slice (some ad) L.length c∧ad.block<B ∧
 w.cell? (ad.add (i * 2))=some (.string (L.getD i default).name)∧w.cell? ⟨(ad.add (i * 2)).block,(ad.add (i * 2)).off+1,none⟩=some (.string (L.getD i default).value):=by
 obtain ⟨ad,c,h1,h2,_,_,h3,h4⟩:=Rows.at_ h (List.getElem?_eq_getElem hi)
 have e:L.getD i default=L[i]:=by simp [List.getD,hi]
 rw [e]
 refine ⟨ad,c,h1,h2,h3,?_⟩
 rw [←add_next _ _ 1 (by decide)]
 exact h4
theorem PartsV.at_ {w:World} {B:Nat} {v:Value} {L:List PartS} (h:PartsV w B v L) {i:Nat} (hi:i<L.length):∃ad c va,v=.slice (some ad) L.length c∧ad.block<B ∧
 w.cell? (ad.add (i * 3))=some (.string (L.getD i default).line)∧w.cell? ⟨(ad.add (i * 3)).block,(ad.add (i * 3)).off+1,none⟩=some (.string (L.getD i default).conn) ∧
 w.cell? ⟨(ad.add (i * 3)).block,(ad.add (i * 3)).off+2,none⟩=some va∧AttrsV w B va (L.getD i default).attrs:=by
 obtain ⟨ad,c,h1,h2,_,_,h3,h4,va,h5,h6⟩:=Rows.at_ h (List.getElem?_eq_getElem hi)
 have e:L.getD i default=L[i]:=by simp [List.getD,hi]
 rw [e]
 refine ⟨ad,c,va,h1,h2,h3,?_,?_,h6⟩
 · rw [←add_next _ _ 1 (by decide)]
   exact h4
 · rw [←add_next _ _ 2 (by decide)]
   exact h5
structure SesV (w:World) (B:Nat) (M:Array Value) (x:SesS) (vA vP:Value):Prop where
 form:M=#[.string x.origin,.string x.name,.string x.time,vA,vP]
 attrs:AttrsV w B vA x.attrs
 parts:PartsV w B vP x.parts
theorem SesV.below {w w':World} {B:Nat} {M:Array Value} {x:SesS} {vA vP:Value} (h:SesV w B M x vA vP) (hb:Below B w w'):SesV w' B M x vA vP:=⟨h.form,h.attrs.below hb,h.parts.below hb⟩
theorem SesV.more {w:World} {B B':Nat} {M:Array Value} {x:SesS} {vA vP:Value} (h:SesV w B M x vA vP) (hB:B≤B'):SesV w B' M x vA vP:=⟨h.form,h.attrs.more hB,h.parts.more hB⟩
theorem SesV.under {w w':World} {M:Array Value} {x:SesS} {vA vP:Value} (h:SesV w w.heap.size M x vA vP) (hb:Below w.heap.size w w'):SesV w' w'.heap.size M x vA vP:=(h.below hb).more hb.size
theorem getD_of {α:Type} [Inhabited α] {L:List α} {i:Nat} (hi:i<L.length):L[i]? = some (L.getD i default):=by simp [List.getD,hi]
theorem getD_mem {α:Type} [Inhabited α] {L:List α} {i:Nat} (hi:i<L.length):L.getD i default∈L:=List.mem_of_getElem? (getD_of hi)
def acell (a:AttrS):List Value:=[.string a.name,.string a.value]
theorem attrs_read {L:List AttrS} (i:Nat) (r:List Value) (x:AttrS) (f:Nat→Option Value) (hr:(L.map acell)[i]? = some r) (hx:L[i]? = some x) (hf:∀j,j<2→f j=r[j]?):RAt f x:=by
 rw [List.getElem?_map,hx] at hr
 obtain rfl:acell x=r:=by simpa using hr
 exact ⟨hf 0 (by decide),hf 1 (by decide)⟩
theorem Own.reads {w:World} {base B:Nat} {e:TypeId} {v:Value} {L:List AttrS} (h:Own w base e 2 v (L.map acell)) (hB:w.heap.size≤B):AttrsV w B v L:=h.rows hB (by rw [List.length_map]) attrs_read
theorem AttrS.ext' {a b:AttrS} (h1:a.name=b.name) (h2:a.value=b.value):a=b:=by cases a;cases b;simp_all
theorem toList_beq {a b:ByteArray}:(a.toList == b.toList)=true↔a=b:=by
 rw [beq_iff_eq,toList_tx,toList_tx]
 exact ⟨tx_inj,fun h=>by rw [h]⟩
def SameB {α:Type} (w:World) (x y:α) (e:Ending) (w':World):Prop:=∃b,e=.returned (.bool b)∧(b=true↔x=y)∧Below w.heap.size w w'
theorem AttrsV.form {w:World} {B:Nat} {v:Value} {L:List AttrS} (h:AttrsV w B v L):∃A c,v=.slice A L.length c∧L.length≤c∧c≤maxLen∧(A=none→c=0):=Rows.form h
theorem list_same {α:Type} {L M:List α} (hl:L.length=M.length) (h:∀j,j<L.length→L[j]? = M[j]?):L=M:=by
 apply List.ext_getElem?
 intro j
 by_cases hj:j<L.length
 · exact h j hj
 · rw [List.getElem?_eq_none (by omega),List.getElem?_eq_none (by omega)]
theorem PartS.ext' {a b:PartS} (h1:a.line=b.line) (h2:a.conn=b.conn) (h3:a.attrs=b.attrs):a=b:=by cases a;cases b;simp_all
end Go.Proofs.YtgnpckelbokniaaGreatDoor
namespace Go.Proofs.YtgnpckelbokniaaGreatDoor
set_option linter.unusedVariables false
set_option linter.unusedSimpArgs false
abbrev nMid:Tx:=[109,105,100]
abbrev nInactive:Tx:=[105,110,97,99,116,105,118,101]
abbrev nSendonly:Tx:=[115,101,110,100,111,110,108,121]
abbrev nRecvonly:Tx:=[114,101,99,118,111,110,108,121]
abbrev nSendrecv:Tx:=[115,101,110,100,114,101,99,118]
abbrev nCodec:Tx:=[114,116,112,109,97,112]
abbrev nFormat:Tx:=[102,109,116,112]
abbrev nFeedback:Tx:=[114,116,99,112,45,102,98]
abbrev nExt:Tx:=[101,120,116,109,97,112]
abbrev nRid:Tx:=[114,105,100]
abbrev nSimulcast:Tx:=[115,105,109,117,108,99,97,115,116]
abbrev nSource:Tx:=[115,115,114,99]
abbrev nCrypto:Tx:=[99,114,121,112,116,111]
abbrev nSctp:Tx:=[115,99,116,112,45,112,111,114,116]
abbrev wAudio:Tx:=[97,117,100,105,111]
abbrev wVideo:Tx:=[118,105,100,101,111]
abbrev wApplication:Tx:=[97,112,112,108,105,99,97,116,105,111,110]
abbrev wStreams:Tx:=[82,84,80,47,83,65,86,80,70]
abbrev wChannel:Tx:=[85,68,80,47,83,67,84,80,32,119,101,98,114,116,99,45,100,97,116,97,99,104,97,110,110,101,108]
abbrev wConn:Tx:=[73,78,32,73,80,52,32,48,46,48,46,48,46,48]
abbrev wSend:Tx:=[115,101,110,100]
abbrev wRecv:Tx:=[114,101,99,118]
abbrev wInline:Tx:=[32,65,69,83,95,67,77,95,49,50,56,95,72,77,65,67,95,83,72,65,49,95,56,48,32,105,110,108,105,110,101,58]
abbrev wSuite:Tx:=[65,69,83,95,67,77,95,49,50,56,95,72,77,65,67,95,83,72,65,49,95,56,48]
abbrev wLetters:Tx:=[65,66,67,68,69,70,71,72,73,74,75,76,77,78,79,80,81,82,83,84,85,86,87,88,89,90,97,98,99,100,101,102,103,104,105,106,107,108,109,110,111,112,113,114,115,116,117,118,119,120,121,122,48,49,50,51,52,53,54,55,56,57,43,47]
structure CodecS where
 type:Int
 name:ByteArray
 clock:Int
 chans:Int
 format:ByteArray
 feedback:List ByteArray
structure ExtS where
 id:Int
 uri:ByteArray
structure CryptoS where
 tag:Int
 key:Tx
structure MediaS where
 kind:Int
 port:Int
 mid:ByteArray
 dir:Int
 codecs:List CodecS
 exts:List ExtS
 rids:List ByteArray
 sending:Bool
 sources:List Nat
 crypto:List CryptoS
 sctp:Int
instance:Inhabited CodecS:=⟨⟨0,bs [],0,0,bs [],[]⟩⟩
instance:Inhabited ExtS:=⟨⟨0,bs []⟩⟩
instance:Inhabited CryptoS:=⟨⟨0,[]⟩⟩
def MediaS.zero:MediaS:=⟨0,0,bs [],0,[],[],[],false,[],[],0⟩
def dec (n:Nat):Tx:=if h:n<10 then [UInt8.ofNat (48+n)] else dec (n / 10)++[UInt8.ofNat (48+n % 10)]
termination_by n
decreasing_by omega
def decI (n:Int):Tx:=dec n.toNat
theorem dec_digit (n:Nat):∀c∈dec n,48≤c.toNat∧c.toNat≤57:=by
 induction n using Nat.strongRecOn with
 | _ n ih =>
   intro c hc
   unfold dec at hc
   split at hc
   · next h =>
     rw [List.mem_singleton] at hc
     subst hc
     rw [UInt8.toNat_ofNat']
     omega
   · next h =>
     rw [List.mem_append,List.mem_singleton] at hc
     rcases hc with hc | rfl
     · exact ih (n / 10) (by omega) c hc
     · rw [UInt8.toNat_ofNat']
       omega
theorem dec_ne (n:Nat):dec n≠[]:=by
 unfold dec
 split <;> simp
theorem dec_free (n:Nat) (d:UInt8) (hd:d.toNat<48∨57<d.toNat):∀c∈dec n,c≠d:=fun c hc e=>by
 have:=dec_digit n c hc
 subst e
 omega
theorem decI_free (n:Int) (d:UInt8) (hd:d.toNat<48∨57<d.toNat):∀c∈decI n,c≠d:=dec_free _ d hd
def plainP (l:Tx):Bool:=valP l && decide (l.length≤100) && !(l.head? == some 32) && !(l.getLast? == some 32)
def uriP (l:Tx):Bool:=valP l && decide (l.length≤100) && l.all (fun c=>c != 32)
def goodC (c:CodecS):Bool :=
 decide (0≤c.type) && decide (c.type≤127) && wordP 1 32 (tx c.name) && decide (1≤c.clock) && decide (c.clock≤1000000) && decide (1≤c.chans) && decide (c.chans≤2) &&
  ((tx c.format).isEmpty || plainP (tx c.format)) && (decide (c.feedback.length≤8) && c.feedback.all fun f=>plainP (tx f))
def goodE (x:ExtS):Bool:=decide (1≤x.id) && decide (x.id≤14) && uriP (tx x.uri)
def goodR (s:ByteArray):Bool:=wordP 1 8 (tx s)
def goodY (c:CryptoS):Bool:=decide (1≤c.tag) && decide (c.tag≤9)
def unlike {α κ:Type} [DecidableEq κ] (f:α→κ) (L:List α):Bool:=decide (L.map f).Nodup
def goodStreams (m:MediaS):Bool :=
 decide (1≤m.codecs.length) && (decide (m.codecs.length≤16) && m.codecs.all goodC && unlike CodecS.type m.codecs) &&
  (decide (m.exts.length≤14) && m.exts.all goodE && unlike ExtS.id m.exts) &&
  (decide (m.rids.length≤3) && m.rids.all goodR && unlike tx m.rids) &&
  (decide (1≤m.rids.length) || !m.sending) &&
  (decide (m.sources.length≤16) && unlike id m.sources) &&
  (decide (m.crypto.length≤1) && m.crypto.all goodY) &&
  decide (m.sctp=0)
def goodChannel (m:MediaS):Bool :=
 decide (m.codecs.length+m.exts.length+m.rids.length+m.sources.length+m.crypto.length=0) && !m.sending && decide (1≤m.sctp) && decide (m.sctp≤65535)
def goodHead (m:MediaS):Bool:=(decide (m.port=0) || decide (m.port=9)) && wordP 1 16 (tx m.mid) && decide (0≤m.dir) && decide (m.dir≤3)
def goodM (m:MediaS):Bool:=goodHead m && ((decide (m.kind=1) || decide (m.kind=2)) && goodStreams m || decide (m.kind=3) && goodChannel m)
def letter (v:Nat):UInt8:=wLetters.getD v 0
def enc3 (a b c:UInt8):Tx:=let n:=a.toNat * 65536+b.toNat * 256+c.toNat;[letter (n / 262144),letter (n / 4096 % 64),letter (n / 64 % 64),letter (n % 64)]
def encK:Tx→Tx
 | a :: b :: c :: r=>enc3 a b c++encK r
 | _=>[]
def kindW (k:Int):Tx:=if k=1 then wAudio else if k=2 then wVideo else wApplication
def dirW (d:Int):Tx:=if d=1 then nSendonly else if d=2 then nRecvonly else if d=3 then nSendrecv else nInactive
def wayW (b:Bool):Tx:=if b then wSend else wRecv
def typesT (L:List CodecS):Tx:=L.flatMap fun c=>32 :: decI c.type
def lineM (m:MediaS):Tx:=kindW m.kind++32 :: (decI m.port++32 :: (if m.kind=3 then wChannel else wStreams++typesT m.codecs))
def codecT (c:CodecS):Tx:=decI c.type++32 :: (tx c.name++47 :: (decI c.clock++(if c.chans=2 then [47,50] else [])))
def headT (n:Int) (t:Tx):Tx:=decI n++32 :: t
def formatA (c:CodecS):List AttrS:=if (tx c.format).isEmpty then [] else [⟨bs nFormat,bs (headT c.type (tx c.format))⟩]
def attrsC (c:CodecS):List AttrS:=⟨bs nCodec,bs (codecT c)⟩ :: (formatA c++c.feedback.map fun f=>⟨bs nFeedback,bs (headT c.type (tx f))⟩)
def attrE (x:ExtS):AttrS:=⟨bs nExt,bs (headT x.id (tx x.uri))⟩
def attrR (b:Bool) (r:ByteArray):AttrS:=⟨bs nRid,bs (tx r++32 :: wayW b)⟩
def semi:List ByteArray→Tx
 | []=>[]
 | [a]=>tx a
 | a :: r=>tx a++59 :: semi r
def attrsR (b:Bool) (L:List ByteArray):List AttrS:=L.map (attrR b)++(if L.isEmpty then [] else [⟨bs nSimulcast,bs (wayW b++32 :: semi L)⟩])
def attrO (n:Nat):AttrS:=⟨bs nSource,bs (dec n)⟩
def cryptoT (c:CryptoS):Tx:=decI c.tag++(wInline++encK c.key)
def attrY (c:CryptoS):AttrS:=⟨bs nCrypto,bs (cryptoT c)⟩
def attrsM (m:MediaS):List AttrS :=
 ⟨bs nMid,m.mid⟩ :: ⟨bs (dirW m.dir),bs []⟩ :: (m.codecs.flatMap attrsC++(m.exts.map attrE++(attrsR m.sending m.rids++(m.sources.map attrO++(m.crypto.map attrY++(if m.kind=3 then [⟨bs nSctp,bs (decI m.sctp)⟩] else []))))))
def partM (m:MediaS):PartS:=⟨bs (lineM m),bs wConn,attrsM m⟩
def mayM (m:MediaS):Bool:=goodM m && decide ((attrsM m).length≤64)
structure Rdr where
 num:Tx→Int
 src:Tx→Nat
 cry:Tx→CryptoS
 still:Int→Int
structure Rdr.Law (R:Rdr):Prop where
 num:∀n,n≤1000000→R.num (dec n)=n
 src:∀n,n<4294967296→R.src (dec n)=n
 cry:∀c,1≤c.tag→c.tag≤9→c.key.length=30→R.cry (cryptoT c)=c
 still:R.still 0=0
theorem Rdr.Law.numI {R:Rdr} (h:R.Law) {n:Int} (h0:0≤n) (h1:n≤1000000):R.num (decI n)=n:=by
 unfold decI
 rw [h.num _ (by omega)]
 omega
def hd (l:Tx):Tx:=(cutS [32] l).1
def tl (l:Tx):Tx:=(cutS [32] l).2.1
def kindOf (l:Tx):Int:=if l=wAudio then 1 else if l=wVideo then 2 else if l=wApplication then 3 else 0
def startM (R:Rdr) (line:Tx):MediaS:={MediaS.zero with kind:=kindOf (hd line),port:=R.num (hd (tl line))}
def codecOf (R:Rdr) (v:Tx):CodecS :=
 let rest:=cutS [47] (tl v)
 let more:=cutS [47] rest.2.1
 ⟨R.num (hd v),bs rest.1,R.num more.1,if more.2.1=[50] then 2 else 1,bs [],[]⟩
def onLast (f:CodecS→CodecS) (L:List CodecS):List CodecS:=match L.getLast? with
 | none=>L
 | some c=>L.dropLast++[f c]
def rd (R:Rdr) (m:MediaS) (a:AttrS):MediaS :=
 let n:=tx a.name
 let v:=tx a.value
 if n=nMid then {m with mid:=a.value}
 else if n=nCodec then {m with codecs:=m.codecs++[codecOf R v]}
 else if n=nFormat then {m with codecs:=onLast (fun c=>{c with format:=bs (tl v)}) m.codecs}
 else if n=nFeedback then {m with codecs:=onLast (fun c=>{c with feedback:=c.feedback++[bs (tl v)]}) m.codecs}
 else if n=nExt then {m with exts:=m.exts++[⟨R.num (hd v),bs (tl v)⟩]}
 else if n=nRid then {m with rids:=m.rids++[bs (hd v)],sending:=decide (tl v=wSend)}
 else if n=nSimulcast then m
 else if n=nSource then {m with sources:=m.sources++[R.src v]}
 else if n=nCrypto then {m with crypto:=m.crypto++[R.cry v]}
 else if n=nSctp then {m with sctp:=R.num v}
 else if n=nInactive then {m with dir:=R.still m.dir}
 else if n=nSendonly then {m with dir:=1}
 else if n=nRecvonly then {m with dir:=2}
 else if n=nSendrecv then {m with dir:=3}
 else m
def knownN:List Tx:=[nMid,nInactive,nSendonly,nRecvonly,nSendrecv,nCodec,nFormat,nFeedback,nExt,nRid,nSimulcast,nSource,nCrypto,nSctp]
def known (a:AttrS):Bool:=knownN.contains (tx a.name)
def readM (R:Rdr) (p:PartS):MediaS:=(p.attrs.filter known).foldl (rd R) (startM R (tx p.line))
def IsM (p:PartS) (m:MediaS):Prop:=mayM m=true∧lineM m=tx p.line∧p.conn=bs wConn∧attrsM m=p.attrs.filter known
section
variable {R:Rdr}
theorem cut_at {c0:UInt8} (a b:Tx) (h:∀c∈a,c≠c0):cutS [c0] (a++c0 :: b)=(a,b,true):=by
 have:=cutS_clean (c0:=c0) (t:=[]) a b h
 simpa using this
theorem hd_at (a b:Tx) (h:∀c∈a,c≠32):hd (a++32 :: b)=a:=by unfold hd;rw [cut_at a b h]
theorem tl_at (a b:Tx) (h:∀c∈a,c≠32):tl (a++32 :: b)=b:=by unfold tl;rw [cut_at a b h]
theorem decI_32 (n:Int):∀c∈decI n,c≠32:=decI_free n 32 (by decide)
theorem decI_47 (n:Int):∀c∈decI n,c≠47:=decI_free n 47 (by decide)
theorem word_47 {lo hi:Nat} {l:Tx} (h:wordP lo hi l=true):∀c∈l,c≠47:=fun c hc e=>by
 have:=wordP_in h c hc
 subst e
 revert this
 decide
theorem word_32 {lo hi:Nat} {l:Tx} (h:wordP lo hi l=true):∀c∈l,c≠32:=fun c hc=>(inWd_not (wordP_in h c hc)).2.2
theorem goodC_parts {c:CodecS} (h:goodC c=true):(0≤c.type∧c.type≤127)∧wordP 1 32 (tx c.name)=true∧(1≤c.clock∧c.clock≤1000000)∧(c.chans=1∨c.chans=2)∧((tx c.format).isEmpty=true∨plainP (tx c.format)=true)∧c.feedback.length≤8∧∀f∈c.feedback,plainP (tx f)=true:=by
 unfold goodC at h
 simp only [Bool.and_eq_true,Bool.or_eq_true,decide_eq_true_eq,List.all_eq_true] at h
 obtain ⟨⟨⟨⟨⟨⟨⟨⟨h1,h2⟩,h3⟩,h4⟩,h5⟩,h6⟩,h7⟩,h8⟩,h9,h10⟩:=h
 exact ⟨⟨h1,h2⟩,h3,⟨h4,h5⟩,by omega,h8,h9,h10⟩
theorem codecOf_text (hR:R.Law) {c:CodecS} (hc:goodC c=true):codecOf R (codecT c)={c with format:=bs [],feedback:=[]}:=by
 obtain ⟨h1,h2,h3,h4,_⟩:=goodC_parts hc
 have e1:hd (codecT c)=decI c.type:=hd_at _ _ (decI_32 _)
 have e2:tl (codecT c)=tx c.name++47 :: (decI c.clock++(if c.chans=2 then [47,50] else [])):=tl_at _ _ (decI_32 _)
 have e3:=cut_at (c0:=47) (tx c.name) (decI c.clock++(if c.chans=2 then [47,50] else [])) (word_47 h2)
 unfold codecOf
 rw [e1,e2,e3]
 simp only
 rcases h4 with h4 | h4
 · have e4:=cutS_free (c0:=47) (t:=[]) (decI c.clock) (decI_47 _)
   rw [h4,if_neg (by decide),List.append_nil,e4]
   simp only
   rw [hR.numI (by omega) (by omega),hR.numI (by omega) (by omega),bs_tx,if_neg (by decide),←h4]
 · have e4:=cut_at (c0:=47) (decI c.clock) [50] (decI_47 _)
   rw [h4,if_pos rfl,e4]
   simp only
   rw [hR.numI (by omega) (by omega),hR.numI (by omega) (by omega),bs_tx,if_pos trivial,←h4]
theorem onLast_snoc (f:CodecS→CodecS) (L:List CodecS) (c:CodecS):onLast f (L++[c])=L++[f c]:=by
 unfold onLast
 rw [List.getLast?_concat]
 simp
theorem rd_mid (m:MediaS) (v:ByteArray):rd R m ⟨bs nMid,v⟩={m with mid:=v}:=by unfold rd;simp [nMid]
theorem rd_codec (m:MediaS) (v:Tx):rd R m ⟨bs nCodec,bs v⟩={m with codecs:=m.codecs++[codecOf R v]}:=by
 unfold rd
 simp only [tx_bs]
 rw [if_neg (by decide),if_pos trivial]
theorem rd_format (m:MediaS) (v:Tx):rd R m ⟨bs nFormat,bs v⟩={m with codecs:=onLast (fun c=>{c with format:=bs (tl v)}) m.codecs}:=by
 unfold rd
 simp only [tx_bs]
 rw [if_neg (by decide),if_neg (by decide),if_pos trivial]
theorem rd_feedback (m:MediaS) (v:Tx):rd R m ⟨bs nFeedback,bs v⟩={m with codecs:=onLast (fun c=>{c with feedback:=c.feedback++[bs (tl v)]}) m.codecs}:=by
 unfold rd
 simp only [tx_bs]
 rw [if_neg (by decide),if_neg (by decide),if_neg (by decide),if_pos trivial]
theorem rd_ext (m:MediaS) (v:Tx):rd R m ⟨bs nExt,bs v⟩={m with exts:=m.exts++[⟨R.num (hd v),bs (tl v)⟩]}:=by
 unfold rd
 simp only [tx_bs]
 rw [if_neg (by decide),if_neg (by decide),if_neg (by decide),if_neg (by decide),if_pos trivial]
theorem rd_rid (m:MediaS) (v:Tx):rd R m ⟨bs nRid,bs v⟩={m with rids:=m.rids++[bs (hd v)],sending:=decide (tl v=wSend)}:=by
 unfold rd
 simp only [tx_bs]
 rw [if_neg (by decide),if_neg (by decide),if_neg (by decide),if_neg (by decide),if_neg (by decide),if_pos trivial]
theorem rd_simulcast (m:MediaS) (v:Tx):rd R m ⟨bs nSimulcast,bs v⟩=m:=by
 unfold rd
 simp only [tx_bs]
 rw [if_neg (by decide),if_neg (by decide),if_neg (by decide),if_neg (by decide),if_neg (by decide),if_neg (by decide),if_pos trivial]
theorem rd_source (m:MediaS) (v:Tx):rd R m ⟨bs nSource,bs v⟩={m with sources:=m.sources++[R.src v]}:=by
 unfold rd
 simp only [tx_bs]
 rw [if_neg (by decide),if_neg (by decide),if_neg (by decide),if_neg (by decide),if_neg (by decide),if_neg (by decide),if_neg (by decide),if_pos trivial]
theorem rd_crypto (m:MediaS) (v:Tx):rd R m ⟨bs nCrypto,bs v⟩={m with crypto:=m.crypto++[R.cry v]}:=by
 unfold rd
 simp only [tx_bs]
 rw [if_neg (by decide),if_neg (by decide),if_neg (by decide),if_neg (by decide),if_neg (by decide),if_neg (by decide),if_neg (by decide),if_neg (by decide),if_pos trivial]
theorem rd_sctp (m:MediaS) (v:Tx):rd R m ⟨bs nSctp,bs v⟩={m with sctp:=R.num v}:=by
 unfold rd
 simp only [tx_bs]
 rw [if_neg (by decide),if_neg (by decide),if_neg (by decide),if_neg (by decide),if_neg (by decide),if_neg (by decide),if_neg (by decide),if_neg (by decide),if_neg (by decide),if_pos trivial]
theorem rd_dir (hR:R.Law) (m:MediaS) {d:Int} (h0:0≤d) (h3:d≤3) (hm:m.dir=0):rd R m ⟨bs (dirW d),bs []⟩={m with dir:=d}:=by
 have:d=0∨d=1∨d=2∨d=3:=by omega
 rcases this with rfl | rfl | rfl | rfl
 · have e:rd R m ⟨bs (dirW 0),bs []⟩={m with dir:=R.still m.dir}:=by
    unfold rd
    simp only [tx_bs]
    rw [if_neg (by decide),if_neg (by decide),if_neg (by decide),if_neg (by decide),if_neg (by decide),if_neg (by decide),if_neg (by decide),if_neg (by decide),if_neg (by decide),if_neg (by decide),if_pos (by decide)]
   rw [e,hm,hR.still]
 · unfold rd
   simp only [tx_bs]
   rw [if_neg (by decide),if_neg (by decide),if_neg (by decide),if_neg (by decide),if_neg (by decide),if_neg (by decide),if_neg (by decide),if_neg (by decide),if_neg (by decide),if_neg (by decide),if_neg (by decide),if_pos (by decide)]
 · unfold rd
   simp only [tx_bs]
   rw [if_neg (by decide),if_neg (by decide),if_neg (by decide),if_neg (by decide),if_neg (by decide),if_neg (by decide),if_neg (by decide),if_neg (by decide),if_neg (by decide),if_neg (by decide),if_neg (by decide),if_neg (by decide),if_pos (by decide)]
 · unfold rd
   simp only [tx_bs]
   rw [if_neg (by decide),if_neg (by decide),if_neg (by decide),if_neg (by decide),if_neg (by decide),if_neg (by decide),if_neg (by decide),if_neg (by decide),if_neg (by decide),if_neg (by decide),if_neg (by decide),if_neg (by decide),if_neg (by decide),if_pos (by decide)]
theorem fold_fb (n:Int):∀(F:List ByteArray) (m:MediaS) (L:List CodecS) (c:CodecS),m.codecs=L++[c]→(F.map fun f=>(⟨bs nFeedback,bs (headT n (tx f))⟩:AttrS)).foldl (rd R) m={m with codecs:=L++[{c with feedback:=c.feedback++F}]}
 | [],m,L,c,h=>by
   cases m
   simp at h
   subst h
   simp
 | f :: F,m,L,c,h=>by
   rw [List.map_cons,List.foldl_cons,rd_feedback,h,onLast_snoc]
   have e:tl (headT n (tx f))=tx f:=tl_at _ _ (decI_32 _)
   rw [e,bs_tx,fold_fb n F _ L {c with feedback:=c.feedback++[f]} rfl]
   simp
theorem fold_codec (hR:R.Law) (m:MediaS) {c:CodecS} (hc:goodC c=true):(attrsC c).foldl (rd R) m={m with codecs:=m.codecs++[c]}:=by
 unfold attrsC
 rw [List.foldl_cons,rd_codec,codecOf_text hR hc,List.foldl_append]
 have e1:(formatA c).foldl (rd R) {m with codecs:=m.codecs++[{c with format:=bs [],feedback:=[]}]}={m with codecs:=m.codecs++[{c with feedback:=[]}]}:=by
  unfold formatA
  by_cases h:(tx c.format).isEmpty=true
  · rw [if_pos h]
    have:c.format=bs []:=by rw [←bs_tx c.format,List.isEmpty_iff.1 h]
    rw [←this]
    rfl
  · rw [if_neg h,List.foldl_cons,List.foldl_nil,rd_format,onLast_snoc]
    have e:tl (headT c.type (tx c.format))=tx c.format:=tl_at _ _ (decI_32 _)
    rw [e,bs_tx]
 rw [e1,fold_fb c.type c.feedback _ m.codecs {c with feedback:=[]} rfl]
 simp
theorem fold_codecs (hR:R.Law):∀(L:List CodecS) (m:MediaS),(∀c∈L,goodC c=true)→(L.flatMap attrsC).foldl (rd R) m={m with codecs:=m.codecs++L}
 | [],m,_=>by simp
 | c :: L,m,h=>by
   rw [List.flatMap_cons,List.foldl_append,fold_codec hR m (h c (by simp)),fold_codecs hR L _ (fun d hd=>h d (by simp [hd]))]
   simp
theorem fold_exts (hR:R.Law):∀(L:List ExtS) (m:MediaS),(∀x∈L,goodE x=true)→(L.map attrE).foldl (rd R) m={m with exts:=m.exts++L}
 | [],m,_=>by simp
 | x :: L,m,h=>by
   have hx:=h x (by simp)
   unfold goodE at hx
   simp only [Bool.and_eq_true,decide_eq_true_eq] at hx
   have e1:hd (headT x.id (tx x.uri))=decI x.id:=hd_at _ _ (decI_32 _)
   have e2:tl (headT x.id (tx x.uri))=tx x.uri:=tl_at _ _ (decI_32 _)
   have e3:rd R m (attrE x)={m with exts:=m.exts++[x]}:=by
    show rd R m ⟨bs nExt,bs (headT x.id (tx x.uri))⟩=_
    rw [rd_ext,e1,e2,hR.numI (by omega) (by omega),bs_tx]
   rw [List.map_cons,List.foldl_cons,e3,fold_exts hR L _ (fun d hd=>h d (by simp [hd]))]
   simp
theorem fold_rids (b:Bool):∀(L:List ByteArray) (m:MediaS),(∀r∈L,goodR r=true)→(L.map (attrR b)).foldl (rd R) m={m with rids:=m.rids++L,sending:=if L.isEmpty then m.sending else b}
 | [],m,_=>by simp
 | r :: L,m,h=>by
   have hr:=word_32 (h r (by simp))
   have e3:rd R m (attrR b r)={m with rids:=m.rids++[r],sending:=b}:=by
    show rd R m ⟨bs nRid,bs (tx r++32 :: wayW b)⟩=_
    rw [rd_rid,hd_at _ _ hr,tl_at _ _ hr,bs_tx]
    cases b
    · rfl
    · rfl
   rw [List.map_cons,List.foldl_cons,e3,fold_rids b L _ (fun d hd=>h d (by simp [hd]))]
   simp
theorem fold_ridsA (b:Bool) (L:List ByteArray) (m:MediaS) (h:∀r∈L,goodR r=true):(attrsR b L).foldl (rd R) m={m with rids:=m.rids++L,sending:=if L.isEmpty then m.sending else b}:=by
 unfold attrsR
 rw [List.foldl_append,fold_rids b L m h]
 cases L with
 | nil=>rfl
 | cons r L =>
   show List.foldl (rd R) _ [⟨bs nSimulcast,bs (wayW b++32 :: semi (r :: L))⟩]=_
   rw [List.foldl_cons,List.foldl_nil,rd_simulcast]
theorem fold_sources (hR:R.Law):∀(L:List Nat) (m:MediaS),(∀n∈L,n<4294967296)→(L.map attrO).foldl (rd R) m={m with sources:=m.sources++L}
 | [],m,_=>by simp
 | n :: L,m,h=>by
   have e3:rd R m (attrO n)={m with sources:=m.sources++[n]}:=by
    show rd R m ⟨bs nSource,bs (dec n)⟩=_
    rw [rd_source,hR.src n (h n (by simp))]
   rw [List.map_cons,List.foldl_cons,e3,fold_sources hR L _ (fun d hd=>h d (by simp [hd]))]
   simp
theorem fold_cryptos (hR:R.Law):∀(L:List CryptoS) (m:MediaS),(∀c∈L,goodY c=true∧c.key.length=30)→(L.map attrY).foldl (rd R) m={m with crypto:=m.crypto++L}
 | [],m,_=>by simp
 | c :: L,m,h=>by
   obtain ⟨hc,hk⟩:=h c (by simp)
   unfold goodY at hc
   simp only [Bool.and_eq_true,decide_eq_true_eq] at hc
   have e3:rd R m (attrY c)={m with crypto:=m.crypto++[c]}:=by
    show rd R m ⟨bs nCrypto,bs (cryptoT c)⟩=_
    rw [rd_crypto,hR.cry c hc.1 hc.2 hk]
   rw [List.map_cons,List.foldl_cons,e3,fold_cryptos hR L _ (fun d hd=>h d (by simp [hd]))]
   simp
end
def TypedM (m:MediaS):Prop:=(∀n∈m.sources,n<4294967296)∧∀c∈m.crypto,c.key.length=30
structure GoodS (m:MediaS):Prop where
 codecs:∀c∈m.codecs,goodC c=true
 exts:∀x∈m.exts,goodE x=true
 rids:∀r∈m.rids,goodR r=true
 crypto:∀c∈m.crypto,goodY c=true
 sending:m.rids=[]→m.sending=false
 sctp:m.kind≠3→m.sctp=0
 port:m.sctp≤65535
 low:0≤m.sctp
 counts:m.codecs.length≤16∧m.exts.length≤14∧m.rids.length≤3∧m.sources.length≤16∧m.crypto.length≤1
theorem goodM_parts {m:MediaS} (h:goodM m=true):(m.port=0∨m.port=9)∧wordP 1 16 (tx m.mid)=true∧(0≤m.dir∧m.dir≤3)∧(m.kind=1∨m.kind=2∨m.kind=3)∧GoodS m:=by
 unfold goodM goodHead at h
 simp only [Bool.and_eq_true,Bool.or_eq_true,decide_eq_true_eq] at h
 obtain ⟨⟨⟨⟨h1,h2⟩,h3⟩,h4⟩,h5⟩:=h
 refine ⟨h1,h2,⟨h3,h4⟩,?_,?_⟩
 · rcases h5 with ⟨h5 | h5,_⟩ | ⟨h5,_⟩ <;> simp [h5]
 · rcases h5 with ⟨hk,h5⟩ | ⟨hk,h5⟩
   · unfold goodStreams at h5
     simp only [Bool.and_eq_true,Bool.or_eq_true,decide_eq_true_eq,List.all_eq_true,Bool.not_eq_true'] at h5
     obtain ⟨⟨⟨⟨⟨⟨⟨h1,⟨h2,h3⟩,_⟩,⟨h4,h5⟩,_⟩,⟨h6,h7⟩,_⟩,h8⟩,h9,_⟩,h10,h11⟩,h12⟩:=h5
     refine ⟨h3,h5,h7,h11,fun e=> ?_,fun _=>h12,by omega,by omega,h2,h4,h6,h9,h10⟩
     rcases h8 with h8 | h8
     · rw [e] at h8
       simp at h8
     · exact h8
   · unfold goodChannel at h5
     simp only [Bool.and_eq_true,decide_eq_true_eq,Bool.not_eq_true'] at h5
     obtain ⟨⟨⟨h1,h2⟩,h3⟩,h4⟩:=h5
     have e1:m.codecs=[]:=List.eq_nil_of_length_eq_zero (by omega)
     have e2:m.exts=[]:=List.eq_nil_of_length_eq_zero (by omega)
     have e3:m.rids=[]:=List.eq_nil_of_length_eq_zero (by omega)
     have e4:m.crypto=[]:=List.eq_nil_of_length_eq_zero (by omega)
     refine ⟨by rw [e1];simp,by rw [e2];simp,by rw [e3];simp,by rw [e4];simp,fun _=>h2,fun h=>(h hk).elim,by omega,by omega,by omega,by omega,by omega,by omega,by omega⟩
theorem fold_all {R:Rdr} (hR:R.Law) {C:List CodecS} {E:List ExtS} {Q:List ByteArray} {b:Bool} {S:List Nat} {Y:List CryptoS} (T:List AttrS) (m:MediaS) (hC:∀c∈C,goodC c=true) (hE:∀x∈E,goodE x=true) (hQ:∀r∈Q,goodR r=true) (hS:∀n∈S,n<4294967296)
 (hY:∀c∈Y,goodY c=true∧c.key.length=30):(C.flatMap attrsC++(E.map attrE++(attrsR b Q++(S.map attrO++(Y.map attrY++T))))).foldl (rd R) m =
 T.foldl (rd R) {m with codecs:=m.codecs++C,exts:=m.exts++E,rids:=m.rids++Q,sending:=if Q.isEmpty then m.sending else b,sources:=m.sources++S,crypto:=m.crypto++Y}:=by
 rw [List.foldl_append,fold_codecs hR _ _ hC,List.foldl_append,fold_exts hR _ _ hE,List.foldl_append,fold_ridsA _ _ _ hQ,List.foldl_append,fold_sources hR _ _ hS,List.foldl_append,fold_cryptos hR _ _ hY]
theorem fold_two {R:Rdr} (hR:R.Law) (mid:ByteArray) {d:Int} (h0:0≤d) (h3:d≤3) (T:List AttrS) (m:MediaS) (hm:m.dir=0):(⟨bs nMid,mid⟩ :: ⟨bs (dirW d),bs []⟩ :: T:List AttrS).foldl (rd R) m=T.foldl (rd R) {m with mid:=mid,dir:=d}:=by
 rw [List.foldl_cons,rd_mid,List.foldl_cons,rd_dir hR {m with mid:=mid} h0 h3 hm]
theorem read_write {R:Rdr} (hR:R.Law) {m:MediaS} (hg:goodM m=true) (ht:TypedM m):(attrsM m).foldl (rd R) (startM R (lineM m))=m:=by
 obtain ⟨hp,hm,⟨hd0,hd3⟩,hk,hs⟩:=goodM_parts hg
 have hkw:∀c∈kindW m.kind,c≠32:=by
  rcases hk with hk | hk | hk <;> rw [hk] <;> decide
 have e1:hd (lineM m)=kindW m.kind:=hd_at _ _ hkw
 have e2:tl (lineM m)=decI m.port++32 :: (if m.kind=3 then wChannel else wStreams++typesT m.codecs):=tl_at _ _ hkw
 have e3:hd (tl (lineM m))=decI m.port:=by rw [e2];exact hd_at _ _ (decI_32 _)
 have e4:kindOf (kindW m.kind)=m.kind:=by
  rcases hk with hk | hk | hk <;> rw [hk] <;> decide
 have hsend:(if m.rids.isEmpty then false else m.sending)=m.sending:=by
  by_cases h:m.rids=[]
  · rw [hs.sending h]
    simp
  · rw [if_neg (by simpa using h)]
 have est:startM R (lineM m)=⟨m.kind,m.port,bs [],0,[],[],[],false,[],[],0⟩:=by
  unfold startM
  rw [e1,e3,e4,hR.numI (by omega) (by omega)]
  rfl
 rw [est]
 unfold attrsM
 rw [fold_two hR m.mid hd0 hd3 _ _ rfl,fold_all hR _ _ hs.codecs hs.exts hs.rids ht.1 (fun c hc=>⟨hs.crypto c hc,ht.2 c hc⟩)]
 simp only [List.nil_append]
 rw [hsend]
 by_cases h3:m.kind=3
 · rw [if_pos h3,List.foldl_cons,List.foldl_nil,rd_sctp,hR.numI hs.low (by have:=hs.port;omega)]
 · rw [if_neg h3,List.foldl_nil,←hs.sctp h3]
theorem IsM.read {R:Rdr} (hR:R.Law) {p:PartS} {m:MediaS} (h:IsM p m) (ht:TypedM m):readM R p=m:=by
 obtain ⟨h1,h2,_,h4⟩:=h
 unfold mayM at h1
 rw [Bool.and_eq_true] at h1
 unfold readM
 rw [←h4,←h2,read_write hR h1.1 ht]
end Go.Proofs.YtgnpckelbokniaaGreatDoor
namespace Go.Proofs.YtgnpckelbokniaaGreatDoor
open Go.RowKit
set_option linter.unusedVariables false
set_option linter.unusedSimpArgs false
theorem Tryz.sizeMedia:(Tryz.prog.info? 28).map (·.size)=some 11:=by kernel_rfl
theorem Tryz.sizeCodec:(Tryz.prog.info? 31).map (·.size)=some 6:=by kernel_rfl
theorem Tryz.sizeExt:(Tryz.prog.info? 71).map (·.size)=some 2:=by kernel_rfl
theorem Tryz.sizeCrypto:(Tryz.prog.info? 75).map (·.size)=some 31:=by kernel_rfl
theorem Tryz.sizeKey:(Tryz.prog.info? 73).map (·.size)=some 30:=by kernel_rfl
structure PartV (w:World) (B:Nat) (P:Array Value) (p:PartS) (vA:Value):Prop where
 form:P=#[.string p.line,.string p.conn,vA]
 attrs:AttrsV w B vA p.attrs
theorem PartV.below {w w':World} {B:Nat} {P:Array Value} {p:PartS} {vA:Value} (h:PartV w B P p vA) (hb:Below B w w'):PartV w' B P p vA:=⟨h.form,h.attrs.below hb⟩
theorem PartV.more {w:World} {B B':Nat} {P:Array Value} {p:PartS} {vA:Value} (h:PartV w B P p vA) (hB:B≤B'):PartV w B' P p vA:=⟨h.form,h.attrs.more hB⟩
theorem PartV.under {w w':World} {P:Array Value} {p:PartS} {vA:Value} (h:PartV w w.heap.size P p vA) (hb:Below w.heap.size w w'):PartV w' w'.heap.size P p vA:=(h.below hb).more hb.size
def RT (f:Nat→Option Value) (s:ByteArray):Prop:=f 0=some (.string s)
def TextsV (w:World) (B:Nat) (v:Value) (L:List ByteArray):Prop:=Rows w B 1 RT v L
def RU (f:Nat→Option Value) (n:Nat):Prop:=f 0=some (.int .u32 n)
def NumsV (w:World) (B:Nat) (v:Value) (L:List Nat):Prop:=Rows w B 1 RU v L
def RE (f:Nat→Option Value) (x:ExtS):Prop:=f 0=some (.int .i64 x.id)∧f 1=some (.string x.uri)
def ExtsV (w:World) (B:Nat) (v:Value) (L:List ExtS):Prop:=Rows w B 2 RE v L
def keyC (k:Tx):List Value:=k.map fun c=>.int .u8 (c.toNat:Int)
def cryC (c:CryptoS):List Value:=.int .i64 c.tag :: keyC c.key
def RY (f:Nat→Option Value) (c:CryptoS):Prop:=c.key.length=30∧∀j,j<31→f j=(cryC c)[j]?
def CrysV (w:World) (B:Nat) (v:Value) (L:List CryptoS):Prop:=Rows w B 31 RY v L
def RC (w:World) (B:Nat) (f:Nat→Option Value) (c:CodecS):Prop :=
 f 0=some (.int .i64 c.type)∧f 1=some (.string c.name)∧f 2=some (.int .i64 c.clock)∧f 3=some (.int .i64 c.chans)∧f 4=some (.string c.format)∧∃v,f 5=some v∧TextsV w B v c.feedback
def CodecsV (w:World) (B:Nat) (v:Value) (L:List CodecS):Prop:=Rows w B 6 (RC w B) v L
section
variable {w w':World} {B B':Nat} {v:Value}
theorem TextsV.below {L:List ByteArray} (h:TextsV w B v L) (hb:Below B w w'):TextsV w' B v L:=Rows.below h hb fun _ _ _ h=>h
theorem TextsV.more {L:List ByteArray} (h:TextsV w B v L) (hB:B≤B'):TextsV w B' v L:=Rows.more h hB
theorem NumsV.below {L:List Nat} (h:NumsV w B v L) (hb:Below B w w'):NumsV w' B v L:=Rows.below h hb fun _ _ _ h=>h
theorem NumsV.more {L:List Nat} (h:NumsV w B v L) (hB:B≤B'):NumsV w B' v L:=Rows.more h hB
theorem ExtsV.below {L:List ExtS} (h:ExtsV w B v L) (hb:Below B w w'):ExtsV w' B v L:=Rows.below h hb fun _ _ _ h=>h
theorem ExtsV.more {L:List ExtS} (h:ExtsV w B v L) (hB:B≤B'):ExtsV w B' v L:=Rows.more h hB
theorem CrysV.below {L:List CryptoS} (h:CrysV w B v L) (hb:Below B w w'):CrysV w' B v L:=Rows.below h hb fun _ _ _ h=>h
theorem CrysV.more {L:List CryptoS} (h:CrysV w B v L) (hB:B≤B'):CrysV w B' v L:=Rows.more h hB
theorem RC.below {f:Nat→Option Value} {c:CodecS} (h:RC w B f c) (hb:Below B w w'):RC w' B f c:=by
 obtain ⟨h0,h1,h2,h3,h4,u,h5,h6⟩:=h
 exact ⟨h0,h1,h2,h3,h4,u,h5,h6.below hb⟩
theorem RC.more {f:Nat→Option Value} {c:CodecS} (h:RC w B f c) (hB:B≤B'):RC w B' f c:=by
 obtain ⟨h0,h1,h2,h3,h4,u,h5,h6⟩:=h
 exact ⟨h0,h1,h2,h3,h4,u,h5,h6.more hB⟩
theorem CodecsV.below {L:List CodecS} (h:CodecsV w B v L) (hb:Below B w w'):CodecsV w' B v L:=Rows.below h hb fun _ _ _ h=>h.below hb
theorem CodecsV.more {L:List CodecS} (h:CodecsV w B v L) (hB:B≤B'):CodecsV w B' v L:=Rows.more (Rows.mono h fun _ _ _ h=>h.more hB) hB
theorem TextsV.at_ {L:List ByteArray} (h:TextsV w B v L) {i:Nat} (hi:i<L.length):∃ad c,v=.slice (some ad) L.length c∧ad.block<B∧w.cell? (ad.add i)=some (.string (L.getD i default)):=by
 obtain ⟨ad,c,h1,h2,_,_,h3⟩:=Rows.at_ h (List.getElem?_eq_getElem hi)
 have e:L.getD i default=L[i]:=by simp [List.getD,hi]
 rw [e]
 refine ⟨ad,c,h1,h2,?_⟩
 have h3:w.cell? (ad.add (i * 1+0))=some (.string L[i]):=h3
 rwa [Nat.mul_one,Nat.add_zero] at h3
theorem NumsV.at_ {L:List Nat} (h:NumsV w B v L) {i:Nat} (hi:i<L.length):∃ad c,v=.slice (some ad) L.length c∧ad.block<B∧w.cell? (ad.add i)=some (.int .u32 (L.getD i default:Nat)):=by
 obtain ⟨ad,c,h1,h2,_,_,h3⟩:=Rows.at_ h (List.getElem?_eq_getElem hi)
 have e:L.getD i default=L[i]:=by simp [List.getD,hi]
 rw [e]
 refine ⟨ad,c,h1,h2,?_⟩
 have h3:w.cell? (ad.add (i * 1+0))=some (.int .u32 (L[i]:Nat)):=h3
 rwa [Nat.mul_one,Nat.add_zero] at h3
theorem ExtsV.at_ {L:List ExtS} (h:ExtsV w B v L) {i:Nat} (hi:i<L.length):∃ad c,v=.slice (some ad) L.length c∧ad.block<B ∧
 w.cell? (ad.add (i * 2))=some (.int .i64 (L.getD i default).id)∧w.cell? ⟨(ad.add (i * 2)).block,(ad.add (i * 2)).off+1,none⟩=some (.string (L.getD i default).uri):=by
 obtain ⟨ad,c,h1,h2,_,_,h3,h4⟩:=Rows.at_ h (List.getElem?_eq_getElem hi)
 have e:L.getD i default=L[i]:=by simp [List.getD,hi]
 rw [e]
 refine ⟨ad,c,h1,h2,h3,?_⟩
 rw [←add_next _ _ 1 (by decide)]
 exact h4
theorem CodecsV.at_ {L:List CodecS} (h:CodecsV w B v L) {i:Nat} (hi:i<L.length):∃ad c vf,v=.slice (some ad) L.length c∧ad.block<B ∧
 w.cell? (ad.add (i * 6))=some (.int .i64 (L.getD i default).type)∧w.cell? ⟨(ad.add (i * 6)).block,(ad.add (i * 6)).off+1,none⟩=some (.string (L.getD i default).name) ∧
 w.cell? ⟨(ad.add (i * 6)).block,(ad.add (i * 6)).off+2,none⟩=some (.int .i64 (L.getD i default).clock)∧w.cell? ⟨(ad.add (i * 6)).block,(ad.add (i * 6)).off+3,none⟩=some (.int .i64 (L.getD i default).chans) ∧
 w.cell? ⟨(ad.add (i * 6)).block,(ad.add (i * 6)).off+4,none⟩=some (.string (L.getD i default).format)∧w.cell? ⟨(ad.add (i * 6)).block,(ad.add (i * 6)).off+5,none⟩=some vf∧TextsV w B vf (L.getD i default).feedback:=by
 obtain ⟨ad,c,h1,h2,_,_,h3,h4,h5,h6,h7,vf,h8,h9⟩:=Rows.at_ h (List.getElem?_eq_getElem hi)
 have e:L.getD i default=L[i]:=by simp [List.getD,hi]
 rw [e]
 refine ⟨ad,c,vf,h1,h2,h3,?_,?_,?_,?_,?_,h9⟩
 · rw [←add_next _ _ 1 (by decide)];exact h4
 · rw [←add_next _ _ 2 (by decide)];exact h5
 · rw [←add_next _ _ 3 (by decide)];exact h6
 · rw [←add_next _ _ 4 (by decide)];exact h7
 · rw [←add_next _ _ 5 (by decide)];exact h8
end
structure MediaV (w:World) (B:Nat) (M:Array Value) (m:MediaS) (vC vE vR vS vY:Value):Prop where
 form:M=#[.int .i64 m.kind,.int .i64 m.port,.string m.mid,.int .i64 m.dir,vC,vE,vR,.bool m.sending,vS,vY,.int .i64 m.sctp]
 codecs:CodecsV w B vC m.codecs
 exts:ExtsV w B vE m.exts
 rids:TextsV w B vR m.rids
 sources:NumsV w B vS m.sources
 crypto:CrysV w B vY m.crypto
section
variable {w w':World} {B B':Nat} {M:Array Value} {m:MediaS} {vC vE vR vS vY:Value}
theorem MediaV.below (h:MediaV w B M m vC vE vR vS vY) (hb:Below B w w'):MediaV w' B M m vC vE vR vS vY:=⟨h.form,h.codecs.below hb,h.exts.below hb,h.rids.below hb,h.sources.below hb,h.crypto.below hb⟩
theorem MediaV.more (h:MediaV w B M m vC vE vR vS vY) (hB:B≤B'):MediaV w B' M m vC vE vR vS vY:=⟨h.form,h.codecs.more hB,h.exts.more hB,h.rids.more hB,h.sources.more hB,h.crypto.more hB⟩
theorem MediaV.under (h:MediaV w w.heap.size M m vC vE vR vS vY) (hb:Below w.heap.size w w'):MediaV w' w'.heap.size M m vC vE vR vS vY:=(h.below hb).more hb.size
theorem MediaV.size (h:MediaV w B M m vC vE vR vS vY):M.size=11:=by rw [h.form];rfl
end
structure SizM (m:MediaS):Prop where
 mid:m.mid.size≤140737488355328
 names:∀c∈m.codecs,c.name.size≤140737488355328∧c.format.size≤140737488355328∧∀f∈c.feedback,f.size≤140737488355328
 feeds:∀c∈m.codecs,c.feedback.length≤140737488355328
 uris:∀x∈m.exts,x.uri.size≤140737488355328
 rids:∀r∈m.rids,r.size≤140737488355328
 typed:TypedM m
 counts:m.codecs.length≤1759218604390∧m.exts.length≤5864062014634∧m.rids.length≤8796093021952∧m.sources.length≤35184372087808∧m.crypto.length≤3518437208780
end Go.Proofs.YtgnpckelbokniaaGreatDoor
namespace Go.Proofs
open Go.Shelf
def Tryz.lays169_ren:Go.Shelf.Ren:=⟨fun | 169=>112 | n=>n,fun | 70=>170 | 9=>9 | 0=>0 | 72=>172 | 37=>53 | 127=>179 | 3=>3 | 5=>5 | n=>n,fun | n=>n⟩
theorem Tryz.lays169:Go.Proofs.Lays.n169 Tryz.prog Tryz.lays169_ren:={
 mixed:=by kernel_rfl
 f169:=Tryz.func112.trans (congrArg some (by kernel_rfl))
 t0:=Tryz.underlying0
 a0:=Tryz.isAgg0
 z0:=Tryz.sizeOf0
 v0:=Tryz.zeroValue0
 t3:=Tryz.underlying3
 a3:=Tryz.isAgg3
 z3:=Tryz.sizeOf3
 v3:=Tryz.zeroValue3
 t9:=Tryz.underlying9
 a9:=Tryz.isAgg9
 z9:=Tryz.sizeOf9
 v9:=Tryz.zeroValue9
 t37:=Tryz.underlying53
 a37:=Tryz.isAgg53
 z37:=Tryz.sizeOf53
 v37:=Tryz.zeroValue53
 t70:=Tryz.underlying170
 a70:=Tryz.isAgg170
 z70:=Tryz.sizeOf170
 v70:=Tryz.zeroValue170
 t72:=Tryz.underlying172
 a72:=Tryz.isAgg172
 z72:=Tryz.sizeOf172
 v72:=Tryz.zeroValue172
 t127:=Tryz.underlying179
 a127:=Tryz.isAgg179
 z127:=Tryz.sizeOf179
 v127:=Tryz.zeroValue179}
theorem Tryz.Builder_Extra_169:Builder.Extra Tryz.prog Tryz.lays169_ren:={
 sizeBuilder:=by kernel_rfl
 liesBuilder:=by kernel_rfl
 t5:=Tryz.underlying5
 a5:=Tryz.isAgg5
 z5:=Tryz.sizeOf5
 v5:=Tryz.zeroValue5
 infoByte:=by kernel_rfl
 cellsByte:=by kernel_rfl
 sizeByte:=by kernel_rfl
 neB5:=by decide}
open Go.RowKit in
theorem Tryz.Builder_String_any (B b:Nat) (l:List UInt8) (w:World) (h:Lib.IsBuilder 172 5 B b (Lib.byteCells l) w) (hBw:B≤w.heap.size) :
 Calls Tryz.prog 112 #[.pointer (some ⟨b,0,none⟩)] w fun e w'=>e=.returned (.string ⟨l.toArray⟩)∧Below B w w':=Any.Builder_String_any Tryz.lays169 Tryz.Builder_Extra_169 B b l w h hBw
def Tryz.lays156_ren:Go.Shelf.Ren:=⟨fun | 156=>84 | 165=>140 | 166=>141 | 169=>112 | 240=>165 | 241=>178 | 276=>192 | 277=>208 | n=>n,fun | 31=>24 | 9=>9 | 3=>3 | 4=>4 | 0=>0 | 20=>20 | 72=>172 | 76=>177 | 70=>170 | 37=>53 | 75=>174 | 127=>179 | 164=>225 | 5=>5 | 80=>176 | n=>n,fun | n=>n⟩
theorem Tryz.lays156:Go.Proofs.Lays.n156 Tryz.prog Tryz.lays156_ren:={
 mixed:=by kernel_rfl
 f156:=Tryz.func84.trans (congrArg some (by kernel_rfl))
 f165:=Tryz.func140.trans (congrArg some (by kernel_rfl))
 f166:=Tryz.func141.trans (congrArg some (by kernel_rfl))
 f169:=Tryz.func112.trans (congrArg some (by kernel_rfl))
 f240:=Tryz.func165.trans (congrArg some (by kernel_rfl))
 f241:=Tryz.func178.trans (congrArg some (by kernel_rfl))
 f276:=Tryz.func192.trans (congrArg some (by kernel_rfl))
 f277:=Tryz.func208.trans (congrArg some (by kernel_rfl))
 t0:=Tryz.underlying0
 a0:=Tryz.isAgg0
 z0:=Tryz.sizeOf0
 v0:=Tryz.zeroValue0
 t3:=Tryz.underlying3
 a3:=Tryz.isAgg3
 z3:=Tryz.sizeOf3
 v3:=Tryz.zeroValue3
 t4:=Tryz.underlying4
 a4:=Tryz.isAgg4
 z4:=Tryz.sizeOf4
 v4:=Tryz.zeroValue4
 t9:=Tryz.underlying9
 a9:=Tryz.isAgg9
 z9:=Tryz.sizeOf9
 v9:=Tryz.zeroValue9
 t20:=Tryz.underlying20
 a20:=Tryz.isAgg20
 z20:=Tryz.sizeOf20
 v20:=Tryz.zeroValue20
 t31:=Tryz.underlying24
 a31:=Tryz.isAgg24
 z31:=Tryz.sizeOf24
 v31:=Tryz.zeroValue24
 t37:=Tryz.underlying53
 a37:=Tryz.isAgg53
 z37:=Tryz.sizeOf53
 v37:=Tryz.zeroValue53
 t70:=Tryz.underlying170
 a70:=Tryz.isAgg170
 z70:=Tryz.sizeOf170
 v70:=Tryz.zeroValue170
 t72:=Tryz.underlying172
 a72:=Tryz.isAgg172
 z72:=Tryz.sizeOf172
 v72:=Tryz.zeroValue172
 t75:=Tryz.underlying174
 a75:=Tryz.isAgg174
 z75:=Tryz.sizeOf174
 v75:=Tryz.zeroValue174
 t76:=Tryz.underlying177
 a76:=Tryz.isAgg177
 z76:=Tryz.sizeOf177
 v76:=Tryz.zeroValue177
 t127:=Tryz.underlying179
 a127:=Tryz.isAgg179
 z127:=Tryz.sizeOf179
 v127:=Tryz.zeroValue179
 t164:=Tryz.underlying225
 a164:=Tryz.isAgg225
 z164:=Tryz.sizeOf225
 v164:=Tryz.zeroValue225}
theorem Tryz.Builder_Extra_156:Builder.Extra Tryz.prog Tryz.lays156_ren:={
 sizeBuilder:=by kernel_rfl
 liesBuilder:=by kernel_rfl
 t5:=Tryz.underlying5
 a5:=Tryz.isAgg5
 z5:=Tryz.sizeOf5
 v5:=Tryz.zeroValue5
 infoByte:=by kernel_rfl
 cellsByte:=by kernel_rfl
 sizeByte:=by kernel_rfl
 neB5:=by decide}
open Go.RowKit in
theorem Tryz.strings_Join (bk o c:Nat) (xs:List ByteArray) (sep:ByteArray) (w:World) (hcells:∀(j:Nat) x,xs[j]? = some x→w.cell? ⟨bk,o+j,none⟩=some (.string x)) (hbk:bk<w.heap.size) (hN:xs.length≤140737488355328) (hcap:xs.length≤c) (hlen:(Lib.join (xs.map (·.data.toList)) sep.data.toList).length≤140737488355328) :
 Calls Tryz.prog 84 #[.slice (some ⟨bk,o,none⟩) xs.length c,.string sep] w fun e w'=>e=.returned (.string ⟨(Lib.join (xs.map (·.data.toList)) sep.data.toList).toArray⟩)∧Below w.heap.size w w':=Any.strings_Join Tryz.lays156 Tryz.Builder_Extra_156 bk o c xs sep w hcells hbk hN hcap hlen
def Tryz.lays137_ren:Go.Shelf.Ren:=⟨fun | 137=>199 | 217=>201 | 266=>215 | n=>n,fun | 9=>9 | 5=>5 | 3=>3 | n=>n,fun | n=>n⟩
theorem Tryz.lays137:Go.Proofs.Lays.n137 Tryz.prog Tryz.lays137_ren:={
 mixed:=by kernel_rfl
 f137:=Tryz.func199.trans (congrArg some (by kernel_rfl))
 f217:=Tryz.func201.trans (congrArg some (by kernel_rfl))
 f266:=Tryz.func215.trans (congrArg some (by kernel_rfl))
 t3:=Tryz.underlying3
 a3:=Tryz.isAgg3
 z3:=Tryz.sizeOf3
 v3:=Tryz.zeroValue3
 t5:=Tryz.underlying5
 a5:=Tryz.isAgg5
 z5:=Tryz.sizeOf5
 v5:=Tryz.zeroValue5
 t9:=Tryz.underlying9
 a9:=Tryz.isAgg9
 z9:=Tryz.sizeOf9
 v9:=Tryz.zeroValue9}
open Go.RowKit in
theorem Tryz.strings_IndexByte (s:ByteArray) (c:Int) (w:World) :
 Calls Tryz.prog 199 #[.string s,.int .u8 c] w fun e w'=>e=.returned (.int .i64 (Lib.indexByte s.data.toList c.toNat.toUInt8))∧w'=w:=Any.strings_IndexByte Tryz.lays137 s c w
def Tryz.lays283_ren:Go.Shelf.Ren:=⟨fun | 283=>161 | n=>n,fun | 3=>3 | 9=>9 | 4=>4 | n=>n,fun | n=>n⟩
theorem Tryz.lays283:Go.Proofs.Lays.n283 Tryz.prog Tryz.lays283_ren:={
 mixed:=by kernel_rfl
 f283:=Tryz.func161.trans (congrArg some (by kernel_rfl))
 t3:=Tryz.underlying3
 a3:=Tryz.isAgg3
 z3:=Tryz.sizeOf3
 v3:=Tryz.zeroValue3
 t4:=Tryz.underlying4
 a4:=Tryz.isAgg4
 z4:=Tryz.sizeOf4
 v4:=Tryz.zeroValue4
 t9:=Tryz.underlying9
 a9:=Tryz.isAgg9
 z9:=Tryz.sizeOf9
 v9:=Tryz.zeroValue9}
open Go.Lib in
theorem Tryz.internal_strconv_small (i:Nat) (h:i<100) (w:World) :
 Calls Tryz.prog 161 #[.int .i64 i] w fun e w'=>e=.returned (.string ⟨(Lib.decDigits i).toArray⟩)∧w'=w:=Any.internal_strconv_small Tryz.lays283 i h w
def Tryz.laysM284_ren:Go.Shelf.Ren:=⟨fun | 284=>162 | 129=>188 | 317=>187 | 318=>189 | n=>n,fun | 53=>42 | 3=>3 | 212=>221 | 0=>0 | 4=>4 | 46=>54 | 5=>5 | 9=>9 | n=>n,fun | 17=>2 | n=>n⟩
theorem Tryz.laysM284:Go.Proofs.LaysM.n284 Tryz.prog Tryz.laysM284_ren:={
 mixed:=by kernel_rfl
 f129:=Tryz.func188.trans (congrArg some (by kernel_rfl))
 f284:=Tryz.func162.trans (congrArg some (by kernel_rfl))
 f317:=Tryz.func187.trans (congrArg some (by kernel_rfl))
 f318:=Tryz.func189.trans (congrArg some (by kernel_rfl))
 t0:=Tryz.underlying0
 a0:=Tryz.isAgg0
 z0:=Tryz.sizeOf0
 v0:=Tryz.zeroValue0
 t3:=Tryz.underlying3
 a3:=Tryz.isAgg3
 z3:=Tryz.sizeOf3
 v3:=Tryz.zeroValue3
 t4:=Tryz.underlying4
 a4:=Tryz.isAgg4
 z4:=Tryz.sizeOf4
 v4:=Tryz.zeroValue4
 t5:=Tryz.underlying5
 a5:=Tryz.isAgg5
 z5:=Tryz.sizeOf5
 v5:=Tryz.zeroValue5
 t9:=Tryz.underlying9
 a9:=Tryz.isAgg9
 z9:=Tryz.sizeOf9
 v9:=Tryz.zeroValue9
 t46:=Tryz.underlying54
 a46:=Tryz.isAgg54
 z46:=Tryz.sizeOf54
 v46:=Tryz.zeroValue54
 t53:=Tryz.underlying42
 a53:=Tryz.isAgg42
 z53:=Tryz.sizeOf42
 v53:=Tryz.zeroValue42
 t212:=Tryz.underlying221
 a212:=Tryz.isAgg221
 z212:=Tryz.sizeOf221
 v212:=Tryz.zeroValue221
 g17:=by kernel_rfl
 i0:=by kernel_rfl
 i3:=by kernel_rfl
 i4:=by kernel_rfl
 i5:=by kernel_rfl
 i9:=by kernel_rfl
 i46:=by kernel_rfl
 i53:=by kernel_rfl
 i212:=by kernel_rfl
 m17:=by kernel_rfl}
open Go.Lib in
theorem Tryz.internal_strconv_numDigits (u : Nat) (h1 : 1 ≤ u) (h2 : u < 18446744073709551616) (w : World) (htab : Lib.TabIs Tryz.prog w "internal/strconv.uint64pow10" .u64 Lib.pow10Tab) :
 Calls Tryz.prog 162 #[.int .u64 u] w fun e w'=>e=.returned (.int .i64 (Lib.nDigits u))∧w'=w:=Any.internal_strconv_numDigits Tryz.laysM284 u h1 h2 w htab
def Tryz.lays285_ren:Go.Shelf.Ren:=⟨fun | 285=>163 | n=>n,fun | 37=>53 | 53=>42 | 3=>3 | 4=>4 | 51=>72 | 9=>9 | 5=>5 | 0=>0 | n=>n,fun | n=>n⟩
theorem Tryz.lays285:Go.Proofs.Lays.n285 Tryz.prog Tryz.lays285_ren:={
 mixed:=by kernel_rfl
 f285:=Tryz.func163.trans (congrArg some (by kernel_rfl))
 t0:=Tryz.underlying0
 a0:=Tryz.isAgg0
 z0:=Tryz.sizeOf0
 v0:=Tryz.zeroValue0
 t3:=Tryz.underlying3
 a3:=Tryz.isAgg3
 z3:=Tryz.sizeOf3
 v3:=Tryz.zeroValue3
 t4:=Tryz.underlying4
 a4:=Tryz.isAgg4
 z4:=Tryz.sizeOf4
 v4:=Tryz.zeroValue4
 t5:=Tryz.underlying5
 a5:=Tryz.isAgg5
 z5:=Tryz.sizeOf5
 v5:=Tryz.zeroValue5
 t9:=Tryz.underlying9
 a9:=Tryz.isAgg9
 z9:=Tryz.sizeOf9
 v9:=Tryz.zeroValue9
 t37:=Tryz.underlying53
 a37:=Tryz.isAgg53
 z37:=Tryz.sizeOf53
 v37:=Tryz.zeroValue53
 t51:=Tryz.underlying72
 a51:=Tryz.isAgg72
 z51:=Tryz.sizeOf72
 v51:=Tryz.zeroValue72
 t53:=Tryz.underlying42
 a53:=Tryz.isAgg42
 z53:=Tryz.sizeOf42
 v53:=Tryz.zeroValue42}
open Go.RowKit Go.Sort Go.Lib in
theorem Tryz.internal_strconv_formatBase10 (blk off cap:Nat) (u:Nat) (d:Array UInt8) (w:World) (hH:Holds (fun (b:UInt8)=>Value.int .u8 (b.toNat:Int)) w blk off d) (hu:u<10 ^ d.size) (hu64:u<18446744073709551616) (hsz:d.size<4611686018427387904) :
 Calls Tryz.prog 163 #[.slice (some ⟨blk,off,none⟩) d.size cap,.int .u64 u] w fun e w' =>
  e=.returned (.tuple #[])∧∃(n v':Nat) (dk:Array UInt8),w'=(putRow (fun (b:UInt8)=>Value.int .u8 (b.toNat:Int)) w blk off dk).drewN n∧FmtInv d.size u 0 v' dk:=Any.internal_strconv_formatBase10 Tryz.lays285 blk off cap u d w hH hu hu64 hsz
def Tryz.laysM171_ren:Go.Shelf.Ren:=⟨fun | 171=>48 | 243=>109 | 246=>160 | 283=>161 | 284=>162 | 285=>163 | 286=>164 | 129=>188 | 317=>187 | 318=>189 | 319=>190 | 320=>191 | 337=>210 | 338=>211 | n=>n,fun | 3=>3 | 9=>9 | 2=>2 | 4=>4 | 171=>201 | 0=>0 | 53=>42 | 37=>53 | 5=>5 | 173=>204 | 212=>221 | 51=>72 | 20=>20 | 213=>222 | 46=>54 | 232=>246 | 233=>247 | n=>n,fun | 17=>2 | 18=>6 | 19=>7 | n=>n⟩
theorem Tryz.laysM171:Go.Proofs.LaysM.n171 Tryz.prog Tryz.laysM171_ren:={
 mixed:=by kernel_rfl
 f129:=Tryz.func188.trans (congrArg some (by kernel_rfl))
 f171:=Tryz.func48.trans (congrArg some (by kernel_rfl))
 f243:=Tryz.func109.trans (congrArg some (by kernel_rfl))
 f246:=Tryz.func160.trans (congrArg some (by kernel_rfl))
 f283:=Tryz.func161.trans (congrArg some (by kernel_rfl))
 f284:=Tryz.func162.trans (congrArg some (by kernel_rfl))
 f285:=Tryz.func163.trans (congrArg some (by kernel_rfl))
 f286:=Tryz.func164.trans (congrArg some (by kernel_rfl))
 f317:=Tryz.func187.trans (congrArg some (by kernel_rfl))
 f318:=Tryz.func189.trans (congrArg some (by kernel_rfl))
 f319:=Tryz.func190.trans (congrArg some (by kernel_rfl))
 f320:=Tryz.func191.trans (congrArg some (by kernel_rfl))
 f337:=Tryz.func210.trans (congrArg some (by kernel_rfl))
 f338:=Tryz.func211.trans (congrArg some (by kernel_rfl))
 t0:=Tryz.underlying0
 a0:=Tryz.isAgg0
 z0:=Tryz.sizeOf0
 v0:=Tryz.zeroValue0
 t2:=Tryz.underlying2
 a2:=Tryz.isAgg2
 z2:=Tryz.sizeOf2
 v2:=Tryz.zeroValue2
 t3:=Tryz.underlying3
 a3:=Tryz.isAgg3
 z3:=Tryz.sizeOf3
 v3:=Tryz.zeroValue3
 t4:=Tryz.underlying4
 a4:=Tryz.isAgg4
 z4:=Tryz.sizeOf4
 v4:=Tryz.zeroValue4
 t5:=Tryz.underlying5
 a5:=Tryz.isAgg5
 z5:=Tryz.sizeOf5
 v5:=Tryz.zeroValue5
 t9:=Tryz.underlying9
 a9:=Tryz.isAgg9
 z9:=Tryz.sizeOf9
 v9:=Tryz.zeroValue9
 t20:=Tryz.underlying20
 a20:=Tryz.isAgg20
 z20:=Tryz.sizeOf20
 v20:=Tryz.zeroValue20
 t37:=Tryz.underlying53
 a37:=Tryz.isAgg53
 z37:=Tryz.sizeOf53
 v37:=Tryz.zeroValue53
 t46:=Tryz.underlying54
 a46:=Tryz.isAgg54
 z46:=Tryz.sizeOf54
 v46:=Tryz.zeroValue54
 t51:=Tryz.underlying72
 a51:=Tryz.isAgg72
 z51:=Tryz.sizeOf72
 v51:=Tryz.zeroValue72
 t53:=Tryz.underlying42
 a53:=Tryz.isAgg42
 z53:=Tryz.sizeOf42
 v53:=Tryz.zeroValue42
 t171:=Tryz.underlying201
 a171:=Tryz.isAgg201
 z171:=Tryz.sizeOf201
 v171:=Tryz.zeroValue201
 t173:=Tryz.underlying204
 a173:=Tryz.isAgg204
 z173:=Tryz.sizeOf204
 v173:=Tryz.zeroValue204
 t212:=Tryz.underlying221
 a212:=Tryz.isAgg221
 z212:=Tryz.sizeOf221
 v212:=Tryz.zeroValue221
 t213:=Tryz.underlying222
 a213:=Tryz.isAgg222
 z213:=Tryz.sizeOf222
 t232:=Tryz.underlying246
 a232:=Tryz.isAgg246
 z232:=Tryz.sizeOf246
 v232:=Tryz.zeroValue246
 t233:=Tryz.underlying247
 a233:=Tryz.isAgg247
 z233:=Tryz.sizeOf247
 v233:=Tryz.zeroValue247
 g17:=by kernel_rfl
 g18:=by kernel_rfl
 g19:=by kernel_rfl
 i0:=by kernel_rfl
 i2:=by kernel_rfl
 i3:=by kernel_rfl
 i4:=by kernel_rfl
 i5:=by kernel_rfl
 i9:=by kernel_rfl
 i20:=by kernel_rfl
 i37:=by kernel_rfl
 i46:=by kernel_rfl
 i51:=by kernel_rfl
 i53:=by kernel_rfl
 i171:=by kernel_rfl
 i173:=by kernel_rfl
 i212:=by kernel_rfl
 i232:=by kernel_rfl
 i233:=by kernel_rfl
 m17:=by kernel_rfl
 m18:=by kernel_rfl
 m19:=by kernel_rfl}
open Go.RowKit Go.Sort Go.Lib in
theorem Tryz.strconv_Itoa (n : Int) (h0 : -9223372036854775808 ≤ n) (h1 : n ≤ 9223372036854775807) (w : World) (htab : Lib.TabIs Tryz.prog w "internal/strconv.uint64pow10" .u64 Lib.pow10Tab) :
 Calls Tryz.prog 48 #[.int .i64 n] w fun e w'=>e=.returned (.string ⟨(Lib.itoa n).toArray⟩)∧∃k os,w'=grow (w.drewN k) os:=Any.strconv_Itoa Tryz.laysM171 n h0 h1 w htab
def Tryz.laysM316_ren:Go.Shelf.Ren:=⟨fun | 316=>57 | n=>n,fun | 9=>9 | 3=>3 | 4=>4 | 37=>53 | 0=>0 | 127=>179 | 5=>5 | n=>n,fun | n=>n⟩
theorem Tryz.laysM316:Go.Proofs.LaysM.n316 Tryz.prog Tryz.laysM316_ren:={
 mixed:=by kernel_rfl
 f316:=Tryz.func57.trans (congrArg some (by kernel_rfl))
 t0:=Tryz.underlying0
 a0:=Tryz.isAgg0
 z0:=Tryz.sizeOf0
 v0:=Tryz.zeroValue0
 t3:=Tryz.underlying3
 a3:=Tryz.isAgg3
 z3:=Tryz.sizeOf3
 v3:=Tryz.zeroValue3
 t4:=Tryz.underlying4
 a4:=Tryz.isAgg4
 z4:=Tryz.sizeOf4
 v4:=Tryz.zeroValue4
 t9:=Tryz.underlying9
 a9:=Tryz.isAgg9
 z9:=Tryz.sizeOf9
 v9:=Tryz.zeroValue9
 t37:=Tryz.underlying53
 a37:=Tryz.isAgg53
 z37:=Tryz.sizeOf53
 v37:=Tryz.zeroValue53
 t127:=Tryz.underlying179
 a127:=Tryz.isAgg179
 z127:=Tryz.sizeOf179
 v127:=Tryz.zeroValue179
 t5:=Tryz.underlying5
 a5:=Tryz.isAgg5
 z5:=Tryz.sizeOf5
 v5:=Tryz.zeroValue5
 i0:=by kernel_rfl
 i3:=by kernel_rfl
 i4:=by kernel_rfl
 i5:=by kernel_rfl
 i9:=by kernel_rfl
 i37:=by kernel_rfl
 i127:=by kernel_rfl}
open Go.RowKit in
theorem Tryz.stringslite_Clone (s:ByteArray) (w:World) (hlim:s.size≤281474976710656) :
 Calls Tryz.prog 57 #[.string s] w fun e w'=>e=.returned (.string s)∧Below w.heap.size w w':=Any.stringslite_Clone Tryz.laysM316 s w hlim
def Tryz.laysC172_ren:Go.Shelf.Ren:=⟨fun | 172=>113 | 244=>166 | 245=>167 | 247=>193 | 279=>194 | 280=>195 | 281=>196 | 282=>197 | 287=>198 | 316=>57 | 171=>48 | 205=>212 | 321=>213 | 322=>214 | 243=>109 | 246=>160 | 283=>161 | 284=>162 | 285=>163 | 286=>164 | 129=>188 | 317=>187 | 318=>189 | 319=>190 | 320=>191 | 337=>210 | 338=>211 | n=>n,fun | 9=>9 | 3=>3 | 75=>174 | 76=>177 | 4=>4 | 5=>5 | 167=>227 | 37=>53 | 0=>0 | 85=>228 | 2=>2 | 168=>230 | 53=>42 | 175=>208 | 46=>54 | 210=>239 | 127=>179 | 145=>250 | 143=>248 | 21=>21 | 171=>201 | 173=>204 | 212=>221 | 51=>72 | 20=>20 | 213=>222 | 232=>246 | 233=>247 | 80=>176 | n=>n,fun | 15=>4 | 16=>5 | 17=>2 | 18=>6 | 19=>7 | n=>n⟩
theorem Tryz.laysC172:Go.Proofs.LaysC.n172 Tryz.prog Tryz.laysC172_ren:={
 mixed:=by kernel_rfl
 f129:=Tryz.func188.trans (congrArg some (by kernel_rfl))
 f171:=Tryz.func48.trans (congrArg some (by kernel_rfl))
 f172:=Tryz.func113.trans (congrArg some (by kernel_rfl))
 f205:=Tryz.func212.trans (congrArg some (by kernel_rfl))
 f243:=Tryz.func109.trans (congrArg some (by kernel_rfl))
 f244:=Tryz.func166.trans (congrArg some (by kernel_rfl))
 f245:=Tryz.func167.trans (congrArg some (by kernel_rfl))
 f246:=Tryz.func160.trans (congrArg some (by kernel_rfl))
 f247:=Tryz.func193.trans (congrArg some (by kernel_rfl))
 f279:=Tryz.func194.trans (congrArg some (by kernel_rfl))
 f280:=Tryz.func195.trans (congrArg some (by kernel_rfl))
 f281:=Tryz.func196.trans (congrArg some (by kernel_rfl))
 f282:=Tryz.func197.trans (congrArg some (by kernel_rfl))
 f283:=Tryz.func161.trans (congrArg some (by kernel_rfl))
 f284:=Tryz.func162.trans (congrArg some (by kernel_rfl))
 f285:=Tryz.func163.trans (congrArg some (by kernel_rfl))
 f286:=Tryz.func164.trans (congrArg some (by kernel_rfl))
 f287:=Tryz.func198.trans (congrArg some (by kernel_rfl))
 f316:=Tryz.func57.trans (congrArg some (by kernel_rfl))
 f317:=Tryz.func187.trans (congrArg some (by kernel_rfl))
 f318:=Tryz.func189.trans (congrArg some (by kernel_rfl))
 f319:=Tryz.func190.trans (congrArg some (by kernel_rfl))
 f320:=Tryz.func191.trans (congrArg some (by kernel_rfl))
 f321:=Tryz.func213.trans (congrArg some (by kernel_rfl))
 f322:=Tryz.func214.trans (congrArg some (by kernel_rfl))
 f337:=Tryz.func210.trans (congrArg some (by kernel_rfl))
 f338:=Tryz.func211.trans (congrArg some (by kernel_rfl))
 t0:=Tryz.underlying0
 a0:=Tryz.isAgg0
 z0:=Tryz.sizeOf0
 v0:=Tryz.zeroValue0
 t2:=Tryz.underlying2
 a2:=Tryz.isAgg2
 z2:=Tryz.sizeOf2
 v2:=Tryz.zeroValue2
 t3:=Tryz.underlying3
 a3:=Tryz.isAgg3
 z3:=Tryz.sizeOf3
 v3:=Tryz.zeroValue3
 t4:=Tryz.underlying4
 a4:=Tryz.isAgg4
 z4:=Tryz.sizeOf4
 v4:=Tryz.zeroValue4
 t5:=Tryz.underlying5
 a5:=Tryz.isAgg5
 z5:=Tryz.sizeOf5
 v5:=Tryz.zeroValue5
 t9:=Tryz.underlying9
 a9:=Tryz.isAgg9
 z9:=Tryz.sizeOf9
 v9:=Tryz.zeroValue9
 t20:=Tryz.underlying20
 a20:=Tryz.isAgg20
 z20:=Tryz.sizeOf20
 v20:=Tryz.zeroValue20
 t21:=Tryz.underlying21
 a21:=Tryz.isAgg21
 z21:=Tryz.sizeOf21
 v21:=Tryz.zeroValue21
 t37:=Tryz.underlying53
 a37:=Tryz.isAgg53
 z37:=Tryz.sizeOf53
 v37:=Tryz.zeroValue53
 t46:=Tryz.underlying54
 a46:=Tryz.isAgg54
 z46:=Tryz.sizeOf54
 v46:=Tryz.zeroValue54
 t51:=Tryz.underlying72
 a51:=Tryz.isAgg72
 z51:=Tryz.sizeOf72
 v51:=Tryz.zeroValue72
 t53:=Tryz.underlying42
 a53:=Tryz.isAgg42
 z53:=Tryz.sizeOf42
 v53:=Tryz.zeroValue42
 t75:=Tryz.underlying174
 a75:=Tryz.isAgg174
 z75:=Tryz.sizeOf174
 v75:=Tryz.zeroValue174
 t76:=Tryz.underlying177
 a76:=Tryz.isAgg177
 z76:=Tryz.sizeOf177
 v76:=Tryz.zeroValue177
 t85:=Tryz.underlying228
 a85:=Tryz.isAgg228
 z85:=Tryz.sizeOf228
 v85:=Tryz.zeroValue228
 t127:=Tryz.underlying179
 a127:=Tryz.isAgg179
 z127:=Tryz.sizeOf179
 v127:=Tryz.zeroValue179
 t143:=Tryz.underlying248
 a143:=Tryz.isAgg248
 z143:=Tryz.sizeOf248
 v143:=Tryz.zeroValue248
 t145:=Tryz.underlying250
 a145:=Tryz.isAgg250
 z145:=Tryz.sizeOf250
 v145:=Tryz.zeroValue250
 t167:=Tryz.underlying227
 a167:=Tryz.isAgg227
 z167:=Tryz.sizeOf227
 v167:=Tryz.zeroValue227
 t168:=Tryz.underlying230
 a168:=Tryz.isAgg230
 z168:=Tryz.sizeOf230
 v168:=Tryz.zeroValue230
 t171:=Tryz.underlying201
 a171:=Tryz.isAgg201
 z171:=Tryz.sizeOf201
 v171:=Tryz.zeroValue201
 t173:=Tryz.underlying204
 a173:=Tryz.isAgg204
 z173:=Tryz.sizeOf204
 v173:=Tryz.zeroValue204
 t175:=Tryz.underlying208
 a175:=Tryz.isAgg208
 z175:=Tryz.sizeOf208
 v175:=Tryz.zeroValue208
 t210:=Tryz.underlying239
 a210:=Tryz.isAgg239
 z210:=Tryz.sizeOf239
 v210:=Tryz.zeroValue239
 t212:=Tryz.underlying221
 a212:=Tryz.isAgg221
 z212:=Tryz.sizeOf221
 v212:=Tryz.zeroValue221
 t213:=Tryz.underlying222
 a213:=Tryz.isAgg222
 z213:=Tryz.sizeOf222
 t232:=Tryz.underlying246
 a232:=Tryz.isAgg246
 z232:=Tryz.sizeOf246
 v232:=Tryz.zeroValue246
 t233:=Tryz.underlying247
 a233:=Tryz.isAgg247
 z233:=Tryz.sizeOf247
 v233:=Tryz.zeroValue247
 g15:=by kernel_rfl
 g16:=by kernel_rfl
 g17:=by kernel_rfl
 g18:=by kernel_rfl
 g19:=by kernel_rfl
 t80:=Tryz.underlying176
 a80:=Tryz.isAgg176
 z80:=Tryz.sizeOf176
 v80:=Tryz.zeroValue176
 i0:=by kernel_rfl
 i2:=by kernel_rfl
 i3:=by kernel_rfl
 i4:=by kernel_rfl
 i5:=by kernel_rfl
 i9:=by kernel_rfl
 i20:=by kernel_rfl
 i21:=by kernel_rfl
 i37:=by kernel_rfl
 i46:=by kernel_rfl
 i51:=by kernel_rfl
 i53:=by kernel_rfl
 i75:=by kernel_rfl
 i76:=by kernel_rfl
 i80:=by kernel_rfl
 i85:=by kernel_rfl
 i127:=by kernel_rfl
 i143:=by kernel_rfl
 i145:=by kernel_rfl
 i167:=by kernel_rfl
 i168:=by kernel_rfl
 i171:=by kernel_rfl
 i173:=by kernel_rfl
 i175:=by kernel_rfl
 i210:=by kernel_rfl
 i212:=by kernel_rfl
 i232:=by kernel_rfl
 i233:=by kernel_rfl
 m15:=by kernel_rfl
 m16:=by kernel_rfl
 m17:=by kernel_rfl
 m18:=by kernel_rfl
 m19:=by kernel_rfl
 c0:=by kernel_rfl
 c2:=by kernel_rfl
 c3:=by kernel_rfl
 c4:=by kernel_rfl
 c5:=by kernel_rfl
 c9:=by kernel_rfl
 c20:=by kernel_rfl
 c21:=by kernel_rfl
 c37:=by kernel_rfl
 c46:=by kernel_rfl
 c51:=by kernel_rfl
 c53:=by kernel_rfl
 c75:=by kernel_rfl
 c76:=by kernel_rfl
 c80:=by kernel_rfl
 c85:=by kernel_rfl
 c127:=by kernel_rfl
 c143:=by kernel_rfl
 c145:=by kernel_rfl
 c167:=by kernel_rfl
 c168:=by kernel_rfl
 c171:=by kernel_rfl
 c173:=by kernel_rfl
 c175:=by kernel_rfl
 c210:=by kernel_rfl
 c212:=by kernel_rfl
 c213:=by kernel_rfl
 c232:=by kernel_rfl
 c233:=by kernel_rfl}
open Go.RowKit in
theorem Tryz.strconv_Atoi_ok (s:ByteArray) (hmax:s.size≤9223372036854775806) (v:Int) (h:Lib.atoiAll s.data.toList=.ok v) (w:World) :
 Calls Tryz.prog 113 #[.string s] w fun e w'=>e=.returned (.tuple #[.int .i64 v,.nilIface])∧(w'=w∨∃t,w'=Lib.bytesWorld w 5 t):=Any.strconv_Atoi_ok Tryz.laysC172 s hmax v h w
open Go.RowKit in
theorem Tryz.strconv_Atoi_syntax (s:ByteArray) (hlim:s.size≤281474976710656) (h:Lib.atoiAll s.data.toList=Lib.NumEnd.syntax) (ev:Value) (w:World) (hv:w.cell? ⟨4,0,none⟩=some ev) (hev:ev=.nilIface∨∃te pe,ev=.iface te pe) :
 Calls Tryz.prog 113 #[.string s] w fun e w'=>∃N,e=.returned (.tuple #[.int .i64 (0),.iface 230 (.pointer (some ⟨N,0,none⟩))])∧w.heap.size≤N∧w'.heap[N]? = some (.cells #[.string ⟨#[65,116,111,105]⟩,.string s,ev] 239 (0,0))∧Below w.heap.size w w':=Any.strconv_Atoi_syntax Tryz.laysC172 s hlim h ev w hv hev
open Go.RowKit in
theorem Tryz.strconv_Atoi_range (s:ByteArray) (hlim:s.size≤281474976710656) (h:Lib.atoiAll s.data.toList=.range) (ev:Value) (w:World) (hv:w.cell? ⟨5,0,none⟩=some ev) (hev:ev=.nilIface∨∃te pe,ev=.iface te pe) :
 Calls Tryz.prog 113 #[.string s] w fun e w'=>∃N,e=.returned (.tuple #[.int .i64 (Lib.atoiSat s.data.toList),.iface 230 (.pointer (some ⟨N,0,none⟩))])∧w.heap.size≤N∧w'.heap[N]? = some (.cells #[.string ⟨#[65,116,111,105]⟩,.string s,ev] 239 (0,0))∧Below w.heap.size w w':=Any.strconv_Atoi_range Tryz.laysC172 s hlim h ev w hv hev
def Tryz.laysPu14_ren:Go.Shelf.Ren:=⟨fun | 14=>169 | 16=>198 | 17=>167 | 19=>213 | 20=>214 | 21=>194 | 22=>195 | 23=>196 | 24=>197 | 25=>57 | 27=>48 | 26=>212 | 28=>109 | 29=>160 | 30=>161 | 31=>162 | 32=>163 | 33=>164 | 35=>188 | 34=>187 | 36=>189 | 37=>190 | 38=>191 | 39=>210 | 40=>211 | n=>n,fun | 9=>9 | 3=>3 | 22=>42 | 24=>174 | 25=>208 | 4=>4 | 34=>227 | 5=>5 | 36=>54 | 37=>53 | 0=>0 | 39=>230 | 21=>21 | 44=>239 | 47=>179 | 50=>250 | 48=>248 | 2=>2 | 52=>201 | 55=>204 | 59=>221 | 60=>72 | 20=>20 | 61=>222 | 65=>246 | 66=>247 | 67=>176 | n=>n,fun | 0=>4 | 1=>5 | 2=>2 | 3=>6 | 4=>7 | n=>n⟩
theorem Tryz.laysPu14:Go.Proofs.LaysPu.n14 Tryz.prog Tryz.laysPu14_ren:={
 mixed:=by kernel_rfl
 f14:=Tryz.func169.trans (congrArg some (by kernel_rfl))
 f16:=Tryz.func198.trans (congrArg some (by kernel_rfl))
 f17:=Tryz.func167.trans (congrArg some (by kernel_rfl))
 f19:=Tryz.func213.trans (congrArg some (by kernel_rfl))
 f20:=Tryz.func214.trans (congrArg some (by kernel_rfl))
 f21:=Tryz.func194.trans (congrArg some (by kernel_rfl))
 f22:=Tryz.func195.trans (congrArg some (by kernel_rfl))
 f23:=Tryz.func196.trans (congrArg some (by kernel_rfl))
 f24:=Tryz.func197.trans (congrArg some (by kernel_rfl))
 f25:=Tryz.func57.trans (congrArg some (by kernel_rfl))
 f26:=Tryz.func212.trans (congrArg some (by kernel_rfl))
 f27:=Tryz.func48.trans (congrArg some (by kernel_rfl))
 f28:=Tryz.func109.trans (congrArg some (by kernel_rfl))
 f29:=Tryz.func160.trans (congrArg some (by kernel_rfl))
 f30:=Tryz.func161.trans (congrArg some (by kernel_rfl))
 f31:=Tryz.func162.trans (congrArg some (by kernel_rfl))
 f32:=Tryz.func163.trans (congrArg some (by kernel_rfl))
 f33:=Tryz.func164.trans (congrArg some (by kernel_rfl))
 f34:=Tryz.func187.trans (congrArg some (by kernel_rfl))
 f35:=Tryz.func188.trans (congrArg some (by kernel_rfl))
 f36:=Tryz.func189.trans (congrArg some (by kernel_rfl))
 f37:=Tryz.func190.trans (congrArg some (by kernel_rfl))
 f38:=Tryz.func191.trans (congrArg some (by kernel_rfl))
 f39:=Tryz.func210.trans (congrArg some (by kernel_rfl))
 f40:=Tryz.func211.trans (congrArg some (by kernel_rfl))
 t0:=Tryz.underlying0
 a0:=Tryz.isAgg0
 z0:=Tryz.sizeOf0
 v0:=Tryz.zeroValue0
 i0:=by kernel_rfl
 t2:=Tryz.underlying2
 a2:=Tryz.isAgg2
 z2:=Tryz.sizeOf2
 v2:=Tryz.zeroValue2
 i2:=by kernel_rfl
 t3:=Tryz.underlying3
 a3:=Tryz.isAgg3
 z3:=Tryz.sizeOf3
 v3:=Tryz.zeroValue3
 i3:=by kernel_rfl
 t4:=Tryz.underlying4
 a4:=Tryz.isAgg4
 z4:=Tryz.sizeOf4
 v4:=Tryz.zeroValue4
 i4:=by kernel_rfl
 t5:=Tryz.underlying5
 a5:=Tryz.isAgg5
 z5:=Tryz.sizeOf5
 v5:=Tryz.zeroValue5
 i5:=by kernel_rfl
 t9:=Tryz.underlying9
 a9:=Tryz.isAgg9
 z9:=Tryz.sizeOf9
 v9:=Tryz.zeroValue9
 i9:=by kernel_rfl
 t20:=Tryz.underlying20
 a20:=Tryz.isAgg20
 z20:=Tryz.sizeOf20
 v20:=Tryz.zeroValue20
 i20:=by kernel_rfl
 t21:=Tryz.underlying21
 a21:=Tryz.isAgg21
 z21:=Tryz.sizeOf21
 v21:=Tryz.zeroValue21
 i21:=by kernel_rfl
 t22:=Tryz.underlying42
 a22:=Tryz.isAgg42
 z22:=Tryz.sizeOf42
 v22:=Tryz.zeroValue42
 i22:=by kernel_rfl
 t24:=Tryz.underlying174
 a24:=Tryz.isAgg174
 z24:=Tryz.sizeOf174
 v24:=Tryz.zeroValue174
 i24:=by kernel_rfl
 t25:=Tryz.underlying208
 a25:=Tryz.isAgg208
 z25:=Tryz.sizeOf208
 v25:=Tryz.zeroValue208
 i25:=by kernel_rfl
 t34:=Tryz.underlying227
 a34:=Tryz.isAgg227
 z34:=Tryz.sizeOf227
 v34:=Tryz.zeroValue227
 i34:=by kernel_rfl
 c34:=by kernel_rfl
 t36:=Tryz.underlying54
 a36:=Tryz.isAgg54
 z36:=Tryz.sizeOf54
 v36:=Tryz.zeroValue54
 i36:=by kernel_rfl
 t37:=Tryz.underlying53
 a37:=Tryz.isAgg53
 z37:=Tryz.sizeOf53
 v37:=Tryz.zeroValue53
 i37:=by kernel_rfl
 t39:=Tryz.underlying230
 a39:=Tryz.isAgg230
 z39:=Tryz.sizeOf230
 v39:=Tryz.zeroValue230
 i39:=by kernel_rfl
 t44:=Tryz.underlying239
 a44:=Tryz.isAgg239
 z44:=Tryz.sizeOf239
 v44:=Tryz.zeroValue239
 i44:=by kernel_rfl
 t47:=Tryz.underlying179
 a47:=Tryz.isAgg179
 z47:=Tryz.sizeOf179
 v47:=Tryz.zeroValue179
 i47:=by kernel_rfl
 t48:=Tryz.underlying248
 a48:=Tryz.isAgg248
 z48:=Tryz.sizeOf248
 v48:=Tryz.zeroValue248
 i48:=by kernel_rfl
 t50:=Tryz.underlying250
 a50:=Tryz.isAgg250
 z50:=Tryz.sizeOf250
 v50:=Tryz.zeroValue250
 i50:=by kernel_rfl
 t52:=Tryz.underlying201
 a52:=Tryz.isAgg201
 z52:=Tryz.sizeOf201
 v52:=Tryz.zeroValue201
 i52:=by kernel_rfl
 t55:=Tryz.underlying204
 a55:=Tryz.isAgg204
 z55:=Tryz.sizeOf204
 v55:=Tryz.zeroValue204
 i55:=by kernel_rfl
 t59:=Tryz.underlying221
 a59:=Tryz.isAgg221
 z59:=Tryz.sizeOf221
 v59:=Tryz.zeroValue221
 i59:=by kernel_rfl
 t60:=Tryz.underlying72
 a60:=Tryz.isAgg72
 z60:=Tryz.sizeOf72
 v60:=Tryz.zeroValue72
 i60:=by kernel_rfl
 t61:=Tryz.underlying222
 a61:=Tryz.isAgg222
 z61:=Tryz.sizeOf222
 t65:=Tryz.underlying246
 a65:=Tryz.isAgg246
 z65:=Tryz.sizeOf246
 v65:=Tryz.zeroValue246
 i65:=by kernel_rfl
 t66:=Tryz.underlying247
 a66:=Tryz.isAgg247
 z66:=Tryz.sizeOf247
 v66:=Tryz.zeroValue247
 i66:=by kernel_rfl
 t67:=Tryz.underlying176
 a67:=Tryz.isAgg176
 z67:=Tryz.sizeOf176
 v67:=Tryz.zeroValue176
 i67:=by kernel_rfl
 g0:=by kernel_rfl
 m0:=by kernel_rfl
 g1:=by kernel_rfl
 m1:=by kernel_rfl
 g2:=by kernel_rfl
 m2:=by kernel_rfl
 g3:=by kernel_rfl
 m3:=by kernel_rfl
 g4:=by kernel_rfl
 m4:=by kernel_rfl}
open Go.RowKit in
theorem Tryz.strconv_ParseUint_10_at32_ok (s:ByteArray) (hmax:s.size≤9223372036854775806) (u:Nat) (h:Lib.parseUintB 32 s.data.toList=.ok u) (w:World) :
 Calls Tryz.prog 169 #[.string s,.int .i64 10,.int .i64 32] w fun e w'=>e=.returned (.tuple #[.int .u64 u,.nilIface])∧(w'=w∨w'=Lib.bytesWorld w 5 s):=Any.strconv_ParseUint_10_at32_ok Tryz.laysPu14 s hmax u h w
open Go.RowKit in
theorem Tryz.strconv_ParseUint_10_at32_syntax (s:ByteArray) (hlim:s.size≤281474976710656) (h:Lib.parseUintB 32 s.data.toList=Lib.NumEnd.syntax) (ev:Value) (w:World) (hv:w.cell? ⟨4,0,none⟩=some ev) (hev:ev=.nilIface∨∃te pe,ev=.iface te pe) :
 Calls Tryz.prog 169 #[.string s,.int .i64 10,.int .i64 32] w fun e w'=>∃N,e=.returned (.tuple #[.int .u64 0,.iface 230 (.pointer (some ⟨N,0,none⟩))])∧w.heap.size≤N∧w'.heap[N]? = some (.cells #[.string ⟨#[80,97,114,115,101,85,105,110,116]⟩,.string s,ev] 239 (0,0))∧Below w.heap.size w w':=Any.strconv_ParseUint_10_at32_syntax Tryz.laysPu14 s hlim h ev w hv hev
open Go.RowKit in
theorem Tryz.strconv_ParseUint_10_at32_range (s:ByteArray) (hlim:s.size≤281474976710656) (h:Lib.parseUintB 32 s.data.toList=.range) (ev:Value) (w:World) (hv:w.cell? ⟨5,0,none⟩=some ev) (hev:ev=.nilIface∨∃te pe,ev=.iface te pe) :
 Calls Tryz.prog 169 #[.string s,.int .i64 10,.int .i64 32] w fun e w'=>∃N,e=.returned (.tuple #[.int .u64 4294967295,.iface 230 (.pointer (some ⟨N,0,none⟩))])∧w.heap.size≤N∧w'.heap[N]? = some (.cells #[.string ⟨#[80,97,114,115,101,85,105,110,116]⟩,.string s,ev] 239 (0,0))∧Below w.heap.size w w':=Any.strconv_ParseUint_10_at32_range Tryz.laysPu14 s hlim h ev w hv hev
def Tryz.lays219_ren:Go.Shelf.Ren:=⟨fun | 219=>175 | 217=>201 | 225=>202 | 224=>203 | 267=>204 | 266=>215 | 314=>216 | n=>n,fun | 9=>9 | 3=>3 | 4=>4 | 5=>5 | 46=>54 | 146=>242 | 51=>72 | n=>n,fun | 1=>3 | n=>n⟩
theorem Tryz.lays219:Go.Proofs.Lays.n219 Tryz.prog Tryz.lays219_ren:={
 mixed:=by kernel_rfl
 f217:=Tryz.func201.trans (congrArg some (by kernel_rfl))
 f219:=Tryz.func175.trans (congrArg some (by kernel_rfl))
 f224:=Tryz.func203.trans (congrArg some (by kernel_rfl))
 f225:=Tryz.func202.trans (congrArg some (by kernel_rfl))
 f266:=Tryz.func215.trans (congrArg some (by kernel_rfl))
 f267:=Tryz.func204.trans (congrArg some (by kernel_rfl))
 f314:=Tryz.func216.trans (congrArg some (by kernel_rfl))
 t3:=Tryz.underlying3
 a3:=Tryz.isAgg3
 z3:=Tryz.sizeOf3
 v3:=Tryz.zeroValue3
 t4:=Tryz.underlying4
 a4:=Tryz.isAgg4
 z4:=Tryz.sizeOf4
 v4:=Tryz.zeroValue4
 t5:=Tryz.underlying5
 a5:=Tryz.isAgg5
 z5:=Tryz.sizeOf5
 v5:=Tryz.zeroValue5
 t9:=Tryz.underlying9
 a9:=Tryz.isAgg9
 z9:=Tryz.sizeOf9
 v9:=Tryz.zeroValue9
 t46:=Tryz.underlying54
 a46:=Tryz.isAgg54
 z46:=Tryz.sizeOf54
 v46:=Tryz.zeroValue54
 t51:=Tryz.underlying72
 a51:=Tryz.isAgg72
 z51:=Tryz.sizeOf72
 v51:=Tryz.zeroValue72
 t146:=Tryz.underlying242
 a146:=Tryz.isAgg242
 z146:=Tryz.sizeOf242
 v146:=Tryz.zeroValue242
 g1:=by kernel_rfl}
open Go.RowKit Go.Lib in
theorem Tryz.stringslite_Index_one (s:ByteArray) (c:UInt8) (w:World) :
 Calls Tryz.prog 175 #[.string s,.string ⟨#[c]⟩] w fun e w'=>e=.returned (.int .i64 (Lib.indexByte s.data.toList c))∧w'=w:=Any.stringslite_Index_one Tryz.lays219 s c w
def Tryz.lays144_ren:Go.Shelf.Ren:=⟨fun | 144=>154 | 143=>184 | 219=>175 | 217=>201 | 225=>202 | 224=>203 | 267=>204 | 266=>215 | 314=>216 | n=>n,fun | 9=>9 | 4=>4 | 3=>3 | 5=>5 | 46=>54 | 146=>242 | 51=>72 | n=>n,fun | 1=>3 | n=>n⟩
theorem Tryz.lays144:Go.Proofs.Lays.n144 Tryz.prog Tryz.lays144_ren:={
 mixed:=by kernel_rfl
 f143:=Tryz.func184.trans (congrArg some (by kernel_rfl))
 f144:=Tryz.func154.trans (congrArg some (by kernel_rfl))
 f217:=Tryz.func201.trans (congrArg some (by kernel_rfl))
 f219:=Tryz.func175.trans (congrArg some (by kernel_rfl))
 f224:=Tryz.func203.trans (congrArg some (by kernel_rfl))
 f225:=Tryz.func202.trans (congrArg some (by kernel_rfl))
 f266:=Tryz.func215.trans (congrArg some (by kernel_rfl))
 f267:=Tryz.func204.trans (congrArg some (by kernel_rfl))
 f314:=Tryz.func216.trans (congrArg some (by kernel_rfl))
 t3:=Tryz.underlying3
 a3:=Tryz.isAgg3
 z3:=Tryz.sizeOf3
 v3:=Tryz.zeroValue3
 t4:=Tryz.underlying4
 a4:=Tryz.isAgg4
 z4:=Tryz.sizeOf4
 v4:=Tryz.zeroValue4
 t5:=Tryz.underlying5
 a5:=Tryz.isAgg5
 z5:=Tryz.sizeOf5
 v5:=Tryz.zeroValue5
 t9:=Tryz.underlying9
 a9:=Tryz.isAgg9
 z9:=Tryz.sizeOf9
 v9:=Tryz.zeroValue9
 t46:=Tryz.underlying54
 a46:=Tryz.isAgg54
 z46:=Tryz.sizeOf54
 v46:=Tryz.zeroValue54
 t51:=Tryz.underlying72
 a51:=Tryz.isAgg72
 z51:=Tryz.sizeOf72
 v51:=Tryz.zeroValue72
 t146:=Tryz.underlying242
 a146:=Tryz.isAgg242
 z146:=Tryz.sizeOf242
 v146:=Tryz.zeroValue242
 g1:=by kernel_rfl}
open Go.RowKit Go.Lib in
theorem Tryz.strings_Contains_one (s:ByteArray) (c:UInt8) (w:World) :
 Calls Tryz.prog 154 #[.string s,.string ⟨#[c]⟩] w fun e w'=>e=.returned (.bool (decide (0≤Lib.indexByte s.data.toList c)))∧w'=w:=Any.strings_Contains_one Tryz.lays144 s c w
def Tryz.lays99_ren:Go.Shelf.Ren:=⟨fun | 99=>180 | 206=>205 | n=>n,fun | 9=>9 | 4=>4 | 3=>3 | n=>n,fun | n=>n⟩
theorem Tryz.lays99:Go.Proofs.Lays.n99 Tryz.prog Tryz.lays99_ren:={
 mixed:=by kernel_rfl
 f99:=Tryz.func180.trans (congrArg some (by kernel_rfl))
 f206:=Tryz.func205.trans (congrArg some (by kernel_rfl))
 t3:=Tryz.underlying3
 a3:=Tryz.isAgg3
 z3:=Tryz.sizeOf3
 v3:=Tryz.zeroValue3
 t4:=Tryz.underlying4
 a4:=Tryz.isAgg4
 z4:=Tryz.sizeOf4
 v4:=Tryz.zeroValue4
 t9:=Tryz.underlying9
 a9:=Tryz.isAgg9
 z9:=Tryz.sizeOf9
 v9:=Tryz.zeroValue9}
open Go.RowKit Go.Lib in
theorem Tryz.strings_HasPrefix (s p:ByteArray) (w:World) :
 Calls Tryz.prog 180 #[.string s,.string p] w fun e w'=>e=.returned (.bool (Lib.hasPrefix s.data.toList p.data.toList))∧w'=w:=Any.strings_HasPrefix Tryz.lays99 s p w
def Tryz.lays100_ren:Go.Shelf.Ren:=⟨fun | 100=>181 | 207=>209 | n=>n,fun | 9=>9 | 4=>4 | 3=>3 | n=>n,fun | n=>n⟩
theorem Tryz.lays100:Go.Proofs.Lays.n100 Tryz.prog Tryz.lays100_ren:={
 mixed:=by kernel_rfl
 f100:=Tryz.func181.trans (congrArg some (by kernel_rfl))
 f207:=Tryz.func209.trans (congrArg some (by kernel_rfl))
 t3:=Tryz.underlying3
 a3:=Tryz.isAgg3
 z3:=Tryz.sizeOf3
 v3:=Tryz.zeroValue3
 t4:=Tryz.underlying4
 a4:=Tryz.isAgg4
 z4:=Tryz.sizeOf4
 v4:=Tryz.zeroValue4
 t9:=Tryz.underlying9
 a9:=Tryz.isAgg9
 z9:=Tryz.sizeOf9
 v9:=Tryz.zeroValue9}
open Go.RowKit Go.Lib in
theorem Tryz.strings_HasSuffix (s p:ByteArray) (w:World) (hs:s.size≤9223372036854775807) :
 Calls Tryz.prog 181 #[.string s,.string p] w fun e w'=>e=.returned (.bool (Lib.hasSuffix s.data.toList p.data.toList))∧w'=w:=Any.strings_HasSuffix Tryz.lays100 s p w hs
def Tryz.lays101_ren:Go.Shelf.Ren:=⟨fun | 101=>137 | 208=>176 | 206=>205 | n=>n,fun | 9=>9 | 4=>4 | 3=>3 | n=>n,fun | n=>n⟩
theorem Tryz.lays101:Go.Proofs.Lays.n101 Tryz.prog Tryz.lays101_ren:={
 mixed:=by kernel_rfl
 f101:=Tryz.func137.trans (congrArg some (by kernel_rfl))
 f206:=Tryz.func205.trans (congrArg some (by kernel_rfl))
 f208:=Tryz.func176.trans (congrArg some (by kernel_rfl))
 t3:=Tryz.underlying3
 a3:=Tryz.isAgg3
 z3:=Tryz.sizeOf3
 v3:=Tryz.zeroValue3
 t4:=Tryz.underlying4
 a4:=Tryz.isAgg4
 z4:=Tryz.sizeOf4
 v4:=Tryz.zeroValue4
 t9:=Tryz.underlying9
 a9:=Tryz.isAgg9
 z9:=Tryz.sizeOf9
 v9:=Tryz.zeroValue9}
open Go.RowKit Go.Lib in
theorem Tryz.strings_TrimPrefix (s p:ByteArray) (w:World) :
 Calls Tryz.prog 137 #[.string s,.string p] w fun e w'=>e=.returned (.string ⟨(Lib.trimPrefix s.data.toList p.data.toList).toArray⟩)∧w'=w:=Any.strings_TrimPrefix Tryz.lays101 s p w
end Go.Proofs
namespace Go.Proofs.YtgnpckelbokniaaGreatDoor
open Go.RowKit
set_option linter.unusedVariables false
set_option linter.unusedSimpArgs false
structure Env (w:World):Prop where
 tab : Lib.TabIs Tryz.prog w "internal/strconv.uint64pow10" .u64 Lib.pow10Tab
 dirs:∀j,j<4→w.cell? ⟨0,j,none⟩=some (.string (bs (dirW j)))
 kinds:∀j,1≤j→j<4→w.cell? ⟨1,j,none⟩=some (.string (bs (kindW j)))
 none:w.cell? ⟨1,0,none⟩=some (.string (bs []))
theorem gPow : Tryz.prog.globalNamed "internal/strconv.uint64pow10" = some 2 := by kernel_rfl
theorem Env.under {w w':World} (h:Env w) (hb:Below w.heap.size w w'):Env w':=by
 have hd:0<w.heap.size:=block_lt_of_cell (h.dirs 0 (by decide))
 have hk:1<w.heap.size:=block_lt_of_cell h.none
 exact ⟨Go.Joins.tab_stays gPow h.tab hb (Nat.le_refl _),fun j hj=>(hb.cell (p:=⟨0,j,Option.none⟩) hd).trans (h.dirs j hj),fun j h1 hj=>(hb.cell (p:=⟨1,j,Option.none⟩) hk).trans (h.kinds j h1 hj),
  (hb.cell (p:=⟨1,0,Option.none⟩) hk).trans h.none⟩
theorem Env.on {w w':World} {B:Nat} (h:Env w) (hB:w.heap.size≤B) (hb:Below B w w'):Env w':=h.under (hb.mono hB)
theorem dec_eq (n:Nat):dec n=Lib.decDigits n:=by
 induction n using Nat.strongRecOn with
 | _ n ih =>
   unfold dec Lib.decDigits
   split
   · rfl
   · rw [ih (n / 10) (by omega)]
theorem itoa_dec {n:Int} (h:0≤n):Lib.itoa n=decI n:=by
 unfold Lib.itoa decI
 rw [if_neg (by omega),dec_eq]
theorem itoa_any (n:Int) (w:World) (hE:Env w) (h0:0≤n) (h1:n≤9223372036854775807):Calls Tryz.prog 48 #[.int .i64 n] w fun e w'=>e=.returned (.string (bs (decI n)))∧Below w.heap.size w w' :=
 (Tryz.strconv_Itoa n (by omega) h1 w hE.tab).mono fun e w' ⟨he,k,os,hw⟩=>by
  subst hw
  rw [itoa_dec h0] at he
  exact ⟨he,Lib.below_grow _ w (Nat.le_refl _) k os⟩
set_option maxHeartbeats 800000 in
theorem within_any (n a b:Int) (w:World):Calls Tryz.prog 45 #[.int .i64 n,.int .i64 a,.int .i64 b] w fun e w'=>e=.returned (.bool (decide (a≤n) && decide (n≤b)))∧w=w':=by
 by_cases h1:a≤n
 · rw [decide_eq_true h1,Bool.true_and]
   go_enter Tryz.func45,Tryz.ntmps45
   go_wp2
   go_ret
   exact ⟨rfl,rfl⟩
 · have h1:n<a:=by omega
   rw [decide_eq_false (by omega),Bool.false_and]
   go_enter Tryz.func45,Tryz.ntmps45
   go_wp2
   go_ret
   exact ⟨rfl,rfl⟩
theorem wordP_cut {l:Tx} {m:Nat} (hm:m≤32):wordP 1 m l=(decide ((l.length:Int)≤(m:Int)) && wordP 1 32 l):=by
 unfold wordP
 rw [Bool.eq_iff_iff]
 simp only [Bool.and_eq_true,decide_eq_true_eq]
 constructor
 · rintro ⟨h1,h2,h3⟩
   exact ⟨by omega,h1,h2,by omega⟩
 · rintro ⟨h1,h2,h3,h4⟩
   exact ⟨h2,h3,by omega⟩
set_option maxHeartbeats 800000 in
theorem wordOf_any (s:ByteArray) (m:Nat) (w:World) (hs:s.size≤maxLen) (hm:m≤32):Calls Tryz.prog 44 #[.string s,.int .i64 m] w fun e w'=>e=.returned (.bool (wordP 1 m (tx s)))∧w=w':=by
 have HW:=Lib.hid (word_any s w hs)
 unfold maxLen at hs
 have HE:Hid (wordP 1 m (tx s)=(decide ((s.size:Int)≤(m:Int)) && wordP 1 32 (tx s))):=Lib.hid (by rw [←tx_length];exact wordP_cut hm)
 generalize wordP 1 m (tx s)=r at *
 generalize wordP 1 32 (tx s)=q at *
 by_cases h1:(s.size:Int)≤(m:Int)
 · have HR:Hid (q=r):=Lib.hid (by rw [HE.out];simp [h1])
   go_enter Tryz.func44,Tryz.ntmps44
   go_wp2_with (go_at_call 93;(with_reducible refine HW.out.mono ?_);rintro e w' ⟨rfl,rfl⟩)
   go_ret
   exact ⟨ret_bool HR.out,rfl⟩
 · have HR:Hid (false=r):=Lib.hid (by rw [HE.out];simp [h1])
   have h1:(m:Int)<(s.size:Int):=by omega
   go_enter Tryz.func44,Tryz.ntmps44
   go_wp2_with (go_at_call 93;(with_reducible refine HW.out.mono ?_);rintro e w' ⟨rfl,rfl⟩)
   go_ret
   exact ⟨ret_bool HR.out,rfl⟩
theorem prefix_blank (l:Tx):Lib.hasPrefix l [32]=(l.head? == some 32):=by
 unfold Lib.hasPrefix
 cases l with
 | nil=>rfl
 | cons c r=>rw [Bool.eq_iff_iff];simp only [List.isPrefixOf,Bool.and_true,beq_iff_eq,List.head?_cons,Option.some.injEq];exact eq_comm
theorem suffix_blank (l:Tx):Lib.hasSuffix l [32]=(l.getLast? == some 32):=by
 unfold Lib.hasSuffix List.isSuffixOf
 rw [List.getLast?_eq_head?_reverse]
 show List.isPrefixOf [32] l.reverse=_
 cases l.reverse with
 | nil=>rfl
 | cons c r=>rw [Bool.eq_iff_iff];simp only [List.isPrefixOf,Bool.and_true,beq_iff_eq,List.head?_cons,Option.some.injEq];exact eq_comm
theorem has_blank (l:Tx):decide (0≤Lib.indexByte l 32) = !(l.all (fun c=>c != 32)):=by
 induction l with
 | nil=>rfl
 | cons c r ih =>
   unfold Lib.indexByte
   rw [List.all_cons]
   by_cases h:c=32
   · subst h;rfl
   · have h1:(c == 32)=false:=by simpa using h
     have h2:(c != 32)=true:=by simpa using h
     rw [h1,h2,Bool.true_and,←ih]
     have hn:Lib.indexByte r 32=-1∨0≤Lib.indexByte r 32:=by
      clear ih
      induction r with
      | nil=>exact .inl rfl
      | cons d r ih =>
        unfold Lib.indexByte
        by_cases hd:d == 32
        · rw [if_pos hd];exact .inr (by omega)
        · rw [if_neg hd]
          rcases ih with ih | ih
          · rw [ih];exact .inl rfl
          · rw [if_neg (by simp;omega)];exact .inr (by omega)
     rcases hn with hn | hn
     · rw [hn];rfl
     · have:(Lib.indexByte r 32 == -1)=false:=by simp;omega
       rw [this]
       simp
       omega
set_option maxHeartbeats 1600000 in
theorem goodFormat_any (s:ByteArray) (w:World) (hs:s.size≤maxLen):Calls Tryz.prog 149 #[.string s] w fun e w'=>e=.returned (.bool (plainP (tx s)))∧w=w':=by
 have HV:=Lib.hid (value_any s w hs)
 unfold maxLen at hs
 have HP:Hid (Calls Tryz.prog 180 #[.string s,.string ⟨#[32]⟩] w fun e w'=>e=.returned (.bool ((tx s).head? == some 32))∧w=w'):=Lib.hid ((Tryz.strings_HasPrefix s ⟨#[32]⟩ w).mono fun e w' ⟨he,hw⟩=>⟨by rw [he];exact ret_bool (prefix_blank (tx s)),hw.symm⟩)
 have HS:Hid (Calls Tryz.prog 181 #[.string s,.string ⟨#[32]⟩] w fun e w'=>e=.returned (.bool ((tx s).getLast? == some 32))∧w=w'):=Lib.hid ((Tryz.strings_HasSuffix s ⟨#[32]⟩ w (by omega)).mono fun e w' ⟨he,hw⟩=>⟨by rw [he];exact ret_bool (suffix_blank (tx s)),hw.symm⟩)
 have HE:Hid (plainP (tx s)=(valP (tx s) && decide ((s.size:Int)≤100) && !((tx s).head? == some 32) && !((tx s).getLast? == some 32))):=Lib.hid (by
  unfold plainP
  congr 3
  rw [decide_eq_decide,tx_length]
  omega)
 generalize plainP (tx s)=r at *
 generalize ((tx s).head? == some 32)=p at *
 generalize ((tx s).getLast? == some 32)=q at *
 generalize valP (tx s)=v at *
 cases v with
 | false =>
   have HR:Hid (false=r):=Lib.hid (by rw [HE.out];rfl)
   go_enter Tryz.func149,Tryz.ntmps149
   go_wp2_with (go_at_call 78;(with_reducible refine HV.out.mono ?_);rintro e w' ⟨rfl,rfl⟩)
   go_ret
   exact ⟨ret_bool HR.out,rfl⟩
 | true =>
   by_cases h1:(s.size:Int)≤100
   · cases p with
     | true =>
       have HR:Hid (false=r):=Lib.hid (by rw [HE.out];simp)
       go_enter Tryz.func149,Tryz.ntmps149
       go_wp2_with (first | (go_at_call 78;(with_reducible refine HV.out.mono ?_);rintro e w' ⟨rfl,rfl⟩) | (go_at_call 180;(with_reducible refine HP.out.mono ?_);rintro e w' ⟨rfl,rfl⟩))
       go_ret
       exact ⟨ret_bool HR.out,rfl⟩
     | false =>
       have HR:Hid ((!q)=r):=Lib.hid (by rw [HE.out];simp [h1])
       go_enter Tryz.func149,Tryz.ntmps149
       go_wp2_with (first | (go_at_call 78;(with_reducible refine HV.out.mono ?_);rintro e w' ⟨rfl,rfl⟩) | (go_at_call 180;(with_reducible refine HP.out.mono ?_);rintro e w' ⟨rfl,rfl⟩) | (go_at_call 181;(with_reducible refine HS.out.mono ?_);rintro e w' ⟨rfl,rfl⟩))
       go_ret
       exact ⟨ret_bool HR.out,rfl⟩
   · have HR:Hid (false=r):=Lib.hid (by rw [HE.out];simp [h1])
     have h1:100<(s.size:Int):=by omega
     go_enter Tryz.func149,Tryz.ntmps149
     go_wp2_with (go_at_call 78;(with_reducible refine HV.out.mono ?_);rintro e w' ⟨rfl,rfl⟩)
     go_ret
     exact ⟨ret_bool HR.out,rfl⟩
set_option maxHeartbeats 800000 in
theorem badFormat_any (s:ByteArray) (w:World) (hs:s.size≤maxLen):Calls Tryz.prog 151 #[.string s] w fun e w'=>e=.returned (.bool (!plainP (tx s)))∧w=w':=by
 have HV:=Lib.hid (goodFormat_any s w hs)
 generalize plainP (tx s)=r at *
 go_enter Tryz.func151,Tryz.ntmps151
 go_wp2_with (go_at_call 149;(with_reducible refine HV.out.mono ?_);rintro e w' ⟨rfl,rfl⟩)
 go_ret
 exact ⟨rfl,rfl⟩
set_option maxHeartbeats 800000 in
theorem goodRid_any (s:ByteArray) (w:World) (hs:s.size≤maxLen):Calls Tryz.prog 102 #[.string s] w fun e w'=>e=.returned (.bool (goodR s))∧w=w':=by
 have HV:Hid (Calls Tryz.prog 44 #[.string s,.int .i64 8] w fun e w'=>e=.returned (.bool (wordP 1 8 (tx s)))∧w=w'):=Lib.hid (wordOf_any s 8 w hs (by decide))
 have HE:Hid (goodR s=wordP 1 8 (tx s)):=Lib.hid rfl
 rw [HE.out]
 generalize wordP 1 8 (tx s)=r at *
 go_enter Tryz.func102,Tryz.ntmps102
 go_wp2_with (go_at_call 44;(with_reducible refine HV.out.mono ?_);rintro e w' ⟨rfl,rfl⟩)
 go_ret
 exact ⟨rfl,rfl⟩
theorem anySource_any (v:Value) (w:World):Calls Tryz.prog 105 #[v] w fun e w'=>e=.returned (.bool true)∧w=w':=by
 go_enter Tryz.func105,Tryz.ntmps105
 go_wp2
 go_ret
 exact ⟨rfl,rfl⟩
theorem itselfS_any (v:Value) (w:World):Calls Tryz.prog 101 #[v] w fun e w'=>e=.returned v∧w=w':=by
 go_enter Tryz.func101,Tryz.ntmps101
 go_wp2
 go_ret
 exact ⟨rfl,rfl⟩
theorem itselfU_any (v:Value) (w:World):Calls Tryz.prog 104 #[v] w fun e w'=>e=.returned v∧w=w':=by
 go_enter Tryz.func104,Tryz.ntmps104
 go_wp2
 go_ret
 exact ⟨rfl,rfl⟩
theorem codecType_any (n:Int) (a b c d e:Value) (w:World):Calls Tryz.prog 95 #[.agg #[.int .i64 n,a,b,c,d,e]] w fun e w'=>e=.returned (.int .i64 n)∧Below w.heap.size w w':=by
 go_enter Tryz.func95,Tryz.ntmps95
 go_wp2
 go_ret
 exact ⟨rfl,(Below.refl _ w).alloc (Nat.le_refl _) _⟩
theorem extID_any (n:Int) (a:Value) (w:World):Calls Tryz.prog 98 #[.agg #[.int .i64 n,a]] w fun e w'=>e=.returned (.int .i64 n)∧Below w.heap.size w w':=by
 go_enter Tryz.func98,Tryz.ntmps98
 go_wp2
 go_ret
 exact ⟨rfl,(Below.refl _ w).alloc (Nat.le_refl _) _⟩
set_option maxHeartbeats 1600000 in
theorem goodExt_any (x:ExtS) (w:World) (hs:x.uri.size≤maxLen):Calls Tryz.prog 99 #[.agg #[.int .i64 x.id,.string x.uri]] w fun e w'=>e=.returned (.bool (goodE x))∧Below w.heap.size w w':=by
 obtain ⟨n,s⟩:=x
 have hs:s.size≤maxLen:=hs
 have hb0:Below w.heap.size w (w.alloc (.cells #[.int .i64 n,.string s] 71)):=(Below.refl _ w).alloc (Nat.le_refl _) _
 have hz:=Whole.new w 71 #[.int .i64 n,.string s]
 have c0:=hz.cell 0
 have c1:=hz.cell 1
 have HB:=Lib.hid hb0
 have HE:Hid (goodE ⟨n,s⟩=((decide ((1:Int)≤n) && decide (n≤14)) && (valP (tx s) && (decide ((s.size:Int)≤100) && !decide (0≤Lib.indexByte (tx s) 32))))):=Lib.hid (by
  unfold goodE uriP
  rw [has_blank,Bool.not_not,tx_length]
  have:decide (s.size≤100)=decide ((s.size:Int)≤100):=by rw [decide_eq_decide];omega
  rw [this]
  simp only [Bool.and_assoc])
 clear hb0 hz
 show Calls _ _ _ _ fun e w'=>e=.returned (.bool (goodE ⟨n,s⟩))∧_
 obtain ⟨N,hN⟩:∃N,w.heap.size=N:=⟨_,rfl⟩
 rw [hN] at c0 c1 HB ⊢
 generalize goodE ⟨n,s⟩=r at *
 go_enter Tryz.func99,Tryz.ntmps99
 go_upto_region 1 with fail
 generalize w.alloc (.cells #[.int .i64 n,.string s] 71)=W at *
 have HT:=Lib.hid (within_any n 1 14 W)
 have HV:=Lib.hid (value_any s W hs)
 have HC:Hid (Calls Tryz.prog 154 #[.string s,.string ⟨#[32]⟩] W fun e w'=>e=.returned (.bool (decide (0≤Lib.indexByte (tx s) 32)))∧W=w'):=Lib.hid ((Tryz.strings_Contains_one s 32 W).mono fun e w' ⟨he,hw⟩=>⟨he,hw.symm⟩)
 unfold maxLen at hs
 generalize decide (0≤Lib.indexByte (tx s) 32)=p at *
 generalize valP (tx s)=v at *
 generalize (decide ((1:Int)≤n) && decide (n≤14))=t at *
 clear hN
 cases t with
 | false =>
   have HR:Hid (false=r):=Lib.hid (by rw [HE.out];rfl)
   go_wp2_with (go_at_call 45;(with_reducible refine HT.out.mono ?_);rintro e w' ⟨rfl,rfl⟩)
   go_ret
   exact ⟨ret_bool HR.out,HB.out⟩
 | true =>
   cases v with
   | false =>
     have HR:Hid (false=r):=Lib.hid (by rw [HE.out];rfl)
     go_wp2_with (first | (go_at_call 45;(with_reducible refine HT.out.mono ?_);rintro e w' ⟨rfl,rfl⟩) | (go_at_call 78;(with_reducible refine HV.out.mono ?_);rintro e w' ⟨rfl,rfl⟩))
     go_ret
     exact ⟨ret_bool HR.out,HB.out⟩
   | true =>
     by_cases h1:(s.size:Int)≤100
     · have HR:Hid ((!p)=r):=Lib.hid (by rw [HE.out];simp [h1])
       go_wp2_with (first | (go_at_call 45;(with_reducible refine HT.out.mono ?_);rintro e w' ⟨rfl,rfl⟩) | (go_at_call 78;(with_reducible refine HV.out.mono ?_);rintro e w' ⟨rfl,rfl⟩) | (go_at_call 154;(with_reducible refine HC.out.mono ?_);rintro e w' ⟨rfl,rfl⟩))
       go_ret
       exact ⟨ret_bool HR.out,HB.out⟩
     · have HR:Hid (false=r):=Lib.hid (by rw [HE.out];simp [h1])
       have h1:100<(s.size:Int):=by omega
       go_wp2_with (first | (go_at_call 45;(with_reducible refine HT.out.mono ?_);rintro e w' ⟨rfl,rfl⟩) | (go_at_call 78;(with_reducible refine HV.out.mono ?_);rintro e w' ⟨rfl,rfl⟩))
       go_ret
       exact ⟨ret_bool HR.out,HB.out⟩
set_option maxHeartbeats 800000 in
theorem goodCrypto_any (n:Int) (ks:List Value) (w:World) (hk:ks.length=30):Calls Tryz.prog 108 #[.agg (Value.int .i64 n :: ks).toArray] w fun e w'=>e=.returned (.bool (decide (1≤n) && decide (n≤9)))∧Below w.heap.size w w':=by
 have hb0:Below w.heap.size w (w.alloc (.cells (Value.int .i64 n :: ks).toArray 75)):=(Below.refl _ w).alloc (Nat.le_refl _) _
 have hz:=Whole.new w 75 (Value.int .i64 n :: ks).toArray
 have c0:(w.alloc (.cells (Value.int .i64 n :: ks).toArray 75)).cell? ⟨w.heap.size,0,none⟩=some (.int .i64 n):=hz.cell 0
 have HB:=Lib.hid hb0
 clear hb0 hz
 obtain ⟨N,hN⟩:∃N,w.heap.size=N:=⟨_,rfl⟩
 rw [hN] at c0 HB ⊢
 have HTT:Hid (∀W,Calls Tryz.prog 45 #[.int .i64 n,.int .i64 1,.int .i64 9] W fun e w'=>e=.returned (.bool (decide ((1:Int)≤n) && decide (n≤9)))∧W=w'):=Lib.hid fun W=>within_any n 1 9 W
 generalize (decide ((1:Int)≤n) && decide (n≤9))=t at *
 go_enter Tryz.func108,Tryz.ntmps108
 go_upto_region 1 with fail
 generalize w.alloc (.cells (Value.int .i64 n :: ks).toArray 75)=W at *
 have HT:=Lib.hid (HTT.out W)
 clear hN
 go_wp2_with (go_at_call 45;(with_reducible refine HT.out.mono ?_);rintro e w' ⟨rfl,rfl⟩)
 go_ret
 exact ⟨rfl,HB.out⟩
def numP (l:Tx):Int:=match Lib.atoiAll l with
 | .ok v=>v
 | Lib.NumEnd.syntax=>0
 | .range=>Lib.atoiSat l
def srcP (l:Tx):Nat:=match Lib.parseUintB 32 l with
 | .ok u=>u
 | Lib.NumEnd.syntax=>0
 | .range=>4294967295
def valD (acc:Nat):Tx→Nat
 | []=>acc
 | c :: r=>valD (acc * 10+(c.toNat - 48)) r
theorem valD_ge (l:Tx):∀acc,acc≤valD acc l:=by
 induction l with
 | nil=>exact fun acc=>Nat.le_refl _
 | cons c r ih =>
   intro acc
   have:=ih (acc * 10+(c.toNat - 48))
   show acc≤valD (acc * 10+(c.toNat - 48)) r
   omega
theorem valD_append (a b:Tx):∀acc,valD acc (a++b)=valD (valD acc a) b:=by
 induction a with
 | nil=>exact fun acc=>rfl
 | cons c r ih=>exact fun acc=>ih _
theorem valD_dec (n:Nat):valD 0 (dec n)=n:=by
 induction n using Nat.strongRecOn with
 | _ n ih =>
   unfold dec
   split
   · next h =>
     show 0 * 10+((UInt8.ofNat (48+n)).toNat - 48)=n
     rw [UInt8.toNat_ofNat']
     omega
   · next h =>
     rw [valD_append,ih (n / 10) (by omega)]
     show n / 10 * 10+((UInt8.ofNat (48+n % 10)).toNat - 48)=n
     rw [UInt8.toNat_ofNat']
     omega
theorem parse10_ok:∀(l:Tx) (acc:Nat),(∀c∈l,48≤c.toNat∧c.toNat≤57)→valD acc l<1000000000000000000→Lib.parseUint10 acc l=.ok (valD acc l)
 | [],acc,_,_=>rfl
 | c :: r,acc,h,hv=>by
   have hc:=h c (by simp)
   have hv':valD (acc * 10+(c.toNat - 48)) r<1000000000000000000:=hv
   have hg:=valD_ge r (acc * 10+(c.toNat - 48))
   unfold Lib.parseUint10
   rw [if_pos hc,if_neg (by omega),if_neg (by omega)]
   exact parse10_ok r _ (fun d hd=>h d (by simp [hd])) hv'
theorem parseM_ok (M:Nat):∀(l:Tx) (acc:Nat),(∀c∈l,48≤c.toNat∧c.toNat≤57)→valD acc l≤M→M<1000000000000000000→Lib.parseUintM M acc l=.ok (valD acc l)
 | [],acc,_,_,_=>rfl
 | c :: r,acc,h,hv,hM=>by
   have hc:=h c (by simp)
   have hv':valD (acc * 10+(c.toNat - 48)) r≤M:=hv
   have hg:=valD_ge r (acc * 10+(c.toNat - 48))
   unfold Lib.parseUintM
   rw [if_pos hc,if_neg (by omega),if_neg (by omega)]
   exact parseM_ok M r _ (fun d hd=>h d (by simp [hd])) hv' hM
theorem numP_dec {n:Nat} (h:n≤1000000):numP (dec n)=n:=by
 have hd:=dec_digit n
 have h1:Lib.atoiAll (dec n)=.ok (n:Int):=by
  have hp:Lib.parseMag (dec n)=.ok n:=by
   unfold Lib.parseMag
   rw [if_neg (dec_ne n),parse10_ok _ 0 hd (by rw [valD_dec];omega),valD_dec]
  cases hl:dec n with
  | nil=>exact (dec_ne n hl).elim
  | cons c r =>
    rw [hl] at hp hd
    have hc:=hd c (by simp)
    unfold Lib.atoiAll
    simp only
    rw [if_neg (by omega),hp]
    simp only
    rw [if_neg (by omega),if_neg (by omega),if_neg (by omega)]
 unfold numP
 rw [h1]
theorem srcP_dec {n:Nat} (h:n<4294967296):srcP (dec n)=n:=by
 have h1:Lib.parseUintB 32 (dec n)=.ok n:=by
  unfold Lib.parseUintB
  rw [if_neg (dec_ne n),parseM_ok _ _ 0 (dec_digit n) (by rw [valD_dec];omega) (by decide),valD_dec]
 unfold srcP
 rw [h1]
structure EnvR (w:World):Prop where
 env:Env w
 syn:∃ev,w.cell? ⟨4,0,none⟩=some ev∧(ev=.nilIface∨∃te pe,ev=.iface te pe)
 rng:∃ev,w.cell? ⟨5,0,none⟩=some ev∧(ev=.nilIface∨∃te pe,ev=.iface te pe)
theorem EnvR.under {w w':World} (h:EnvR w) (hb:Below w.heap.size w w'):EnvR w':=by
 obtain ⟨e1,h1,k1⟩:=h.syn
 obtain ⟨e2,h2,k2⟩:=h.rng
 exact ⟨h.env.under hb,⟨e1,(hb.cell (p:=⟨4,0,Option.none⟩) (block_lt_of_cell h1)).trans h1,k1⟩,⟨e2,(hb.cell (p:=⟨5,0,Option.none⟩) (block_lt_of_cell h2)).trans h2,k2⟩⟩
theorem bytes_below (w:World) (t:ByteArray):Below w.heap.size w (Lib.bytesWorld w 5 t):=Go.Joins.below_bytesWorld _ w _ t (Nat.le_refl _)
set_option maxHeartbeats 800000 in
theorem atoi_any (s:ByteArray) (w:World) (hE:EnvR w) (hs:s.size≤281474976710656):Calls Tryz.prog 113 #[.string s] w fun e w'=>(∃er,e=.returned (.tuple #[.int .i64 (numP (tx s)),er]))∧Below w.heap.size w w':=by
 cases h:Lib.atoiAll s.data.toList with
 | ok v =>
   have hn:numP (tx s)=v:=by
    show (match Lib.atoiAll s.data.toList with | .ok v=>v | Lib.NumEnd.syntax=>0 | .range=>Lib.atoiSat s.data.toList)=v
    rw [h]
   rw [hn]
   refine (Tryz.strconv_Atoi_ok s (by omega) v h w).mono fun e w' hh=>⟨⟨_,hh.1⟩,?_⟩
   rcases hh.2 with rfl | ⟨t,rfl⟩
   · exact Below.refl _ _
   · exact bytes_below w t
 | range =>
   have hn:numP (tx s)=Lib.atoiSat s.data.toList:=by
    show (match Lib.atoiAll s.data.toList with | .ok v=>v | Lib.NumEnd.syntax=>0 | .range=>Lib.atoiSat s.data.toList)=Lib.atoiSat s.data.toList
    rw [h]
   rw [hn]
   obtain ⟨ev,hv,hev⟩:=hE.rng
   exact (Tryz.strconv_Atoi_range s hs h ev w hv hev).mono fun e w' ⟨N,h1,_,_,h4⟩=>⟨⟨_,h1⟩,h4⟩
 | _ =>
   have hn:numP (tx s)=0:=by
    show (match Lib.atoiAll s.data.toList with | .ok v=>v | Lib.NumEnd.syntax=>0 | .range=>Lib.atoiSat s.data.toList)=0
    rw [h]
   rw [hn]
   obtain ⟨ev,hv,hev⟩:=hE.syn
   exact (Tryz.strconv_Atoi_syntax s hs h ev w hv hev).mono fun e w' ⟨N,h1,_,_,h4⟩=>⟨⟨_,h1⟩,h4⟩
set_option maxHeartbeats 800000 in
theorem number_any (s:ByteArray) (w:World) (hE:EnvR w) (hs:s.size≤281474976710656):Calls Tryz.prog 54 #[.string s] w fun e w'=>e=.returned (.int .i64 (numP (tx s)))∧Below w.heap.size w w':=by
 have HC:=Lib.hid (atoi_any s w hE hs)
 generalize numP (tx s)=n at *
 go_enter Tryz.func54,Tryz.ntmps54
 go_wp2_with (go_at_call 113;(with_reducible refine HC.out.mono ?_);rintro e w1 ⟨⟨er,rfl⟩,hb1⟩)
 go_ret
 exact ⟨rfl,hb1⟩
theorem any_no {α:Type} [Inhabited α] {L:List α} {q:α→Bool} {n:Nat} (hn:L.length=n) (h:∀j,j<n→q (L.getD j default)=false):L.any q=false:=by
 rw [List.any_eq_false]
 intro a ha
 obtain ⟨j,hj,rfl⟩:=List.getElem_of_mem ha
 have:=h j (by omega)
 simpa [List.getD,hj] using this
theorem any_yes {α:Type} [Inhabited α] {L:List α} {q:α→Bool} {j:Nat} (hj:j<L.length) (h:q (L.getD j default)=true):L.any q=true:=by
 rw [List.any_eq_true]
 exact ⟨_,getD_mem hj,h⟩
set_option maxHeartbeats 1600000 in
set_option maxRecDepth 100000 in
theorem indexB_any (A:Option Addr) (n c:Nat) (L:List ByteArray) (q:ByteArray→Bool) (w:World) (h:TextsV w w.heap.size (.slice A n c) L) (hn:L.length=n) (hl:n≤4611686018427387904)
 (hp:∀(W:World) (x:ByteArray),Below w.heap.size w W→x∈L→Calls Tryz.prog 151 #[.string x] W fun e w'=>e=.returned (.bool (q x))∧Below W.heap.size W w') :
 Calls Tryz.prog 182 #[.slice A n c,.func (.func 151) #[] #[]] w fun e w'=>∃r:Int,e=.returned (.int .i64 r)∧decide (0≤r)=L.any q∧Below w.heap.size w w':=by
 have HA:=Lib.hid h
 have HP:=Lib.hid hp
 have HE:=Lib.hid hn
 clear h hn hp
 go_enter Tryz.func182,Tryz.ntmps182
 go_wp2
 go_loopw [8] (fun s8 wr=>∃k:Nat,k≤n∧s8=.int .i64 k∧(∀j,j<k→q (L.getD j default)=false)∧Below w.heap.size w wr) (fun s8 _=>n - (intOf s8).toNat)
 case atStart=>exact ⟨0,by omega,rfl,(fun j hj=>by omega),Below.refl _ w⟩
 case round =>
  obtain ⟨k,hk,rfl,hno,hb⟩:=hrel
  have HNO:=Lib.hid hno
  clear hno
  by_cases hlt:k<n
  · have hlt':k<L.length:=by rw [HE.out];exact hlt
    obtain ⟨ad,c',e1,had,c0⟩:=(HA.out.below hb).at_ hlt'
    injection e1 with e1 e1n e1c
    clear e1n e1c
    subst e1
    obtain ⟨x,hx⟩:∃x,L.getD k default=x:=⟨_,rfl⟩
    have HM:Hid (x∈L):=Lib.hid (by rw [←hx];exact getD_mem hlt')
    rw [hx] at c0
    have HX:=Lib.hid hx
    have HB:=Lib.hid (And.intro hb hlt')
    obtain ⟨b,hbb⟩:∃b,q x=b:=⟨_,rfl⟩
    have HS:=Lib.hid (HP.out wr x hb HM.out)
    rw [hbb] at HS
    have HBT:=Lib.hid hbb
    clear hbb hx hb hlt' had
    have hk0:(0:Int)≤(k:Int):=by omega
    have hk1:(k:Int)<(n:Int):=by omega
    cases b with
    | true =>
      go_wp2_with (go_at_call 151;(with_reducible refine HS.out.mono ?_);rintro e w2 ⟨rfl,hb2⟩)
      go_ret
      exact ⟨_,rfl,by rw [any_yes HB.out.2 (by rw [HX.out];exact HBT.out)];exact decide_eq_true hk0,HB.out.1.trans (hb2.mono HB.out.1.size)⟩
    | false =>
      go_wp2_with (go_at_call 151;(with_reducible refine HS.out.mono ?_);rintro e w2 ⟨rfl,hb2⟩)
      go_roundw
      case rel =>
       refine ⟨k+1,by omega,by go_num,fun j hj=> ?_,HB.out.1.trans (hb2.mono HB.out.1.size)⟩
       by_cases e:j=k
       · subst e
         rw [HX.out]
         exact HBT.out
       · exact HNO.out j (by omega)
      case measure=>simp [intOf];omega
  · have e:k=n:=by omega
    subst e
    have HN:Hid (L.any q=false):=Lib.hid (any_no HE.out HNO.out)
    have HB:=Lib.hid hb
    clear hb
    go_wp2
    go_ret
    exact ⟨_,rfl,by rw [HN.out];rfl,HB.out⟩
set_option maxHeartbeats 800000 in
theorem containsB_any (A:Option Addr) (n c:Nat) (L:List ByteArray) (q:ByteArray→Bool) (w:World) (h:TextsV w w.heap.size (.slice A n c) L) (hn:L.length=n) (hl:n≤4611686018427387904)
 (hp:∀(W:World) (x:ByteArray),Below w.heap.size w W→x∈L→Calls Tryz.prog 151 #[.string x] W fun e w'=>e=.returned (.bool (q x))∧Below W.heap.size W w') :
 Calls Tryz.prog 150 #[.slice A n c,.func (.func 151) #[] #[]] w fun e w'=>e=.returned (.bool (L.any q))∧Below w.heap.size w w':=by
 have HC:=Lib.hid (indexB_any A n c L q  w h hn hl hp)
 clear h hp
 generalize L.any q=r at *
 go_enter Tryz.func150,Tryz.ntmps150
 go_wp2_with (go_at_call 182;(with_reducible refine HC.out.mono ?_);rintro e w2 ⟨i,rfl,hi,hb2⟩)
 go_ret
 first | exact ⟨rfl,hb2⟩ | exact ⟨ret_bool hi,hb2⟩
set_option maxHeartbeats 1600000 in
set_option maxRecDepth 100000 in
theorem indexS_any (A:Option Addr) (n c:Nat) (L:List ByteArray) (q:ByteArray→Bool) (p1:Value) (p2:Value) (w:World) (h:TextsV w w.heap.size (.slice A n c) L) (hn:L.length=n) (hl:n≤4611686018427387904)
 (hp:∀(W:World) (x:ByteArray),Below w.heap.size w W→x∈L→Calls Tryz.prog 155 #[.string x,p1,p2] W fun e w'=>e=.returned (.bool (q x))∧Below W.heap.size W w') :
 Calls Tryz.prog 182 #[.slice A n c,.func (.func 155) #[] #[p1,p2]] w fun e w'=>∃r:Int,e=.returned (.int .i64 r)∧decide (0≤r)=L.any q∧Below w.heap.size w w':=by
 have HA:=Lib.hid h
 have HP:=Lib.hid hp
 have HE:=Lib.hid hn
 clear h hn hp
 go_enter Tryz.func182,Tryz.ntmps182
 go_wp2
 go_loopw [8] (fun s8 wr=>∃k:Nat,k≤n∧s8=.int .i64 k∧(∀j,j<k→q (L.getD j default)=false)∧Below w.heap.size w wr) (fun s8 _=>n - (intOf s8).toNat)
 case atStart=>exact ⟨0,by omega,rfl,(fun j hj=>by omega),Below.refl _ w⟩
 case round =>
  obtain ⟨k,hk,rfl,hno,hb⟩:=hrel
  have HNO:=Lib.hid hno
  clear hno
  by_cases hlt:k<n
  · have hlt':k<L.length:=by rw [HE.out];exact hlt
    obtain ⟨ad,c',e1,had,c0⟩:=(HA.out.below hb).at_ hlt'
    injection e1 with e1 e1n e1c
    clear e1n e1c
    subst e1
    obtain ⟨x,hx⟩:∃x,L.getD k default=x:=⟨_,rfl⟩
    have HM:Hid (x∈L):=Lib.hid (by rw [←hx];exact getD_mem hlt')
    rw [hx] at c0
    have HX:=Lib.hid hx
    have HB:=Lib.hid (And.intro hb hlt')
    obtain ⟨b,hbb⟩:∃b,q x=b:=⟨_,rfl⟩
    have HS:=Lib.hid (HP.out wr x hb HM.out)
    rw [hbb] at HS
    have HBT:=Lib.hid hbb
    clear hbb hx hb hlt' had
    have hk0:(0:Int)≤(k:Int):=by omega
    have hk1:(k:Int)<(n:Int):=by omega
    cases b with
    | true =>
      go_wp2_with (go_at_call 155;(with_reducible refine HS.out.mono ?_);rintro e w2 ⟨rfl,hb2⟩)
      go_ret
      exact ⟨_,rfl,by rw [any_yes HB.out.2 (by rw [HX.out];exact HBT.out)];exact decide_eq_true hk0,HB.out.1.trans (hb2.mono HB.out.1.size)⟩
    | false =>
      go_wp2_with (go_at_call 155;(with_reducible refine HS.out.mono ?_);rintro e w2 ⟨rfl,hb2⟩)
      go_roundw
      case rel =>
       refine ⟨k+1,by omega,by go_num,fun j hj=> ?_,HB.out.1.trans (hb2.mono HB.out.1.size)⟩
       by_cases e:j=k
       · subst e
         rw [HX.out]
         exact HBT.out
       · exact HNO.out j (by omega)
      case measure=>simp [intOf];omega
  · have e:k=n:=by omega
    subst e
    have HN:Hid (L.any q=false):=Lib.hid (any_no HE.out HNO.out)
    have HB:=Lib.hid hb
    clear hb
    go_wp2
    go_ret
    exact ⟨_,rfl,by rw [HN.out];rfl,HB.out⟩
set_option maxHeartbeats 800000 in
theorem containsS_any (A:Option Addr) (n c:Nat) (L:List ByteArray) (q:ByteArray→Bool) (p1:Value) (p2:Value) (w:World) (h:TextsV w w.heap.size (.slice A n c) L) (hn:L.length=n) (hl:n≤4611686018427387904)
 (hp:∀(W:World) (x:ByteArray),Below w.heap.size w W→x∈L→Calls Tryz.prog 155 #[.string x,p1,p2] W fun e w'=>e=.returned (.bool (q x))∧Below W.heap.size W w') :
 Calls Tryz.prog 150 #[.slice A n c,.func (.func 155) #[] #[p1,p2]] w fun e w'=>e=.returned (.bool (L.any q))∧Below w.heap.size w w':=by
 have HC:=Lib.hid (indexS_any A n c L q p1 p2 w h hn hl hp)
 clear h hp
 generalize L.any q=r at *
 go_enter Tryz.func150,Tryz.ntmps150
 go_wp2_with (go_at_call 182;(with_reducible refine HC.out.mono ?_);rintro e w2 ⟨i,rfl,hi,hb2⟩)
 go_ret
 first | exact ⟨rfl,hb2⟩ | exact ⟨ret_bool hi,hb2⟩
set_option maxHeartbeats 1600000 in
set_option maxRecDepth 100000 in
theorem indexU_any (A:Option Addr) (n c:Nat) (L:List Nat) (q:Nat→Bool) (p1:Value) (p2:Value) (w:World) (h:NumsV w w.heap.size (.slice A n c) L) (hn:L.length=n) (hl:n≤4611686018427387904)
 (hp:∀(W:World) (x:Nat),Below w.heap.size w W→x∈L→Calls Tryz.prog 156 #[.int .u32 (x:Nat),p1,p2] W fun e w'=>e=.returned (.bool (q x))∧Below W.heap.size W w') :
 Calls Tryz.prog 185 #[.slice A n c,.func (.func 156) #[] #[p1,p2]] w fun e w'=>∃r:Int,e=.returned (.int .i64 r)∧decide (0≤r)=L.any q∧Below w.heap.size w w':=by
 have HA:=Lib.hid h
 have HP:=Lib.hid hp
 have HE:=Lib.hid hn
 clear h hn hp
 go_enter Tryz.func185,Tryz.ntmps185
 go_wp2
 go_loopw [8] (fun s8 wr=>∃k:Nat,k≤n∧s8=.int .i64 k∧(∀j,j<k→q (L.getD j default)=false)∧Below w.heap.size w wr) (fun s8 _=>n - (intOf s8).toNat)
 case atStart=>exact ⟨0,by omega,rfl,(fun j hj=>by omega),Below.refl _ w⟩
 case round =>
  obtain ⟨k,hk,rfl,hno,hb⟩:=hrel
  have HNO:=Lib.hid hno
  clear hno
  by_cases hlt:k<n
  · have hlt':k<L.length:=by rw [HE.out];exact hlt
    obtain ⟨ad,c',e1,had,c0⟩:=(HA.out.below hb).at_ hlt'
    injection e1 with e1 e1n e1c
    clear e1n e1c
    subst e1
    obtain ⟨x,hx⟩:∃x,L.getD k default=x:=⟨_,rfl⟩
    have HM:Hid (x∈L):=Lib.hid (by rw [←hx];exact getD_mem hlt')
    rw [hx] at c0
    have HX:=Lib.hid hx
    have HB:=Lib.hid (And.intro hb hlt')
    obtain ⟨b,hbb⟩:∃b,q x=b:=⟨_,rfl⟩
    have HS:=Lib.hid (HP.out wr x hb HM.out)
    rw [hbb] at HS
    have HBT:=Lib.hid hbb
    clear hbb hx hb hlt' had
    have hk0:(0:Int)≤(k:Int):=by omega
    have hk1:(k:Int)<(n:Int):=by omega
    cases b with
    | true =>
      go_wp2_with (go_at_call 156;(with_reducible refine HS.out.mono ?_);rintro e w2 ⟨rfl,hb2⟩)
      go_ret
      exact ⟨_,rfl,by rw [any_yes HB.out.2 (by rw [HX.out];exact HBT.out)];exact decide_eq_true hk0,HB.out.1.trans (hb2.mono HB.out.1.size)⟩
    | false =>
      go_wp2_with (go_at_call 156;(with_reducible refine HS.out.mono ?_);rintro e w2 ⟨rfl,hb2⟩)
      go_roundw
      case rel =>
       refine ⟨k+1,by omega,by go_num,fun j hj=> ?_,HB.out.1.trans (hb2.mono HB.out.1.size)⟩
       by_cases e:j=k
       · subst e
         rw [HX.out]
         exact HBT.out
       · exact HNO.out j (by omega)
      case measure=>simp [intOf];omega
  · have e:k=n:=by omega
    subst e
    have HN:Hid (L.any q=false):=Lib.hid (any_no HE.out HNO.out)
    have HB:=Lib.hid hb
    clear hb
    go_wp2
    go_ret
    exact ⟨_,rfl,by rw [HN.out];rfl,HB.out⟩
set_option maxHeartbeats 800000 in
theorem containsU_any (A:Option Addr) (n c:Nat) (L:List Nat) (q:Nat→Bool) (p1:Value) (p2:Value) (w:World) (h:NumsV w w.heap.size (.slice A n c) L) (hn:L.length=n) (hl:n≤4611686018427387904)
 (hp:∀(W:World) (x:Nat),Below w.heap.size w W→x∈L→Calls Tryz.prog 156 #[.int .u32 (x:Nat),p1,p2] W fun e w'=>e=.returned (.bool (q x))∧Below W.heap.size W w') :
 Calls Tryz.prog 157 #[.slice A n c,.func (.func 156) #[] #[p1,p2]] w fun e w'=>e=.returned (.bool (L.any q))∧Below w.heap.size w w':=by
 have HC:=Lib.hid (indexU_any A n c L q p1 p2 w h hn hl hp)
 clear h hp
 generalize L.any q=r at *
 go_enter Tryz.func157,Tryz.ntmps157
 go_wp2_with (go_at_call 185;(with_reducible refine HC.out.mono ?_);rintro e w2 ⟨i,rfl,hi,hb2⟩)
 go_ret
 first | exact ⟨rfl,hb2⟩ | exact ⟨ret_bool hi,hb2⟩
set_option maxHeartbeats 1600000 in
set_option maxRecDepth 100000 in
theorem indexE_any (A:Option Addr) (n c:Nat) (L:List ExtS) (q:ExtS→Bool) (p1:Value) (p2:Value) (w:World) (h:ExtsV w w.heap.size (.slice A n c) L) (hn:L.length=n) (hl:n≤4611686018427387904)
 (hp:∀(W:World) (x:ExtS),Below w.heap.size w W→x∈L→Calls Tryz.prog 152 #[.agg #[.int .i64 x.id,.string x.uri],p1,p2] W fun e w'=>e=.returned (.bool (q x))∧Below W.heap.size W w') :
 Calls Tryz.prog 183 #[.slice A n c,.func (.func 152) #[] #[p1,p2]] w fun e w'=>∃r:Int,e=.returned (.int .i64 r)∧decide (0≤r)=L.any q∧Below w.heap.size w w':=by
 have HA:=Lib.hid h
 have HP:=Lib.hid hp
 have HE:=Lib.hid hn
 clear h hn hp
 go_enter Tryz.func183,Tryz.ntmps183
 go_wp2
 go_loopw [8] (fun s8 wr=>∃k:Nat,k≤n∧s8=.int .i64 k∧(∀j,j<k→q (L.getD j default)=false)∧Below w.heap.size w wr) (fun s8 _=>n - (intOf s8).toNat)
 case atStart=>exact ⟨0,by omega,rfl,(fun j hj=>by omega),Below.refl _ w⟩
 case round =>
  obtain ⟨k,hk,rfl,hno,hb⟩:=hrel
  have HNO:=Lib.hid hno
  clear hno
  by_cases hlt:k<n
  · have hlt':k<L.length:=by rw [HE.out];exact hlt
    obtain ⟨ad,c',e1,had,c0,c1⟩:=(HA.out.below hb).at_ hlt'
    injection e1 with e1 e1n e1c
    clear e1n e1c
    subst e1
    obtain ⟨x,hx⟩:∃x,L.getD k default=x:=⟨_,rfl⟩
    have HM:Hid (x∈L):=Lib.hid (by rw [←hx];exact getD_mem hlt')
    rw [hx] at c0 c1
    have HX:=Lib.hid hx
    have HB:=Lib.hid (And.intro hb hlt')
    obtain ⟨b,hbb⟩:∃b,q x=b:=⟨_,rfl⟩
    have HS:=Lib.hid (HP.out wr x hb HM.out)
    rw [hbb] at HS
    have HBT:=Lib.hid hbb
    clear hbb hx hb hlt' had
    have hk0:(0:Int)≤(k:Int):=by omega
    have hk1:(k:Int)<(n:Int):=by omega
    cases b with
    | true =>
      go_wp2_with (go_at_call 152;(with_reducible refine HS.out.mono ?_);rintro e w2 ⟨rfl,hb2⟩)
      go_ret
      exact ⟨_,rfl,by rw [any_yes HB.out.2 (by rw [HX.out];exact HBT.out)];exact decide_eq_true hk0,HB.out.1.trans (hb2.mono HB.out.1.size)⟩
    | false =>
      go_wp2_with (go_at_call 152;(with_reducible refine HS.out.mono ?_);rintro e w2 ⟨rfl,hb2⟩)
      go_roundw
      case rel =>
       refine ⟨k+1,by omega,by go_num,fun j hj=> ?_,HB.out.1.trans (hb2.mono HB.out.1.size)⟩
       by_cases e:j=k
       · subst e
         rw [HX.out]
         exact HBT.out
       · exact HNO.out j (by omega)
      case measure=>simp [intOf];omega
  · have e:k=n:=by omega
    subst e
    have HN:Hid (L.any q=false):=Lib.hid (any_no HE.out HNO.out)
    have HB:=Lib.hid hb
    clear hb
    go_wp2
    go_ret
    exact ⟨_,rfl,by rw [HN.out];rfl,HB.out⟩
set_option maxHeartbeats 800000 in
theorem containsE_any (A:Option Addr) (n c:Nat) (L:List ExtS) (q:ExtS→Bool) (p1:Value) (p2:Value) (w:World) (h:ExtsV w w.heap.size (.slice A n c) L) (hn:L.length=n) (hl:n≤4611686018427387904)
 (hp:∀(W:World) (x:ExtS),Below w.heap.size w W→x∈L→Calls Tryz.prog 152 #[.agg #[.int .i64 x.id,.string x.uri],p1,p2] W fun e w'=>e=.returned (.bool (q x))∧Below W.heap.size W w') :
 Calls Tryz.prog 153 #[.slice A n c,.func (.func 152) #[] #[p1,p2]] w fun e w'=>e=.returned (.bool (L.any q))∧Below w.heap.size w w':=by
 have HC:=Lib.hid (indexE_any A n c L q p1 p2 w h hn hl hp)
 clear h hp
 generalize L.any q=r at *
 go_enter Tryz.func153,Tryz.ntmps153
 go_wp2_with (go_at_call 183;(with_reducible refine HC.out.mono ?_);rintro e w2 ⟨i,rfl,hi,hb2⟩)
 go_ret
 first | exact ⟨rfl,hb2⟩ | exact ⟨ret_bool hi,hb2⟩
set_option maxHeartbeats 1600000 in
set_option maxRecDepth 100000 in
theorem indexC_any (A:Option Addr) (n c:Nat) (L:List CodecS) (q:CodecS→Bool) (p1:Value) (p2:Value) (w:World) (h:CodecsV w w.heap.size (.slice A n c) L) (hn:L.length=n) (hl:n≤4611686018427387904)
 (hp:∀(W:World) (x:CodecS) (vf:Value),Below w.heap.size w W→x∈L→Calls Tryz.prog 147 #[.agg #[.int .i64 x.type,.string x.name,.int .i64 x.clock,.int .i64 x.chans,.string x.format,vf],p1,p2] W fun e w'=>e=.returned (.bool (q x))∧Below W.heap.size W w') :
 Calls Tryz.prog 179 #[.slice A n c,.func (.func 147) #[] #[p1,p2]] w fun e w'=>∃r:Int,e=.returned (.int .i64 r)∧decide (0≤r)=L.any q∧Below w.heap.size w w':=by
 have HA:=Lib.hid h
 have HP:=Lib.hid hp
 have HE:=Lib.hid hn
 clear h hn hp
 go_enter Tryz.func179,Tryz.ntmps179
 go_wp2
 go_loopw [8] (fun s8 wr=>∃k:Nat,k≤n∧s8=.int .i64 k∧(∀j,j<k→q (L.getD j default)=false)∧Below w.heap.size w wr) (fun s8 _=>n - (intOf s8).toNat)
 case atStart=>exact ⟨0,by omega,rfl,(fun j hj=>by omega),Below.refl _ w⟩
 case round =>
  obtain ⟨k,hk,rfl,hno,hb⟩:=hrel
  have HNO:=Lib.hid hno
  clear hno
  by_cases hlt:k<n
  · have hlt':k<L.length:=by rw [HE.out];exact hlt
    obtain ⟨ad,c',vf,e1,had,c0,c1,c2,c3,c4,c5,-⟩:=(HA.out.below hb).at_ hlt'
    injection e1 with e1 e1n e1c
    clear e1n e1c
    subst e1
    obtain ⟨x,hx⟩:∃x,L.getD k default=x:=⟨_,rfl⟩
    have HM:Hid (x∈L):=Lib.hid (by rw [←hx];exact getD_mem hlt')
    rw [hx] at c0 c1 c2 c3 c4
    have HX:=Lib.hid hx
    have HB:=Lib.hid (And.intro hb hlt')
    obtain ⟨b,hbb⟩:∃b,q x=b:=⟨_,rfl⟩
    have HS:=Lib.hid (HP.out wr x vf hb HM.out)
    rw [hbb] at HS
    have HBT:=Lib.hid hbb
    clear hbb hx hb hlt' had
    have hk0:(0:Int)≤(k:Int):=by omega
    have hk1:(k:Int)<(n:Int):=by omega
    cases b with
    | true =>
      go_wp2_with (go_at_call 147;(with_reducible refine HS.out.mono ?_);rintro e w2 ⟨rfl,hb2⟩)
      go_ret
      exact ⟨_,rfl,by rw [any_yes HB.out.2 (by rw [HX.out];exact HBT.out)];exact decide_eq_true hk0,HB.out.1.trans (hb2.mono HB.out.1.size)⟩
    | false =>
      go_wp2_with (go_at_call 147;(with_reducible refine HS.out.mono ?_);rintro e w2 ⟨rfl,hb2⟩)
      go_roundw
      case rel =>
       refine ⟨k+1,by omega,by go_num,fun j hj=> ?_,HB.out.1.trans (hb2.mono HB.out.1.size)⟩
       by_cases e:j=k
       · subst e
         rw [HX.out]
         exact HBT.out
       · exact HNO.out j (by omega)
      case measure=>simp [intOf];omega
  · have e:k=n:=by omega
    subst e
    have HN:Hid (L.any q=false):=Lib.hid (any_no HE.out HNO.out)
    have HB:=Lib.hid hb
    clear hb
    go_wp2
    go_ret
    exact ⟨_,rfl,by rw [HN.out];rfl,HB.out⟩
set_option maxHeartbeats 800000 in
theorem containsC_any (A:Option Addr) (n c:Nat) (L:List CodecS) (q:CodecS→Bool) (p1:Value) (p2:Value) (w:World) (h:CodecsV w w.heap.size (.slice A n c) L) (hn:L.length=n) (hl:n≤4611686018427387904)
 (hp:∀(W:World) (x:CodecS) (vf:Value),Below w.heap.size w W→x∈L→Calls Tryz.prog 147 #[.agg #[.int .i64 x.type,.string x.name,.int .i64 x.clock,.int .i64 x.chans,.string x.format,vf],p1,p2] W fun e w'=>e=.returned (.bool (q x))∧Below W.heap.size W w') :
 Calls Tryz.prog 148 #[.slice A n c,.func (.func 147) #[] #[p1,p2]] w fun e w'=>e=.returned (.bool (L.any q))∧Below w.heap.size w w':=by
 have HC:=Lib.hid (indexC_any A n c L q p1 p2 w h hn hl hp)
 clear h hp
 generalize L.any q=r at *
 go_enter Tryz.func148,Tryz.ntmps148
 go_wp2_with (go_at_call 179;(with_reducible refine HC.out.mono ?_);rintro e w2 ⟨i,rfl,hi,hb2⟩)
 go_ret
 first | exact ⟨rfl,hb2⟩ | exact ⟨ret_bool hi,hb2⟩
set_option maxHeartbeats 800000 in
theorem indexY_none (A:Option Addr) (c:Nat) (f:Value) (w:World):Calls Tryz.prog 186 #[.slice A 0 c,f] w fun e w'=>e=.returned (.int .i64 (-1))∧w=w':=by
 go_enter Tryz.func186,Tryz.ntmps186
 go_wp2
 go_loopw [8] (fun s8 wr=>s8=.int .i64 0∧w=wr) (fun s8 _=>0)
 case atStart=>exact ⟨rfl,rfl⟩
 case round =>
  obtain ⟨rfl,rfl⟩:=hrel
  go_wp2
  go_ret
  exact ⟨rfl,rfl⟩
set_option maxHeartbeats 800000 in
theorem containsY_none (A:Option Addr) (c:Nat) (f:Value) (w:World):Calls Tryz.prog 159 #[.slice A 0 c,f] w fun e w'=>e=.returned (.bool false)∧w=w':=by
 have HC:=Lib.hid (indexY_none A c f w)
 go_enter Tryz.func159,Tryz.ntmps159
 go_wp2_with (go_at_call 186;(with_reducible refine HC.out.mono ?_);rintro e w2 ⟨rfl,rfl⟩)
 go_ret
 exact ⟨rfl,rfl⟩
theorem below_chain {N:Nat} {w W W':World} (hN:N≤w.heap.size) (h1:Below N w W) (h2:Below W.heap.size W W'):Below N w W':=h1.trans (h2.mono (Nat.le_trans hN h1.size))
set_option maxHeartbeats 3200000 in
set_option maxRecDepth 100000 in
theorem alikeC_any (n m:Int) (y1 y2 y3 y4 y5 x1 x2 x3 x4 x5:Value) (gk gx:Nat) (w:World) (hk:w.cell? ⟨gk,0,none⟩=some (.func (.func 95) #[] #[])) (hx:Whole w gx 31 #[.int .i64 m,x1,x2,x3,x4,x5]) :
 Calls Tryz.prog 147 #[.agg #[.int .i64 n,y1,y2,y3,y4,y5],.pointer (some ⟨gk,0,none⟩),.pointer (some ⟨gx,0,none⟩)] w fun e w'=>e=.returned (.bool (n == m))∧Below w.heap.size w w':=by
 have hb0:Below w.heap.size w (w.alloc (.cells #[.int .i64 n,y1,y2,y3,y4,y5] 31)):=(Below.refl _ w).alloc (Nat.le_refl _) _
 have hz:=Whole.new w 31 #[.int .i64 n,y1,y2,y3,y4,y5]
 have hgk:gk<w.heap.size:=block_lt_of_cell hk
 have hkk:(w.alloc (.cells #[.int .i64 n,y1,y2,y3,y4,y5] 31)).cell? ⟨gk,0,none⟩=some (.func (.func 95) #[] #[]):=(hb0.cell (p:=⟨gk,0,none⟩) hgk).trans hk
 have hxx:=hx.under hb0
 have HB:=Lib.hid (And.intro hb0 (And.intro hz (And.intro hkk hxx)))
 clear hb0 hz hkk hxx hk hx hgk
 obtain ⟨N,hN⟩:∃N,w.heap.size=N:=⟨_,rfl⟩
 rw [hN] at HB ⊢
 go_enter Tryz.func147,Tryz.ntmps147
 go_upto_region 1 with fail
 generalize w.alloc (.cells #[.int .i64 n,y1,y2,y3,y4,y5] 31)=W0 at *
 have HG:Hid (∀W,Below W0.heap.size W0 W→W.cell? ⟨gk,0,none⟩=some (.func (.func 95) #[] #[])):=Lib.hid fun W hW=>(hW.cell (p:=⟨gk,0,none⟩) (block_lt_of_cell HB.out.2.2.1)).trans HB.out.2.2.1
 have HO0:Hid (∀W,Below W0.heap.size W0 W→W.cell? ⟨N,0,none⟩=some (.int .i64 n)):=Lib.hid fun W hW=>(HB.out.2.1.under hW).cell 0
 have HO1:Hid (∀W,Below W0.heap.size W0 W→W.cell? ⟨N,1,none⟩=some (y1)):=Lib.hid fun W hW=>(HB.out.2.1.under hW).cell 1
 have HO2:Hid (∀W,Below W0.heap.size W0 W→W.cell? ⟨N,2,none⟩=some (y2)):=Lib.hid fun W hW=>(HB.out.2.1.under hW).cell 2
 have HO3:Hid (∀W,Below W0.heap.size W0 W→W.cell? ⟨N,3,none⟩=some (y3)):=Lib.hid fun W hW=>(HB.out.2.1.under hW).cell 3
 have HO4:Hid (∀W,Below W0.heap.size W0 W→W.cell? ⟨N,4,none⟩=some (y4)):=Lib.hid fun W hW=>(HB.out.2.1.under hW).cell 4
 have HO5:Hid (∀W,Below W0.heap.size W0 W→W.cell? ⟨N,5,none⟩=some (y5)):=Lib.hid fun W hW=>(HB.out.2.1.under hW).cell 5
 have HX0:Hid (∀W,Below W0.heap.size W0 W→W.cell? ⟨gx,0,none⟩=some (.int .i64 m)):=Lib.hid fun W hW=>(HB.out.2.2.2.under hW).cell 0
 have HX1:Hid (∀W,Below W0.heap.size W0 W→W.cell? ⟨gx,1,none⟩=some (x1)):=Lib.hid fun W hW=>(HB.out.2.2.2.under hW).cell 1
 have HX2:Hid (∀W,Below W0.heap.size W0 W→W.cell? ⟨gx,2,none⟩=some (x2)):=Lib.hid fun W hW=>(HB.out.2.2.2.under hW).cell 2
 have HX3:Hid (∀W,Below W0.heap.size W0 W→W.cell? ⟨gx,3,none⟩=some (x3)):=Lib.hid fun W hW=>(HB.out.2.2.2.under hW).cell 3
 have HX4:Hid (∀W,Below W0.heap.size W0 W→W.cell? ⟨gx,4,none⟩=some (x4)):=Lib.hid fun W hW=>(HB.out.2.2.2.under hW).cell 4
 have HX5:Hid (∀W,Below W0.heap.size W0 W→W.cell? ⟨gx,5,none⟩=some (x5)):=Lib.hid fun W hW=>(HB.out.2.2.2.under hW).cell 5
 have HC:Hid (∀W,Below W0.heap.size W0 W→Calls Tryz.prog 95 #[.agg #[.int .i64 n,y1,y2,y3,y4,y5]] W fun e w'=>e=.returned (.int .i64 n)∧Below W.heap.size W w'):=Lib.hid fun W _=>codecType_any _ _ _ _ _ _ W
 have HD:Hid (∀W,Below W0.heap.size W0 W→Calls Tryz.prog 95 #[.agg #[.int .i64 m,x1,x2,x3,x4,x5]] W fun e w'=>e=.returned (.int .i64 m)∧Below W.heap.size W w'):=Lib.hid fun W _=>codecType_any _ _ _ _ _ _ W
 have HKB:Hid (∀W W',Below W0.heap.size W0 W→Below W.heap.size W W'→Below W0.heap.size W0 W'):=Lib.hid fun W W' h1 h2=>below_chain (Nat.le_refl _) h1 h2
 have HR0:Hid (Below W0.heap.size W0 W0.drew):=Lib.hid (Below.refl _ _).drew
 have hNW:N≤W0.heap.size:=Nat.le_of_lt HB.out.2.1.lt
 have HN:=Lib.hid hNW
 clear hN hNW
 refine wp_region_held_drew (S:=fun W=>Below W0.heap.size W0 W) (by kernel_rfl) HR0.out (fun hHeld=> ?_)
 refine wpAnyH_take (i:=0) (v:=_) rfl (by as_aux_lemma=>kernel_rfl) (by as_aux_lemma=>kernel_rfl) (by as_aux_lemma=>kernel_rfl) (fun _ _ _ h=>h) (Or.inl ⟨by rfl,fun w h=>by have e0:=HG.out w h;have e1:=HO0.out w h;have e2:=HO1.out w h;have e3:=HO2.out w h;have e4:=HO3.out w h;have e5:=HO4.out w h;have e6:=HO5.out w h;have e7:=HX0.out w h;have e8:=HX1.out w h;have e9:=HX2.out w h;have e10:=HX3.out w h;have e11:=HX4.out w h;have e12:=HX5.out w h;clear h;go_simp;(try with_reducible rfl)⟩) (by assumption) ?_
 simp only [Act.put,List.getElem_toArray,List.getElem_cons_succ,List.getElem_cons_zero,List.setIfInBounds_toArray,List.set_cons_succ,List.set_cons_zero]
 refine wpAnyH_take (i:=1) (v:=_) rfl (by as_aux_lemma=>kernel_rfl) (by as_aux_lemma=>kernel_rfl) (by as_aux_lemma=>kernel_rfl) (fun _ _ _ h=>h) (Or.inl ⟨by rfl,fun w h=>by have e0:=HG.out w h;have e1:=HO0.out w h;have e2:=HO1.out w h;have e3:=HO2.out w h;have e4:=HO3.out w h;have e5:=HO4.out w h;have e6:=HO5.out w h;have e7:=HX0.out w h;have e8:=HX1.out w h;have e9:=HX2.out w h;have e10:=HX3.out w h;have e11:=HX4.out w h;have e12:=HX5.out w h;clear h;go_simp;(try with_reducible rfl)⟩) (by assumption) ?_
 simp only [Act.put,List.getElem_toArray,List.getElem_cons_succ,List.getElem_cons_zero,List.setIfInBounds_toArray,List.set_cons_succ,List.set_cons_zero]
 refine wpAnyH_take (i:=3) (v:=_) rfl (by as_aux_lemma=>kernel_rfl) (by as_aux_lemma=>kernel_rfl) (by as_aux_lemma=>kernel_rfl) (fun _ _ _ h=>h) (Or.inl ⟨by rfl,fun w h=>by have e0:=HG.out w h;have e1:=HO0.out w h;have e2:=HO1.out w h;have e3:=HO2.out w h;have e4:=HO3.out w h;have e5:=HO4.out w h;have e6:=HO5.out w h;have e7:=HX0.out w h;have e8:=HX1.out w h;have e9:=HX2.out w h;have e10:=HX3.out w h;have e11:=HX4.out w h;have e12:=HX5.out w h;clear h;go_simp;(try with_reducible rfl)⟩) (by assumption) ?_
 simp only [Act.put,List.getElem_toArray,List.getElem_cons_succ,List.getElem_cons_zero,List.setIfInBounds_toArray,List.set_cons_succ,List.set_cons_zero]
 refine wpAnyH_take (i:=4) (v:=_) rfl (by as_aux_lemma=>kernel_rfl) (by as_aux_lemma=>kernel_rfl) (by as_aux_lemma=>kernel_rfl) (fun _ _ _ h=>h) (Or.inl ⟨by rfl,fun w h=>by have e0:=HG.out w h;have e1:=HO0.out w h;have e2:=HO1.out w h;have e3:=HO2.out w h;have e4:=HO3.out w h;have e5:=HO4.out w h;have e6:=HO5.out w h;have e7:=HX0.out w h;have e8:=HX1.out w h;have e9:=HX2.out w h;have e10:=HX3.out w h;have e11:=HX4.out w h;have e12:=HX5.out w h;clear h;go_simp;(try with_reducible rfl)⟩) (by assumption) ?_
 simp only [Act.put,List.getElem_toArray,List.getElem_cons_succ,List.getElem_cons_zero,List.setIfInBounds_toArray,List.set_cons_succ,List.set_cons_zero]
 refine wpAnyH_ready (rs:=[2]) (by as_aux_lemma=>kernel_rfl) (by simp) ?_
 refine AllReadyH.cons (i:=2) rfl (fun K hK=> ?_) AllReadyH.nil
 go_simp
 refine (HC.out _ hHeld).mono ?_
 rintro e w4 ⟨rfl,hb4⟩
 refine hK.out _ _ (HKB.out _ _ hHeld hb4) (fun hHeld4=> ?_)
 clear hK K hHeld
 have hHeld:=hHeld4
 clear hHeld4
 refine wpAnyH_ready (rs:=[5]) (by as_aux_lemma=>kernel_rfl) (by simp) ?_
 refine AllReadyH.cons (i:=5) rfl (fun K hK=> ?_) AllReadyH.nil
 go_simp
 refine (HD.out _ hHeld).mono ?_
 rintro e w4 ⟨rfl,hb4⟩
 refine hK.out _ _ (HKB.out _ _ hHeld hb4) (fun hHeld4=> ?_)
 clear hK K hHeld
 have hHeld:=hHeld4
 clear hHeld4
 refine wpAnyH_take (i:=6) (v:=_) rfl (by as_aux_lemma=>kernel_rfl) (by as_aux_lemma=>kernel_rfl) (by as_aux_lemma=>kernel_rfl) (fun _ _ _ h=>h) (Or.inl ⟨by rfl,fun w h=>by have e0:=HG.out w h;have e1:=HO0.out w h;have e2:=HO1.out w h;have e3:=HO2.out w h;have e4:=HO3.out w h;have e5:=HO4.out w h;have e6:=HO5.out w h;have e7:=HX0.out w h;have e8:=HX1.out w h;have e9:=HX2.out w h;have e10:=HX3.out w h;have e11:=HX4.out w h;have e12:=HX5.out w h;clear h;go_simp;(try with_reducible rfl)⟩) (by assumption) ?_
 simp only [Act.put,List.getElem_toArray,List.getElem_cons_succ,List.getElem_cons_zero,List.setIfInBounds_toArray,List.set_cons_succ,List.set_cons_zero]
 refine wpAnyH_take (i:=7) (v:=_) rfl (by as_aux_lemma=>kernel_rfl) (by as_aux_lemma=>kernel_rfl) (by as_aux_lemma=>kernel_rfl) (fun _ _ _ h=>h) (Or.inl ⟨by rfl,fun w h=>by have e0:=HG.out w h;have e1:=HO0.out w h;have e2:=HO1.out w h;have e3:=HO2.out w h;have e4:=HO3.out w h;have e5:=HO4.out w h;have e6:=HO5.out w h;have e7:=HX0.out w h;have e8:=HX1.out w h;have e9:=HX2.out w h;have e10:=HX3.out w h;have e11:=HX4.out w h;have e12:=HX5.out w h;clear h;go_simp;(try with_reducible rfl)⟩) (by assumption) ?_
 simp only [Act.put,List.getElem_toArray,List.getElem_cons_succ,List.getElem_cons_zero,List.setIfInBounds_toArray,List.set_cons_succ,List.set_cons_zero]
 refine wpAnyH_done (by as_aux_lemma=>kernel_rfl) ?_ _
 have HH:=Lib.hid hHeld
 clear hHeld
 go_wp2
 go_ret
 exact ⟨rfl,HB.out.1.trans (HH.out.mono HN.out)⟩
set_option maxHeartbeats 3200000 in
set_option maxRecDepth 100000 in
theorem alikeE_any (n m:Int) (y1 x1:Value) (gk gx:Nat) (w:World) (hk:w.cell? ⟨gk,0,none⟩=some (.func (.func 98) #[] #[])) (hx:Whole w gx 71 #[.int .i64 m,x1]) :
 Calls Tryz.prog 152 #[.agg #[.int .i64 n,y1],.pointer (some ⟨gk,0,none⟩),.pointer (some ⟨gx,0,none⟩)] w fun e w'=>e=.returned (.bool (n == m))∧Below w.heap.size w w':=by
 have hb0:Below w.heap.size w (w.alloc (.cells #[.int .i64 n,y1] 71)):=(Below.refl _ w).alloc (Nat.le_refl _) _
 have hz:=Whole.new w 71 #[.int .i64 n,y1]
 have hgk:gk<w.heap.size:=block_lt_of_cell hk
 have hkk:(w.alloc (.cells #[.int .i64 n,y1] 71)).cell? ⟨gk,0,none⟩=some (.func (.func 98) #[] #[]):=(hb0.cell (p:=⟨gk,0,none⟩) hgk).trans hk
 have hxx:=hx.under hb0
 have HB:=Lib.hid (And.intro hb0 (And.intro hz (And.intro hkk hxx)))
 clear hb0 hz hkk hxx hk hx hgk
 obtain ⟨N,hN⟩:∃N,w.heap.size=N:=⟨_,rfl⟩
 rw [hN] at HB ⊢
 go_enter Tryz.func152,Tryz.ntmps152
 go_upto_region 1 with fail
 generalize w.alloc (.cells #[.int .i64 n,y1] 71)=W0 at *
 have HG:Hid (∀W,Below W0.heap.size W0 W→W.cell? ⟨gk,0,none⟩=some (.func (.func 98) #[] #[])):=Lib.hid fun W hW=>(hW.cell (p:=⟨gk,0,none⟩) (block_lt_of_cell HB.out.2.2.1)).trans HB.out.2.2.1
 have HO0:Hid (∀W,Below W0.heap.size W0 W→W.cell? ⟨N,0,none⟩=some (.int .i64 n)):=Lib.hid fun W hW=>(HB.out.2.1.under hW).cell 0
 have HO1:Hid (∀W,Below W0.heap.size W0 W→W.cell? ⟨N,1,none⟩=some (y1)):=Lib.hid fun W hW=>(HB.out.2.1.under hW).cell 1
 have HX0:Hid (∀W,Below W0.heap.size W0 W→W.cell? ⟨gx,0,none⟩=some (.int .i64 m)):=Lib.hid fun W hW=>(HB.out.2.2.2.under hW).cell 0
 have HX1:Hid (∀W,Below W0.heap.size W0 W→W.cell? ⟨gx,1,none⟩=some (x1)):=Lib.hid fun W hW=>(HB.out.2.2.2.under hW).cell 1
 have HC:Hid (∀W,Below W0.heap.size W0 W→Calls Tryz.prog 98 #[.agg #[.int .i64 n,y1]] W fun e w'=>e=.returned (.int .i64 n)∧Below W.heap.size W w'):=Lib.hid fun W _=>extID_any _ _ W
 have HD:Hid (∀W,Below W0.heap.size W0 W→Calls Tryz.prog 98 #[.agg #[.int .i64 m,x1]] W fun e w'=>e=.returned (.int .i64 m)∧Below W.heap.size W w'):=Lib.hid fun W _=>extID_any _ _ W
 have HKB:Hid (∀W W',Below W0.heap.size W0 W→Below W.heap.size W W'→Below W0.heap.size W0 W'):=Lib.hid fun W W' h1 h2=>below_chain (Nat.le_refl _) h1 h2
 have HR0:Hid (Below W0.heap.size W0 W0.drew):=Lib.hid (Below.refl _ _).drew
 have hNW:N≤W0.heap.size:=Nat.le_of_lt HB.out.2.1.lt
 have HN:=Lib.hid hNW
 clear hN hNW
 refine wp_region_held_drew (S:=fun W=>Below W0.heap.size W0 W) (by kernel_rfl) HR0.out (fun hHeld=> ?_)
 refine wpAnyH_take (i:=0) (v:=_) rfl (by as_aux_lemma=>kernel_rfl) (by as_aux_lemma=>kernel_rfl) (by as_aux_lemma=>kernel_rfl) (fun _ _ _ h=>h) (Or.inl ⟨by rfl,fun w h=>by have e0:=HG.out w h;have e1:=HO0.out w h;have e2:=HO1.out w h;have e3:=HX0.out w h;have e4:=HX1.out w h;clear h;go_simp;(try with_reducible rfl)⟩) (by assumption) ?_
 simp only [Act.put,List.getElem_toArray,List.getElem_cons_succ,List.getElem_cons_zero,List.setIfInBounds_toArray,List.set_cons_succ,List.set_cons_zero]
 refine wpAnyH_take (i:=1) (v:=_) rfl (by as_aux_lemma=>kernel_rfl) (by as_aux_lemma=>kernel_rfl) (by as_aux_lemma=>kernel_rfl) (fun _ _ _ h=>h) (Or.inl ⟨by rfl,fun w h=>by have e0:=HG.out w h;have e1:=HO0.out w h;have e2:=HO1.out w h;have e3:=HX0.out w h;have e4:=HX1.out w h;clear h;go_simp;(try with_reducible rfl)⟩) (by assumption) ?_
 simp only [Act.put,List.getElem_toArray,List.getElem_cons_succ,List.getElem_cons_zero,List.setIfInBounds_toArray,List.set_cons_succ,List.set_cons_zero]
 refine wpAnyH_take (i:=3) (v:=_) rfl (by as_aux_lemma=>kernel_rfl) (by as_aux_lemma=>kernel_rfl) (by as_aux_lemma=>kernel_rfl) (fun _ _ _ h=>h) (Or.inl ⟨by rfl,fun w h=>by have e0:=HG.out w h;have e1:=HO0.out w h;have e2:=HO1.out w h;have e3:=HX0.out w h;have e4:=HX1.out w h;clear h;go_simp;(try with_reducible rfl)⟩) (by assumption) ?_
 simp only [Act.put,List.getElem_toArray,List.getElem_cons_succ,List.getElem_cons_zero,List.setIfInBounds_toArray,List.set_cons_succ,List.set_cons_zero]
 refine wpAnyH_take (i:=4) (v:=_) rfl (by as_aux_lemma=>kernel_rfl) (by as_aux_lemma=>kernel_rfl) (by as_aux_lemma=>kernel_rfl) (fun _ _ _ h=>h) (Or.inl ⟨by rfl,fun w h=>by have e0:=HG.out w h;have e1:=HO0.out w h;have e2:=HO1.out w h;have e3:=HX0.out w h;have e4:=HX1.out w h;clear h;go_simp;(try with_reducible rfl)⟩) (by assumption) ?_
 simp only [Act.put,List.getElem_toArray,List.getElem_cons_succ,List.getElem_cons_zero,List.setIfInBounds_toArray,List.set_cons_succ,List.set_cons_zero]
 refine wpAnyH_ready (rs:=[2]) (by as_aux_lemma=>kernel_rfl) (by simp) ?_
 refine AllReadyH.cons (i:=2) rfl (fun K hK=> ?_) AllReadyH.nil
 go_simp
 refine (HC.out _ hHeld).mono ?_
 rintro e w4 ⟨rfl,hb4⟩
 refine hK.out _ _ (HKB.out _ _ hHeld hb4) (fun hHeld4=> ?_)
 clear hK K hHeld
 have hHeld:=hHeld4
 clear hHeld4
 refine wpAnyH_ready (rs:=[5]) (by as_aux_lemma=>kernel_rfl) (by simp) ?_
 refine AllReadyH.cons (i:=5) rfl (fun K hK=> ?_) AllReadyH.nil
 go_simp
 refine (HD.out _ hHeld).mono ?_
 rintro e w4 ⟨rfl,hb4⟩
 refine hK.out _ _ (HKB.out _ _ hHeld hb4) (fun hHeld4=> ?_)
 clear hK K hHeld
 have hHeld:=hHeld4
 clear hHeld4
 refine wpAnyH_take (i:=6) (v:=_) rfl (by as_aux_lemma=>kernel_rfl) (by as_aux_lemma=>kernel_rfl) (by as_aux_lemma=>kernel_rfl) (fun _ _ _ h=>h) (Or.inl ⟨by rfl,fun w h=>by have e0:=HG.out w h;have e1:=HO0.out w h;have e2:=HO1.out w h;have e3:=HX0.out w h;have e4:=HX1.out w h;clear h;go_simp;(try with_reducible rfl)⟩) (by assumption) ?_
 simp only [Act.put,List.getElem_toArray,List.getElem_cons_succ,List.getElem_cons_zero,List.setIfInBounds_toArray,List.set_cons_succ,List.set_cons_zero]
 refine wpAnyH_take (i:=7) (v:=_) rfl (by as_aux_lemma=>kernel_rfl) (by as_aux_lemma=>kernel_rfl) (by as_aux_lemma=>kernel_rfl) (fun _ _ _ h=>h) (Or.inl ⟨by rfl,fun w h=>by have e0:=HG.out w h;have e1:=HO0.out w h;have e2:=HO1.out w h;have e3:=HX0.out w h;have e4:=HX1.out w h;clear h;go_simp;(try with_reducible rfl)⟩) (by assumption) ?_
 simp only [Act.put,List.getElem_toArray,List.getElem_cons_succ,List.getElem_cons_zero,List.setIfInBounds_toArray,List.set_cons_succ,List.set_cons_zero]
 refine wpAnyH_done (by as_aux_lemma=>kernel_rfl) ?_ _
 have HH:=Lib.hid hHeld
 clear hHeld
 go_wp2
 go_ret
 exact ⟨rfl,HB.out.1.trans (HH.out.mono HN.out)⟩
set_option maxHeartbeats 3200000 in
set_option maxRecDepth 100000 in
theorem alikeS_any (s r:ByteArray) (gk gx:Nat) (w:World) (hk:w.cell? ⟨gk,0,none⟩=some (.func (.func 101) #[] #[])) (hx:w.cell? ⟨gx,0,none⟩=some (.string r)) :
 Calls Tryz.prog 155 #[.string s,.pointer (some ⟨gk,0,none⟩),.pointer (some ⟨gx,0,none⟩)] w fun e w'=>e=.returned (.bool (s.toList == r.toList))∧Below w.heap.size w w':=by
 have HG:Hid (∀W,Below w.heap.size w W→W.cell? ⟨gk,0,none⟩=some (.func (.func 101) #[] #[])):=Lib.hid fun W hW=>(hW.cell (p:=⟨gk,0,none⟩) (block_lt_of_cell hk)).trans hk
 have HX:Hid (∀W,Below w.heap.size w W→W.cell? ⟨gx,0,none⟩=some (.string r)):=Lib.hid fun W hW=>(hW.cell (p:=⟨gx,0,none⟩) (block_lt_of_cell hx)).trans hx
 have HC:Hid (∀W,Below w.heap.size w W→Calls Tryz.prog 101 #[.string s] W fun e w'=>e=.returned (.string s)∧Below W.heap.size W w'):=Lib.hid fun W _=>(itselfS_any _ W).mono fun e w' ⟨h1,h2⟩=>⟨h1,h2 ▸ Below.refl _ _⟩
 have HD:Hid (∀W,Below w.heap.size w W→Calls Tryz.prog 101 #[.string r] W fun e w'=>e=.returned (.string r)∧Below W.heap.size W w'):=Lib.hid fun W _=>(itselfS_any _ W).mono fun e w' ⟨h1,h2⟩=>⟨h1,h2 ▸ Below.refl _ _⟩
 have HKB:Hid (∀W W',Below w.heap.size w W→Below W.heap.size W W'→Below w.heap.size w W'):=Lib.hid fun W W' h1 h2=>below_chain (Nat.le_refl _) h1 h2
 have HR0:Hid (Below w.heap.size w w.drew):=Lib.hid (Below.refl _ _).drew
 clear hk hx
 go_enter Tryz.func155,Tryz.ntmps155
 go_upto_region 1 with fail
 refine wp_region_held_drew (S:=fun W=>Below w.heap.size w W) (by kernel_rfl) HR0.out (fun hHeld=> ?_)
 refine wpAnyH_take (i:=0) (v:=_) rfl (by as_aux_lemma=>kernel_rfl) (by as_aux_lemma=>kernel_rfl) (by as_aux_lemma=>kernel_rfl) (fun _ _ _ h=>h) (Or.inl ⟨by rfl,fun w h=>by have e0:=HG.out w h;have e1:=HX.out w h;clear h;go_simp;(try with_reducible rfl)⟩) (by assumption) ?_
 simp only [Act.put,List.getElem_toArray,List.getElem_cons_succ,List.getElem_cons_zero,List.setIfInBounds_toArray,List.set_cons_succ,List.set_cons_zero]
 refine wpAnyH_take (i:=1) (v:=_) rfl (by as_aux_lemma=>kernel_rfl) (by as_aux_lemma=>kernel_rfl) (by as_aux_lemma=>kernel_rfl) (fun _ _ _ h=>h) (Or.inl ⟨by rfl,fun w h=>by have e0:=HG.out w h;have e1:=HX.out w h;clear h;go_simp;(try with_reducible rfl)⟩) (by assumption) ?_
 simp only [Act.put,List.getElem_toArray,List.getElem_cons_succ,List.getElem_cons_zero,List.setIfInBounds_toArray,List.set_cons_succ,List.set_cons_zero]
 refine wpAnyH_take (i:=3) (v:=_) rfl (by as_aux_lemma=>kernel_rfl) (by as_aux_lemma=>kernel_rfl) (by as_aux_lemma=>kernel_rfl) (fun _ _ _ h=>h) (Or.inl ⟨by rfl,fun w h=>by have e0:=HG.out w h;have e1:=HX.out w h;clear h;go_simp;(try with_reducible rfl)⟩) (by assumption) ?_
 simp only [Act.put,List.getElem_toArray,List.getElem_cons_succ,List.getElem_cons_zero,List.setIfInBounds_toArray,List.set_cons_succ,List.set_cons_zero]
 refine wpAnyH_take (i:=4) (v:=_) rfl (by as_aux_lemma=>kernel_rfl) (by as_aux_lemma=>kernel_rfl) (by as_aux_lemma=>kernel_rfl) (fun _ _ _ h=>h) (Or.inl ⟨by rfl,fun w h=>by have e0:=HG.out w h;have e1:=HX.out w h;clear h;go_simp;(try with_reducible rfl)⟩) (by assumption) ?_
 simp only [Act.put,List.getElem_toArray,List.getElem_cons_succ,List.getElem_cons_zero,List.setIfInBounds_toArray,List.set_cons_succ,List.set_cons_zero]
 refine wpAnyH_ready (rs:=[2]) (by as_aux_lemma=>kernel_rfl) (by simp) ?_
 refine AllReadyH.cons (i:=2) rfl (fun K hK=> ?_) AllReadyH.nil
 go_simp
 refine (HC.out _ hHeld).mono ?_
 rintro e w4 ⟨rfl,hb4⟩
 refine hK.out _ _ (HKB.out _ _ hHeld hb4) (fun hHeld4=> ?_)
 clear hK K hHeld
 have hHeld:=hHeld4
 clear hHeld4
 refine wpAnyH_ready (rs:=[5]) (by as_aux_lemma=>kernel_rfl) (by simp) ?_
 refine AllReadyH.cons (i:=5) rfl (fun K hK=> ?_) AllReadyH.nil
 go_simp
 refine (HD.out _ hHeld).mono ?_
 rintro e w4 ⟨rfl,hb4⟩
 refine hK.out _ _ (HKB.out _ _ hHeld hb4) (fun hHeld4=> ?_)
 clear hK K hHeld
 have hHeld:=hHeld4
 clear hHeld4
 refine wpAnyH_take (i:=6) (v:=_) rfl (by as_aux_lemma=>kernel_rfl) (by as_aux_lemma=>kernel_rfl) (by as_aux_lemma=>kernel_rfl) (fun _ _ _ h=>h) (Or.inl ⟨by rfl,fun w h=>by have e0:=HG.out w h;have e1:=HX.out w h;clear h;go_simp;(try with_reducible rfl)⟩) (by assumption) ?_
 simp only [Act.put,List.getElem_toArray,List.getElem_cons_succ,List.getElem_cons_zero,List.setIfInBounds_toArray,List.set_cons_succ,List.set_cons_zero]
 refine wpAnyH_take (i:=7) (v:=_) rfl (by as_aux_lemma=>kernel_rfl) (by as_aux_lemma=>kernel_rfl) (by as_aux_lemma=>kernel_rfl) (fun _ _ _ h=>h) (Or.inl ⟨by rfl,fun w h=>by have e0:=HG.out w h;have e1:=HX.out w h;clear h;go_simp;(try with_reducible rfl)⟩) (by assumption) ?_
 simp only [Act.put,List.getElem_toArray,List.getElem_cons_succ,List.getElem_cons_zero,List.setIfInBounds_toArray,List.set_cons_succ,List.set_cons_zero]
 refine wpAnyH_done (by as_aux_lemma=>kernel_rfl) ?_ _
 have HH:=Lib.hid hHeld
 clear hHeld
 go_wp2
 go_ret
 exact ⟨rfl,HH.out⟩
set_option maxHeartbeats 3200000 in
set_option maxRecDepth 100000 in
theorem alikeU_any (n m:Int) (gk gx:Nat) (w:World) (hk:w.cell? ⟨gk,0,none⟩=some (.func (.func 104) #[] #[])) (hx:w.cell? ⟨gx,0,none⟩=some (.int .u32 m)) :
 Calls Tryz.prog 156 #[.int .u32 n,.pointer (some ⟨gk,0,none⟩),.pointer (some ⟨gx,0,none⟩)] w fun e w'=>e=.returned (.bool (n == m))∧Below w.heap.size w w':=by
 have HG:Hid (∀W,Below w.heap.size w W→W.cell? ⟨gk,0,none⟩=some (.func (.func 104) #[] #[])):=Lib.hid fun W hW=>(hW.cell (p:=⟨gk,0,none⟩) (block_lt_of_cell hk)).trans hk
 have HX:Hid (∀W,Below w.heap.size w W→W.cell? ⟨gx,0,none⟩=some (.int .u32 m)):=Lib.hid fun W hW=>(hW.cell (p:=⟨gx,0,none⟩) (block_lt_of_cell hx)).trans hx
 have HC:Hid (∀W,Below w.heap.size w W→Calls Tryz.prog 104 #[.int .u32 n] W fun e w'=>e=.returned (.int .u32 n)∧Below W.heap.size W w'):=Lib.hid fun W _=>(itselfU_any _ W).mono fun e w' ⟨h1,h2⟩=>⟨h1,h2 ▸ Below.refl _ _⟩
 have HD:Hid (∀W,Below w.heap.size w W→Calls Tryz.prog 104 #[.int .u32 m] W fun e w'=>e=.returned (.int .u32 m)∧Below W.heap.size W w'):=Lib.hid fun W _=>(itselfU_any _ W).mono fun e w' ⟨h1,h2⟩=>⟨h1,h2 ▸ Below.refl _ _⟩
 have HKB:Hid (∀W W',Below w.heap.size w W→Below W.heap.size W W'→Below w.heap.size w W'):=Lib.hid fun W W' h1 h2=>below_chain (Nat.le_refl _) h1 h2
 have HR0:Hid (Below w.heap.size w w.drew):=Lib.hid (Below.refl _ _).drew
 clear hk hx
 go_enter Tryz.func156,Tryz.ntmps156
 go_upto_region 1 with fail
 refine wp_region_held_drew (S:=fun W=>Below w.heap.size w W) (by kernel_rfl) HR0.out (fun hHeld=> ?_)
 refine wpAnyH_take (i:=0) (v:=_) rfl (by as_aux_lemma=>kernel_rfl) (by as_aux_lemma=>kernel_rfl) (by as_aux_lemma=>kernel_rfl) (fun _ _ _ h=>h) (Or.inl ⟨by rfl,fun w h=>by have e0:=HG.out w h;have e1:=HX.out w h;clear h;go_simp;(try with_reducible rfl)⟩) (by assumption) ?_
 simp only [Act.put,List.getElem_toArray,List.getElem_cons_succ,List.getElem_cons_zero,List.setIfInBounds_toArray,List.set_cons_succ,List.set_cons_zero]
 refine wpAnyH_take (i:=1) (v:=_) rfl (by as_aux_lemma=>kernel_rfl) (by as_aux_lemma=>kernel_rfl) (by as_aux_lemma=>kernel_rfl) (fun _ _ _ h=>h) (Or.inl ⟨by rfl,fun w h=>by have e0:=HG.out w h;have e1:=HX.out w h;clear h;go_simp;(try with_reducible rfl)⟩) (by assumption) ?_
 simp only [Act.put,List.getElem_toArray,List.getElem_cons_succ,List.getElem_cons_zero,List.setIfInBounds_toArray,List.set_cons_succ,List.set_cons_zero]
 refine wpAnyH_take (i:=3) (v:=_) rfl (by as_aux_lemma=>kernel_rfl) (by as_aux_lemma=>kernel_rfl) (by as_aux_lemma=>kernel_rfl) (fun _ _ _ h=>h) (Or.inl ⟨by rfl,fun w h=>by have e0:=HG.out w h;have e1:=HX.out w h;clear h;go_simp;(try with_reducible rfl)⟩) (by assumption) ?_
 simp only [Act.put,List.getElem_toArray,List.getElem_cons_succ,List.getElem_cons_zero,List.setIfInBounds_toArray,List.set_cons_succ,List.set_cons_zero]
 refine wpAnyH_take (i:=4) (v:=_) rfl (by as_aux_lemma=>kernel_rfl) (by as_aux_lemma=>kernel_rfl) (by as_aux_lemma=>kernel_rfl) (fun _ _ _ h=>h) (Or.inl ⟨by rfl,fun w h=>by have e0:=HG.out w h;have e1:=HX.out w h;clear h;go_simp;(try with_reducible rfl)⟩) (by assumption) ?_
 simp only [Act.put,List.getElem_toArray,List.getElem_cons_succ,List.getElem_cons_zero,List.setIfInBounds_toArray,List.set_cons_succ,List.set_cons_zero]
 refine wpAnyH_ready (rs:=[2]) (by as_aux_lemma=>kernel_rfl) (by simp) ?_
 refine AllReadyH.cons (i:=2) rfl (fun K hK=> ?_) AllReadyH.nil
 go_simp
 refine (HC.out _ hHeld).mono ?_
 rintro e w4 ⟨rfl,hb4⟩
 refine hK.out _ _ (HKB.out _ _ hHeld hb4) (fun hHeld4=> ?_)
 clear hK K hHeld
 have hHeld:=hHeld4
 clear hHeld4
 refine wpAnyH_ready (rs:=[5]) (by as_aux_lemma=>kernel_rfl) (by simp) ?_
 refine AllReadyH.cons (i:=5) rfl (fun K hK=> ?_) AllReadyH.nil
 go_simp
 refine (HD.out _ hHeld).mono ?_
 rintro e w4 ⟨rfl,hb4⟩
 refine hK.out _ _ (HKB.out _ _ hHeld hb4) (fun hHeld4=> ?_)
 clear hK K hHeld
 have hHeld:=hHeld4
 clear hHeld4
 refine wpAnyH_take (i:=6) (v:=_) rfl (by as_aux_lemma=>kernel_rfl) (by as_aux_lemma=>kernel_rfl) (by as_aux_lemma=>kernel_rfl) (fun _ _ _ h=>h) (Or.inl ⟨by rfl,fun w h=>by have e0:=HG.out w h;have e1:=HX.out w h;clear h;go_simp;(try with_reducible rfl)⟩) (by assumption) ?_
 simp only [Act.put,List.getElem_toArray,List.getElem_cons_succ,List.getElem_cons_zero,List.setIfInBounds_toArray,List.set_cons_succ,List.set_cons_zero]
 refine wpAnyH_take (i:=7) (v:=_) rfl (by as_aux_lemma=>kernel_rfl) (by as_aux_lemma=>kernel_rfl) (by as_aux_lemma=>kernel_rfl) (fun _ _ _ h=>h) (Or.inl ⟨by rfl,fun w h=>by have e0:=HG.out w h;have e1:=HX.out w h;clear h;go_simp;(try with_reducible rfl)⟩) (by assumption) ?_
 simp only [Act.put,List.getElem_toArray,List.getElem_cons_succ,List.getElem_cons_zero,List.setIfInBounds_toArray,List.set_cons_succ,List.set_cons_zero]
 refine wpAnyH_done (by as_aux_lemma=>kernel_rfl) ?_ _
 have HH:=Lib.hid hHeld
 clear hHeld
 go_wp2
 go_ret
 exact ⟨rfl,HH.out⟩
end Go.Proofs.YtgnpckelbokniaaGreatDoor
