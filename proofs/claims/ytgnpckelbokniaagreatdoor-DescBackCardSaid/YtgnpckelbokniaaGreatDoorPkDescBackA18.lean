import Derived.Test.YtgnpckelbokniaaGreatDoorPkDescBackA17
import Derived.Test.YtgnpckelbokniaaGreatDoorPkDescBackA11
import Derived.Test.YtgnpckelbokniaaGreatDoorPkDescBackA16
import Derived.Test.YtgnpckelbokniaaGreatDoorPkDescBackA09
import Derived.Test.YtgnpckelbokniaaGreatDoorPkDescBackA10
import Derived.Test.YtgnpckelbokniaaGreatDoorPkDescBackA03
import Derived.Test.YtgnpckelbokniaaGreatDoorPkDescBackA00
import Derived.Test.YtgnpckelbokniaaGreatDoorPkDescBackA01
import Derived.Test.YtgnpckelbokniaaGreatDoorPkDescBackA04
import Derived.Test.YtgnpckelbokniaaGreatDoorPkDescBackA05
import Derived.Test.YtgnpckelbokniaaGreatDoorPkDescBackA02
import Derived.Test.YtgnpckelbokniaaGreatDoorPkDescBackA06
import Derived.Test.YtgnpckelbokniaaGreatDoorPkDescBackA07
import Derived.Test.YtgnpckelbokniaaGreatDoorPkDescBackA12
import Derived.Test.YtgnpckelbokniaaGreatDoorPkDescBackA13
import Derived.Test.YtgnpckelbokniaaGreatDoorPkDescBackA14
import Derived.OrdersHeld
import Derived.WalkKit
import Derived.Lib.Hide
import Derived.Deep.RegionHeld3
import Derived.Deep.MidRow
import Derived.ProofKit
import Derived.WalkSpells
import Derived.Below
import Derived.Deep.Draws
import Derived.Laws.Rows
import Derived.ArgAppend
import Derived.Laws.IdiomCopy
import Derived.Maps.AppendAt
import Derived.Deep.RegionLaw
import Derived.OwnWalk
import Derived.Outline
import Derived.Handy
import Derived.LoopTactic
import Derived.RegionTactic
import Derived.ChangeAlike
import Derived.BigRegion
import Derived.Deep.QuietTactic
import Derived.BigQuiet
import Derived.Deep.DeepMust
import Derived.Deep.CutRange
import Derived.Deep.DeepCutAuto
import Derived.Deep.LoopGhost
import Derived.StillTailTactics
import Derived.Laws.AppendOwnNone
import Derived.Lib.AppendZeros
import Derived.Laws.CopyOwn
import Derived.Laws.BytesArg
import Derived.Shelf.Abstract
import Derived.Laws.StructEq
import Derived.Lib.IndexMore
import Derived.Lib.Join
import Derived.Lib.SmallJoins
import Derived.Lib.AppendIntMem
import Derived.Deep.Slices
import Derived.RangeFuncNested
import Derived.Deep.CutBlock
import Derived.Great.BuildSlice
import Derived.RangeFuncBound
import Derived.RangeFuncCalls
import Derived.RangeFuncLeaves
import Derived.OwnWalkIn
import Derived.TacticsInMore
import Derived.LoopNIn
import Derived.LoopIn
import Derived.Lib.SplitLaws
import Derived.Deep.Fields
import Derived.OpenShut
import Derived.ChangeOld
import Derived.ChangeSame
import Derived.SizedLaws
import Derived.HandedShaped
import Derived.Lib.LaidTab
import Derived.ChangeArms
import Derived.LaidLaws
namespace Go.Proofs.YtgnpckelbokniaaGreatDoor
open Go.RowKit
set_option linter.unusedVariables false
set_option linter.unusedSimpArgs false
structure CK (T:Ty3) (base go:Nat) (x:SesS) (k:Nat) (vA vP:Value) (us:List Value) (w:World):Prop where
 own:base≤go
 box:Whole w go T.s #[.string x.origin,.string x.name,.string x.time,vA,vP]
 att:Own w base T.a 2 vA (x.attrs.map acell)
 par:Own w base T.p 3 vP (List.zipWith pcell (x.parts.take k) us)
 hus:us.length=k
 le:k≤x.parts.length
 each:∀(i:Nat) (u:Value) (p:PartS),us[i]? = some u→x.parts[i]? = some p→Own w base T.a 2 u (p.attrs.map acell)
section
variable {T:Ty3} {base go:Nat} {x:SesS} {k:Nat} {vA vP:Value} {us:List Value} {w w':World}
theorem CK.under (h:CK T base go x k vA vP us w) (hb:Below w.heap.size w w'):CK T base go x k vA vP us w' :=
 ⟨h.own,h.box.under hb,h.att.under hb,h.par.under hb,h.hus,h.le,fun i u p hu hp=>(h.each i u p hu hp).under hb⟩
theorem CK.len (h:CK T base go x k vA vP us w):(List.zipWith pcell (x.parts.take k) us).length=k:=by
 have:=h.hus
 have:=h.le
 simp
 omega
theorem CK.drew (h:CK T base go x k vA vP us w):CK T base go x k vA vP us w.drew:=h.under (below_drewN' (Below.refl _ w) 1)
theorem CK.start (hT:T.Ok) (hgo:base≤go) (hb:Whole w go T.s #[.string x.origin,.string x.name,.string x.time,vA,.slice none 0 0]) (ha:Own w base T.a 2 vA (x.attrs.map acell)):CK T base go x 0 vA (.slice none 0 0) [] w :=
 ⟨hgo,hb,ha,by simpa using Own.nil w base T.p 3,rfl,Nat.zero_le _,fun i u p hu _=>by simp at hu⟩
theorem CK.next (h:CK T base go x k vA vP us w) (hT:T.Ok) {p:PartS} (hp:x.parts[k]? = some p) {v:Value} (hv:Own w base T.a 2 v (p.attrs.map acell)) {vP':Value} {w8:World}
 (ho:Own w8 base T.p 3 vP' (List.zipWith pcell (x.parts.take k) us++[pcell p v])) (hg:w.grownBy w8 vP.ownBlock) (hone:vP'.oneCell'=true) :
 CK T base go x (k+1) vA vP' (us++[v]) (w8.setCell ⟨go,4,none⟩ vP'):=by
 have hbox8:=h.box.grown hg (fun e=>(h.par.apart h.box hT.1.symm) e.symm)
 have hset:=hbox8.set 4 vP'
 have hfar:∀{u:Value} {L:List AttrS},Own w base T.a 2 u (L.map acell)→Own (w8.setCell ⟨go,4,none⟩ vP') base T.a 2 u (L.map acell):=fun hu=>by
  have h8:=hu.grown hg (hu.apart2 h.par hT.2.2.symm)
  exact h8.far (p:=⟨go,4,none⟩) (h8.apart hbox8 hT.2.1.symm) _
 refine ⟨h.own,hset,hfar h.att,?_,by simp [h.hus],(List.getElem?_eq_some_iff.1 hp).1,fun i u q hu hq=> ?_⟩
 · have e:List.zipWith pcell (x.parts.take (k+1)) (us++[v])=List.zipWith pcell (x.parts.take k) us++[pcell p v]:=by
    rw [List.take_add_one,hp]
    have hlt:=(List.getElem?_eq_some_iff.1 hp).1
    rw [List.zipWith_append (by rw [h.hus,List.length_take];omega)]
    rfl
   rw [e]
   exact ho.far (p:=⟨go,4,none⟩) (ho.apart hbox8 hT.1.symm) _
 · rw [List.getElem?_append] at hu
   split at hu
   · exact hfar (h.each i u q hu hq)
   · next hn =>
     have hi:i=k:=by
      have hl:=(List.getElem?_eq_some_iff.1 hu).1
      rw [h.hus] at hl hn
      simp at hl
      omega
     subst hi
     rw [h.hus,Nat.sub_self] at hu
     obtain rfl:v=u:=by simpa using hu
     obtain rfl:p=q:=by rw [hp] at hq;exact Option.some.inj hq
     exact hfar hv
theorem CK.farRow (h:CK T base go x k vA vP us w) (hT:T.Ok) {g:Nat} {cs0:Array Value} (hg:Whole w g T.s cs0) (hne:go≠g) (cs:Array Value):CK T base go x k vA vP us (w.setRow g cs) :=
 ⟨h.own,h.box.farRow hne cs,h.att.farRow (h.att.apart hg hT.2.1.symm) cs,h.par.farRow (h.par.apart hg hT.1.symm) cs,h.hus,h.le,fun i u p hu hp=>(h.each i u p hu hp).farRow ((h.each i u p hu hp).apart hg hT.2.1.symm) cs⟩
theorem CK.read (h:CK T base go x k vA vP us w) (hk:k=x.parts.length):AttrsV w w.heap.size vA x.attrs∧PartsV w w.heap.size vP x.parts:=by
 refine ⟨h.att.reads (Nat.le_refl _),?_⟩
 have hpar:=h.par
 have hus:=h.hus
 have hle:x.parts.take k=x.parts:=List.take_of_length_le (by omega)
 rw [hle] at hpar
 refine hpar.rows (Nat.le_refl _) (by simp;omega) fun i r p f hr hp hf=> ?_
 have hi:=(List.getElem?_eq_some_iff.1 hp).1
 have hu:=List.getElem?_eq_getElem (l:=us) (i:=i) (by omega)
 rw [List.getElem?_zipWith,hp,hu] at hr
 obtain rfl:pcell p us[i]=r:=by simpa using hr
 exact ⟨hf 0 (by decide),hf 1 (by decide),us[i],hf 2 (by decide),(h.each i _ p hu hp).reads (Nat.le_refl _)⟩
end
theorem PrD.none {d:DescS} (h:¬TextD d):PrD d ⟨#[]⟩ 1:=.inr ⟨h,rfl,rfl⟩
theorem PrD.of {d:DescS} {t:ByteArray} {er:Int} (hg:goodD d=true) (hm:∀m∈d.media,mayM m=true) (h:PrO (sesD d) t er):PrD d t er:=by
 rcases h with ⟨h1,h2,h3⟩ | ⟨h1,h2,h3⟩
 · exact .inl ⟨⟨hg,hm,h1⟩,h2,h3⟩
 · exact .inr ⟨fun h=>h1 h.2.2,h2,h3⟩
theorem part_step {W w8 w:World} {N go k:Nat} {d:DescS} {vA vP v8 v:Value} {us:List Value} {p:PartS} {D:Array Value} (h:CK TS N go (sesD d) k vA vP us W) (hp:(sesD d).parts[k]? = some p) (hv:Own W N 65 2 v (p.attrs.map acell))
 (ho:Own w8 N 34 3 v8 (List.zipWith pcell ((sesD d).parts.take k) us++[[.string p.line,.string p.conn,v]])) (hg:W.grownBy w8 vP.ownBlock) (hb:Below N w W) (hD:Whole W N 45 D) (hN:N≤W.heap.size) (hgo:N<go) :
 Whole w8 go 96 #[.string (sesD d).origin,.string (sesD d).name,.string (sesD d).time,vA,vP]∧∀u,u=v8→CK TS N go (sesD d) (k+1) vA u (us++[v]) (w8.setCell ⟨go,4,none⟩ u)∧Below N w (w8.setCell ⟨go,4,none⟩ u)∧Whole (w8.setCell ⟨go,4,none⟩ u) N 45 D:=by
 refine ⟨h.box.grown hg (fun e=>(h.par.apart h.box TS.ok.1.symm) e.symm),fun u hu=> ?_⟩
 subst hu
 exact ⟨h.next TS.ok hp hv ho hg ho.one,(hb.grown hg hN (fun j hj=>(h.par.lt hj).1)).setCell (p:=⟨go,4,none⟩) (Nat.le_of_lt hgo) _,(hD.grown hg (fun e=>(h.par.apart hD (by decide)) e.symm)).far (p:=⟨go,4,none⟩) (Nat.ne_of_lt hgo) _⟩
set_option maxHeartbeats 6400000 in
set_option maxRecDepth 100000 in
theorem dePrint_any (D:Array Value) (d:DescS) (vB vM:Value) (w:World) (h:DescV w w.heap.size D d vB vM) (hz:SizD d) (hE:Env w) (h7:7≤w.heap.size) :
 Calls Tryz.prog 15 #[.agg D] w (PrintDO w d):=by
 obtain ⟨AB,cB,hvB,-⟩:=Rows.form h.bundle
 obtain ⟨AM,cM,hvM,hcM,hmM,-⟩:=Rows.form h.media
 have HD:Hid (∀W,Below w.heap.size w W→DescV W W.heap.size D d vB vM):=Lib.hid fun W hW=>h.under hW
 have HMV:=Lib.hid h.media
 have hsz6:D.size=6:=by rw [h.form];rfl
 have hb0:Below w.heap.size w (w.alloc (.cells D 45)):=(Below.refl _ w).alloc (Nat.le_refl _) _
 have H0:=Lib.hid (And.intro hb0 (Whole.new w 45 D))
 have HGD:Hid (∀W,Below w.heap.size w W→Calls Tryz.prog 27 #[.agg D] W fun e w'=>e=.returned (.bool (goodD d))∧Below W.heap.size W w'):=Lib.hid fun W hW=>deGood_any D d vB vM W (HD.out W hW) hz
 have HHD:Hid (goodD d=true→∀W,Below w.heap.size w W→Calls Tryz.prog 38 #[.agg D] W (DHeadO W d)):=Lib.hid fun hg W hW=>by
  have hB:=goodD_few hg
  have hbs:∀b∈d.bundle,b.size≤16:=fun b hb=>by
   have:=(wordP_len (goodD_bundle hg b hb)).2
   rwa [tx_length] at this
  have hfl:=bundle_fl hbs
  have h8:d.bundle.length * (16+1)≤8 * (16+1):=Nat.mul_le_mul_right _ hB
  exact head_any D d vB vM W (HD.out W hW) (hE.under hW) hz.ids.1 hz.ids.2 (by omega) (by omega)
 have HWR:Hid (∀(W:World) (M:Array Value) (m:MediaS) (C E R S Y:Value),Below w.heap.size w W→MediaV w w.heap.size M m C E R S Y→SizM m→Calls Tryz.prog 8 #[.agg M] W (WriteO 65 W m)):=Lib.hid fun W M m C E R S Y hW hM hs=>write_any M m C E R S Y W (hM.under hW) hs (hE.under hW) (Nat.le_trans h7 hW.size)
 have HZ:=Lib.hid hz
 have HNB:Hid (w.heap.size≤(w.alloc (.cells D 45)).heap.size):=Lib.hid hb0.size
 have HXC:Hid (D[0]? = some (.int .u64 d.id)∧D[5]? = some vM):=Lib.hid (by rw [h.form];exact ⟨rfl,rfl⟩)
 obtain ⟨n,hn⟩:∃n,d.media.length=n:=⟨_,rfl⟩
 have HNL:=Lib.hid hn
 rw [hn] at hvM hcM
 subst hvM
 unfold maxLen at hmM
 have HW0:Hid (Whole (w.alloc (.cells D 45)) w.heap.size 45 D):=Lib.hid H0.out.2
 obtain ⟨N,hN⟩:∃N,w.heap.size=N:=⟨_,rfl⟩
 have HN:=Lib.hid hN
 have HNN:Hid (N≤w.heap.size):=Lib.hid (by omega)
 rw [hN] at H0 HNB HW0
 clear h hz hE h7 hb0 hn hvB hN
 cases hg:goodD d with
 | false =>
   have HNO:Hid (PrD d ⟨#[]⟩ 1):=Lib.hid (PrD.none fun h=>by have:=h.1;rw [hg] at this;cases this)
   rw [hg] at HGD
   clear hg
   go_enter Tryz.func15,Tryz.ntmps15
   go_upto_region 1 with fail
   simp only [HN.out]
   generalize w.alloc (.cells D 45)=w0 at *
   go_wp2_with (first | ((with_reducible refine wpList_load_all ?_ 45 (.tmp 1) ?_ HW0.out ?_ Tryz.sizeDesc ?_ Tryz.underlying45 ?_ ?_);(with_reducible rfl);(with_reducible rfl);rfl;exact hsz6;rfl) | (go_at_call 27;(with_reducible refine (HGD.out _ (by rw [HN.out];exact H0.out.1)).mono ?_);rintro e w1 ⟨rfl,hb1⟩;have H1:=Lib.hid hb1;clear hb1;dsimp only))
   go_ret2
   exact ⟨_,_,rfl,HNO.out,by rw [HN.out];exact below_chain HNN.out H0.out.1 H1.out⟩
 | true =>
   have HGT:=Lib.hid hg
   have HHE:Hid (∀W,Below N w W→Calls Tryz.prog 38 #[.agg D] W (DHeadO W d)):=Lib.hid fun W hW=>HHD.out hg W (by rw [HN.out];exact hW)
   rw [hg] at HGD
   clear hg HHD
   go_enter Tryz.func15,Tryz.ntmps15
   go_upto_region 1 with fail
   simp only [HN.out]
   generalize w.alloc (.cells D 45)=w0 at *
   go_upto_if 11 with (first | ((with_reducible refine wpList_load_all ?_ 45 (.tmp 1) ?_ HW0.out ?_ Tryz.sizeDesc ?_ Tryz.underlying45 ?_ ?_);(with_reducible rfl);(with_reducible rfl);rfl;exact hsz6;rfl) | (go_at_call 27;(with_reducible refine (HGD.out _ (by rw [HN.out];exact H0.out.1)).mono ?_);rintro e w1 ⟨rfl,hb1⟩;have H1:Hid (Below N w w1∧Whole w1 N 45 D):=Lib.hid ⟨below_chain HNN.out H0.out.1 hb1,HW0.out.under hb1⟩;clear hb1;dsimp only))
   go_upto_region 4 with (first | ((with_reducible refine wpList_load_all ?_ 45 (.tmp 1) ?_ H1.out.2 ?_ Tryz.sizeDesc ?_ Tryz.underlying45 ?_ ?_);(with_reducible rfl);(with_reducible rfl);rfl;exact hsz6;rfl) | (go_at_call 38;(with_reducible refine (HHE.out _ H1.out.1).mono ?_);rintro e w2 ⟨vA,rfl,ha,hb2⟩;obtain ⟨AA,cA,hvA,-⟩:=Own.form ha;generalize ((headA d).map acell).length=lA at hvA;subst hvA;have H2:Hid (Below N w w2∧Whole w2 N 45 D∧AtO w2 N (.slice AA lA cA) (headA d)∧N≤w2.heap.size):=Lib.hid ⟨below_chain HNN.out H1.out.1 hb2,H1.out.2.under hb2,Own.base_le ha (Nat.le_of_lt H1.out.2.lt),Nat.le_trans (Nat.le_of_lt H1.out.2.lt) hb2.size⟩;clear ha hb2;dsimp only) | ((with_reducible refine wpList_storeS #[.string (bs (originT d.id d.ver)),.string (bs [45]),.string (bs [48,32,48]),.slice AA lA cA,.slice none 0 0] ?_ 96 (.tmp 4) (.tmp 13) ?_ ?_ ?_ (Whole.new _ _ _) Tryz.sizeSSes ?_ ?_ ?_ ?_);(with_reducible rfl);(with_reducible rfl);rfl;rfl;rfl;rfl;rfl))
   have H3:Hid (CK TS N w2.heap.size (sesD d) 0 (.slice AA lA cA) (.slice none 0 0) [] ((w2.alloc (.cells #[.string ⟨#[]⟩,.string ⟨#[]⟩,.string ⟨#[]⟩,.slice none 0 0,.slice none 0 0] 96)).setRow w2.heap.size #[.string (bs (originT d.id d.ver)),.string (bs [45]),.string (bs [48,32,48]),.slice AA lA cA,.slice none 0 0])∧Below N w ((w2.alloc (.cells #[.string ⟨#[]⟩,.string ⟨#[]⟩,.string ⟨#[]⟩,.slice none 0 0,.slice none 0 0] 96)).setRow w2.heap.size #[.string (bs (originT d.id d.ver)),.string (bs [45]),.string (bs [48,32,48]),.slice AA lA cA,.slice none 0 0])∧Whole ((w2.alloc (.cells #[.string ⟨#[]⟩,.string ⟨#[]⟩,.string ⟨#[]⟩,.slice none 0 0,.slice none 0 0] 96)).setRow w2.heap.size #[.string (bs (originT d.id d.ver)),.string (bs [45]),.string (bs [48,32,48]),.slice AA lA cA,.slice none 0 0]) N 45 D):=Lib.hid (by
    have hnw:=Whole.new w2 96 #[.string ⟨#[]⟩,.string ⟨#[]⟩,.string ⟨#[]⟩,.slice none 0 0,.slice none 0 0]
    have hal:=Own.alloc H2.out.2.2.1 (.cells #[.string ⟨#[]⟩,.string ⟨#[]⟩,.string ⟨#[]⟩,.slice none 0 0,.slice none 0 0] 96)
    refine ⟨CK.start TS.ok H2.out.2.2.2 (hnw.row _) (Own.farRow hal (Own.apart hal hnw (by decide)) _),below_row (H2.out.1.alloc H2.out.2.2.2 _) H2.out.2.2.2 _,(H2.out.2.1.alloc _).farRow (Nat.ne_of_lt H2.out.2.1.lt) _⟩)
   generalize (w2.alloc (.cells #[.string ⟨#[]⟩,.string ⟨#[]⟩,.string ⟨#[]⟩,.slice none 0 0,.slice none 0 0] 96)).setRow w2.heap.size #[.string (bs (originT d.id d.ver)),.string (bs [45]),.string (bs [48,32,48]),.slice AA lA cA,.slice none 0 0]=w3 at *
   have HGO:Hid (N<w2.heap.size):=Lib.hid H2.out.2.1.lt
   generalize w2.heap.size=go at *
   have c5:w3.cell? ⟨N,5,none⟩=some (.slice AM n cM):=(H3.out.2.2.cell 5).trans HXC.out.2
   clear H1 H2
   go_wp2
   clear c5
   go_loopw [17] (fun s17 wr=>∃(k:Nat) (vP:Value) (us:List Value),k≤n∧s17=.int .i64 k∧CK TS N go (sesD d) k (.slice AA lA cA) vP us wr∧Below N w wr∧Whole wr N 45 D∧∀m∈d.media.take k,mayM m=true) (fun s17 _=>n - (intOf s17).toNat)
   case atStart=>exact ⟨0,_,_,Nat.zero_le _,rfl,H3.out.1,H3.out.2.1,H3.out.2.2,fun m hm=>(by simp at hm)⟩
   case round =>
    obtain ⟨k,vP,us,hk,rfl,hck,hbl,hwh,hall⟩:=hrel
    have HK:=Lib.hid (And.intro hck (And.intro hbl (And.intro hwh hall)))
    clear hck hbl hwh hall H3
    by_cases hlt:k<n
    · obtain ⟨ad,c1',X,vC,vE,vR,vS,vY,e1,b1,hx,xs⟩:=MediasV.at_ HMV.out (i:=k) (by rw [HNL.out];exact hlt)
      injection e1 with e1 e1n e1c
      clear e1n e1c
      subst e1
      have gm:=getD_of (L:=d.media) (i:=k) (by rw [HNL.out];exact hlt)
      obtain ⟨m,hm⟩:∃m,d.media.getD k default=m:=⟨_,rfl⟩
      rw [hm] at hx gm
      have HGM:=Lib.hid gm
      have hk0:(0:Int)≤(k:Int):=by omega
      have hk1:(k:Int)<(n:Int):=by omega
      have HLD:Hid (∀(ops:Array Oper) (rest:List Oper) (op:Oper) (act:Act) (Q:Exit→Act→World→Prop),op.guard=none→op.op=.load 28 (.tmp 19)→act.eval (.tmp 19)=.pointer (some (ad.add (k * 11)))→wpList Tryz.prog ops Q rest (act.put op.dst (.agg X)) wr→wpList Tryz.prog ops Q (op :: rest) act wr) :=
       Lib.hid fun ops rest op act Q h1 h2 h3 h4=>wpList_load_at h1 28 (.tmp 19) h2 _ h3 X.toList _ (fun j u hu=>(HK.out.2.1.cell (p:=(ad.add (k * 11)).add j) (by rw [add_block,add_block,←HN.out];exact b1)).trans (xs j u hu)) Tryz.underlying28 rfl (by rw [Array.length_toList,hx.size];exact Tryz.sizeMedia) (by rw [Array.toArray_toList];exact h4)
      have HXS:Hid (X.size=11∧X.toList.all (·.oneCell')=true):=Lib.hid ⟨hx.size,hx.one⟩
      have HXV:=Lib.hid hx
      have HSM:Hid (SizM m):=Lib.hid (HZ.out.media m (List.mem_of_getElem? gm))
      have HW1:Hid (Below wr.heap.size wr ((wr.alloc (.cells #[.int .i64 0,.int .i64 0,.string ⟨#[]⟩,.int .i64 0,.slice none 0 0,.slice none 0 0,.slice none 0 0,.bool false,.slice none 0 0,.slice none 0 0,.int .i64 0] 28)).setRow wr.heap.size X)∧Whole ((wr.alloc (.cells #[.int .i64 0,.int .i64 0,.string ⟨#[]⟩,.int .i64 0,.slice none 0 0,.slice none 0 0,.slice none 0 0,.bool false,.slice none 0 0,.slice none 0 0,.int .i64 0] 28)).setRow wr.heap.size X) wr.heap.size 28 X):=Lib.hid ⟨below_row ((Below.refl _ wr).alloc (Nat.le_refl _) _) (Nat.le_refl _) _,(Whole.new _ _ _).row _⟩
      clear gm hm xs hx b1
      go_upto_region 7 with (first | ((with_reducible refine HLD.out _ _ _ _ _ ?_ ?_ ?_ ?_);(with_reducible rfl);(with_reducible rfl);rfl) | ((with_reducible refine wpList_storeS X ?_ 28 (.tmp 6) (.tmp 20) ?_ ?_ ?_ (Whole.new _ _ _) Tryz.sizeMedia HXS.out.1 ?_ HXS.out.2 ?_);(with_reducible rfl);(with_reducible rfl);rfl;rfl;rfl))
      clear HLD
      have H4:Hid (CK TS N go (sesD d) k (.slice AA lA cA) vP us ((wr.alloc (.cells #[.int .i64 0,.int .i64 0,.string ⟨#[]⟩,.int .i64 0,.slice none 0 0,.slice none 0 0,.slice none 0 0,.bool false,.slice none 0 0,.slice none 0 0,.int .i64 0] 28)).setRow wr.heap.size X)∧Below N w ((wr.alloc (.cells #[.int .i64 0,.int .i64 0,.string ⟨#[]⟩,.int .i64 0,.slice none 0 0,.slice none 0 0,.slice none 0 0,.bool false,.slice none 0 0,.slice none 0 0,.int .i64 0] 28)).setRow wr.heap.size X)∧Whole ((wr.alloc (.cells #[.int .i64 0,.int .i64 0,.string ⟨#[]⟩,.int .i64 0,.slice none 0 0,.slice none 0 0,.slice none 0 0,.bool false,.slice none 0 0,.slice none 0 0,.int .i64 0] 28)).setRow wr.heap.size X) N 45 D∧Whole ((wr.alloc (.cells #[.int .i64 0,.int .i64 0,.string ⟨#[]⟩,.int .i64 0,.slice none 0 0,.slice none 0 0,.slice none 0 0,.bool false,.slice none 0 0,.slice none 0 0,.int .i64 0] 28)).setRow wr.heap.size X) wr.heap.size 28 X):=Lib.hid ⟨HK.out.1.under HW1.out.1,below_chain HNN.out HK.out.2.1 HW1.out.1,HK.out.2.2.1.under HW1.out.1,HW1.out.2⟩
      have HALL:Hid (∀m∈d.media.take k,mayM m=true):=Lib.hid HK.out.2.2.2
      clear HW1 HK
      generalize (wr.alloc (.cells #[.int .i64 0,.int .i64 0,.string ⟨#[]⟩,.int .i64 0,.slice none 0 0,.slice none 0 0,.slice none 0 0,.bool false,.slice none 0 0,.slice none 0 0,.int .i64 0] 28)).setRow wr.heap.size X=w4 at *
      generalize wr.heap.size=g6 at *
      have HWM:Hid (Calls Tryz.prog 8 #[.agg X] w4 (WriteO 65 w4 m)):=Lib.hid (HWR.out w4 X m vC vE vR vS vY (by rw [HN.out];exact H4.out.2.1) HXV.out HSM.out)
      by_cases hmm:mayM m=true
      · have hp:partW m=partM m:=by unfold partW;rw [if_pos hmm]
        have he:errW m=0:=by unfold errW;rw [if_pos hmm]
        have HMM:=Lib.hid hmm
        have HPE:=Lib.hid (And.intro hp he)
        clear hmm hp he
        obtain ⟨p,hpp⟩:∃p,partM m=p:=⟨_,rfl⟩
        have HPP:=Lib.hid hpp
        clear hpp
        go_upto_if 27 with (first | ((with_reducible refine wpList_load_all ?_ 28 (.tmp 6) ?_ H4.out.2.2.2 ?_ Tryz.sizeMedia HXS.out.1 Tryz.underlying28 rfl ?_);(with_reducible rfl);(with_reducible rfl);rfl) | (go_at_call 8;(with_reducible refine HWM.out.mono ?_);rintro e w5 hw5;obtain ⟨v5,rfl,ho5,hb5⟩:=hw5.part;rw [HPE.out.1,HPE.out.2,HPP.out];rw [HPE.out.1,HPP.out] at ho5;obtain ⟨A5,c5,hv5,-⟩:=Own.form ho5;generalize (p.attrs.map acell).length=l5 at hv5;subst hv5;have H5:Hid (CK TS N go (sesD d) k (.slice AA lA cA) vP us (w5.alloc (.cells #[.string p.line,.string p.conn,.slice A5 l5 c5] 34))∧Below N w (w5.alloc (.cells #[.string p.line,.string p.conn,.slice A5 l5 c5] 34))∧Whole (w5.alloc (.cells #[.string p.line,.string p.conn,.slice A5 l5 c5] 34)) N 45 D∧Own (w5.alloc (.cells #[.string p.line,.string p.conn,.slice A5 l5 c5] 34)) N 65 2 (.slice A5 l5 c5) (p.attrs.map acell)∧Whole (w5.alloc (.cells #[.string p.line,.string p.conn,.slice A5 l5 c5] 34)) w5.heap.size 34 #[.string p.line,.string p.conn,.slice A5 l5 c5]):=Lib.hid (by have hbb:=hb5.alloc hb5.size (.cells #[.string p.line,.string p.conn,.slice A5 l5 c5] 34);exact ⟨H4.out.1.under hbb,below_chain HNN.out H4.out.2.1 hbb,H4.out.2.2.1.under hbb,Own.base_le (Own.alloc ho5 _) (Nat.le_of_lt H4.out.2.2.1.lt),Whole.new _ _ _⟩);clear ho5 hb5 hw5;dsimp only))
        generalize w5.alloc (.cells #[.string p.line,.string p.conn,.slice A5 l5 c5] 34)=w7 at *
        generalize w5.heap.size=g7 at *
        clear HWM H4
        have HFU:Hid ((List.zipWith pcell ((sesD d).parts.take k) us).length=k):=Lib.hid H5.out.1.len
        obtain ⟨AP,cP,hvP,-⟩:=Own.form H5.out.1.par
        rw [HFU.out] at hvP
        subst hvP
        have q4:w7.cell? ⟨go,4,none⟩=some (.slice AP k cP):=H5.out.1.box.cell 4
        have p70:w7.cell? ⟨g7,0,none⟩=some (.string p.line):=H5.out.2.2.2.2.cell 0
        have p71:w7.cell? ⟨g7,1,none⟩=some (.string p.conn):=H5.out.2.2.2.2.cell 1
        have p72:w7.cell? ⟨g7,2,none⟩=some (.slice A5 l5 c5):=H5.out.2.2.2.2.cell 2
        have HNW:Hid (N≤w7.heap.size):=Lib.hid (Nat.le_of_lt H5.out.2.2.1.lt)
        have HAL:Hid (CK TS N go (sesD d) k (.slice AA lA cA) (.slice AP k cP) us (w7.alloc (.cells #[.string p.line,.string p.conn,.slice A5 l5 c5] 34))∧Whole (w7.alloc (.cells #[.string p.line,.string p.conn,.slice A5 l5 c5] 34)) w7.heap.size 34 #[.string p.line,.string p.conn,.slice A5 l5 c5]∧N≤(w7.alloc (.cells #[.string p.line,.string p.conn,.slice A5 l5 c5] 34)).heap.size):=Lib.hid ⟨H5.out.1.under ((Below.refl _ _).alloc (Nat.le_refl _) _),Whole.new _ _ _,by rw [World.size_alloc];have:=HNW.out;omega⟩
        have HKP:Hid ((sesD d).parts[k]? = some p):=Lib.hid (by show (d.media.map partM)[k]? = _;rw [List.getElem?_map,HGM.out,←HPP.out];rfl)
        have hk8:k≤1000:=by
         have:=(goodD_parts HGT.out).2.2.1
         have:=HNL.out
         omega
        go_upto_region 11 with (at_builtin;refine wpList_appendE (r:=[.string p.line,.string p.conn,.slice A5 l5 c5]) rfl (.tmp 30) (.tmp 32) rfl Tryz.underlying94 Tryz.infoSPart rfl (Nat.zero_lt_succ _) rfl HAL.out.1.par rfl HAL.out.2.1 rfl (fun u hu=>by simp at hu;rcases hu with rfl | rfl | rfl <;> rfl) (by rw [HFU.out];omega) (by rw [HFU.out];omega) HAL.out.2.2 ?_;intro v8 w8 ho8 hg8 hn8;have H8:=Lib.hid (part_step HAL.out.1 HKP.out (Own.alloc H5.out.2.2.2.1 _) ho8 hg8 (H5.out.2.1.alloc HNW.out _) (H5.out.2.2.1.alloc _) HAL.out.2.2 HGO.out);have x8:w8.cell? ⟨go,4,none⟩=some (.slice AP k cP):=H8.out.1.cell 4;have y8:=H8.out.1.frz 4;obtain ⟨A8,c8,hv8,-⟩:=Own.form ho8;generalize (List.zipWith pcell ((sesD d).parts.take k) us++[[Value.string p.line,Value.string p.conn,Value.slice A5 l5 c5]]).length=l8 at hv8;subst hv8;clear ho8 hg8 hn8)
        have HFN:Hid (∀m∈d.media.take (k+1),mayM m=true):=Lib.hid fun m' hm'=>by
         rw [List.take_add_one,HGM.out,List.mem_append] at hm'
         rcases hm' with hm' | hm'
         · exact HALL.out m' hm'
         · have:m'=m:=by simpa using hm'
           rw [this]
           exact HMM.out
        have H9:=Lib.hid (H8.out.2 _ rfl)
        clear x8 y8 q4 p70 p71 p72 HAL H8 H5
        go_wp2
        go_roundw
        case rel=>exact ⟨k+1,_,_,by omega,by go_num,H9.out.1,H9.out.2.1,H9.out.2.2,HFN.out⟩
        case measure=>simp [intOf];omega
      · have he:errW m=1:=by unfold errW;rw [if_neg hmm]
        have HNT:Hid (PrD d ⟨#[]⟩ 1):=Lib.hid (PrD.none fun h=>hmm (h.2.1 m (List.mem_of_getElem? HGM.out)))
        have HPE:=Lib.hid he
        clear hmm he
        go_wp2_with (first | ((with_reducible refine wpList_load_all ?_ 28 (.tmp 6) ?_ H4.out.2.2.2 ?_ Tryz.sizeMedia HXS.out.1 Tryz.underlying28 rfl ?_);(with_reducible rfl);(with_reducible rfl);rfl) | (go_at_call 8;(with_reducible refine HWM.out.mono ?_);rintro e w5 hw5;obtain ⟨v5,rfl,ho5,hb5⟩:=hw5.part;rw [HPE.out];obtain ⟨A5,c5,hv5,-⟩:=Own.form ho5;generalize ((partW m).attrs.map acell).length=l5 at hv5;subst hv5;have H5:Hid (Below N w (w5.alloc (.cells #[.string (partW m).line,.string (partW m).conn,.slice A5 l5 c5] 34))):=Lib.hid (below_chain HNN.out H4.out.2.1 (hb5.alloc hb5.size _));clear ho5 hb5 hw5;dsimp only))
        go_ret2
        exact ⟨_,_,rfl,HNT.out,by rw [HN.out];exact H5.out⟩
    · obtain rfl:k=n:=by omega
      have HALL:Hid (∀m∈d.media,mayM m=true):=Lib.hid (by
       have:=HK.out.2.2.2
       rwa [List.take_of_length_le (by rw [HNL.out];exact Nat.le_refl _)] at this)
      have HRD:=Lib.hid (HK.out.1.read (by show k=(d.media.map partM).length;rw [List.length_map,HNL.out]))
      have HPT:Hid (Calls Tryz.prog 39 #[.agg #[.string (bs (originT d.id d.ver)),.string (bs [45]),.string (bs [48,32,48]),.slice AA lA cA,vP]] wr (PrintO wr (sesD d))):=Lib.hid (print_any _ (sesD d) _ _ wr ⟨rfl,HRD.out.1,HRD.out.2⟩ (siz_ses HGT.out HALL.out HZ.out.typed))
      have HBX:Hid (Whole wr go 96 #[.string (bs (originT d.id d.ver)),.string (bs [45]),.string (bs [48,32,48]),.slice AA lA cA,vP]):=Lib.hid HK.out.1.box
      go_wp2_with (first | ((with_reducible refine wpList_load_all ?_ 96 (.tmp 4) ?_ HBX.out ?_ Tryz.sizeSSes ?_ Tryz.underlying96 ?_ ?_);(with_reducible rfl);(with_reducible rfl);rfl;rfl;rfl) | (go_at_call 39;(with_reducible refine HPT.out.mono ?_);rintro e w5 ⟨t,er,rfl,hpr,hb5⟩;have H5:=Lib.hid (And.intro hpr hb5);clear hpr hb5;dsimp only))
      go_ret2
      exact ⟨_,_,rfl,PrD.of HGT.out HALL.out H5.out.1,by rw [HN.out];exact below_chain HNN.out HK.out.2.1 H5.out.2⟩
theorem desc08 (W:World) (B:Nat):DescV W B #[.int .u64 1,.int .u64 1,.slice none 0 0,.string ⟨#[97,98,99,100]⟩,.string ⟨#[48,49,50,51,52,53,54,55,56,57,48,49,50,51,52,53,54,55,56,57,48,49]⟩,.slice none 0 0] d08 (.slice none 0 0) (.slice none 0 0):=⟨rfl,Rows.nil _ _ _ _,MediasV.nil _ _⟩
set_option maxHeartbeats 3200000 in
set_option maxRecDepth 100000 in
theorem awake8_any (w:World) (hE:Env w) (h7:7≤w.heap.size):Calls Tryz.prog 11 #[] w fun e w'=>e=.returned (.bool true)∧Below w.heap.size w w':=by
 have hb0:Below w.heap.size w (w.alloc (.cells #[.int .u64 1,.int .u64 1,.slice none 0 0,.string ⟨#[97,98,99,100]⟩,.string ⟨#[48,49,50,51,52,53,54,55,56,57,48,49,50,51,52,53,54,55,56,57,48,49]⟩,.slice none 0 0] 45)):=(Below.refl _ w).alloc (Nat.le_refl _) _
 have H0:=Lib.hid (And.intro hb0 (Whole.new w 45 #[.int .u64 1,.int .u64 1,.slice none 0 0,.string ⟨#[97,98,99,100]⟩,.string ⟨#[48,49,50,51,52,53,54,55,56,57,48,49,50,51,52,53,54,55,56,57,48,49]⟩,.slice none 0 0]))
 have HPR:Hid (∀W,Below w.heap.size w W→Calls Tryz.prog 15 #[.agg #[.int .u64 1,.int .u64 1,.slice none 0 0,.string ⟨#[97,98,99,100]⟩,.string ⟨#[48,49,50,51,52,53,54,55,56,57,48,49,50,51,52,53,54,55,56,57,48,49]⟩,.slice none 0 0]] W (PrintDO W d08)):=Lib.hid fun W hW=>dePrint_any _ _ _ _ W (desc08 W _) siz08 (hE.under hW) (Nat.le_trans h7 hW.size)
 have HGD:Hid (∀W,Calls Tryz.prog 27 #[.agg #[.int .u64 1,.int .u64 1,.slice none 0 0,.string ⟨#[97,98,99,100]⟩,.string ⟨#[48,49,50,51,52,53,54,55,56,57,48,49,50,51,52,53,54,55,56,57,48,49]⟩,.slice none 0 0]] W fun e w'=>e=.returned (.bool true)∧Below W.heap.size W w'):=Lib.hid fun W=>by
  have h:=deGood_any _ _ _ _ W (desc08 W _) siz08
  rw [good08] at h
  exact h
 have HNN:Hid (w.heap.size≤w.heap.size):=Lib.hid (Nat.le_refl _)
 obtain ⟨N,hN⟩:∃N,w.heap.size=N:=⟨_,rfl⟩
 have HN:=Lib.hid hN
 rw [hN] at H0 HPR
 have HNW:Hid (N≤w.heap.size):=Lib.hid (by omega)
 clear hN hE h7 hb0 HNN
 go_enter Tryz.func11,Tryz.ntmps11
 go_upto_region 2 with fail
 simp only [HN.out]
 generalize w.alloc (.cells #[.int .u64 1,.int .u64 1,.slice none 0 0,.string ⟨#[97,98,99,100]⟩,.string ⟨#[48,49,50,51,52,53,54,55,56,57,48,49,50,51,52,53,54,55,56,57,48,49]⟩,.slice none 0 0] 45)=w0 at *
 go_upto_region 3 with (first | ((with_reducible refine wpList_load_all ?_ 45 (.tmp 1) ?_ H0.out.2 ?_ Tryz.sizeDesc ?_ Tryz.underlying45 ?_ ?_);(with_reducible rfl);(with_reducible rfl);rfl;rfl;rfl) | (go_at_call 15;(with_reducible refine (HPR.out _ H0.out.1).mono ?_);rintro e w1 ⟨t,er,rfl,hpr,hb1⟩;obtain ⟨ht,her⟩:=hpr.one (.inl ⟨text08,rfl,tx_bs _⟩);rw [lit08] at ht;have hq:(t.toList == [118,61,48,13,10,111,61,45,32,49,32,49,32,73,78,32,73,80,52,32,49,50,55,46,48,46,48,46,49,13,10,115,61,45,13,10,116,61,48,32,48,13,10,97,61,105,99,101,45,117,102,114,97,103,58,97,98,99,100,13,10,97,61,105,99,101,45,112,119,100,58,48,49,50,51,52,53,54,55,56,57,48,49,50,51,52,53,54,55,56,57,48,49,13,10])=true:=(by rw [toList_tx,ht,tx_bs];rfl);have HTT:=Lib.hid ht;clear ht hpr;subst her;have H1:Hid (Below N w w1∧Whole w1 N 45 #[.int .u64 1,.int .u64 1,.slice none 0 0,.string ⟨#[97,98,99,100]⟩,.string ⟨#[48,49,50,51,52,53,54,55,56,57,48,49,50,51,52,53,54,55,56,57,48,49]⟩,.slice none 0 0]):=Lib.hid ⟨below_chain HNW.out H0.out.1 hb1,H0.out.2.under hb1⟩;clear hb1;dsimp only))
 go_wp2_with (first | ((with_reducible refine wpList_load_allG ?_ 45 (.tmp 1) ?_ H1.out.2 ?_ Tryz.sizeDesc ?_ Tryz.underlying45 ?_ ?_);rfl;(with_reducible rfl);rfl;rfl;rfl) | (go_at_call 27;(with_reducible refine (HGD.out _).mono ?_);rintro e w2 ⟨rfl,hb2⟩;have H2:=Lib.hid hb2;clear hb2;dsimp only))
 go_ret
 exact ⟨rfl,by rw [HN.out];exact below_chain HNW.out H1.out.1 H2.out⟩
def DReadN (l:Tx) (w:World) (e:Ending) (w':World):Prop:=∃(d:DescS) (AB AM:Option Addr) (lB kB lM kM k:Nat) (er:Int),e=.returned (.tuple #[.agg #[.int .u64 d.id,.int .u64 d.ver,.slice AB lB kB,.string d.name,.string d.pass,.slice AM lM kM],.int .i64 k,.int .i64 er])∧Below w.heap.size w w'∧DReadIs l k er d∧DescV w' w'.heap.size #[.int .u64 d.id,.int .u64 d.ver,.slice AB lB kB,.string d.name,.string d.pass,.slice AM lM kM] d (.slice AB lB kB) (.slice AM lM kM)
theorem DReadO.norm {l:Tx} {w w':World} {e:Ending} (h:DReadO l w e w'):DReadN l w e w':=by
 obtain ⟨D,d,vB,vM,k,er,rfl,hb,hi,_,hd⟩:=h
 obtain ⟨AB,kB,rfl,-⟩:=Rows.form hd.bundle
 obtain ⟨AM,kM,rfl,-⟩:=Rows.form hd.media
 obtain rfl:=hd.form
 exact ⟨d,AB,AM,_,kB,_,kM,k,er,rfl,hb,hi,hd⟩
theorem desc_box8 (w:World) (Y:Array Value):Below w.heap.size w ((w.alloc (.cells #[.int .u64 0,.int .u64 0,.slice none 0 0,.string ⟨#[]⟩,.string ⟨#[]⟩,.slice none 0 0] 45)).setRow w.heap.size Y)∧Whole ((w.alloc (.cells #[.int .u64 0,.int .u64 0,.slice none 0 0,.string ⟨#[]⟩,.string ⟨#[]⟩,.slice none 0 0] 45)).setRow w.heap.size Y) w.heap.size 45 Y :=
 ⟨below_row ((Below.refl _ w).alloc (Nat.le_refl _) _) (Nat.le_refl _) _,(Whole.new w 45 _).row _⟩
set_option maxHeartbeats 1600000 in
set_option maxRecDepth 100000 in
theorem equalT_any (v1 v2:Value) (L M:List ByteArray) (w:World) (h1:TextsV w w.heap.size v1 L) (h2:TextsV w w.heap.size v2 M):Calls Tryz.prog 40 #[v1,v2] w (SameB w L M):=by
 obtain ⟨A1,c1,rfl,hc1,hm1,_⟩:=Rows.form h1
 obtain ⟨A2,c2,rfl,hc2,hm2,_⟩:=Rows.form h2
 have H1:=Lib.hid h1
 have H2:=Lib.hid h2
 clear h1 h2
 obtain ⟨n,hn⟩:∃n,L.length=n:=⟨_,rfl⟩
 obtain ⟨m,hm⟩:∃m,M.length=m:=⟨_,rfl⟩
 have HN:=Lib.hid hn
 have HM:=Lib.hid hm
 rw [hn] at hc1
 rw [hm] at hc2
 rw [hn,hm]
 unfold maxLen at hm1 hm2
 clear hn hm
 by_cases hnm:n=m
 · subst hnm
   have hz:((n:Int) == (n:Int))=true:=by simp
   go_enter Tryz.func40,Tryz.ntmps40
   go_wp2
   go_loopw [13] (fun s13 wr=>∃k:Nat,k≤n∧s13=.int .i64 k∧(∀j,j<k→L[j]? = M[j]?)∧Below w.heap.size w wr) (fun s13 _=>n - (intOf s13).toNat)
   case atStart=>exact ⟨0,Nat.zero_le _,rfl,(fun j hj=>by omega),Below.refl _ w⟩
   case round =>
    obtain ⟨k,hk,rfl,hsame,hb⟩:=hrel
    have HS:=Lib.hid (And.intro hsame hb)
    clear hsame
    by_cases hlt:k<n
    · obtain ⟨ad1,c1',e1,b1,x0⟩:=(H1.out.below hb).at_ (i:=k) (by rw [HN.out];exact hlt)
      obtain ⟨ad2,c2',e2,b2,y0⟩:=(H2.out.below hb).at_ (i:=k) (by rw [HM.out];exact hlt)
      injection e1 with e1 e1n e1c;clear e1n e1c
      injection e2 with e2 e2n e2c;clear e2n e2c
      subst e1 e2
      have gL:=getD_of (L:=L) (i:=k) (by rw [HN.out];exact hlt)
      have gM:=getD_of (L:=M) (i:=k) (by rw [HM.out];exact hlt)
      obtain ⟨a,ha⟩:∃a,L.getD k default=a:=⟨_,rfl⟩
      obtain ⟨b,hbb⟩:∃b,M.getD k default=b:=⟨_,rfl⟩
      rw [ha] at x0 gL
      rw [hbb] at y0 gM
      have HG:=Lib.hid (And.intro gL gM)
      have hk0:(0:Int)≤(k:Int):=by omega
      have hk1:(k:Int)<(n:Int):=by omega
      clear gL gM ha hbb
      by_cases heq:a=b
      · have hq:(a.toList == b.toList)=true:=toList_beq.2 heq
        have HEQ:=Lib.hid heq
        clear heq b1 b2 hb
        go_upto_region 6 with fail
        go_quiet (fail)
        go_wp2
        go_roundw
        case rel =>
         refine ⟨k+1,by omega,by go_num,fun j hj=> ?_,below_drewN' HS.out.2 _⟩
         by_cases e:j=k
         · subst e
           rw [HG.out.1,HG.out.2,HEQ.out]
         · exact HS.out.1 j (by omega)
        case measure=>simp [intOf];omega
      · have hq:(a.toList == b.toList)=false:=toList_bne.2 heq
        have HNE:Hid (L≠M):=Lib.hid (fun e=>by rw [e] at HG;have:=HG.out.1.symm.trans HG.out.2;exact heq (Option.some.inj this))
        clear heq b1 b2 hb
        go_upto_region 6 with fail
        go_quiet (fail)
        go_wp2
        go_ret
        exact ⟨false,rfl,⟨fun e=>(by cases e),fun e=>(HNE.out e).elim⟩,below_drewN' HS.out.2 _⟩
    · obtain rfl:k=n:=by omega
      have HEQ:Hid (L=M):=Lib.hid (list_same (by rw [HN.out,HM.out]) (fun j hj=>HS.out.1 j (by rw [HN.out] at hj;exact hj)))
      clear hb
      go_wp2
      go_ret
      exact ⟨true,rfl,⟨fun _=>HEQ.out,fun _=>rfl⟩,HS.out.2⟩
 · have hz:((n:Int) == (m:Int))=false:=by rw [beq_eq_false_iff_ne];omega
   have HNE:Hid (L≠M):=Lib.hid (fun e=>hnm (by rw [←HN.out,←HM.out,e]))
   clear hnm
   go_enter Tryz.func40,Tryz.ntmps40
   go_wp2
   go_ret
   exact ⟨false,rfl,⟨fun e=>(by cases e),fun e=>(HNE.out e).elim⟩,Below.refl _ w⟩
set_option maxHeartbeats 1600000 in
set_option maxRecDepth 100000 in
theorem equalU_any (v1 v2:Value) (L M:List Nat) (w:World) (h1:NumsV w w.heap.size v1 L) (h2:NumsV w w.heap.size v2 M):Calls Tryz.prog 90 #[v1,v2] w (SameB w L M):=by
 obtain ⟨A1,c1,rfl,hc1,hm1,_⟩:=Rows.form h1
 obtain ⟨A2,c2,rfl,hc2,hm2,_⟩:=Rows.form h2
 have H1:=Lib.hid h1
 have H2:=Lib.hid h2
 clear h1 h2
 obtain ⟨n,hn⟩:∃n,L.length=n:=⟨_,rfl⟩
 obtain ⟨m,hm⟩:∃m,M.length=m:=⟨_,rfl⟩
 have HN:=Lib.hid hn
 have HM:=Lib.hid hm
 rw [hn] at hc1
 rw [hm] at hc2
 rw [hn,hm]
 unfold maxLen at hm1 hm2
 clear hn hm
 by_cases hnm:n=m
 · subst hnm
   have hz:((n:Int) == (n:Int))=true:=by simp
   go_enter Tryz.func90,Tryz.ntmps90
   go_wp2
   go_loopw [13] (fun s13 wr=>∃k:Nat,k≤n∧s13=.int .i64 k∧(∀j,j<k→L[j]? = M[j]?)∧Below w.heap.size w wr) (fun s13 _=>n - (intOf s13).toNat)
   case atStart=>exact ⟨0,Nat.zero_le _,rfl,(fun j hj=>by omega),Below.refl _ w⟩
   case round =>
    obtain ⟨k,hk,rfl,hsame,hb⟩:=hrel
    have HS:=Lib.hid (And.intro hsame hb)
    clear hsame
    by_cases hlt:k<n
    · obtain ⟨ad1,c1',e1,b1,x0⟩:=(H1.out.below hb).at_ (i:=k) (by rw [HN.out];exact hlt)
      obtain ⟨ad2,c2',e2,b2,y0⟩:=(H2.out.below hb).at_ (i:=k) (by rw [HM.out];exact hlt)
      injection e1 with e1 e1n e1c;clear e1n e1c
      injection e2 with e2 e2n e2c;clear e2n e2c
      subst e1 e2
      have gL:=getD_of (L:=L) (i:=k) (by rw [HN.out];exact hlt)
      have gM:=getD_of (L:=M) (i:=k) (by rw [HM.out];exact hlt)
      obtain ⟨a,ha⟩:∃a,L.getD k default=a:=⟨_,rfl⟩
      obtain ⟨b,hbb⟩:∃b,M.getD k default=b:=⟨_,rfl⟩
      rw [ha] at x0 gL
      rw [hbb] at y0 gM
      have HG:=Lib.hid (And.intro gL gM)
      have hk0:(0:Int)≤(k:Int):=by omega
      have hk1:(k:Int)<(n:Int):=by omega
      clear gL gM ha hbb
      by_cases heq:a=b
      · have hq:((a:Int) == (b:Int))=true:=by rw [heq];simp
        have HEQ:=Lib.hid heq
        clear heq b1 b2 hb
        go_upto_region 6 with fail
        go_quiet (fail)
        go_wp2
        go_roundw
        case rel =>
         refine ⟨k+1,by omega,by go_num,fun j hj=> ?_,below_drewN' HS.out.2 _⟩
         by_cases e:j=k
         · subst e
           rw [HG.out.1,HG.out.2,HEQ.out]
         · exact HS.out.1 j (by omega)
        case measure=>simp [intOf];omega
      · have hq:((a:Int) == (b:Int))=false:=by rw [beq_eq_false_iff_ne];omega
        have HNE:Hid (L≠M):=Lib.hid (fun e=>by rw [e] at HG;have:=HG.out.1.symm.trans HG.out.2;exact heq (Option.some.inj this))
        clear heq b1 b2 hb
        go_upto_region 6 with fail
        go_quiet (fail)
        go_wp2
        go_ret
        exact ⟨false,rfl,⟨fun e=>(by cases e),fun e=>(HNE.out e).elim⟩,below_drewN' HS.out.2 _⟩
    · obtain rfl:k=n:=by omega
      have HEQ:Hid (L=M):=Lib.hid (list_same (by rw [HN.out,HM.out]) (fun j hj=>HS.out.1 j (by rw [HN.out] at hj;exact hj)))
      clear hb
      go_wp2
      go_ret
      exact ⟨true,rfl,⟨fun _=>HEQ.out,fun _=>rfl⟩,HS.out.2⟩
 · have hz:((n:Int) == (m:Int))=false:=by rw [beq_eq_false_iff_ne];omega
   have HNE:Hid (L≠M):=Lib.hid (fun e=>hnm (by rw [←HN.out,←HM.out,e]))
   clear hnm
   go_enter Tryz.func90,Tryz.ntmps90
   go_wp2
   go_ret
   exact ⟨false,rfl,⟨fun e=>(by cases e),fun e=>(HNE.out e).elim⟩,Below.refl _ w⟩
set_option maxHeartbeats 1600000 in
set_option maxRecDepth 100000 in
theorem equalE_any (v1 v2:Value) (L M:List ExtS) (w:World) (h1:ExtsV w w.heap.size v1 L) (h2:ExtsV w w.heap.size v2 M):Calls Tryz.prog 89 #[v1,v2] w (SameB w L M):=by
 obtain ⟨A1,c1,rfl,hc1,hm1,_⟩:=Rows.form h1
 obtain ⟨A2,c2,rfl,hc2,hm2,_⟩:=Rows.form h2
 have H1:=Lib.hid h1
 have H2:=Lib.hid h2
 clear h1 h2
 obtain ⟨n,hn⟩:∃n,L.length=n:=⟨_,rfl⟩
 obtain ⟨m,hm⟩:∃m,M.length=m:=⟨_,rfl⟩
 have HN:=Lib.hid hn
 have HM:=Lib.hid hm
 rw [hn] at hc1
 rw [hm] at hc2
 rw [hn,hm]
 unfold maxLen at hm1 hm2
 clear hn hm
 by_cases hnm:n=m
 · subst hnm
   have hz:((n:Int) == (n:Int))=true:=by simp
   go_enter Tryz.func89,Tryz.ntmps89
   go_wp2
   go_loopw [13] (fun s13 wr=>∃k:Nat,k≤n∧s13=.int .i64 k∧(∀j,j<k→L[j]? = M[j]?)∧Below w.heap.size w wr) (fun s13 _=>n - (intOf s13).toNat)
   case atStart=>exact ⟨0,Nat.zero_le _,rfl,(fun j hj=>by omega),Below.refl _ w⟩
   case round =>
    obtain ⟨k,hk,rfl,hsame,hb⟩:=hrel
    have HS:=Lib.hid (And.intro hsame hb)
    clear hsame
    by_cases hlt:k<n
    · obtain ⟨ad1,c1',e1,b1,x0,x1⟩:=(H1.out.below hb).at_ (i:=k) (by rw [HN.out];exact hlt)
      obtain ⟨ad2,c2',e2,b2,y0,y1⟩:=(H2.out.below hb).at_ (i:=k) (by rw [HM.out];exact hlt)
      injection e1 with e1 e1n e1c;clear e1n e1c
      injection e2 with e2 e2n e2c;clear e2n e2c
      subst e1 e2
      have gL:=getD_of (L:=L) (i:=k) (by rw [HN.out];exact hlt)
      have gM:=getD_of (L:=M) (i:=k) (by rw [HM.out];exact hlt)
      obtain ⟨a,ha⟩:∃a,L.getD k default=a:=⟨_,rfl⟩
      obtain ⟨b,hbb⟩:∃b,M.getD k default=b:=⟨_,rfl⟩
      rw [ha] at x0 x1 gL
      rw [hbb] at y0 y1 gM
      have HG:=Lib.hid (And.intro gL gM)
      have hk0:(0:Int)≤(k:Int):=by omega
      have hk1:(k:Int)<(n:Int):=by omega
      clear gL gM ha hbb
      by_cases heq:a=b
      · have hq:∀W,(Op.equalIn 10000 71 (.agg #[.int .i64 a.id,.string a.uri]) (.agg #[.int .i64 b.id,.string b.uri])).run Tryz.prog W=.ok true W:=fun W=>by rw [ext_eq,heq];simp
        have hgd:=ext_guard
        have HEQ:=Lib.hid heq
        clear heq b1 b2 hb
        go_upto_region 6 with fail
        go_quiet (fail)
        go_wp2
        go_roundw
        case rel =>
         refine ⟨k+1,by omega,by go_num,fun j hj=> ?_,below_drewN' HS.out.2 _⟩
         by_cases e:j=k
         · subst e
           rw [HG.out.1,HG.out.2,HEQ.out]
         · exact HS.out.1 j (by omega)
        case measure=>simp [intOf];omega
      · have hq:∀W,(Op.equalIn 10000 71 (.agg #[.int .i64 a.id,.string a.uri]) (.agg #[.int .i64 b.id,.string b.uri])).run Tryz.prog W=.ok false W:=fun W=>by
         rw [ext_eq]
         congr 1
         rw [←Bool.not_eq_true,Bool.and_eq_true,toList_beq,beq_iff_eq]
         exact fun h=>heq (ExtS.ext' h.1 h.2)
        have hgd:=ext_guard
        have HNE:Hid (L≠M):=Lib.hid (fun e=>by rw [e] at HG;have:=HG.out.1.symm.trans HG.out.2;exact heq (Option.some.inj this))
        clear heq b1 b2 hb
        go_upto_region 6 with fail
        go_quiet (fail)
        go_wp2
        go_ret
        exact ⟨false,rfl,⟨fun e=>(by cases e),fun e=>(HNE.out e).elim⟩,below_drewN' HS.out.2 _⟩
    · obtain rfl:k=n:=by omega
      have HEQ:Hid (L=M):=Lib.hid (list_same (by rw [HN.out,HM.out]) (fun j hj=>HS.out.1 j (by rw [HN.out] at hj;exact hj)))
      clear hb
      go_wp2
      go_ret
      exact ⟨true,rfl,⟨fun _=>HEQ.out,fun _=>rfl⟩,HS.out.2⟩
 · have hz:((n:Int) == (m:Int))=false:=by rw [beq_eq_false_iff_ne];omega
   have HNE:Hid (L≠M):=Lib.hid (fun e=>hnm (by rw [←HN.out,←HM.out,e]))
   clear hnm
   go_enter Tryz.func89,Tryz.ntmps89
   go_wp2
   go_ret
   exact ⟨false,rfl,⟨fun e=>(by cases e),fun e=>(HNE.out e).elim⟩,Below.refl _ w⟩
set_option maxHeartbeats 1600000 in
set_option maxRecDepth 100000 in
theorem equalY_any (v1 v2:Value) (L M:List CryptoS) (w:World) (h1:CrysV w w.heap.size v1 L) (h2:CrysV w w.heap.size v2 M):Calls Tryz.prog 91 #[v1,v2] w (SameB w L M):=by
 obtain ⟨A1,c1,rfl,hc1,hm1,_⟩:=Rows.form h1
 obtain ⟨A2,c2,rfl,hc2,hm2,_⟩:=Rows.form h2
 have H1:=Lib.hid h1
 have H2:=Lib.hid h2
 clear h1 h2
 obtain ⟨n,hn⟩:∃n,L.length=n:=⟨_,rfl⟩
 obtain ⟨m,hm⟩:∃m,M.length=m:=⟨_,rfl⟩
 have HN:=Lib.hid hn
 have HM:=Lib.hid hm
 rw [hn] at hc1
 rw [hm] at hc2
 rw [hn,hm]
 unfold maxLen at hm1 hm2
 clear hn hm
 by_cases hnm:n=m
 · subst hnm
   have hz:((n:Int) == (n:Int))=true:=by simp
   go_enter Tryz.func91,Tryz.ntmps91
   go_wp2
   go_loopw [13] (fun s13 wr=>∃k:Nat,k≤n∧s13=.int .i64 k∧(∀j,j<k→L[j]? = M[j]?)∧Below w.heap.size w wr) (fun s13 _=>n - (intOf s13).toNat)
   case atStart=>exact ⟨0,Nat.zero_le _,rfl,(fun j hj=>by omega),Below.refl _ w⟩
   case round =>
    obtain ⟨k,hk,rfl,hsame,hb⟩:=hrel
    have HS:=Lib.hid (And.intro hsame hb)
    clear hsame
    by_cases hlt:k<n
    · obtain ⟨ad1,c1',e1,b1,l1,x0⟩:=(H1.out.below hb).at_ (i:=k) (by rw [HN.out];exact hlt)
      obtain ⟨ad2,c2',e2,b2,l2,y0⟩:=(H2.out.below hb).at_ (i:=k) (by rw [HM.out];exact hlt)
      injection e1 with e1 e1n e1c;clear e1n e1c
      injection e2 with e2 e2n e2c;clear e2n e2c
      subst e1 e2
      have gL:=getD_of (L:=L) (i:=k) (by rw [HN.out];exact hlt)
      have gM:=getD_of (L:=M) (i:=k) (by rw [HM.out];exact hlt)
      obtain ⟨a,ha⟩:∃a,L.getD k default=a:=⟨_,rfl⟩
      obtain ⟨b,hbb⟩:∃b,M.getD k default=b:=⟨_,rfl⟩
      rw [ha] at x0 l1 gL
      rw [hbb] at y0 l2 gM
      have HG:=Lib.hid (And.intro gL gM)
      have hk0:(0:Int)≤(k:Int):=by omega
      have hk1:(k:Int)<(n:Int):=by omega
      clear gL gM ha hbb
      by_cases heq:a=b
      · have hq:∀W,(Op.equalIn 10000 75 (.agg (cryC a).toArray) (.agg (cryC b).toArray)).run Tryz.prog W=.ok true W:=fun W=>by rw [crypto_eq a b l1 l2,decide_eq_true heq]
        have hgd:=crypto_guard
        have HLL:=Lib.hid (And.intro (cryC_len l1) (cryC_len l2))
        have HLT:Hid (ad1.block<wr.heap.size∧ad2.block<wr.heap.size):=Lib.hid ⟨Nat.lt_of_lt_of_le b1 hb.size,Nat.lt_of_lt_of_le b2 hb.size⟩
        obtain ⟨XL,hXL⟩:∃l,cryC a=l:=⟨_,rfl⟩
        obtain ⟨YL,hYL⟩:∃l,cryC b=l:=⟨_,rfl⟩
        rw [hXL] at x0 hq HLL
        rw [hYL] at y0 hq HLL
        have HX1:Hid (∀W,Below wr.heap.size wr W→∀j u,XL[j]? = some u→W.cell? ((ad1.add (k * 31)).add j)=some u):=Lib.hid fun W h j u hu=>(h.cell (p:=(ad1.add (k * 31)).add j) (by rw [add_block,add_block];exact HLT.out.1)).trans (x0 j u hu)
        have HX2:Hid (∀W,Below wr.heap.size wr W→∀j u,YL[j]? = some u→W.cell? ((ad2.add (k * 31)).add j)=some u):=Lib.hid fun W h j u hu=>(h.cell (p:=(ad2.add (k * 31)).add j) (by rw [add_block,add_block];exact HLT.out.2)).trans (y0 j u hu)
        have HR0:Hid (Below wr.heap.size wr wr.drew):=Lib.hid (Below.refl _ _).drew
        clear hXL hYL x0 y0 b1 b2 l1 l2 hb
        have HEQ:=Lib.hid heq
        clear heq
        go_upto_region 6 with fail
        refine wp_region_held_drew (S:=fun W=>Below wr.heap.size wr W) (by kernel_rfl) HR0.out (fun hHeld=> ?_)
        refine wpAnyH_take (i:=0) (v:=_) rfl (by as_aux_lemma=>kernel_rfl) (by as_aux_lemma=>kernel_rfl) (by as_aux_lemma=>kernel_rfl) (fun _ _ _ h=>h) (Or.inl ⟨by rfl,fun w h=>by clear h;go_simp;(try with_reducible rfl)⟩) (by assumption) ?_
        simp only [Act.put,List.getElem_toArray,List.getElem_cons_succ,List.getElem_cons_zero,List.setIfInBounds_toArray,List.set_cons_succ,List.set_cons_zero]
        refine wpAnyH_take (i:=1) (v:=_) rfl (by as_aux_lemma=>kernel_rfl) (by as_aux_lemma=>kernel_rfl) (by as_aux_lemma=>kernel_rfl) (fun _ _ _ h=>h) (Or.inl ⟨by rfl,fun w h=>by clear h;go_simp;(try with_reducible rfl)⟩) (by assumption) ?_
        simp only [Act.put,List.getElem_toArray,List.getElem_cons_succ,List.getElem_cons_zero,List.setIfInBounds_toArray,List.set_cons_succ,List.set_cons_zero]
        refine wpAnyH_take (i:=2) (v:=_) rfl (by as_aux_lemma=>kernel_rfl) (by as_aux_lemma=>kernel_rfl) (by as_aux_lemma=>kernel_rfl) (fun _ _ _ h=>h) (Or.inl ⟨by rfl,fun w h=>by clear h;go_simp;(try with_reducible rfl)⟩) (by assumption) ?_
        simp only [Act.put,List.getElem_toArray,List.getElem_cons_succ,List.getElem_cons_zero,List.setIfInBounds_toArray,List.set_cons_succ,List.set_cons_zero]
        refine wpAnyH_take (i:=3) (v:=_) rfl (by as_aux_lemma=>kernel_rfl) (by as_aux_lemma=>kernel_rfl) (by as_aux_lemma=>kernel_rfl) (fun _ _ _ h=>h) (yieldsIf_load_at (by rfl) 75 (.tmp 18) rfl _ rfl XL _ (fun w h=>HX1.out w h) Tryz.underlying75 rfl (by rw [Tryz.sizeCrypto,HLL.out.1])) (by assumption) ?_
        simp only [Act.put,List.getElem_toArray,List.getElem_cons_succ,List.getElem_cons_zero,List.setIfInBounds_toArray,List.set_cons_succ,List.set_cons_zero]
        refine wpAnyH_take (i:=4) (v:=_) rfl (by as_aux_lemma=>kernel_rfl) (by as_aux_lemma=>kernel_rfl) (by as_aux_lemma=>kernel_rfl) (fun _ _ _ h=>h) (Or.inl ⟨by rfl,fun w h=>by clear h;go_simp;(try with_reducible rfl)⟩) (by assumption) ?_
        simp only [Act.put,List.getElem_toArray,List.getElem_cons_succ,List.getElem_cons_zero,List.setIfInBounds_toArray,List.set_cons_succ,List.set_cons_zero]
        refine wpAnyH_take (i:=5) (v:=_) rfl (by as_aux_lemma=>kernel_rfl) (by as_aux_lemma=>kernel_rfl) (by as_aux_lemma=>kernel_rfl) (fun _ _ _ h=>h) (Or.inl ⟨by rfl,fun w h=>by clear h;go_simp;(try with_reducible rfl)⟩) (by assumption) ?_
        simp only [Act.put,List.getElem_toArray,List.getElem_cons_succ,List.getElem_cons_zero,List.setIfInBounds_toArray,List.set_cons_succ,List.set_cons_zero]
        refine wpAnyH_take (i:=6) (v:=_) rfl (by as_aux_lemma=>kernel_rfl) (by as_aux_lemma=>kernel_rfl) (by as_aux_lemma=>kernel_rfl) (fun _ _ _ h=>h) (Or.inl ⟨by rfl,fun w h=>by clear h;go_simp;(try with_reducible rfl)⟩) (by assumption) ?_
        simp only [Act.put,List.getElem_toArray,List.getElem_cons_succ,List.getElem_cons_zero,List.setIfInBounds_toArray,List.set_cons_succ,List.set_cons_zero]
        refine wpAnyH_take (i:=7) (v:=_) rfl (by as_aux_lemma=>kernel_rfl) (by as_aux_lemma=>kernel_rfl) (by as_aux_lemma=>kernel_rfl) (fun _ _ _ h=>h) (yieldsIf_load_at (by rfl) 75 (.tmp 22) rfl _ rfl YL _ (fun w h=>HX2.out w h) Tryz.underlying75 rfl (by rw [Tryz.sizeCrypto,HLL.out.2])) (by assumption) ?_
        simp only [Act.put,List.getElem_toArray,List.getElem_cons_succ,List.getElem_cons_zero,List.setIfInBounds_toArray,List.set_cons_succ,List.set_cons_zero]
        refine wpAnyH_take (i:=8) (v:=_) rfl (by as_aux_lemma=>kernel_rfl) (by as_aux_lemma=>kernel_rfl) (by as_aux_lemma=>kernel_rfl) (fun _ _ _ h=>h) (Or.inl ⟨by rfl,fun w h=>by clear h;go_simp;(try with_reducible rfl)⟩) (by assumption) ?_
        simp only [Act.put,List.getElem_toArray,List.getElem_cons_succ,List.getElem_cons_zero,List.setIfInBounds_toArray,List.set_cons_succ,List.set_cons_zero]
        refine wpAnyH_done (by as_aux_lemma=>kernel_rfl) ?_ _
        go_wp2
        go_roundw
        case rel =>
         refine ⟨k+1,by omega,by go_num,fun j hj=> ?_,HS.out.2.trans (hHeld.mono HS.out.2.size)⟩
         by_cases e:j=k
         · subst e
           rw [HG.out.1,HG.out.2,HEQ.out]
         · exact HS.out.1 j (by omega)
        case measure=>simp [intOf];omega
      · have hq:∀W,(Op.equalIn 10000 75 (.agg (cryC a).toArray) (.agg (cryC b).toArray)).run Tryz.prog W=.ok false W:=fun W=>by rw [crypto_eq a b l1 l2,decide_eq_false heq]
        have hgd:=crypto_guard
        have HLL:=Lib.hid (And.intro (cryC_len l1) (cryC_len l2))
        have HLT:Hid (ad1.block<wr.heap.size∧ad2.block<wr.heap.size):=Lib.hid ⟨Nat.lt_of_lt_of_le b1 hb.size,Nat.lt_of_lt_of_le b2 hb.size⟩
        obtain ⟨XL,hXL⟩:∃l,cryC a=l:=⟨_,rfl⟩
        obtain ⟨YL,hYL⟩:∃l,cryC b=l:=⟨_,rfl⟩
        rw [hXL] at x0 hq HLL
        rw [hYL] at y0 hq HLL
        have HX1:Hid (∀W,Below wr.heap.size wr W→∀j u,XL[j]? = some u→W.cell? ((ad1.add (k * 31)).add j)=some u):=Lib.hid fun W h j u hu=>(h.cell (p:=(ad1.add (k * 31)).add j) (by rw [add_block,add_block];exact HLT.out.1)).trans (x0 j u hu)
        have HX2:Hid (∀W,Below wr.heap.size wr W→∀j u,YL[j]? = some u→W.cell? ((ad2.add (k * 31)).add j)=some u):=Lib.hid fun W h j u hu=>(h.cell (p:=(ad2.add (k * 31)).add j) (by rw [add_block,add_block];exact HLT.out.2)).trans (y0 j u hu)
        have HR0:Hid (Below wr.heap.size wr wr.drew):=Lib.hid (Below.refl _ _).drew
        clear hXL hYL x0 y0 b1 b2 l1 l2 hb
        have HNE:Hid (L≠M):=Lib.hid (fun e=>by rw [e] at HG;have:=HG.out.1.symm.trans HG.out.2;exact heq (Option.some.inj this))
        clear heq
        go_upto_region 6 with fail
        refine wp_region_held_drew (S:=fun W=>Below wr.heap.size wr W) (by kernel_rfl) HR0.out (fun hHeld=> ?_)
        refine wpAnyH_take (i:=0) (v:=_) rfl (by as_aux_lemma=>kernel_rfl) (by as_aux_lemma=>kernel_rfl) (by as_aux_lemma=>kernel_rfl) (fun _ _ _ h=>h) (Or.inl ⟨by rfl,fun w h=>by clear h;go_simp;(try with_reducible rfl)⟩) (by assumption) ?_
        simp only [Act.put,List.getElem_toArray,List.getElem_cons_succ,List.getElem_cons_zero,List.setIfInBounds_toArray,List.set_cons_succ,List.set_cons_zero]
        refine wpAnyH_take (i:=1) (v:=_) rfl (by as_aux_lemma=>kernel_rfl) (by as_aux_lemma=>kernel_rfl) (by as_aux_lemma=>kernel_rfl) (fun _ _ _ h=>h) (Or.inl ⟨by rfl,fun w h=>by clear h;go_simp;(try with_reducible rfl)⟩) (by assumption) ?_
        simp only [Act.put,List.getElem_toArray,List.getElem_cons_succ,List.getElem_cons_zero,List.setIfInBounds_toArray,List.set_cons_succ,List.set_cons_zero]
        refine wpAnyH_take (i:=2) (v:=_) rfl (by as_aux_lemma=>kernel_rfl) (by as_aux_lemma=>kernel_rfl) (by as_aux_lemma=>kernel_rfl) (fun _ _ _ h=>h) (Or.inl ⟨by rfl,fun w h=>by clear h;go_simp;(try with_reducible rfl)⟩) (by assumption) ?_
        simp only [Act.put,List.getElem_toArray,List.getElem_cons_succ,List.getElem_cons_zero,List.setIfInBounds_toArray,List.set_cons_succ,List.set_cons_zero]
        refine wpAnyH_take (i:=3) (v:=_) rfl (by as_aux_lemma=>kernel_rfl) (by as_aux_lemma=>kernel_rfl) (by as_aux_lemma=>kernel_rfl) (fun _ _ _ h=>h) (yieldsIf_load_at (by rfl) 75 (.tmp 18) rfl _ rfl XL _ (fun w h=>HX1.out w h) Tryz.underlying75 rfl (by rw [Tryz.sizeCrypto,HLL.out.1])) (by assumption) ?_
        simp only [Act.put,List.getElem_toArray,List.getElem_cons_succ,List.getElem_cons_zero,List.setIfInBounds_toArray,List.set_cons_succ,List.set_cons_zero]
        refine wpAnyH_take (i:=4) (v:=_) rfl (by as_aux_lemma=>kernel_rfl) (by as_aux_lemma=>kernel_rfl) (by as_aux_lemma=>kernel_rfl) (fun _ _ _ h=>h) (Or.inl ⟨by rfl,fun w h=>by clear h;go_simp;(try with_reducible rfl)⟩) (by assumption) ?_
        simp only [Act.put,List.getElem_toArray,List.getElem_cons_succ,List.getElem_cons_zero,List.setIfInBounds_toArray,List.set_cons_succ,List.set_cons_zero]
        refine wpAnyH_take (i:=5) (v:=_) rfl (by as_aux_lemma=>kernel_rfl) (by as_aux_lemma=>kernel_rfl) (by as_aux_lemma=>kernel_rfl) (fun _ _ _ h=>h) (Or.inl ⟨by rfl,fun w h=>by clear h;go_simp;(try with_reducible rfl)⟩) (by assumption) ?_
        simp only [Act.put,List.getElem_toArray,List.getElem_cons_succ,List.getElem_cons_zero,List.setIfInBounds_toArray,List.set_cons_succ,List.set_cons_zero]
        refine wpAnyH_take (i:=6) (v:=_) rfl (by as_aux_lemma=>kernel_rfl) (by as_aux_lemma=>kernel_rfl) (by as_aux_lemma=>kernel_rfl) (fun _ _ _ h=>h) (Or.inl ⟨by rfl,fun w h=>by clear h;go_simp;(try with_reducible rfl)⟩) (by assumption) ?_
        simp only [Act.put,List.getElem_toArray,List.getElem_cons_succ,List.getElem_cons_zero,List.setIfInBounds_toArray,List.set_cons_succ,List.set_cons_zero]
        refine wpAnyH_take (i:=7) (v:=_) rfl (by as_aux_lemma=>kernel_rfl) (by as_aux_lemma=>kernel_rfl) (by as_aux_lemma=>kernel_rfl) (fun _ _ _ h=>h) (yieldsIf_load_at (by rfl) 75 (.tmp 22) rfl _ rfl YL _ (fun w h=>HX2.out w h) Tryz.underlying75 rfl (by rw [Tryz.sizeCrypto,HLL.out.2])) (by assumption) ?_
        simp only [Act.put,List.getElem_toArray,List.getElem_cons_succ,List.getElem_cons_zero,List.setIfInBounds_toArray,List.set_cons_succ,List.set_cons_zero]
        refine wpAnyH_take (i:=8) (v:=_) rfl (by as_aux_lemma=>kernel_rfl) (by as_aux_lemma=>kernel_rfl) (by as_aux_lemma=>kernel_rfl) (fun _ _ _ h=>h) (Or.inl ⟨by rfl,fun w h=>by clear h;go_simp;(try with_reducible rfl)⟩) (by assumption) ?_
        simp only [Act.put,List.getElem_toArray,List.getElem_cons_succ,List.getElem_cons_zero,List.setIfInBounds_toArray,List.set_cons_succ,List.set_cons_zero]
        refine wpAnyH_done (by as_aux_lemma=>kernel_rfl) ?_ _
        go_wp2
        go_ret
        exact ⟨false,rfl,⟨fun e=>(by cases e),fun e=>(HNE.out e).elim⟩,HS.out.2.trans (hHeld.mono HS.out.2.size)⟩
    · obtain rfl:k=n:=by omega
      have HEQ:Hid (L=M):=Lib.hid (list_same (by rw [HN.out,HM.out]) (fun j hj=>HS.out.1 j (by rw [HN.out] at hj;exact hj)))
      clear hb
      go_wp2
      go_ret
      exact ⟨true,rfl,⟨fun _=>HEQ.out,fun _=>rfl⟩,HS.out.2⟩
 · have hz:((n:Int) == (m:Int))=false:=by rw [beq_eq_false_iff_ne];omega
   have HNE:Hid (L≠M):=Lib.hid (fun e=>hnm (by rw [←HN.out,←HM.out,e]))
   clear hnm
   go_enter Tryz.func91,Tryz.ntmps91
   go_wp2
   go_ret
   exact ⟨false,rfl,⟨fun e=>(by cases e),fun e=>(HNE.out e).elim⟩,Below.refl _ w⟩
set_option maxHeartbeats 3200000 in
set_option maxRecDepth 100000 in
theorem sameCodec_any (X Y:Array Value) (x y:CodecS) (vf uf:Value) (w:World) (h1:CodecV w w.heap.size X x vf) (h2:CodecV w w.heap.size Y y uf):Calls Tryz.prog 88 #[.agg X,.agg Y] w (SameB w x y):=by
 obtain ⟨hb0,hx0,hy0⟩:=two_boxes w 31 X Y
 obtain ⟨A0,c0,hA0,-⟩:=Rows.form h1.feeds
 obtain ⟨D0,d0,hD0,-⟩:=Rows.form h2.feeds
 obtain ⟨n0,hn0⟩:∃n,x.feedback.length=n:=⟨_,rfl⟩
 obtain ⟨m0,hm0⟩:∃n,y.feedback.length=n:=⟨_,rfl⟩
 rw [hn0] at hA0
 rw [hm0] at hD0
 subst hA0 hD0
 obtain ⟨b5,hb5⟩:=sameBool x.feedback y.feedback
 have HC5:Hid (∀W,Below w.heap.size w W→Calls Tryz.prog 40 #[.slice A0 n0 c0,.slice D0 m0 d0] W fun e w'=>e=.returned (.bool b5)∧Below W.heap.size W w'):=Lib.hid fun W hW =>
  (equalT_any _ _ x.feedback y.feedback W ((h1.feeds.below hW).more hW.size) ((h2.feeds.below hW).more hW.size)).mono fun e w' h=>h.fix hb5
 have HE:Hid (x=y↔x.type=y.type∧x.name=y.name∧x.clock=y.clock∧x.chans=y.chans∧x.format=y.format∧x.feedback=y.feedback):=Lib.hid ⟨fun e=>by rw [e];exact ⟨rfl,rfl,rfl,rfl,rfl,rfl⟩,fun ⟨h0,h1,h2,h3,h4,h5⟩=>CodecS.ext' h0 h1 h2 h3 h4 h5⟩
 have HB5:=Lib.hid hb5
 clear hb5
 have hX:=h1.form
 have hY:=h2.form
 have HXC:Hid (X[0]? = some (.int .i64 x.type)∧X[1]? = some (.string x.name)∧X[2]? = some (.int .i64 x.clock)∧X[3]? = some (.int .i64 x.chans)∧X[4]? = some (.string x.format)∧X[5]? = some (.slice A0 n0 c0)):=Lib.hid (by rw [hX];exact ⟨rfl,rfl,rfl,rfl,rfl,rfl⟩)
 have HYC:Hid (Y[0]? = some (.int .i64 y.type)∧Y[1]? = some (.string y.name)∧Y[2]? = some (.int .i64 y.clock)∧Y[3]? = some (.int .i64 y.chans)∧Y[4]? = some (.string y.format)∧Y[5]? = some (.slice D0 m0 d0)):=Lib.hid (by rw [hY];exact ⟨rfl,rfl,rfl,rfl,rfl,rfl⟩)
 have H0:=Lib.hid (And.intro hb0 (And.intro hx0 hy0))
 obtain ⟨N,hN⟩:∃N,w.heap.size=N:=⟨_,rfl⟩
 rw [hN] at H0
 have HN:=Lib.hid hN
 have HP0:Hid (∀W,Below (w.alloc (.cells X 31) |>.alloc (.cells Y 31)).heap.size (w.alloc (.cells X 31) |>.alloc (.cells Y 31)) W→W.cell? ⟨N,0,none⟩=some (.int .i64 x.type)∧W.cell? ⟨N+1,0,none⟩=some (.int .i64 y.type)):=Lib.hid fun W hW=>⟨((H0.out.2.1.under hW).cell 0).trans HXC.out.1,((H0.out.2.2.under hW).cell 0).trans HYC.out.1⟩
 have HP1:Hid (∀W,Below (w.alloc (.cells X 31) |>.alloc (.cells Y 31)).heap.size (w.alloc (.cells X 31) |>.alloc (.cells Y 31)) W→W.cell? ⟨N,1,none⟩=some (.string x.name)∧W.cell? ⟨N+1,1,none⟩=some (.string y.name)):=Lib.hid fun W hW=>⟨((H0.out.2.1.under hW).cell 1).trans HXC.out.2.1,((H0.out.2.2.under hW).cell 1).trans HYC.out.2.1⟩
 have HP2:Hid (∀W,Below (w.alloc (.cells X 31) |>.alloc (.cells Y 31)).heap.size (w.alloc (.cells X 31) |>.alloc (.cells Y 31)) W→W.cell? ⟨N,2,none⟩=some (.int .i64 x.clock)∧W.cell? ⟨N+1,2,none⟩=some (.int .i64 y.clock)):=Lib.hid fun W hW=>⟨((H0.out.2.1.under hW).cell 2).trans HXC.out.2.2.1,((H0.out.2.2.under hW).cell 2).trans HYC.out.2.2.1⟩
 have HP3:Hid (∀W,Below (w.alloc (.cells X 31) |>.alloc (.cells Y 31)).heap.size (w.alloc (.cells X 31) |>.alloc (.cells Y 31)) W→W.cell? ⟨N,3,none⟩=some (.int .i64 x.chans)∧W.cell? ⟨N+1,3,none⟩=some (.int .i64 y.chans)):=Lib.hid fun W hW=>⟨((H0.out.2.1.under hW).cell 3).trans HXC.out.2.2.2.1,((H0.out.2.2.under hW).cell 3).trans HYC.out.2.2.2.1⟩
 have HP4:Hid (∀W,Below (w.alloc (.cells X 31) |>.alloc (.cells Y 31)).heap.size (w.alloc (.cells X 31) |>.alloc (.cells Y 31)) W→W.cell? ⟨N,4,none⟩=some (.string x.format)∧W.cell? ⟨N+1,4,none⟩=some (.string y.format)):=Lib.hid fun W hW=>⟨((H0.out.2.1.under hW).cell 4).trans HXC.out.2.2.2.2.1,((H0.out.2.2.under hW).cell 4).trans HYC.out.2.2.2.2.1⟩
 have HP5:Hid (∀W,Below (w.alloc (.cells X 31) |>.alloc (.cells Y 31)).heap.size (w.alloc (.cells X 31) |>.alloc (.cells Y 31)) W→W.cell? ⟨N,5,none⟩=some (.slice A0 n0 c0)∧W.cell? ⟨N+1,5,none⟩=some (.slice D0 m0 d0)):=Lib.hid fun W hW=>⟨((H0.out.2.1.under hW).cell 5).trans HXC.out.2.2.2.2.2,((H0.out.2.2.under hW).cell 5).trans HYC.out.2.2.2.2.2⟩
 clear h1 h2 hx0 hy0 hN hX hY hn0 hm0
 generalize x.type=x0 at *
 generalize y.type=y0 at *
 generalize x.name=x1 at *
 generalize y.name=y1 at *
 generalize x.clock=x2 at *
 generalize y.clock=y2 at *
 generalize x.chans=x3 at *
 generalize y.chans=y3 at *
 generalize x.format=x4 at *
 generalize y.format=y4 at *
 go_enter Tryz.func88,Tryz.ntmps88
 go_upto_region 1 with fail
 simp only [HN.out,Nat.add_assoc,Nat.reduceAdd]
 have HU:Hid (∀W,Below ((w.alloc (.cells X 31)).alloc (.cells Y 31)).heap.size ((w.alloc (.cells X 31)).alloc (.cells Y 31)) W→Below w.heap.size w W):=Lib.hid fun W hW=>below_chain (Nat.le_refl _) (by have:=H0.out.1;rw [←HN.out] at this;exact this) hW
 generalize ((w.alloc (.cells X 31)).alloc (.cells Y 31))=W0 at *
 have HR:=Lib.hid (Below.refl W0.heap.size W0)
 have p0W0:=(HP0.out W0 HR.out).1
 have q0W0:=(HP0.out W0 HR.out).2
 have p1W0:=(HP1.out W0 HR.out).1
 have q1W0:=(HP1.out W0 HR.out).2
 have p2W0:=(HP2.out W0 HR.out).1
 have q2W0:=(HP2.out W0 HR.out).2
 have p3W0:=(HP3.out W0 HR.out).1
 have q3W0:=(HP3.out W0 HR.out).2
 have p4W0:=(HP4.out W0 HR.out).1
 have q4W0:=(HP4.out W0 HR.out).2
 have p5W0:=(HP5.out W0 HR.out).1
 have q5W0:=(HP5.out W0 HR.out).2
 have HB0:Hid ((x0 == y0)=true↔x0=y0):=Lib.hid beq_iff_eq
 obtain ⟨b0,hb0'⟩:∃b,(x0 == y0)=b:=⟨_,rfl⟩
 rw [hb0'] at HB0
 cases b0 with
 | false =>
   have HNE:Hid (¬(x=y)):=Lib.hid (fun e=>by have h:=(HE.out.1 e).1;have:=HB0.out.2 h;cases this)
   go_wp2_with fail
   go_ret
   exact ⟨false,rfl,⟨fun e=>(by cases e),fun e=>(HNE.out e).elim⟩,HU.out _ HR.out⟩
 | true =>
   have HB1:Hid ((x1.toList == y1.toList)=true↔x1=y1):=Lib.hid toList_beq
   obtain ⟨b1,hb1'⟩:∃b,(x1.toList == y1.toList)=b:=⟨_,rfl⟩
   rw [hb1'] at HB1
   cases b1 with
   | false =>
     have HNE:Hid (¬(x=y)):=Lib.hid (fun e=>by have h:=(HE.out.1 e).2.1;have:=HB1.out.2 h;cases this)
     go_wp2_with fail
     go_ret
     exact ⟨false,rfl,⟨fun e=>(by cases e),fun e=>(HNE.out e).elim⟩,HU.out _ HR.out⟩
   | true =>
     have HB2:Hid ((x2 == y2)=true↔x2=y2):=Lib.hid beq_iff_eq
     obtain ⟨b2,hb2'⟩:∃b,(x2 == y2)=b:=⟨_,rfl⟩
     rw [hb2'] at HB2
     cases b2 with
     | false =>
       have HNE:Hid (¬(x=y)):=Lib.hid (fun e=>by have h:=(HE.out.1 e).2.2.1;have:=HB2.out.2 h;cases this)
       go_wp2_with fail
       go_ret
       exact ⟨false,rfl,⟨fun e=>(by cases e),fun e=>(HNE.out e).elim⟩,HU.out _ HR.out⟩
     | true =>
       have HB3:Hid ((x3 == y3)=true↔x3=y3):=Lib.hid beq_iff_eq
       obtain ⟨b3,hb3'⟩:∃b,(x3 == y3)=b:=⟨_,rfl⟩
       rw [hb3'] at HB3
       cases b3 with
       | false =>
         have HNE:Hid (¬(x=y)):=Lib.hid (fun e=>by have h:=(HE.out.1 e).2.2.2.1;have:=HB3.out.2 h;cases this)
         go_wp2_with fail
         go_ret
         exact ⟨false,rfl,⟨fun e=>(by cases e),fun e=>(HNE.out e).elim⟩,HU.out _ HR.out⟩
       | true =>
         have HB4:Hid ((x4.toList == y4.toList)=true↔x4=y4):=Lib.hid toList_beq
         obtain ⟨b4,hb4'⟩:∃b,(x4.toList == y4.toList)=b:=⟨_,rfl⟩
         rw [hb4'] at HB4
         cases b4 with
         | false =>
           have HNE:Hid (¬(x=y)):=Lib.hid (fun e=>by have h:=(HE.out.1 e).2.2.2.2.1;have:=HB4.out.2 h;cases this)
           go_wp2_with fail
           go_ret
           exact ⟨false,rfl,⟨fun e=>(by cases e),fun e=>(HNE.out e).elim⟩,HU.out _ HR.out⟩
         | true =>
           cases b5 with
           | false =>
             have HNE:Hid (¬(x=y)):=Lib.hid (fun e=>by have h:=(HE.out.1 e).2.2.2.2.2;have:=HB5.out.2 h;cases this)
             go_wp2_with (first | (go_at_call 40;(with_reducible refine (HC5.out _ (HU.out _ HR.out)).mono ?_);rintro e w1 ⟨rfl,hb5⟩;have H1:Hid (Below W0.heap.size W0 w1):=Lib.hid (below_chain (Nat.le_refl _) HR.out hb5);clear hb5;dsimp only))
             go_ret
             exact ⟨false,rfl,⟨fun e=>(by cases e),fun e=>(HNE.out e).elim⟩,HU.out _ H1.out⟩
           | true =>
             have HEQ:Hid (x=y):=Lib.hid (HE.out.2 ⟨HB0.out.1 rfl,HB1.out.1 rfl,HB2.out.1 rfl,HB3.out.1 rfl,HB4.out.1 rfl,HB5.out.1 rfl⟩)
             go_wp2_with (first | (go_at_call 40;(with_reducible refine (HC5.out _ (HU.out _ HR.out)).mono ?_);rintro e w1 ⟨rfl,hb5⟩;have H1:Hid (Below W0.heap.size W0 w1):=Lib.hid (below_chain (Nat.le_refl _) HR.out hb5);clear hb5;dsimp only))
             go_ret
             exact ⟨true,rfl,⟨fun _=>HEQ.out,fun _=>rfl⟩,HU.out _ H1.out⟩
set_option maxHeartbeats 3200000 in
set_option maxRecDepth 100000 in
theorem eqFC_any (v1 v2:Value) (L M:List CodecS) (w:World) (h1:CodecsV w w.heap.size v1 L) (h2:CodecsV w w.heap.size v2 M):Calls Tryz.prog 87 #[v1,v2,.func (.func 88) #[] #[]] w (SameB w L M):=by
 obtain ⟨A1,c1,rfl,hc1,hm1,_⟩:=Rows.form h1
 obtain ⟨A2,c2,rfl,hc2,hm2,_⟩:=Rows.form h2
 have H1:=Lib.hid h1
 have H2:=Lib.hid h2
 clear h1 h2
 obtain ⟨n,hn⟩:∃n,L.length=n:=⟨_,rfl⟩
 obtain ⟨m,hm⟩:∃m,M.length=m:=⟨_,rfl⟩
 have HN:=Lib.hid hn
 have HM:=Lib.hid hm
 rw [hn] at hc1
 rw [hm] at hc2
 rw [hn,hm]
 unfold maxLen at hm1 hm2
 clear hn hm
 by_cases hnm:n=m
 · subst hnm
   have hz:((n:Int) == (n:Int))=true:=by simp
   go_enter Tryz.func87,Tryz.ntmps87
   go_wp2
   go_loopw [17] (fun s17 wr=>∃k:Nat,k≤n∧s17=.int .i64 k∧(∀j,j<k→L[j]? = M[j]?)∧Below w.heap.size w wr) (fun s17 _=>n - (intOf s17).toNat)
   case atStart=>exact ⟨0,Nat.zero_le _,rfl,(fun j hj=>by omega),Below.refl _ w⟩
   case round =>
    obtain ⟨k,hk,rfl,hsame,hb⟩:=hrel
    have HS:=Lib.hid (And.intro hsame hb)
    clear hsame
    by_cases hlt:k<n
    · obtain ⟨ad1,c1',X,vf,e1,b1,hx,xs⟩:=CodecsV.cells (H1.out.below hb) (i:=k) (by rw [HN.out];exact hlt)
      obtain ⟨ad2,c2',Y,uf,e2,b2,hy,ys⟩:=CodecsV.cells (H2.out.below hb) (i:=k) (by rw [HM.out];exact hlt)
      injection e1 with e1 e1n e1c;clear e1n e1c
      injection e2 with e2 e2n e2c;clear e2n e2c
      subst e1 e2
      have gL:=getD_of (L:=L) (i:=k) (by rw [HN.out];exact hlt)
      have gM:=getD_of (L:=M) (i:=k) (by rw [HM.out];exact hlt)
      obtain ⟨a,ha⟩:∃a,L.getD k default=a:=⟨_,rfl⟩
      obtain ⟨b,hbb⟩:∃b,M.getD k default=b:=⟨_,rfl⟩
      rw [ha] at hx gL
      rw [hbb] at hy gM
      have HG:=Lib.hid (And.intro gL gM)
      have hk0:(0:Int)≤(k:Int):=by omega
      have hk1:(k:Int)<(n:Int):=by omega
      have hwr:=hb.size
      have HLD1:Hid (∀(ops:Array Oper) (rest:List Oper) (op:Oper) (act:Act) (Q:Exit→Act→World→Prop),op.guard=none→op.op=.load 31 (.tmp 20)→act.eval (.tmp 20)=.pointer (some (ad1.add (k * 6)))→wpList Tryz.prog ops Q rest (act.put op.dst (.agg X)) wr→wpList Tryz.prog ops Q (op :: rest) act wr) :=
       Lib.hid fun ops rest op act Q h1 h2 h3 h4=>wpList_load_at h1 31 (.tmp 20) h2 _ h3 X.toList _ xs Tryz.underlying31 rfl (by rw [Array.length_toList,hx.size];exact Tryz.sizeCodec) (by rw [Array.toArray_toList];exact h4)
      have HLD2:Hid (∀(W:World) (ops:Array Oper) (rest:List Oper) (op:Oper) (act:Act) (Q:Exit→Act→World→Prop),Below w.heap.size wr W→op.guard=none→op.op=.load 31 (.tmp 24)→act.eval (.tmp 24)=.pointer (some (ad2.add (k * 6)))→wpList Tryz.prog ops Q rest (act.put op.dst (.agg Y)) W→wpList Tryz.prog ops Q (op :: rest) act W) :=
       Lib.hid fun W ops rest op act Q hW h1 h2 h3 h4=>wpList_load_at h1 31 (.tmp 24) h2 _ h3 Y.toList _ (fun j u hu=>(hW.cell (p:=(ad2.add (k * 6)).add j) (by rw [add_block,add_block];exact b2)).trans (ys j u hu)) Tryz.underlying31 rfl (by rw [Array.length_toList,hy.size];exact Tryz.sizeCodec) (by rw [Array.toArray_toList];exact h4)
      have HNEW:Hid (∀W:World,Whole (W.alloc (.cells #[.int .i64 0,.string ⟨#[]⟩,.int .i64 0,.int .i64 0,.string ⟨#[]⟩,.slice none 0 0] 31)) W.heap.size 31 #[.int .i64 0,.string ⟨#[]⟩,.int .i64 0,.int .i64 0,.string ⟨#[]⟩,.slice none 0 0]):=Lib.hid fun W=>Whole.new _ _ _
      have HXS:Hid ((X.size=6∧X.toList.all (·.oneCell')=true)∧Y.size=6∧Y.toList.all (·.oneCell')=true):=Lib.hid ⟨⟨hx.size,hx.one⟩,hy.size,hy.one⟩
      have HW1:Hid (Below w.heap.size wr ((wr.alloc (.cells #[.int .i64 0,.string ⟨#[]⟩,.int .i64 0,.int .i64 0,.string ⟨#[]⟩,.slice none 0 0] 31)).setRow wr.heap.size X)∧Whole ((wr.alloc (.cells #[.int .i64 0,.string ⟨#[]⟩,.int .i64 0,.int .i64 0,.string ⟨#[]⟩,.slice none 0 0] 31)).setRow wr.heap.size X) wr.heap.size 31 X):=Lib.hid ⟨below_row ((Below.refl _ wr).alloc hwr _) hwr _,(HNEW.out wr).row _⟩
      have HXY:=Lib.hid (And.intro hx hy)
      clear gL gM ha hbb xs ys hx hy b1 b2 hb
      go_upto_region 6 with (first | ((with_reducible refine HLD1.out _ _ _ _ _ ?_ ?_ ?_ ?_);(with_reducible rfl);(with_reducible rfl);rfl) | ((with_reducible refine wpList_storeS X ?_ 31 (.tmp 8) (.tmp 21) ?_ ?_ ?_ (HNEW.out _) Tryz.sizeCodec HXS.out.1.1 ?_ HXS.out.1.2 ?_);(with_reducible rfl);(with_reducible rfl);rfl;rfl;rfl))
      clear HLD1
      generalize ((wr.alloc (.cells #[.int .i64 0,.string ⟨#[]⟩,.int .i64 0,.int .i64 0,.string ⟨#[]⟩,.slice none 0 0] 31)).setRow wr.heap.size X)=W1 at *
      clear hwr
      generalize wr.heap.size=g1 at *
      have hW1:w.heap.size≤W1.heap.size:=Nat.le_trans HS.out.2.size HW1.out.1.size
      have HW2:Hid (Below w.heap.size wr ((W1.alloc (.cells #[.int .i64 0,.string ⟨#[]⟩,.int .i64 0,.int .i64 0,.string ⟨#[]⟩,.slice none 0 0] 31)).setRow W1.heap.size Y)∧Whole ((W1.alloc (.cells #[.int .i64 0,.string ⟨#[]⟩,.int .i64 0,.int .i64 0,.string ⟨#[]⟩,.slice none 0 0] 31)).setRow W1.heap.size Y) W1.heap.size 31 Y∧Whole ((W1.alloc (.cells #[.int .i64 0,.string ⟨#[]⟩,.int .i64 0,.int .i64 0,.string ⟨#[]⟩,.slice none 0 0] 31)).setRow W1.heap.size Y) g1 31 X):=Lib.hid ⟨below_row (HW1.out.1.alloc hW1 _) hW1 _,(HNEW.out W1).row _,(HW1.out.2.alloc _).farRow (Nat.ne_of_lt HW1.out.2.lt) _⟩
      go_upto_region 7 with (first | ((with_reducible refine HLD2.out _ _ _ _ _ _ HW1.out.1 ?_ ?_ ?_ ?_);(with_reducible rfl);(with_reducible rfl);rfl) | ((with_reducible refine wpList_storeS Y ?_ 31 (.tmp 9) (.tmp 25) ?_ ?_ ?_ (HNEW.out _) Tryz.sizeCodec HXS.out.2.1 ?_ HXS.out.2.2 ?_);(with_reducible rfl);(with_reducible rfl);rfl;rfl;rfl))
      clear HLD2 HNEW
      generalize ((W1.alloc (.cells #[.int .i64 0,.string ⟨#[]⟩,.int .i64 0,.int .i64 0,.string ⟨#[]⟩,.slice none 0 0] 31)).setRow W1.heap.size Y)=W2 at *
      generalize W1.heap.size=g2 at *
      have hW2:w.heap.size≤W2.heap.size:=Nat.le_trans HS.out.2.size HW2.out.1.size
      obtain ⟨q,hq⟩:=sameBool a b
      have HCL:Hid (Calls Tryz.prog 88 #[.agg X,.agg Y] W2 fun e w'=>e=.returned (.bool q)∧Below W2.heap.size W2 w'):=Lib.hid ((sameCodec_any X Y a b vf uf W2 ((HXY.out.1.below HW2.out.1).more hW2) ((HXY.out.2.below HW2.out.1).more hW2)).mono fun e w' h=>h.fix hq)
      have HQ:=Lib.hid hq
      have HFIN:Hid (∀W,Below W2.heap.size W2 W→Below w.heap.size w W):=Lib.hid fun W hW=>(HS.out.2.trans HW2.out.1).trans (hW.mono hW2)
      clear hq hW1 hW2
      cases q with
      | true =>
        have HEQ:Hid (a=b):=Lib.hid (HQ.out.1 rfl)
        go_wp2_with (first | ((with_reducible refine wpList_load_all ?_ 31 (.tmp 8) ?_ HW2.out.2.2 ?_ Tryz.sizeCodec HXS.out.1.1 Tryz.underlying31 rfl ?_);(with_reducible rfl);(with_reducible rfl);rfl) | ((with_reducible refine wpList_load_all ?_ 31 (.tmp 9) ?_ HW2.out.2.1 ?_ Tryz.sizeCodec HXS.out.2.1 Tryz.underlying31 rfl ?_);(with_reducible rfl);(with_reducible rfl);rfl) | (go_at_call 88;(with_reducible refine HCL.out.mono ?_);rintro e w5 ⟨rfl,hb5⟩))
        go_roundw
        case rel =>
         refine ⟨k+1,by omega,by go_num,fun j hj=> ?_,HFIN.out _ hb5⟩
         by_cases e:j=k
         · subst e
           rw [HG.out.1,HG.out.2,HEQ.out]
         · exact HS.out.1 j (by omega)
        case measure=>simp [intOf];omega
      | false =>
        have HNE:Hid (L≠M):=Lib.hid (fun e=>by rw [e] at HG;have:=HQ.out.2 (Option.some.inj (HG.out.1.symm.trans HG.out.2));cases this)
        go_wp2_with (first | ((with_reducible refine wpList_load_all ?_ 31 (.tmp 8) ?_ HW2.out.2.2 ?_ Tryz.sizeCodec HXS.out.1.1 Tryz.underlying31 rfl ?_);(with_reducible rfl);(with_reducible rfl);rfl) | ((with_reducible refine wpList_load_all ?_ 31 (.tmp 9) ?_ HW2.out.2.1 ?_ Tryz.sizeCodec HXS.out.2.1 Tryz.underlying31 rfl ?_);(with_reducible rfl);(with_reducible rfl);rfl) | (go_at_call 88;(with_reducible refine HCL.out.mono ?_);rintro e w5 ⟨rfl,hb5⟩))
        go_ret
        exact ⟨false,rfl,⟨fun e=>(by cases e),fun e=>(HNE.out e).elim⟩,HFIN.out _ hb5⟩
    · obtain rfl:k=n:=by omega
      have HEQ:Hid (L=M):=Lib.hid (list_same (by rw [HN.out,HM.out]) (fun j hj=>HS.out.1 j (by rw [HN.out] at hj;exact hj)))
      clear hb
      go_wp2
      go_ret
      exact ⟨true,rfl,⟨fun _=>HEQ.out,fun _=>rfl⟩,HS.out.2⟩
 · have hz:((n:Int) == (m:Int))=false:=by rw [beq_eq_false_iff_ne];omega
   have HNE:Hid (L≠M):=Lib.hid (fun e=>hnm (by rw [←HN.out,←HM.out,e]))
   clear hnm
   go_enter Tryz.func87,Tryz.ntmps87
   go_wp2
   go_ret
   exact ⟨false,rfl,⟨fun e=>(by cases e),fun e=>(HNE.out e).elim⟩,Below.refl _ w⟩
set_option maxHeartbeats 3200000 in
set_option maxRecDepth 100000 in
theorem sameMedia_any (X Y:Array Value) (x y:MediaS) (vC vE vR vS vY uC uE uR uS uY:Value) (w:World) (h1:MediaV w w.heap.size X x vC vE vR vS vY) (h2:MediaV w w.heap.size Y y uC uE uR uS uY):Calls Tryz.prog 42 #[.agg X,.agg Y] w (SameB w x y):=by
 obtain ⟨hb0,hx0,hy0⟩:=two_boxes w 28 X Y
 obtain ⟨A0,c0,hA0,-⟩:=Rows.form h1.codecs
 obtain ⟨D0,d0,hD0,-⟩:=Rows.form h2.codecs
 obtain ⟨n0,hn0⟩:∃n,x.codecs.length=n:=⟨_,rfl⟩
 obtain ⟨m0,hm0⟩:∃n,y.codecs.length=n:=⟨_,rfl⟩
 rw [hn0] at hA0
 rw [hm0] at hD0
 subst hA0 hD0
 obtain ⟨b4,hb4⟩:=sameBool x.codecs y.codecs
 have HC4:Hid (∀W,Below w.heap.size w W→Calls Tryz.prog 87 #[.slice A0 n0 c0,.slice D0 m0 d0,.func (.func 88) #[] #[]] W fun e w'=>e=.returned (.bool b4)∧Below W.heap.size W w'):=Lib.hid fun W hW =>
  (eqFC_any _ _ x.codecs y.codecs W ((h1.codecs.below hW).more hW.size) ((h2.codecs.below hW).more hW.size)).mono fun e w' h=>h.fix hb4
 obtain ⟨A1,c1,hA1,-⟩:=Rows.form h1.exts
 obtain ⟨D1,d1,hD1,-⟩:=Rows.form h2.exts
 obtain ⟨n1,hn1⟩:∃n,x.exts.length=n:=⟨_,rfl⟩
 obtain ⟨m1,hm1⟩:∃n,y.exts.length=n:=⟨_,rfl⟩
 rw [hn1] at hA1
 rw [hm1] at hD1
 subst hA1 hD1
 obtain ⟨b5,hb5⟩:=sameBool x.exts y.exts
 have HC5:Hid (∀W,Below w.heap.size w W→Calls Tryz.prog 89 #[.slice A1 n1 c1,.slice D1 m1 d1] W fun e w'=>e=.returned (.bool b5)∧Below W.heap.size W w'):=Lib.hid fun W hW =>
  (equalE_any _ _ x.exts y.exts W ((h1.exts.below hW).more hW.size) ((h2.exts.below hW).more hW.size)).mono fun e w' h=>h.fix hb5
 obtain ⟨A2,c2,hA2,-⟩:=Rows.form h1.rids
 obtain ⟨D2,d2,hD2,-⟩:=Rows.form h2.rids
 obtain ⟨n2,hn2⟩:∃n,x.rids.length=n:=⟨_,rfl⟩
 obtain ⟨m2,hm2⟩:∃n,y.rids.length=n:=⟨_,rfl⟩
 rw [hn2] at hA2
 rw [hm2] at hD2
 subst hA2 hD2
 obtain ⟨b6,hb6⟩:=sameBool x.rids y.rids
 have HC6:Hid (∀W,Below w.heap.size w W→Calls Tryz.prog 40 #[.slice A2 n2 c2,.slice D2 m2 d2] W fun e w'=>e=.returned (.bool b6)∧Below W.heap.size W w'):=Lib.hid fun W hW =>
  (equalT_any _ _ x.rids y.rids W ((h1.rids.below hW).more hW.size) ((h2.rids.below hW).more hW.size)).mono fun e w' h=>h.fix hb6
 obtain ⟨A3,c3,hA3,-⟩:=Rows.form h1.sources
 obtain ⟨D3,d3,hD3,-⟩:=Rows.form h2.sources
 obtain ⟨n3,hn3⟩:∃n,x.sources.length=n:=⟨_,rfl⟩
 obtain ⟨m3,hm3⟩:∃n,y.sources.length=n:=⟨_,rfl⟩
 rw [hn3] at hA3
 rw [hm3] at hD3
 subst hA3 hD3
 obtain ⟨b8,hb8⟩:=sameBool x.sources y.sources
 have HC8:Hid (∀W,Below w.heap.size w W→Calls Tryz.prog 90 #[.slice A3 n3 c3,.slice D3 m3 d3] W fun e w'=>e=.returned (.bool b8)∧Below W.heap.size W w'):=Lib.hid fun W hW =>
  (equalU_any _ _ x.sources y.sources W ((h1.sources.below hW).more hW.size) ((h2.sources.below hW).more hW.size)).mono fun e w' h=>h.fix hb8
 obtain ⟨A4,c4,hA4,-⟩:=Rows.form h1.crypto
 obtain ⟨D4,d4,hD4,-⟩:=Rows.form h2.crypto
 obtain ⟨n4,hn4⟩:∃n,x.crypto.length=n:=⟨_,rfl⟩
 obtain ⟨m4,hm4⟩:∃n,y.crypto.length=n:=⟨_,rfl⟩
 rw [hn4] at hA4
 rw [hm4] at hD4
 subst hA4 hD4
 obtain ⟨b9,hb9⟩:=sameBool x.crypto y.crypto
 have HC9:Hid (∀W,Below w.heap.size w W→Calls Tryz.prog 91 #[.slice A4 n4 c4,.slice D4 m4 d4] W fun e w'=>e=.returned (.bool b9)∧Below W.heap.size W w'):=Lib.hid fun W hW =>
  (equalY_any _ _ x.crypto y.crypto W ((h1.crypto.below hW).more hW.size) ((h2.crypto.below hW).more hW.size)).mono fun e w' h=>h.fix hb9
 have HE:Hid (x=y↔x.kind=y.kind∧x.port=y.port∧x.mid=y.mid∧x.dir=y.dir∧x.codecs=y.codecs∧x.exts=y.exts∧x.rids=y.rids∧x.sending=y.sending∧x.sources=y.sources∧x.crypto=y.crypto∧x.sctp=y.sctp):=Lib.hid ⟨fun e=>by rw [e];exact ⟨rfl,rfl,rfl,rfl,rfl,rfl,rfl,rfl,rfl,rfl,rfl⟩,fun ⟨h0,h1,h2,h3,h4,h5,h6,h7,h8,h9,h10⟩=>MediaS.ext' h0 h1 h2 h3 h4 h5 h6 h7 h8 h9 h10⟩
 have HB4:=Lib.hid hb4
 clear hb4
 have HB5:=Lib.hid hb5
 clear hb5
 have HB6:=Lib.hid hb6
 clear hb6
 have HB8:=Lib.hid hb8
 clear hb8
 have HB9:=Lib.hid hb9
 clear hb9
 have hX:=h1.form
 have hY:=h2.form
 have HXC:Hid (X[0]? = some (.int .i64 x.kind)∧X[1]? = some (.int .i64 x.port)∧X[2]? = some (.string x.mid)∧X[3]? = some (.int .i64 x.dir)∧X[4]? = some (.slice A0 n0 c0)∧X[5]? = some (.slice A1 n1 c1)∧X[6]? = some (.slice A2 n2 c2)∧X[7]? = some (.bool x.sending)∧X[8]? = some (.slice A3 n3 c3)∧X[9]? = some (.slice A4 n4 c4)∧X[10]? = some (.int .i64 x.sctp)):=Lib.hid (by rw [hX];exact ⟨rfl,rfl,rfl,rfl,rfl,rfl,rfl,rfl,rfl,rfl,rfl⟩)
 have HYC:Hid (Y[0]? = some (.int .i64 y.kind)∧Y[1]? = some (.int .i64 y.port)∧Y[2]? = some (.string y.mid)∧Y[3]? = some (.int .i64 y.dir)∧Y[4]? = some (.slice D0 m0 d0)∧Y[5]? = some (.slice D1 m1 d1)∧Y[6]? = some (.slice D2 m2 d2)∧Y[7]? = some (.bool y.sending)∧Y[8]? = some (.slice D3 m3 d3)∧Y[9]? = some (.slice D4 m4 d4)∧Y[10]? = some (.int .i64 y.sctp)):=Lib.hid (by rw [hY];exact ⟨rfl,rfl,rfl,rfl,rfl,rfl,rfl,rfl,rfl,rfl,rfl⟩)
 have H0:=Lib.hid (And.intro hb0 (And.intro hx0 hy0))
 obtain ⟨N,hN⟩:∃N,w.heap.size=N:=⟨_,rfl⟩
 rw [hN] at H0
 have HN:=Lib.hid hN
 have HP0:Hid (∀W,Below (w.alloc (.cells X 28) |>.alloc (.cells Y 28)).heap.size (w.alloc (.cells X 28) |>.alloc (.cells Y 28)) W→W.cell? ⟨N,0,none⟩=some (.int .i64 x.kind)∧W.cell? ⟨N+1,0,none⟩=some (.int .i64 y.kind)):=Lib.hid fun W hW=>⟨((H0.out.2.1.under hW).cell 0).trans HXC.out.1,((H0.out.2.2.under hW).cell 0).trans HYC.out.1⟩
 have HP1:Hid (∀W,Below (w.alloc (.cells X 28) |>.alloc (.cells Y 28)).heap.size (w.alloc (.cells X 28) |>.alloc (.cells Y 28)) W→W.cell? ⟨N,1,none⟩=some (.int .i64 x.port)∧W.cell? ⟨N+1,1,none⟩=some (.int .i64 y.port)):=Lib.hid fun W hW=>⟨((H0.out.2.1.under hW).cell 1).trans HXC.out.2.1,((H0.out.2.2.under hW).cell 1).trans HYC.out.2.1⟩
 have HP2:Hid (∀W,Below (w.alloc (.cells X 28) |>.alloc (.cells Y 28)).heap.size (w.alloc (.cells X 28) |>.alloc (.cells Y 28)) W→W.cell? ⟨N,2,none⟩=some (.string x.mid)∧W.cell? ⟨N+1,2,none⟩=some (.string y.mid)):=Lib.hid fun W hW=>⟨((H0.out.2.1.under hW).cell 2).trans HXC.out.2.2.1,((H0.out.2.2.under hW).cell 2).trans HYC.out.2.2.1⟩
 have HP3:Hid (∀W,Below (w.alloc (.cells X 28) |>.alloc (.cells Y 28)).heap.size (w.alloc (.cells X 28) |>.alloc (.cells Y 28)) W→W.cell? ⟨N,3,none⟩=some (.int .i64 x.dir)∧W.cell? ⟨N+1,3,none⟩=some (.int .i64 y.dir)):=Lib.hid fun W hW=>⟨((H0.out.2.1.under hW).cell 3).trans HXC.out.2.2.2.1,((H0.out.2.2.under hW).cell 3).trans HYC.out.2.2.2.1⟩
 have HP4:Hid (∀W,Below (w.alloc (.cells X 28) |>.alloc (.cells Y 28)).heap.size (w.alloc (.cells X 28) |>.alloc (.cells Y 28)) W→W.cell? ⟨N,4,none⟩=some (.slice A0 n0 c0)∧W.cell? ⟨N+1,4,none⟩=some (.slice D0 m0 d0)):=Lib.hid fun W hW=>⟨((H0.out.2.1.under hW).cell 4).trans HXC.out.2.2.2.2.1,((H0.out.2.2.under hW).cell 4).trans HYC.out.2.2.2.2.1⟩
 have HP5:Hid (∀W,Below (w.alloc (.cells X 28) |>.alloc (.cells Y 28)).heap.size (w.alloc (.cells X 28) |>.alloc (.cells Y 28)) W→W.cell? ⟨N,5,none⟩=some (.slice A1 n1 c1)∧W.cell? ⟨N+1,5,none⟩=some (.slice D1 m1 d1)):=Lib.hid fun W hW=>⟨((H0.out.2.1.under hW).cell 5).trans HXC.out.2.2.2.2.2.1,((H0.out.2.2.under hW).cell 5).trans HYC.out.2.2.2.2.2.1⟩
 have HP6:Hid (∀W,Below (w.alloc (.cells X 28) |>.alloc (.cells Y 28)).heap.size (w.alloc (.cells X 28) |>.alloc (.cells Y 28)) W→W.cell? ⟨N,6,none⟩=some (.slice A2 n2 c2)∧W.cell? ⟨N+1,6,none⟩=some (.slice D2 m2 d2)):=Lib.hid fun W hW=>⟨((H0.out.2.1.under hW).cell 6).trans HXC.out.2.2.2.2.2.2.1,((H0.out.2.2.under hW).cell 6).trans HYC.out.2.2.2.2.2.2.1⟩
 have HP7:Hid (∀W,Below (w.alloc (.cells X 28) |>.alloc (.cells Y 28)).heap.size (w.alloc (.cells X 28) |>.alloc (.cells Y 28)) W→W.cell? ⟨N,7,none⟩=some (.bool x.sending)∧W.cell? ⟨N+1,7,none⟩=some (.bool y.sending)):=Lib.hid fun W hW=>⟨((H0.out.2.1.under hW).cell 7).trans HXC.out.2.2.2.2.2.2.2.1,((H0.out.2.2.under hW).cell 7).trans HYC.out.2.2.2.2.2.2.2.1⟩
 have HP8:Hid (∀W,Below (w.alloc (.cells X 28) |>.alloc (.cells Y 28)).heap.size (w.alloc (.cells X 28) |>.alloc (.cells Y 28)) W→W.cell? ⟨N,8,none⟩=some (.slice A3 n3 c3)∧W.cell? ⟨N+1,8,none⟩=some (.slice D3 m3 d3)):=Lib.hid fun W hW=>⟨((H0.out.2.1.under hW).cell 8).trans HXC.out.2.2.2.2.2.2.2.2.1,((H0.out.2.2.under hW).cell 8).trans HYC.out.2.2.2.2.2.2.2.2.1⟩
 have HP9:Hid (∀W,Below (w.alloc (.cells X 28) |>.alloc (.cells Y 28)).heap.size (w.alloc (.cells X 28) |>.alloc (.cells Y 28)) W→W.cell? ⟨N,9,none⟩=some (.slice A4 n4 c4)∧W.cell? ⟨N+1,9,none⟩=some (.slice D4 m4 d4)):=Lib.hid fun W hW=>⟨((H0.out.2.1.under hW).cell 9).trans HXC.out.2.2.2.2.2.2.2.2.2.1,((H0.out.2.2.under hW).cell 9).trans HYC.out.2.2.2.2.2.2.2.2.2.1⟩
 have HP10:Hid (∀W,Below (w.alloc (.cells X 28) |>.alloc (.cells Y 28)).heap.size (w.alloc (.cells X 28) |>.alloc (.cells Y 28)) W→W.cell? ⟨N,10,none⟩=some (.int .i64 x.sctp)∧W.cell? ⟨N+1,10,none⟩=some (.int .i64 y.sctp)):=Lib.hid fun W hW=>⟨((H0.out.2.1.under hW).cell 10).trans HXC.out.2.2.2.2.2.2.2.2.2.2,((H0.out.2.2.under hW).cell 10).trans HYC.out.2.2.2.2.2.2.2.2.2.2⟩
 clear h1 h2 hx0 hy0 hN hX hY hn0 hm0 hn1 hm1 hn2 hm2 hn3 hm3 hn4 hm4
 generalize x.kind=x0 at *
 generalize y.kind=y0 at *
 generalize x.port=x1 at *
 generalize y.port=y1 at *
 generalize x.mid=x2 at *
 generalize y.mid=y2 at *
 generalize x.dir=x3 at *
 generalize y.dir=y3 at *
 generalize x.sending=x7 at *
 generalize y.sending=y7 at *
 generalize x.sctp=x10 at *
 generalize y.sctp=y10 at *
 go_enter Tryz.func42,Tryz.ntmps42
 go_upto_region 1 with fail
 simp only [HN.out,Nat.add_assoc,Nat.reduceAdd]
 have HU:Hid (∀W,Below ((w.alloc (.cells X 28)).alloc (.cells Y 28)).heap.size ((w.alloc (.cells X 28)).alloc (.cells Y 28)) W→Below w.heap.size w W):=Lib.hid fun W hW=>below_chain (Nat.le_refl _) (by have:=H0.out.1;rw [←HN.out] at this;exact this) hW
 generalize ((w.alloc (.cells X 28)).alloc (.cells Y 28))=W0 at *
 have HR:=Lib.hid (Below.refl W0.heap.size W0)
 have p0W0:=(HP0.out W0 HR.out).1
 have q0W0:=(HP0.out W0 HR.out).2
 have p1W0:=(HP1.out W0 HR.out).1
 have q1W0:=(HP1.out W0 HR.out).2
 have p2W0:=(HP2.out W0 HR.out).1
 have q2W0:=(HP2.out W0 HR.out).2
 have p3W0:=(HP3.out W0 HR.out).1
 have q3W0:=(HP3.out W0 HR.out).2
 have p4W0:=(HP4.out W0 HR.out).1
 have q4W0:=(HP4.out W0 HR.out).2
 have HB0:Hid ((x0 == y0)=true↔x0=y0):=Lib.hid beq_iff_eq
 obtain ⟨b0,hb0'⟩:∃b,(x0 == y0)=b:=⟨_,rfl⟩
 rw [hb0'] at HB0
 cases b0 with
 | false =>
   have HNE:Hid (¬(x=y)):=Lib.hid (fun e=>by have h:=(HE.out.1 e).1;have:=HB0.out.2 h;cases this)
   go_wp2_with fail
   go_ret
   exact ⟨false,rfl,⟨fun e=>(by cases e),fun e=>(HNE.out e).elim⟩,HU.out _ HR.out⟩
 | true =>
   have HB1:Hid ((x1 == y1)=true↔x1=y1):=Lib.hid beq_iff_eq
   obtain ⟨b1,hb1'⟩:∃b,(x1 == y1)=b:=⟨_,rfl⟩
   rw [hb1'] at HB1
   cases b1 with
   | false =>
     have HNE:Hid (¬(x=y)):=Lib.hid (fun e=>by have h:=(HE.out.1 e).2.1;have:=HB1.out.2 h;cases this)
     go_wp2_with fail
     go_ret
     exact ⟨false,rfl,⟨fun e=>(by cases e),fun e=>(HNE.out e).elim⟩,HU.out _ HR.out⟩
   | true =>
     have HB2:Hid ((x2.toList == y2.toList)=true↔x2=y2):=Lib.hid toList_beq
     obtain ⟨b2,hb2'⟩:∃b,(x2.toList == y2.toList)=b:=⟨_,rfl⟩
     rw [hb2'] at HB2
     cases b2 with
     | false =>
       have HNE:Hid (¬(x=y)):=Lib.hid (fun e=>by have h:=(HE.out.1 e).2.2.1;have:=HB2.out.2 h;cases this)
       go_wp2_with fail
       go_ret
       exact ⟨false,rfl,⟨fun e=>(by cases e),fun e=>(HNE.out e).elim⟩,HU.out _ HR.out⟩
     | true =>
       have HB3:Hid ((x3 == y3)=true↔x3=y3):=Lib.hid beq_iff_eq
       obtain ⟨b3,hb3'⟩:∃b,(x3 == y3)=b:=⟨_,rfl⟩
       rw [hb3'] at HB3
       cases b3 with
       | false =>
         have HNE:Hid (¬(x=y)):=Lib.hid (fun e=>by have h:=(HE.out.1 e).2.2.2.1;have:=HB3.out.2 h;cases this)
         go_wp2_with fail
         go_ret
         exact ⟨false,rfl,⟨fun e=>(by cases e),fun e=>(HNE.out e).elim⟩,HU.out _ HR.out⟩
       | true =>
         cases b4 with
         | false =>
           have HNE:Hid (¬(x=y)):=Lib.hid (fun e=>by have h:=(HE.out.1 e).2.2.2.2.1;have:=HB4.out.2 h;cases this)
           go_wp2_with (first | (go_at_call 87;(with_reducible refine (HC4.out _ (HU.out _ HR.out)).mono ?_);rintro e w1 ⟨rfl,hb4⟩;have H1:Hid (Below W0.heap.size W0 w1):=Lib.hid (below_chain (Nat.le_refl _) HR.out hb4);clear hb4;have p5w1:=(HP5.out w1 H1.out).1;have q5w1:=(HP5.out w1 H1.out).2;dsimp only))
           go_ret
           exact ⟨false,rfl,⟨fun e=>(by cases e),fun e=>(HNE.out e).elim⟩,HU.out _ H1.out⟩
         | true =>
           cases b5 with
           | false =>
             have HNE:Hid (¬(x=y)):=Lib.hid (fun e=>by have h:=(HE.out.1 e).2.2.2.2.2.1;have:=HB5.out.2 h;cases this)
             go_wp2_with (first | (go_at_call 87;(with_reducible refine (HC4.out _ (HU.out _ HR.out)).mono ?_);rintro e w1 ⟨rfl,hb4⟩;have H1:Hid (Below W0.heap.size W0 w1):=Lib.hid (below_chain (Nat.le_refl _) HR.out hb4);clear hb4;have p5w1:=(HP5.out w1 H1.out).1;have q5w1:=(HP5.out w1 H1.out).2;dsimp only) | (go_at_call 89;(with_reducible refine (HC5.out _ (HU.out _ H1.out)).mono ?_);rintro e w2 ⟨rfl,hb5⟩;have H2:Hid (Below W0.heap.size W0 w2):=Lib.hid (below_chain (Nat.le_refl _) H1.out hb5);clear hb5;have p6w2:=(HP6.out w2 H2.out).1;have q6w2:=(HP6.out w2 H2.out).2;dsimp only))
             go_ret
             exact ⟨false,rfl,⟨fun e=>(by cases e),fun e=>(HNE.out e).elim⟩,HU.out _ H2.out⟩
           | true =>
             cases b6 with
             | false =>
               have HNE:Hid (¬(x=y)):=Lib.hid (fun e=>by have h:=(HE.out.1 e).2.2.2.2.2.2.1;have:=HB6.out.2 h;cases this)
               go_wp2_with (first | (go_at_call 87;(with_reducible refine (HC4.out _ (HU.out _ HR.out)).mono ?_);rintro e w1 ⟨rfl,hb4⟩;have H1:Hid (Below W0.heap.size W0 w1):=Lib.hid (below_chain (Nat.le_refl _) HR.out hb4);clear hb4;have p5w1:=(HP5.out w1 H1.out).1;have q5w1:=(HP5.out w1 H1.out).2;dsimp only) | (go_at_call 89;(with_reducible refine (HC5.out _ (HU.out _ H1.out)).mono ?_);rintro e w2 ⟨rfl,hb5⟩;have H2:Hid (Below W0.heap.size W0 w2):=Lib.hid (below_chain (Nat.le_refl _) H1.out hb5);clear hb5;have p6w2:=(HP6.out w2 H2.out).1;have q6w2:=(HP6.out w2 H2.out).2;dsimp only) | (go_at_call 40;(with_reducible refine (HC6.out _ (HU.out _ H2.out)).mono ?_);rintro e w3 ⟨rfl,hb6⟩;have H3:Hid (Below W0.heap.size W0 w3):=Lib.hid (below_chain (Nat.le_refl _) H2.out hb6);clear hb6;have p7w3:=(HP7.out w3 H3.out).1;have q7w3:=(HP7.out w3 H3.out).2;have p8w3:=(HP8.out w3 H3.out).1;have q8w3:=(HP8.out w3 H3.out).2;dsimp only))
               go_ret
               exact ⟨false,rfl,⟨fun e=>(by cases e),fun e=>(HNE.out e).elim⟩,HU.out _ H3.out⟩
             | true =>
               have HB7:Hid ((x7 == y7)=true↔x7=y7):=Lib.hid beq_iff_eq
               obtain ⟨b7,hb7'⟩:∃b,(x7 == y7)=b:=⟨_,rfl⟩
               rw [hb7'] at HB7
               cases b7 with
               | false =>
                 have HNE:Hid (¬(x=y)):=Lib.hid (fun e=>by have h:=(HE.out.1 e).2.2.2.2.2.2.2.1;have:=HB7.out.2 h;cases this)
                 go_wp2_with (first | (go_at_call 87;(with_reducible refine (HC4.out _ (HU.out _ HR.out)).mono ?_);rintro e w1 ⟨rfl,hb4⟩;have H1:Hid (Below W0.heap.size W0 w1):=Lib.hid (below_chain (Nat.le_refl _) HR.out hb4);clear hb4;have p5w1:=(HP5.out w1 H1.out).1;have q5w1:=(HP5.out w1 H1.out).2;dsimp only) | (go_at_call 89;(with_reducible refine (HC5.out _ (HU.out _ H1.out)).mono ?_);rintro e w2 ⟨rfl,hb5⟩;have H2:Hid (Below W0.heap.size W0 w2):=Lib.hid (below_chain (Nat.le_refl _) H1.out hb5);clear hb5;have p6w2:=(HP6.out w2 H2.out).1;have q6w2:=(HP6.out w2 H2.out).2;dsimp only) | (go_at_call 40;(with_reducible refine (HC6.out _ (HU.out _ H2.out)).mono ?_);rintro e w3 ⟨rfl,hb6⟩;have H3:Hid (Below W0.heap.size W0 w3):=Lib.hid (below_chain (Nat.le_refl _) H2.out hb6);clear hb6;have p7w3:=(HP7.out w3 H3.out).1;have q7w3:=(HP7.out w3 H3.out).2;have p8w3:=(HP8.out w3 H3.out).1;have q8w3:=(HP8.out w3 H3.out).2;dsimp only))
                 go_ret
                 exact ⟨false,rfl,⟨fun e=>(by cases e),fun e=>(HNE.out e).elim⟩,HU.out _ H3.out⟩
               | true =>
                 cases b8 with
                 | false =>
                   have HNE:Hid (¬(x=y)):=Lib.hid (fun e=>by have h:=(HE.out.1 e).2.2.2.2.2.2.2.2.1;have:=HB8.out.2 h;cases this)
                   go_wp2_with (first | (go_at_call 87;(with_reducible refine (HC4.out _ (HU.out _ HR.out)).mono ?_);rintro e w1 ⟨rfl,hb4⟩;have H1:Hid (Below W0.heap.size W0 w1):=Lib.hid (below_chain (Nat.le_refl _) HR.out hb4);clear hb4;have p5w1:=(HP5.out w1 H1.out).1;have q5w1:=(HP5.out w1 H1.out).2;dsimp only) | (go_at_call 89;(with_reducible refine (HC5.out _ (HU.out _ H1.out)).mono ?_);rintro e w2 ⟨rfl,hb5⟩;have H2:Hid (Below W0.heap.size W0 w2):=Lib.hid (below_chain (Nat.le_refl _) H1.out hb5);clear hb5;have p6w2:=(HP6.out w2 H2.out).1;have q6w2:=(HP6.out w2 H2.out).2;dsimp only) | (go_at_call 40;(with_reducible refine (HC6.out _ (HU.out _ H2.out)).mono ?_);rintro e w3 ⟨rfl,hb6⟩;have H3:Hid (Below W0.heap.size W0 w3):=Lib.hid (below_chain (Nat.le_refl _) H2.out hb6);clear hb6;have p7w3:=(HP7.out w3 H3.out).1;have q7w3:=(HP7.out w3 H3.out).2;have p8w3:=(HP8.out w3 H3.out).1;have q8w3:=(HP8.out w3 H3.out).2;dsimp only) | (go_at_call 90;(with_reducible refine (HC8.out _ (HU.out _ H3.out)).mono ?_);rintro e w4 ⟨rfl,hb8⟩;have H4:Hid (Below W0.heap.size W0 w4):=Lib.hid (below_chain (Nat.le_refl _) H3.out hb8);clear hb8;have p9w4:=(HP9.out w4 H4.out).1;have q9w4:=(HP9.out w4 H4.out).2;dsimp only))
                   go_ret
                   exact ⟨false,rfl,⟨fun e=>(by cases e),fun e=>(HNE.out e).elim⟩,HU.out _ H4.out⟩
                 | true =>
                   cases b9 with
                   | false =>
                     have HNE:Hid (¬(x=y)):=Lib.hid (fun e=>by have h:=(HE.out.1 e).2.2.2.2.2.2.2.2.2.1;have:=HB9.out.2 h;cases this)
                     go_wp2_with (first | (go_at_call 87;(with_reducible refine (HC4.out _ (HU.out _ HR.out)).mono ?_);rintro e w1 ⟨rfl,hb4⟩;have H1:Hid (Below W0.heap.size W0 w1):=Lib.hid (below_chain (Nat.le_refl _) HR.out hb4);clear hb4;have p5w1:=(HP5.out w1 H1.out).1;have q5w1:=(HP5.out w1 H1.out).2;dsimp only) | (go_at_call 89;(with_reducible refine (HC5.out _ (HU.out _ H1.out)).mono ?_);rintro e w2 ⟨rfl,hb5⟩;have H2:Hid (Below W0.heap.size W0 w2):=Lib.hid (below_chain (Nat.le_refl _) H1.out hb5);clear hb5;have p6w2:=(HP6.out w2 H2.out).1;have q6w2:=(HP6.out w2 H2.out).2;dsimp only) | (go_at_call 40;(with_reducible refine (HC6.out _ (HU.out _ H2.out)).mono ?_);rintro e w3 ⟨rfl,hb6⟩;have H3:Hid (Below W0.heap.size W0 w3):=Lib.hid (below_chain (Nat.le_refl _) H2.out hb6);clear hb6;have p7w3:=(HP7.out w3 H3.out).1;have q7w3:=(HP7.out w3 H3.out).2;have p8w3:=(HP8.out w3 H3.out).1;have q8w3:=(HP8.out w3 H3.out).2;dsimp only) | (go_at_call 90;(with_reducible refine (HC8.out _ (HU.out _ H3.out)).mono ?_);rintro e w4 ⟨rfl,hb8⟩;have H4:Hid (Below W0.heap.size W0 w4):=Lib.hid (below_chain (Nat.le_refl _) H3.out hb8);clear hb8;have p9w4:=(HP9.out w4 H4.out).1;have q9w4:=(HP9.out w4 H4.out).2;dsimp only) | (go_at_call 91;(with_reducible refine (HC9.out _ (HU.out _ H4.out)).mono ?_);rintro e w5 ⟨rfl,hb9⟩;have H5:Hid (Below W0.heap.size W0 w5):=Lib.hid (below_chain (Nat.le_refl _) H4.out hb9);clear hb9;have p10w5:=(HP10.out w5 H5.out).1;have q10w5:=(HP10.out w5 H5.out).2;dsimp only))
                     go_ret
                     exact ⟨false,rfl,⟨fun e=>(by cases e),fun e=>(HNE.out e).elim⟩,HU.out _ H5.out⟩
                   | true =>
                     have HB10:Hid ((x10 == y10)=true↔x10=y10):=Lib.hid beq_iff_eq
                     obtain ⟨b10,hb10'⟩:∃b,(x10 == y10)=b:=⟨_,rfl⟩
                     rw [hb10'] at HB10
                     cases b10 with
                     | false =>
                       have HNE:Hid (¬(x=y)):=Lib.hid (fun e=>by have h:=(HE.out.1 e).2.2.2.2.2.2.2.2.2.2;have:=HB10.out.2 h;cases this)
                       go_wp2_with (first | (go_at_call 87;(with_reducible refine (HC4.out _ (HU.out _ HR.out)).mono ?_);rintro e w1 ⟨rfl,hb4⟩;have H1:Hid (Below W0.heap.size W0 w1):=Lib.hid (below_chain (Nat.le_refl _) HR.out hb4);clear hb4;have p5w1:=(HP5.out w1 H1.out).1;have q5w1:=(HP5.out w1 H1.out).2;dsimp only) | (go_at_call 89;(with_reducible refine (HC5.out _ (HU.out _ H1.out)).mono ?_);rintro e w2 ⟨rfl,hb5⟩;have H2:Hid (Below W0.heap.size W0 w2):=Lib.hid (below_chain (Nat.le_refl _) H1.out hb5);clear hb5;have p6w2:=(HP6.out w2 H2.out).1;have q6w2:=(HP6.out w2 H2.out).2;dsimp only) | (go_at_call 40;(with_reducible refine (HC6.out _ (HU.out _ H2.out)).mono ?_);rintro e w3 ⟨rfl,hb6⟩;have H3:Hid (Below W0.heap.size W0 w3):=Lib.hid (below_chain (Nat.le_refl _) H2.out hb6);clear hb6;have p7w3:=(HP7.out w3 H3.out).1;have q7w3:=(HP7.out w3 H3.out).2;have p8w3:=(HP8.out w3 H3.out).1;have q8w3:=(HP8.out w3 H3.out).2;dsimp only) | (go_at_call 90;(with_reducible refine (HC8.out _ (HU.out _ H3.out)).mono ?_);rintro e w4 ⟨rfl,hb8⟩;have H4:Hid (Below W0.heap.size W0 w4):=Lib.hid (below_chain (Nat.le_refl _) H3.out hb8);clear hb8;have p9w4:=(HP9.out w4 H4.out).1;have q9w4:=(HP9.out w4 H4.out).2;dsimp only) | (go_at_call 91;(with_reducible refine (HC9.out _ (HU.out _ H4.out)).mono ?_);rintro e w5 ⟨rfl,hb9⟩;have H5:Hid (Below W0.heap.size W0 w5):=Lib.hid (below_chain (Nat.le_refl _) H4.out hb9);clear hb9;have p10w5:=(HP10.out w5 H5.out).1;have q10w5:=(HP10.out w5 H5.out).2;dsimp only))
                       go_ret
                       exact ⟨false,rfl,⟨fun e=>(by cases e),fun e=>(HNE.out e).elim⟩,HU.out _ H5.out⟩
                     | true =>
                       have HEQ:Hid (x=y):=Lib.hid (HE.out.2 ⟨HB0.out.1 rfl,HB1.out.1 rfl,HB2.out.1 rfl,HB3.out.1 rfl,HB4.out.1 rfl,HB5.out.1 rfl,HB6.out.1 rfl,HB7.out.1 rfl,HB8.out.1 rfl,HB9.out.1 rfl,HB10.out.1 rfl⟩)
                       go_wp2_with (first | (go_at_call 87;(with_reducible refine (HC4.out _ (HU.out _ HR.out)).mono ?_);rintro e w1 ⟨rfl,hb4⟩;have H1:Hid (Below W0.heap.size W0 w1):=Lib.hid (below_chain (Nat.le_refl _) HR.out hb4);clear hb4;have p5w1:=(HP5.out w1 H1.out).1;have q5w1:=(HP5.out w1 H1.out).2;dsimp only) | (go_at_call 89;(with_reducible refine (HC5.out _ (HU.out _ H1.out)).mono ?_);rintro e w2 ⟨rfl,hb5⟩;have H2:Hid (Below W0.heap.size W0 w2):=Lib.hid (below_chain (Nat.le_refl _) H1.out hb5);clear hb5;have p6w2:=(HP6.out w2 H2.out).1;have q6w2:=(HP6.out w2 H2.out).2;dsimp only) | (go_at_call 40;(with_reducible refine (HC6.out _ (HU.out _ H2.out)).mono ?_);rintro e w3 ⟨rfl,hb6⟩;have H3:Hid (Below W0.heap.size W0 w3):=Lib.hid (below_chain (Nat.le_refl _) H2.out hb6);clear hb6;have p7w3:=(HP7.out w3 H3.out).1;have q7w3:=(HP7.out w3 H3.out).2;have p8w3:=(HP8.out w3 H3.out).1;have q8w3:=(HP8.out w3 H3.out).2;dsimp only) | (go_at_call 90;(with_reducible refine (HC8.out _ (HU.out _ H3.out)).mono ?_);rintro e w4 ⟨rfl,hb8⟩;have H4:Hid (Below W0.heap.size W0 w4):=Lib.hid (below_chain (Nat.le_refl _) H3.out hb8);clear hb8;have p9w4:=(HP9.out w4 H4.out).1;have q9w4:=(HP9.out w4 H4.out).2;dsimp only) | (go_at_call 91;(with_reducible refine (HC9.out _ (HU.out _ H4.out)).mono ?_);rintro e w5 ⟨rfl,hb9⟩;have H5:Hid (Below W0.heap.size W0 w5):=Lib.hid (below_chain (Nat.le_refl _) H4.out hb9);clear hb9;have p10w5:=(HP10.out w5 H5.out).1;have q10w5:=(HP10.out w5 H5.out).2;dsimp only))
                       go_ret
                       exact ⟨true,rfl,⟨fun _=>HEQ.out,fun _=>rfl⟩,HU.out _ H5.out⟩
set_option maxHeartbeats 3200000 in
set_option maxRecDepth 100000 in
theorem eqFM_any (v1 v2:Value) (L M:List MediaS) (w:World) (h1:MediasV w w.heap.size v1 L) (h2:MediasV w w.heap.size v2 M):Calls Tryz.prog 41 #[v1,v2,.func (.func 42) #[] #[]] w (SameB w L M):=by
 obtain ⟨A1,c1,rfl,hc1,hm1,_⟩:=Rows.form h1
 obtain ⟨A2,c2,rfl,hc2,hm2,_⟩:=Rows.form h2
 have H1:=Lib.hid h1
 have H2:=Lib.hid h2
 clear h1 h2
 obtain ⟨n,hn⟩:∃n,L.length=n:=⟨_,rfl⟩
 obtain ⟨m,hm⟩:∃m,M.length=m:=⟨_,rfl⟩
 have HN:=Lib.hid hn
 have HM:=Lib.hid hm
 rw [hn] at hc1
 rw [hm] at hc2
 rw [hn,hm]
 unfold maxLen at hm1 hm2
 clear hn hm
 by_cases hnm:n=m
 · subst hnm
   have hz:((n:Int) == (n:Int))=true:=by simp
   go_enter Tryz.func41,Tryz.ntmps41
   go_wp2
   go_loopw [17] (fun s17 wr=>∃k:Nat,k≤n∧s17=.int .i64 k∧(∀j,j<k→L[j]? = M[j]?)∧Below w.heap.size w wr) (fun s17 _=>n - (intOf s17).toNat)
   case atStart=>exact ⟨0,Nat.zero_le _,rfl,(fun j hj=>by omega),Below.refl _ w⟩
   case round =>
    obtain ⟨k,hk,rfl,hsame,hb⟩:=hrel
    have HS:=Lib.hid (And.intro hsame hb)
    clear hsame
    by_cases hlt:k<n
    · obtain ⟨ad1,c1',X,vC,vE,vR,vS,vY,e1,b1,hx,xs⟩:=MediasV.at_ (H1.out.below hb) (i:=k) (by rw [HN.out];exact hlt)
      obtain ⟨ad2,c2',Y,uC,uE,uR,uS,uY,e2,b2,hy,ys⟩:=MediasV.at_ (H2.out.below hb) (i:=k) (by rw [HM.out];exact hlt)
      injection e1 with e1 e1n e1c;clear e1n e1c
      injection e2 with e2 e2n e2c;clear e2n e2c
      subst e1 e2
      have gL:=getD_of (L:=L) (i:=k) (by rw [HN.out];exact hlt)
      have gM:=getD_of (L:=M) (i:=k) (by rw [HM.out];exact hlt)
      obtain ⟨a,ha⟩:∃a,L.getD k default=a:=⟨_,rfl⟩
      obtain ⟨b,hbb⟩:∃b,M.getD k default=b:=⟨_,rfl⟩
      rw [ha] at hx gL
      rw [hbb] at hy gM
      have HG:=Lib.hid (And.intro gL gM)
      have hk0:(0:Int)≤(k:Int):=by omega
      have hk1:(k:Int)<(n:Int):=by omega
      have hwr:=hb.size
      have HLD1:Hid (∀(ops:Array Oper) (rest:List Oper) (op:Oper) (act:Act) (Q:Exit→Act→World→Prop),op.guard=none→op.op=.load 28 (.tmp 20)→act.eval (.tmp 20)=.pointer (some (ad1.add (k * 11)))→wpList Tryz.prog ops Q rest (act.put op.dst (.agg X)) wr→wpList Tryz.prog ops Q (op :: rest) act wr) :=
       Lib.hid fun ops rest op act Q h1 h2 h3 h4=>wpList_load_at h1 28 (.tmp 20) h2 _ h3 X.toList _ xs Tryz.underlying28 rfl (by rw [Array.length_toList,hx.size];exact Tryz.sizeMedia) (by rw [Array.toArray_toList];exact h4)
      have HLD2:Hid (∀(W:World) (ops:Array Oper) (rest:List Oper) (op:Oper) (act:Act) (Q:Exit→Act→World→Prop),Below w.heap.size wr W→op.guard=none→op.op=.load 28 (.tmp 24)→act.eval (.tmp 24)=.pointer (some (ad2.add (k * 11)))→wpList Tryz.prog ops Q rest (act.put op.dst (.agg Y)) W→wpList Tryz.prog ops Q (op :: rest) act W) :=
       Lib.hid fun W ops rest op act Q hW h1 h2 h3 h4=>wpList_load_at h1 28 (.tmp 24) h2 _ h3 Y.toList _ (fun j u hu=>(hW.cell (p:=(ad2.add (k * 11)).add j) (by rw [add_block,add_block];exact b2)).trans (ys j u hu)) Tryz.underlying28 rfl (by rw [Array.length_toList,hy.size];exact Tryz.sizeMedia) (by rw [Array.toArray_toList];exact h4)
      have HNEW:Hid (∀W:World,Whole (W.alloc (.cells #[.int .i64 0,.int .i64 0,.string ⟨#[]⟩,.int .i64 0,.slice none 0 0,.slice none 0 0,.slice none 0 0,.bool false,.slice none 0 0,.slice none 0 0,.int .i64 0] 28)) W.heap.size 28 #[.int .i64 0,.int .i64 0,.string ⟨#[]⟩,.int .i64 0,.slice none 0 0,.slice none 0 0,.slice none 0 0,.bool false,.slice none 0 0,.slice none 0 0,.int .i64 0]):=Lib.hid fun W=>Whole.new _ _ _
      have HXS:Hid ((X.size=11∧X.toList.all (·.oneCell')=true)∧Y.size=11∧Y.toList.all (·.oneCell')=true):=Lib.hid ⟨⟨hx.size,hx.one⟩,hy.size,hy.one⟩
      have HW1:Hid (Below w.heap.size wr ((wr.alloc (.cells #[.int .i64 0,.int .i64 0,.string ⟨#[]⟩,.int .i64 0,.slice none 0 0,.slice none 0 0,.slice none 0 0,.bool false,.slice none 0 0,.slice none 0 0,.int .i64 0] 28)).setRow wr.heap.size X)∧Whole ((wr.alloc (.cells #[.int .i64 0,.int .i64 0,.string ⟨#[]⟩,.int .i64 0,.slice none 0 0,.slice none 0 0,.slice none 0 0,.bool false,.slice none 0 0,.slice none 0 0,.int .i64 0] 28)).setRow wr.heap.size X) wr.heap.size 28 X):=Lib.hid ⟨below_row ((Below.refl _ wr).alloc hwr _) hwr _,(HNEW.out wr).row _⟩
      have HXY:=Lib.hid (And.intro hx hy)
      clear gL gM ha hbb xs ys hx hy b1 b2 hb
      go_upto_region 6 with (first | ((with_reducible refine HLD1.out _ _ _ _ _ ?_ ?_ ?_ ?_);(with_reducible rfl);(with_reducible rfl);rfl) | ((with_reducible refine wpList_storeS X ?_ 28 (.tmp 8) (.tmp 21) ?_ ?_ ?_ (HNEW.out _) Tryz.sizeMedia HXS.out.1.1 ?_ HXS.out.1.2 ?_);(with_reducible rfl);(with_reducible rfl);rfl;rfl;rfl))
      clear HLD1
      generalize ((wr.alloc (.cells #[.int .i64 0,.int .i64 0,.string ⟨#[]⟩,.int .i64 0,.slice none 0 0,.slice none 0 0,.slice none 0 0,.bool false,.slice none 0 0,.slice none 0 0,.int .i64 0] 28)).setRow wr.heap.size X)=W1 at *
      clear hwr
      generalize wr.heap.size=g1 at *
      have hW1:w.heap.size≤W1.heap.size:=Nat.le_trans HS.out.2.size HW1.out.1.size
      have HW2:Hid (Below w.heap.size wr ((W1.alloc (.cells #[.int .i64 0,.int .i64 0,.string ⟨#[]⟩,.int .i64 0,.slice none 0 0,.slice none 0 0,.slice none 0 0,.bool false,.slice none 0 0,.slice none 0 0,.int .i64 0] 28)).setRow W1.heap.size Y)∧Whole ((W1.alloc (.cells #[.int .i64 0,.int .i64 0,.string ⟨#[]⟩,.int .i64 0,.slice none 0 0,.slice none 0 0,.slice none 0 0,.bool false,.slice none 0 0,.slice none 0 0,.int .i64 0] 28)).setRow W1.heap.size Y) W1.heap.size 28 Y∧Whole ((W1.alloc (.cells #[.int .i64 0,.int .i64 0,.string ⟨#[]⟩,.int .i64 0,.slice none 0 0,.slice none 0 0,.slice none 0 0,.bool false,.slice none 0 0,.slice none 0 0,.int .i64 0] 28)).setRow W1.heap.size Y) g1 28 X):=Lib.hid ⟨below_row (HW1.out.1.alloc hW1 _) hW1 _,(HNEW.out W1).row _,(HW1.out.2.alloc _).farRow (Nat.ne_of_lt HW1.out.2.lt) _⟩
      go_upto_region 7 with (first | ((with_reducible refine HLD2.out _ _ _ _ _ _ HW1.out.1 ?_ ?_ ?_ ?_);(with_reducible rfl);(with_reducible rfl);rfl) | ((with_reducible refine wpList_storeS Y ?_ 28 (.tmp 9) (.tmp 25) ?_ ?_ ?_ (HNEW.out _) Tryz.sizeMedia HXS.out.2.1 ?_ HXS.out.2.2 ?_);(with_reducible rfl);(with_reducible rfl);rfl;rfl;rfl))
      clear HLD2 HNEW
      generalize ((W1.alloc (.cells #[.int .i64 0,.int .i64 0,.string ⟨#[]⟩,.int .i64 0,.slice none 0 0,.slice none 0 0,.slice none 0 0,.bool false,.slice none 0 0,.slice none 0 0,.int .i64 0] 28)).setRow W1.heap.size Y)=W2 at *
      generalize W1.heap.size=g2 at *
      have hW2:w.heap.size≤W2.heap.size:=Nat.le_trans HS.out.2.size HW2.out.1.size
      obtain ⟨q,hq⟩:=sameBool a b
      have HCL:Hid (Calls Tryz.prog 42 #[.agg X,.agg Y] W2 fun e w'=>e=.returned (.bool q)∧Below W2.heap.size W2 w'):=Lib.hid ((sameMedia_any X Y a b vC vE vR vS vY uC uE uR uS uY W2 ((HXY.out.1.below HW2.out.1).more hW2) ((HXY.out.2.below HW2.out.1).more hW2)).mono fun e w' h=>h.fix hq)
      have HQ:=Lib.hid hq
      have HFIN:Hid (∀W,Below W2.heap.size W2 W→Below w.heap.size w W):=Lib.hid fun W hW=>(HS.out.2.trans HW2.out.1).trans (hW.mono hW2)
      clear hq hW1 hW2
      cases q with
      | true =>
        have HEQ:Hid (a=b):=Lib.hid (HQ.out.1 rfl)
        go_wp2_with (first | ((with_reducible refine wpList_load_all ?_ 28 (.tmp 8) ?_ HW2.out.2.2 ?_ Tryz.sizeMedia HXS.out.1.1 Tryz.underlying28 rfl ?_);(with_reducible rfl);(with_reducible rfl);rfl) | ((with_reducible refine wpList_load_all ?_ 28 (.tmp 9) ?_ HW2.out.2.1 ?_ Tryz.sizeMedia HXS.out.2.1 Tryz.underlying28 rfl ?_);(with_reducible rfl);(with_reducible rfl);rfl) | (go_at_call 42;(with_reducible refine HCL.out.mono ?_);rintro e w5 ⟨rfl,hb5⟩))
        go_roundw
        case rel =>
         refine ⟨k+1,by omega,by go_num,fun j hj=> ?_,HFIN.out _ hb5⟩
         by_cases e:j=k
         · subst e
           rw [HG.out.1,HG.out.2,HEQ.out]
         · exact HS.out.1 j (by omega)
        case measure=>simp [intOf];omega
      | false =>
        have HNE:Hid (L≠M):=Lib.hid (fun e=>by rw [e] at HG;have:=HQ.out.2 (Option.some.inj (HG.out.1.symm.trans HG.out.2));cases this)
        go_wp2_with (first | ((with_reducible refine wpList_load_all ?_ 28 (.tmp 8) ?_ HW2.out.2.2 ?_ Tryz.sizeMedia HXS.out.1.1 Tryz.underlying28 rfl ?_);(with_reducible rfl);(with_reducible rfl);rfl) | ((with_reducible refine wpList_load_all ?_ 28 (.tmp 9) ?_ HW2.out.2.1 ?_ Tryz.sizeMedia HXS.out.2.1 Tryz.underlying28 rfl ?_);(with_reducible rfl);(with_reducible rfl);rfl) | (go_at_call 42;(with_reducible refine HCL.out.mono ?_);rintro e w5 ⟨rfl,hb5⟩))
        go_ret
        exact ⟨false,rfl,⟨fun e=>(by cases e),fun e=>(HNE.out e).elim⟩,HFIN.out _ hb5⟩
    · obtain rfl:k=n:=by omega
      have HEQ:Hid (L=M):=Lib.hid (list_same (by rw [HN.out,HM.out]) (fun j hj=>HS.out.1 j (by rw [HN.out] at hj;exact hj)))
      clear hb
      go_wp2
      go_ret
      exact ⟨true,rfl,⟨fun _=>HEQ.out,fun _=>rfl⟩,HS.out.2⟩
 · have hz:((n:Int) == (m:Int))=false:=by rw [beq_eq_false_iff_ne];omega
   have HNE:Hid (L≠M):=Lib.hid (fun e=>hnm (by rw [←HN.out,←HM.out,e]))
   clear hnm
   go_enter Tryz.func41,Tryz.ntmps41
   go_wp2
   go_ret
   exact ⟨false,rfl,⟨fun e=>(by cases e),fun e=>(HNE.out e).elim⟩,Below.refl _ w⟩
set_option maxHeartbeats 3200000 in
set_option maxRecDepth 100000 in
theorem deSame_any (X Y:Array Value) (x y:DescS) (vB vM uB uM:Value) (w:World) (h1:DescV w w.heap.size X x vB vM) (h2:DescV w w.heap.size Y y uB uM):Calls Tryz.prog 16 #[.agg X,.agg Y] w (SameB w x y):=by
 obtain ⟨hb0,hx0,hy0⟩:=two_boxes w 45 X Y
 obtain ⟨A0,c0,hA0,-⟩:=Rows.form h1.bundle
 obtain ⟨D0,d0,hD0,-⟩:=Rows.form h2.bundle
 obtain ⟨n0,hn0⟩:∃n,x.bundle.length=n:=⟨_,rfl⟩
 obtain ⟨m0,hm0⟩:∃n,y.bundle.length=n:=⟨_,rfl⟩
 rw [hn0] at hA0
 rw [hm0] at hD0
 subst hA0 hD0
 obtain ⟨b2,hb2⟩:=sameBool x.bundle y.bundle
 have HC2:Hid (∀W,Below w.heap.size w W→Calls Tryz.prog 40 #[.slice A0 n0 c0,.slice D0 m0 d0] W fun e w'=>e=.returned (.bool b2)∧Below W.heap.size W w'):=Lib.hid fun W hW =>
  (equalT_any _ _ x.bundle y.bundle W ((h1.bundle.below hW).more hW.size) ((h2.bundle.below hW).more hW.size)).mono fun e w' h=>h.fix hb2
 obtain ⟨A1,c1,hA1,-⟩:=Rows.form h1.media
 obtain ⟨D1,d1,hD1,-⟩:=Rows.form h2.media
 obtain ⟨n1,hn1⟩:∃n,x.media.length=n:=⟨_,rfl⟩
 obtain ⟨m1,hm1⟩:∃n,y.media.length=n:=⟨_,rfl⟩
 rw [hn1] at hA1
 rw [hm1] at hD1
 subst hA1 hD1
 obtain ⟨b5,hb5⟩:=sameBool x.media y.media
 have HC5:Hid (∀W,Below w.heap.size w W→Calls Tryz.prog 41 #[.slice A1 n1 c1,.slice D1 m1 d1,.func (.func 42) #[] #[]] W fun e w'=>e=.returned (.bool b5)∧Below W.heap.size W w'):=Lib.hid fun W hW =>
  (eqFM_any _ _ x.media y.media W ((h1.media.below hW).more hW.size) ((h2.media.below hW).more hW.size)).mono fun e w' h=>h.fix hb5
 have HE:Hid (x=y↔x.id=y.id∧x.ver=y.ver∧x.bundle=y.bundle∧x.name=y.name∧x.pass=y.pass∧x.media=y.media):=Lib.hid ⟨fun e=>by rw [e];exact ⟨rfl,rfl,rfl,rfl,rfl,rfl⟩,fun ⟨h0,h1,h2,h3,h4,h5⟩=>DescS.ext' h0 h1 h2 h3 h4 h5⟩
 have HB2:=Lib.hid hb2
 clear hb2
 have HB5:=Lib.hid hb5
 clear hb5
 have hX:=h1.form
 have hY:=h2.form
 have HXC:Hid (X[0]? = some (.int .u64 x.id)∧X[1]? = some (.int .u64 x.ver)∧X[2]? = some (.slice A0 n0 c0)∧X[3]? = some (.string x.name)∧X[4]? = some (.string x.pass)∧X[5]? = some (.slice A1 n1 c1)):=Lib.hid (by rw [hX];exact ⟨rfl,rfl,rfl,rfl,rfl,rfl⟩)
 have HYC:Hid (Y[0]? = some (.int .u64 y.id)∧Y[1]? = some (.int .u64 y.ver)∧Y[2]? = some (.slice D0 m0 d0)∧Y[3]? = some (.string y.name)∧Y[4]? = some (.string y.pass)∧Y[5]? = some (.slice D1 m1 d1)):=Lib.hid (by rw [hY];exact ⟨rfl,rfl,rfl,rfl,rfl,rfl⟩)
 have H0:=Lib.hid (And.intro hb0 (And.intro hx0 hy0))
 obtain ⟨N,hN⟩:∃N,w.heap.size=N:=⟨_,rfl⟩
 rw [hN] at H0
 have HN:=Lib.hid hN
 have HP0:Hid (∀W,Below (w.alloc (.cells X 45) |>.alloc (.cells Y 45)).heap.size (w.alloc (.cells X 45) |>.alloc (.cells Y 45)) W→W.cell? ⟨N,0,none⟩=some (.int .u64 x.id)∧W.cell? ⟨N+1,0,none⟩=some (.int .u64 y.id)):=Lib.hid fun W hW=>⟨((H0.out.2.1.under hW).cell 0).trans HXC.out.1,((H0.out.2.2.under hW).cell 0).trans HYC.out.1⟩
 have HP1:Hid (∀W,Below (w.alloc (.cells X 45) |>.alloc (.cells Y 45)).heap.size (w.alloc (.cells X 45) |>.alloc (.cells Y 45)) W→W.cell? ⟨N,1,none⟩=some (.int .u64 x.ver)∧W.cell? ⟨N+1,1,none⟩=some (.int .u64 y.ver)):=Lib.hid fun W hW=>⟨((H0.out.2.1.under hW).cell 1).trans HXC.out.2.1,((H0.out.2.2.under hW).cell 1).trans HYC.out.2.1⟩
 have HP2:Hid (∀W,Below (w.alloc (.cells X 45) |>.alloc (.cells Y 45)).heap.size (w.alloc (.cells X 45) |>.alloc (.cells Y 45)) W→W.cell? ⟨N,2,none⟩=some (.slice A0 n0 c0)∧W.cell? ⟨N+1,2,none⟩=some (.slice D0 m0 d0)):=Lib.hid fun W hW=>⟨((H0.out.2.1.under hW).cell 2).trans HXC.out.2.2.1,((H0.out.2.2.under hW).cell 2).trans HYC.out.2.2.1⟩
 have HP3:Hid (∀W,Below (w.alloc (.cells X 45) |>.alloc (.cells Y 45)).heap.size (w.alloc (.cells X 45) |>.alloc (.cells Y 45)) W→W.cell? ⟨N,3,none⟩=some (.string x.name)∧W.cell? ⟨N+1,3,none⟩=some (.string y.name)):=Lib.hid fun W hW=>⟨((H0.out.2.1.under hW).cell 3).trans HXC.out.2.2.2.1,((H0.out.2.2.under hW).cell 3).trans HYC.out.2.2.2.1⟩
 have HP4:Hid (∀W,Below (w.alloc (.cells X 45) |>.alloc (.cells Y 45)).heap.size (w.alloc (.cells X 45) |>.alloc (.cells Y 45)) W→W.cell? ⟨N,4,none⟩=some (.string x.pass)∧W.cell? ⟨N+1,4,none⟩=some (.string y.pass)):=Lib.hid fun W hW=>⟨((H0.out.2.1.under hW).cell 4).trans HXC.out.2.2.2.2.1,((H0.out.2.2.under hW).cell 4).trans HYC.out.2.2.2.2.1⟩
 have HP5:Hid (∀W,Below (w.alloc (.cells X 45) |>.alloc (.cells Y 45)).heap.size (w.alloc (.cells X 45) |>.alloc (.cells Y 45)) W→W.cell? ⟨N,5,none⟩=some (.slice A1 n1 c1)∧W.cell? ⟨N+1,5,none⟩=some (.slice D1 m1 d1)):=Lib.hid fun W hW=>⟨((H0.out.2.1.under hW).cell 5).trans HXC.out.2.2.2.2.2,((H0.out.2.2.under hW).cell 5).trans HYC.out.2.2.2.2.2⟩
 clear h1 h2 hx0 hy0 hN hX hY hn0 hm0 hn1 hm1
 generalize x.id=x0 at *
 generalize y.id=y0 at *
 generalize x.ver=x1 at *
 generalize y.ver=y1 at *
 generalize x.name=x3 at *
 generalize y.name=y3 at *
 generalize x.pass=x4 at *
 generalize y.pass=y4 at *
 go_enter Tryz.func16,Tryz.ntmps16
 go_upto_region 1 with fail
 simp only [HN.out,Nat.add_assoc,Nat.reduceAdd]
 have HU:Hid (∀W,Below ((w.alloc (.cells X 45)).alloc (.cells Y 45)).heap.size ((w.alloc (.cells X 45)).alloc (.cells Y 45)) W→Below w.heap.size w W):=Lib.hid fun W hW=>below_chain (Nat.le_refl _) (by have:=H0.out.1;rw [←HN.out] at this;exact this) hW
 generalize ((w.alloc (.cells X 45)).alloc (.cells Y 45))=W0 at *
 have HR:=Lib.hid (Below.refl W0.heap.size W0)
 have p0W0:=(HP0.out W0 HR.out).1
 have q0W0:=(HP0.out W0 HR.out).2
 have p1W0:=(HP1.out W0 HR.out).1
 have q1W0:=(HP1.out W0 HR.out).2
 have p2W0:=(HP2.out W0 HR.out).1
 have q2W0:=(HP2.out W0 HR.out).2
 have HB0:Hid (((x0:Int) == (y0:Int))=true↔x0=y0):=Lib.hid (by rw [beq_iff_eq];omega)
 obtain ⟨b0,hb0'⟩:∃b,((x0:Int) == (y0:Int))=b:=⟨_,rfl⟩
 rw [hb0'] at HB0
 cases b0 with
 | false =>
   have HNE:Hid (¬(x=y)):=Lib.hid (fun e=>by have h:=(HE.out.1 e).1;have:=HB0.out.2 h;cases this)
   go_wp2_with fail
   go_ret
   exact ⟨false,rfl,⟨fun e=>(by cases e),fun e=>(HNE.out e).elim⟩,HU.out _ HR.out⟩
 | true =>
   have HB1:Hid (((x1:Int) == (y1:Int))=true↔x1=y1):=Lib.hid (by rw [beq_iff_eq];omega)
   obtain ⟨b1,hb1'⟩:∃b,((x1:Int) == (y1:Int))=b:=⟨_,rfl⟩
   rw [hb1'] at HB1
   cases b1 with
   | false =>
     have HNE:Hid (¬(x=y)):=Lib.hid (fun e=>by have h:=(HE.out.1 e).2.1;have:=HB1.out.2 h;cases this)
     go_wp2_with fail
     go_ret
     exact ⟨false,rfl,⟨fun e=>(by cases e),fun e=>(HNE.out e).elim⟩,HU.out _ HR.out⟩
   | true =>
     cases b2 with
     | false =>
       have HNE:Hid (¬(x=y)):=Lib.hid (fun e=>by have h:=(HE.out.1 e).2.2.1;have:=HB2.out.2 h;cases this)
       go_wp2_with (first | (go_at_call 40;(with_reducible refine (HC2.out _ (HU.out _ HR.out)).mono ?_);rintro e w1 ⟨rfl,hb2⟩;have H1:Hid (Below W0.heap.size W0 w1):=Lib.hid (below_chain (Nat.le_refl _) HR.out hb2);clear hb2;have p3w1:=(HP3.out w1 H1.out).1;have q3w1:=(HP3.out w1 H1.out).2;have p4w1:=(HP4.out w1 H1.out).1;have q4w1:=(HP4.out w1 H1.out).2;have p5w1:=(HP5.out w1 H1.out).1;have q5w1:=(HP5.out w1 H1.out).2;dsimp only))
       go_ret
       exact ⟨false,rfl,⟨fun e=>(by cases e),fun e=>(HNE.out e).elim⟩,HU.out _ H1.out⟩
     | true =>
       have HB3:Hid ((x3.toList == y3.toList)=true↔x3=y3):=Lib.hid toList_beq
       obtain ⟨b3,hb3'⟩:∃b,(x3.toList == y3.toList)=b:=⟨_,rfl⟩
       rw [hb3'] at HB3
       cases b3 with
       | false =>
         have HNE:Hid (¬(x=y)):=Lib.hid (fun e=>by have h:=(HE.out.1 e).2.2.2.1;have:=HB3.out.2 h;cases this)
         go_wp2_with (first | (go_at_call 40;(with_reducible refine (HC2.out _ (HU.out _ HR.out)).mono ?_);rintro e w1 ⟨rfl,hb2⟩;have H1:Hid (Below W0.heap.size W0 w1):=Lib.hid (below_chain (Nat.le_refl _) HR.out hb2);clear hb2;have p3w1:=(HP3.out w1 H1.out).1;have q3w1:=(HP3.out w1 H1.out).2;have p4w1:=(HP4.out w1 H1.out).1;have q4w1:=(HP4.out w1 H1.out).2;have p5w1:=(HP5.out w1 H1.out).1;have q5w1:=(HP5.out w1 H1.out).2;dsimp only))
         go_ret
         exact ⟨false,rfl,⟨fun e=>(by cases e),fun e=>(HNE.out e).elim⟩,HU.out _ H1.out⟩
       | true =>
         have HB4:Hid ((x4.toList == y4.toList)=true↔x4=y4):=Lib.hid toList_beq
         obtain ⟨b4,hb4'⟩:∃b,(x4.toList == y4.toList)=b:=⟨_,rfl⟩
         rw [hb4'] at HB4
         cases b4 with
         | false =>
           have HNE:Hid (¬(x=y)):=Lib.hid (fun e=>by have h:=(HE.out.1 e).2.2.2.2.1;have:=HB4.out.2 h;cases this)
           go_wp2_with (first | (go_at_call 40;(with_reducible refine (HC2.out _ (HU.out _ HR.out)).mono ?_);rintro e w1 ⟨rfl,hb2⟩;have H1:Hid (Below W0.heap.size W0 w1):=Lib.hid (below_chain (Nat.le_refl _) HR.out hb2);clear hb2;have p3w1:=(HP3.out w1 H1.out).1;have q3w1:=(HP3.out w1 H1.out).2;have p4w1:=(HP4.out w1 H1.out).1;have q4w1:=(HP4.out w1 H1.out).2;have p5w1:=(HP5.out w1 H1.out).1;have q5w1:=(HP5.out w1 H1.out).2;dsimp only))
           go_ret
           exact ⟨false,rfl,⟨fun e=>(by cases e),fun e=>(HNE.out e).elim⟩,HU.out _ H1.out⟩
         | true =>
           cases b5 with
           | false =>
             have HNE:Hid (¬(x=y)):=Lib.hid (fun e=>by have h:=(HE.out.1 e).2.2.2.2.2;have:=HB5.out.2 h;cases this)
             go_wp2_with (first | (go_at_call 40;(with_reducible refine (HC2.out _ (HU.out _ HR.out)).mono ?_);rintro e w1 ⟨rfl,hb2⟩;have H1:Hid (Below W0.heap.size W0 w1):=Lib.hid (below_chain (Nat.le_refl _) HR.out hb2);clear hb2;have p3w1:=(HP3.out w1 H1.out).1;have q3w1:=(HP3.out w1 H1.out).2;have p4w1:=(HP4.out w1 H1.out).1;have q4w1:=(HP4.out w1 H1.out).2;have p5w1:=(HP5.out w1 H1.out).1;have q5w1:=(HP5.out w1 H1.out).2;dsimp only) | (go_at_call 41;(with_reducible refine (HC5.out _ (HU.out _ H1.out)).mono ?_);rintro e w2 ⟨rfl,hb5⟩;have H2:Hid (Below W0.heap.size W0 w2):=Lib.hid (below_chain (Nat.le_refl _) H1.out hb5);clear hb5;dsimp only))
             go_ret
             exact ⟨false,rfl,⟨fun e=>(by cases e),fun e=>(HNE.out e).elim⟩,HU.out _ H2.out⟩
           | true =>
             have HEQ:Hid (x=y):=Lib.hid (HE.out.2 ⟨HB0.out.1 rfl,HB1.out.1 rfl,HB2.out.1 rfl,HB3.out.1 rfl,HB4.out.1 rfl,HB5.out.1 rfl⟩)
             go_wp2_with (first | (go_at_call 40;(with_reducible refine (HC2.out _ (HU.out _ HR.out)).mono ?_);rintro e w1 ⟨rfl,hb2⟩;have H1:Hid (Below W0.heap.size W0 w1):=Lib.hid (below_chain (Nat.le_refl _) HR.out hb2);clear hb2;have p3w1:=(HP3.out w1 H1.out).1;have q3w1:=(HP3.out w1 H1.out).2;have p4w1:=(HP4.out w1 H1.out).1;have q4w1:=(HP4.out w1 H1.out).2;have p5w1:=(HP5.out w1 H1.out).1;have q5w1:=(HP5.out w1 H1.out).2;dsimp only) | (go_at_call 41;(with_reducible refine (HC5.out _ (HU.out _ H1.out)).mono ?_);rintro e w2 ⟨rfl,hb5⟩;have H2:Hid (Below W0.heap.size W0 w2):=Lib.hid (below_chain (Nat.le_refl _) H1.out hb5);clear hb5;dsimp only))
             go_ret
             exact ⟨true,rfl,⟨fun _=>HEQ.out,fun _=>rfl⟩,HU.out _ H2.out⟩
theorem head_known (d:DescS):(headA d).filter knownD=headA d:=by
 rw [List.filter_eq_self]
 intro a ha
 unfold headA at ha
 rw [List.mem_append] at ha
 have hb:∀(n:Tx) (v:ByteArray),[nGroup,nUfrag,nPwd].contains n=true→knownD ⟨bs n,v⟩=true:=fun n v h=>by unfold knownD;rw [tx_bs];exact h
 rcases ha with ha | ha
 · split at ha
   · cases ha
   · obtain rfl:=List.mem_singleton.1 ha
     exact hb _ _ (by decide)
 · simp only [List.mem_cons,List.not_mem_nil,or_false] at ha
   rcases ha with rfl | rfl
   · exact hb _ _ (by decide)
   · exact hb _ _ (by decide)
theorem isD_ses {d:DescS} (hg:goodD d=true) (hm:∀m∈d.media,mayM m=true):IsD (sesD d) d :=
 ⟨hg,tx_bs _,tx_bs _,tx_bs _,head_known d,by show (d.media.map partM).length=_;rw [List.length_map],fun i p m hp hm'=>by
  have hp:(d.media.map partM)[i]? = some p:=hp
  rw [List.getElem?_map,hm'] at hp
  obtain rfl:=Option.some.inj hp
  exact isM_part (hm m (List.mem_of_getElem? hm'))⟩
theorem printed_is {d:DescS} (h:TextD d) (ht:TypedD d):DReadIs (textS (sesD d)) 0 0 d :=
 .inl ⟨sesD d,parsed_print h.2.2.1 h.2.2.2,rfl,.inl ⟨rfl,isD_ses h.1 h.2.1,ht⟩⟩
set_option maxHeartbeats 6400000 in
set_option maxRecDepth 100000 in
theorem dback_walk (D:Array Value) (d:DescS) (vB vM:Value) (w:World) (h:DescV w w.heap.size D d vB vM) (hz:SizD d) (hE:EnvD w):Calls Tryz.prog 5 #[.agg D] w fun e w'=>e=.returned (.bool true)∧Below w.heap.size w w':=by
 obtain ⟨AB,cB,hvB,-⟩:=Rows.form h.bundle
 obtain ⟨AM,cM,hvM,-⟩:=Rows.form h.media
 obtain rfl:=h.form
 obtain ⟨n,hn⟩:∃n,d.bundle.length=n:=⟨_,rfl⟩
 obtain ⟨nM,hnM⟩:∃n,d.media.length=n:=⟨_,rfl⟩
 rw [hn] at hvB
 rw [hnM] at hvM
 subst hvB hvM
 have HD:Hid (∀W,Below w.heap.size w W→DescV W W.heap.size #[.int .u64 d.id,.int .u64 d.ver,.slice AB n cB,.string d.name,.string d.pass,.slice AM nM cM] d (.slice AB n cB) (.slice AM nM cM)):=Lib.hid fun W hW=>h.under hW
 have hb0:Below w.heap.size w (w.alloc (.cells #[.int .u64 d.id,.int .u64 d.ver,.slice AB n cB,.string d.name,.string d.pass,.slice AM nM cM] 45)):=(Below.refl _ w).alloc (Nat.le_refl _) _
 have H0:=Lib.hid (And.intro hb0 (Whole.new w 45 #[.int .u64 d.id,.int .u64 d.ver,.slice AB n cB,.string d.name,.string d.pass,.slice AM nM cM]))
 have HAW:Hid (∀W,Below w.heap.size w W→Calls Tryz.prog 11 #[] W fun e w'=>e=.returned (.bool true)∧Below W.heap.size W w'):=Lib.hid fun W hW=>awake8_any W (hE.under hW).env.env (hE.under hW).seven
 have HPR:Hid (∀W,Below w.heap.size w W→Calls Tryz.prog 15 #[.agg #[.int .u64 d.id,.int .u64 d.ver,.slice AB n cB,.string d.name,.string d.pass,.slice AM nM cM]] W (PrintDO W d)):=Lib.hid fun W hW=>dePrint_any _ d _ _ W (HD.out W hW) hz (hE.under hW).env.env (hE.under hW).seven
 have HE:=Lib.hid hE
 have HT:=Lib.hid hz.typed
 obtain ⟨N,hN⟩:∃N,w.heap.size=N:=⟨_,rfl⟩
 have HN:=Lib.hid hN
 rw [hN] at H0 HAW HPR HD
 have HKB:Hid (∀W W',Below N w W→Below W.heap.size W W'→Below N w W'):=Lib.hid fun W W' h1 h2=>h1.trans (h2.mono (by have:=h1.size;rw [HN.out] at this;exact this))
 clear h hz hE hb0 hn hnM hN
 go_enter Tryz.func5,Tryz.ntmps5
 go_upto_region 1 with fail
 simp only [HN.out]
 generalize w.alloc (.cells #[.int .u64 d.id,.int .u64 d.ver,.slice AB n cB,.string d.name,.string d.pass,.slice AM nM cM] 45)=w0 at *
 go_upto_region 3 with (go_at_call 11;go_loud ((with_reducible refine (HAW.out _ H0.out.1).mono ?_);rintro e w1 ⟨rfl,hb1⟩;have H1:=Lib.hid (And.intro (HKB.out _ _ H0.out.1 hb1) (H0.out.2.under hb1));clear hb1;dsimp only))
 go_upto_region 4 with (first | ((with_reducible refine wpList_load_all ?_ 45 (.tmp 1) ?_ H1.out.2 ?_ Tryz.sizeDesc ?_ Tryz.underlying45 ?_ ?_);(with_reducible rfl);(with_reducible rfl);rfl;rfl;rfl) | (go_at_call 15;go_loud ((with_reducible refine (HPR.out _ H1.out.1).mono ?_);rintro e w2 ⟨t,er,rfl,hp,hb2⟩;have H2:=Lib.hid (And.intro (HKB.out _ _ H1.out.1 hb2) (And.intro (H1.out.2.under hb2) hp));clear hb2 hp;dsimp only)))
 have hp:=H2.out.2.2
 rcases hp with ⟨ht,rfl,htx⟩ | ⟨-,rfl,rfl⟩
 · have HTX:=Lib.hid (And.intro ht htx)
   have hsz:t.size≤maxLen:=by have:=ht.2.2.2;rw [←htx,tx_length] at this;unfold maxLen;omega
   have HRD:Hid (Calls Tryz.prog 13 #[.string t] w2 (DReadO (tx t) w2)):=Lib.hid (deRead_any t w2 (HE.out.low H2.out.1 (by rw [←HN.out];exact HE.out.seven)) hsz)
   have HIS:Hid (DReadIs (tx t) 0 0 d):=Lib.hid (by rw [htx];exact printed_is ht HT.out)
   clear ht htx hsz
   go_upto_region 7 with (first | (go_at_call 13;go_loud ((with_reducible refine HRD.out.mono ?_);rintro e w4 hw4;obtain ⟨d',AB',AM',lB',kB',lM',kM',k',er',rfl,hb4,hi4,hd4⟩:=hw4.norm;clear hw4;obtain ⟨rfl,rfl,rfl⟩:=HIS.out.uniq hi4;have H4:=Lib.hid (And.intro hb4 hd4);clear hb4 hi4 hd4;dsimp only)) | ((with_reducible refine wpList_storeS #[.int .u64 d.id,.int .u64 d.ver,.slice AB' lB' kB',.string d.name,.string d.pass,.slice AM' lM' kM'] ?_ 45 (.tmp 5) (.tmp 26) ?_ ?_ ?_ (Whole.new _ _ _) Tryz.sizeDesc ?_ ?_ ?_ ?_);(with_reducible rfl);(with_reducible rfl);rfl;rfl;rfl;rfl;rfl))
   have hx:=desc_box8 w4 #[.int .u64 d.id,.int .u64 d.ver,.slice AB' lB' kB',.string d.name,.string d.pass,.slice AM' lM' kM']
   have hb3:=below_chain (Nat.le_refl _) H4.out.1 hx.1
   have H5:=Lib.hid (And.intro (HKB.out _ _ H2.out.1 hb3) (And.intro (H2.out.2.1.under hb3) (And.intro hx.2 (H4.out.2.under hx.1))))
   clear hx hb3 H4 H2
   generalize (w4.alloc (.cells #[.int .u64 0,.int .u64 0,.slice none 0 0,.string ⟨#[]⟩,.string ⟨#[]⟩,.slice none 0 0] 45)).setRow w4.heap.size #[.int .u64 d.id,.int .u64 d.ver,.slice AB' lB' kB',.string d.name,.string d.pass,.slice AM' lM' kM']=w5 at *
   generalize w4.heap.size=g5 at *
   have HSM:Hid (Calls Tryz.prog 14 #[.agg #[.int .u64 d.id,.int .u64 d.ver,.slice AB' lB' kB',.string d.name,.string d.pass,.slice AM' lM' kM'],.agg #[.int .u64 d.id,.int .u64 d.ver,.slice AB n cB,.string d.name,.string d.pass,.slice AM nM cM]] w5 fun e w'=>e=.returned (.bool true)∧Below w5.heap.size w5 w'):=Lib.hid ((r8Same_any _ _ d d _ _ _ _ w5 H5.out.2.2.2 (HD.out w5 H5.out.1)).mono fun e w' ⟨b,h1,h2,h3⟩=>⟨by rw [h1,h2.2 rfl],h3⟩)
   have HSP:Hid (∀W,Below w5.heap.size w5 W→Calls Tryz.prog 16 #[.agg #[.int .u64 d.id,.int .u64 d.ver,.slice AB' lB' kB',.string d.name,.string d.pass,.slice AM' lM' kM'],.agg #[.int .u64 d.id,.int .u64 d.ver,.slice AB n cB,.string d.name,.string d.pass,.slice AM nM cM]] W fun e w'=>e=.returned (.bool true)∧Below W.heap.size W w'):=Lib.hid fun W hW=>(deSame_any _ _ d d _ _ _ _ W (H5.out.2.2.2.under hW) (HD.out W (HKB.out _ _ H5.out.1 hW))).mono fun e w' ⟨b,h1,h2,h3⟩=>⟨by rw [h1,h2.2 rfl],h3⟩
   go_wp2_with (first | (go_at_call 14;go_loud ((with_reducible refine HSM.out.mono ?_);rintro e w6 ⟨rfl,hb6⟩;have H6:=Lib.hid hb6;clear hb6;dsimp only)) | (go_at_call 16;go_loud ((with_reducible refine (HSP.out _ H6.out).mono ?_);rintro e w7 ⟨rfl,hb7⟩;have H7:Hid (Below N w w7):=Lib.hid (HKB.out _ _ H5.out.1 (below_chain (Nat.le_refl _) H6.out hb7));clear hb7;dsimp only)) | ((with_reducible refine wpList_load_allG ?_ 45 (.tmp 5) ?_ H5.out.2.2.1 ?_ Tryz.sizeDesc ?_ Tryz.underlying45 ?_ ?_);rfl;(with_reducible rfl);rfl;rfl;rfl) | ((with_reducible refine wpList_load_allG ?_ 45 (.tmp 1) ?_ H5.out.2.1 ?_ Tryz.sizeDesc ?_ Tryz.underlying45 ?_ ?_);rfl;(with_reducible rfl);rfl;rfl;rfl) | ((with_reducible refine wpList_load_allG ?_ 45 (.tmp 5) ?_ (H5.out.2.2.1.under H6.out) ?_ Tryz.sizeDesc ?_ Tryz.underlying45 ?_ ?_);rfl;(with_reducible rfl);rfl;rfl;rfl) | ((with_reducible refine wpList_load_allG ?_ 45 (.tmp 1) ?_ (H5.out.2.1.under H6.out) ?_ Tryz.sizeDesc ?_ Tryz.underlying45 ?_ ?_);rfl;(with_reducible rfl);rfl;rfl;rfl))
   go_ret
   exact ⟨rfl,by rw [HN.out];exact H7.out⟩
 · go_wp2
   go_ret
   exact ⟨rfl,by rw [HN.out];exact H2.out.1⟩
end Go.Proofs.YtgnpckelbokniaaGreatDoor
namespace Go.Proofs.YtgnpckelbokniaaGreatDoor
open Go.RowKit Go.ChangeShapes Go.WideShapes Go.ChangeAt Go.Deep
set_option linter.unusedVariables false
set_option linter.unusedSimpArgs false
section
variable {H:Type} {enc:TypeId×Value→H} {P:Program} {w:World} {base:Nat} {spare:Nat→Bool} {held:Bool}
end
section
variable {H:Type} {enc:TypeId×Value→H} {W:World} {base:Nat} {sp:Nat→Bool} {held:Bool}
theorem open_rows {α:Type} {t e:TypeId} {sz by_:Nat} {R:(Nat→Option Value)→α→Prop} {Q:α→Prop} (ht:Tryz.prog.underlying t=some (.slice e)) (hc:Tryz.prog.cellsOf e=sz) (hsz:0<sz) (hby:Tryz.prog.bytesOf e=by_)
 (hel:∀(n:Nat) (cs:List Value) (y:DataW H×List MemPlace) (f:Nat→Option Value),cs.length=sz→(∀j,j<sz→f j=cs[j]?)→DataW.trod enc Tryz.prog W base sp held n e cs=some y→(∀k∈y.1.weights Tryz.prog e,k≤140737488351232)→∃a,R f a∧Q a)
 {fuel:Nat} {v:Value} {x:DataW H×List MemPlace} (h:DataW.trod enc Tryz.prog W base sp held fuel t [v]=some x) (hw:∀n∈x.1.weights Tryz.prog t,n≤140737488351232) :
 ∃L:List α,Rows W W.heap.size sz R v L∧L.length * by_≤140737488351232∧∀a∈L,Q a:=by
 rcases open_slice ht h with ⟨hcs,_⟩ | ⟨ad,len,cap,m,n,D,Pl,hcs,hb,hl,hm,hmm,hx,hi⟩
 · simp at hcs
   subst hcs
   exact ⟨[],Rows.nil _ _ _ _,by simp,fun a ha=>by cases ha⟩
 · simp at hcs
   subst hcs
   have hlm:len≤m:=by rw [hmm];split <;> omega
   rw [hc] at hi
   have hat:∀i,i<len→∃a:α,R (fun j=>W.cell? (ad.add (i * sz+j))) a∧Q a∧∃u,W.cell? (ad.add (i * sz))=some u:=fun i hin=>by
    obtain ⟨cs',hcc,htr⟩:=hi i (by omega)
    obtain ⟨_,hcl,hca⟩:=World.cells?_some hcc
    obtain ⟨a,h1,h2⟩:=hel n cs' _ (fun j=>W.cell? (ad.add (i * sz+j))) hcl (fun j hj=>by
     rw [←Go.Deep.add_add]
     exact hca j hj) htr (fun k hk=>hw k (by
      rw [hx]
      simp only [DataW.weights,ht,List.mem_cons,List.mem_append]
      exact .inr (.inl (weights_mem_all (d:=D i) (List.mem_map.2 ⟨i,List.mem_range.2 hin,rfl⟩) k hk))))
    refine ⟨a,h1,h2,cs'[0]'(by omega),?_⟩
    have:=hca 0 hsz
    rw [List.getElem?_eq_getElem (by omega)] at this
    exact this
   obtain ⟨L,hL,hR⟩:=pick hat
   refine ⟨L,⟨some ad,cap,by rw [hL],by omega,hm,(fun e=>by cases e),fun hn=>⟨ad,rfl,?_,fun i a e=>(hR i a e).1⟩⟩,?_,fun a ha=> ?_⟩
   · obtain ⟨a,_,_,u,h0⟩:=hat 0 (by omega)
     have:=block_lt_of_cell h0
     rwa [add_block] at this
   · have:=hw (m * Tryz.prog.bytesOf e) (by
      rw [hx]
      simp only [DataW.weights,ht,List.mem_cons]
      refine .inl ?_
      have e9:m=((List.range len).map D).length+((List.range (m - len)).map fun j=>D (len+j)).length:=by simp;omega
      rw [←e9])
     rw [hby] at this
     rw [hL]
     exact Nat.le_trans (Nat.mul_le_mul_right _ hlm) this
   · obtain ⟨i,hi2⟩:=List.mem_iff_getElem?.1 ha
     exact (hR i a hi2).2.1
theorem one_cell {cs:List Value} (h:cs.length=1):∃v,cs=[v]:=by
 match cs,h with
 | [v],_=>exact ⟨v,rfl⟩
theorem open_texts {fuel:Nat} {v:Value} {x:DataW H×List MemPlace} (h:DataW.trod enc Tryz.prog W base sp held fuel 24 [v]=some x) (hw:∀n∈x.1.weights Tryz.prog 24,n≤140737488351232) :
 ∃L,TextsV W W.heap.size v L∧L.length * 16≤140737488351232∧∀s∈L,s.size≤140737488351232 :=
 open_rows (e:=9) Tryz.underlying24 (by kernel_rfl) (by decide) (by kernel_rfl) (fun n cs y f hl hf ht hk=>by
  obtain ⟨u,rfl⟩:=one_cell hl
  obtain ⟨s,rfl,hs⟩:=open_str ht hk
  exact ⟨s,hf 0 (by decide),hs⟩) h hw
theorem open_i64 {fuel:Nat} {v:Value} {x:DataW H×List MemPlace} (h:DataW.trod enc Tryz.prog W base sp held fuel 3 [v]=some x):∃n:Int,v=.int .i64 n:=by
 obtain ⟨n,e,_⟩:=DataW.trod_int Tryz.underlying3 h
 simp at e
 exact ⟨n,e⟩
set_option maxRecDepth 100000 in
theorem open_u32s {fuel:Nat} {v:Value} {x:DataW H×List MemPlace} (h:DataW.trod enc Tryz.prog W base sp held fuel 25 [v]=some x) (hw:∀n∈x.1.weights Tryz.prog 25,n≤140737488351232) :
 ∃L,NumsV W W.heap.size v L∧L.length * 4≤140737488351232∧∀n∈L,n<4294967296 :=
 open_rows (e:=72) Tryz.underlying25 (by kernel_rfl) (by decide) (by kernel_rfl) (fun n cs y f hl hf ht hk=>by
  obtain ⟨z,rfl,_,hz⟩:=DataW.trod_int Tryz.underlying72 ht
  simp [Lit.wf,IntKind.min,IntKind.max,IntKind.signed,IntKind.bits] at hz
  refine ⟨z.toNat,?_,by omega⟩
  show f 0=some (.int .u32 (z.toNat:Int))
  rw [show ((z.toNat:Nat):Int)=z by omega]
  exact hf 0 (by decide)) h hw
set_option maxRecDepth 100000 in
theorem open_exts {fuel:Nat} {v:Value} {x:DataW H×List MemPlace} (h:DataW.trod enc Tryz.prog W base sp held fuel 23 [v]=some x) (hw:∀n∈x.1.weights Tryz.prog 23,n≤140737488351232) :
 ∃L,ExtsV W W.heap.size v L∧L.length * 24≤140737488351232∧∀a∈L,a.uri.size≤140737488351232 :=
 open_rows (e:=71) Tryz.underlying23 (by kernel_rfl) (by decide) (by kernel_rfl) (fun n cs y f hl hf ht hk=>by
  obtain ⟨ys,n',_,hy,_,hyl,hfl⟩:=DataW.trod_struct Tryz.underlying71 ht
  match cs,hl with
  | [c0,c1],_ =>
    have f0:DataW.trod enc Tryz.prog W base sp held n' 3 (([c0,c1].drop 0).take (Tryz.prog.cellsOf 3))=ys[0]? :=hfl 0 _ rfl
    have f1:DataW.trod enc Tryz.prog W base sp held n' 9 (([c0,c1].drop 1).take (Tryz.prog.cellsOf 9))=ys[1]? :=hfl 1 _ rfl
    rw [show Tryz.prog.cellsOf 3=1 by kernel_rfl] at f0
    rw [show Tryz.prog.cellsOf 9=1 by kernel_rfl] at f1
    have hyl2:ys.length=2:=hyl
    match ys,hyl2 with
    | [y0,y1],_ =>
      simp only [List.drop_zero,List.take_succ_cons,List.take_zero,List.drop_succ_cons,List.getElem?_cons_zero,List.getElem?_cons_succ] at f0 f1
      obtain ⟨z,rfl⟩:=open_i64 f0
      obtain ⟨s,rfl,hs⟩:=open_str f1 (fun k hk2=>hk k (by
       rw [hy]
       simp only [DataW.weights,Tryz.underlying71]
       exact DataW.weights_mem_each (j:=1) rfl rfl k hk2))
      exact ⟨⟨z,s⟩,⟨hf 0 (by decide),hf 1 (by decide)⟩,hs⟩) h hw
set_option maxRecDepth 100000 in
theorem open_codecs {fuel:Nat} {v:Value} {x:DataW H×List MemPlace} (h:DataW.trod enc Tryz.prog W base sp held fuel 22 [v]=some x) (hw:∀n∈x.1.weights Tryz.prog 22,n≤140737488351232) :
 ∃L,CodecsV W W.heap.size v L∧L.length * 80≤140737488351232∧∀a∈L,(a.name.size≤140737488351232∧a.format.size≤140737488351232∧∀f∈a.feedback,f.size≤140737488351232)∧a.feedback.length * 16≤140737488351232 :=
 open_rows (e:=31) Tryz.underlying22 (by kernel_rfl) (by decide) (by kernel_rfl) (fun n cs y f hl hf ht hk=>by
  obtain ⟨ys,n',_,hy,_,hyl,hfl⟩:=DataW.trod_struct Tryz.underlying31 ht
  match cs,hl with
  | [c0,c1,c2,c3,c4,c5],_ =>
    have f0:DataW.trod enc Tryz.prog W base sp held n' 3 (([c0,c1,c2,c3,c4,c5].drop 0).take (Tryz.prog.cellsOf 3))=ys[0]? :=hfl 0 _ rfl
    have f1:DataW.trod enc Tryz.prog W base sp held n' 9 (([c0,c1,c2,c3,c4,c5].drop 1).take (Tryz.prog.cellsOf 9))=ys[1]? :=hfl 1 _ rfl
    have f2:DataW.trod enc Tryz.prog W base sp held n' 3 (([c0,c1,c2,c3,c4,c5].drop 2).take (Tryz.prog.cellsOf 3))=ys[2]? :=hfl 2 _ rfl
    have f3:DataW.trod enc Tryz.prog W base sp held n' 3 (([c0,c1,c2,c3,c4,c5].drop 3).take (Tryz.prog.cellsOf 3))=ys[3]? :=hfl 3 _ rfl
    have f4:DataW.trod enc Tryz.prog W base sp held n' 9 (([c0,c1,c2,c3,c4,c5].drop 4).take (Tryz.prog.cellsOf 9))=ys[4]? :=hfl 4 _ rfl
    have f5:DataW.trod enc Tryz.prog W base sp held n' 24 (([c0,c1,c2,c3,c4,c5].drop 5).take (Tryz.prog.cellsOf 24))=ys[5]? :=hfl 5 _ rfl
    rw [show Tryz.prog.cellsOf 3=1 by kernel_rfl] at f0 f2 f3
    rw [show Tryz.prog.cellsOf 9=1 by kernel_rfl] at f1 f4
    rw [show Tryz.prog.cellsOf 24=1 by kernel_rfl] at f5
    have hyl2:ys.length=6:=hyl
    match ys,hyl2 with
    | [y0,y1,y2,y3,y4,y5],_ =>
      simp only [List.drop_zero,List.take_succ_cons,List.take_zero,List.drop_succ_cons,List.getElem?_cons_zero,List.getElem?_cons_succ] at f0 f1 f2 f3 f4 f5
      obtain ⟨z0,rfl⟩:=open_i64 f0
      obtain ⟨z2,rfl⟩:=open_i64 f2
      obtain ⟨z3,rfl⟩:=open_i64 f3
      obtain ⟨s1,rfl,hs1⟩:=open_str f1 (fun k hk2=>hk k (by
       rw [hy]
       simp only [DataW.weights,Tryz.underlying31]
       exact DataW.weights_mem_each (j:=1) rfl rfl k hk2))
      obtain ⟨s4,rfl,hs4⟩:=open_str f4 (fun k hk2=>hk k (by
       rw [hy]
       simp only [DataW.weights,Tryz.underlying31]
       exact DataW.weights_mem_each (j:=4) rfl rfl k hk2))
      obtain ⟨L5,hv5,hl5,hs5⟩:=open_texts f5 (fun k hk2=>hk k (by
       rw [hy]
       simp only [DataW.weights,Tryz.underlying31]
       exact DataW.weights_mem_each (j:=5) rfl rfl k hk2))
      exact ⟨⟨z0,s1,z2,z3,s4,L5⟩,⟨hf 0 (by decide),hf 1 (by decide),hf 2 (by decide),hf 3 (by decide),hf 4 (by decide),_,hf 5 (by decide),hv5⟩,⟨hs1,hs4,hs5⟩,hl5⟩) h hw
theorem open_key {n:Nat} {cs:List Value} {y:DataW H×List MemPlace} (hl:cs.length=30) (h:DataW.trod enc Tryz.prog W base sp held n 73 cs=some y):∃k:Tx,k.length=30∧cs=keyC k:=by
 obtain ⟨xs,m,rfl,rfl,hxl,hxs,hat⟩:=DataW.trod_array Tryz.underlying73 h
 have hb:∀i,i<30→∃b:UInt8,cs[i]? = some (.int .u8 (b.toNat:Int)):=fun i hi=>by
  have h1:=hat i hi
  rw [show Tryz.prog.cellsOf 5=1 by kernel_rfl,Nat.mul_one] at h1
  have h2:(cs.drop i).take 1=[cs[i]'(by omega)]:=by
   rw [List.drop_eq_getElem_cons (by omega)]
   rfl
  rw [h2,List.getElem?_eq_getElem (by omega)] at h1
  obtain ⟨z,e1,_,e3⟩:=DataW.trod_int Tryz.underlying5 h1
  simp [Lit.wf,IntKind.min,IntKind.max,IntKind.signed,IntKind.bits] at e3
  refine ⟨UInt8.ofNat z.toNat,?_⟩
  rw [List.getElem?_eq_getElem (by omega)]
  have e4:cs[i]'(by omega)=.int .u8 z:=by simpa using e1
  rw [e4,UInt8.toNat_ofNat',show ((z.toNat % 2 ^ 8:Nat):Int)=z by omega]
 obtain ⟨k,hk,hr⟩:=pick hb
 refine ⟨k,hk,List.ext_getElem? fun i=> ?_⟩
 unfold keyC
 rw [List.getElem?_map]
 by_cases hi:i<30
 · have e:=List.getElem?_eq_getElem (l:=k) (i:=i) (by omega)
   rw [e,hr i _ e]
   rfl
 · rw [List.getElem?_eq_none (by omega),List.getElem?_eq_none (by omega)]
   rfl
set_option maxRecDepth 100000 in
theorem open_crys {fuel:Nat} {v:Value} {x:DataW H×List MemPlace} (h:DataW.trod enc Tryz.prog W base sp held fuel 26 [v]=some x) (hw:∀n∈x.1.weights Tryz.prog 26,n≤140737488351232) :
 ∃L,CrysV W W.heap.size v L∧L.length * 40≤140737488351232∧∀a∈L,a.key.length=30 :=
 open_rows (e:=75) Tryz.underlying26 (by kernel_rfl) (by decide) (by kernel_rfl) (fun n cs y f hl hf ht hk=>by
  obtain ⟨ys,n',_,hy,_,hyl,hfl⟩:=DataW.trod_struct Tryz.underlying75 ht
  have f0:DataW.trod enc Tryz.prog W base sp held n' 3 ((cs.drop 0).take (Tryz.prog.cellsOf 3))=ys[0]? :=hfl 0 _ rfl
  have f1:DataW.trod enc Tryz.prog W base sp held n' 73 ((cs.drop 1).take (Tryz.prog.cellsOf 73))=ys[1]? :=hfl 1 _ rfl
  rw [show Tryz.prog.cellsOf 3=1 by kernel_rfl] at f0
  rw [show Tryz.prog.cellsOf 73=30 by kernel_rfl] at f1
  have hyl2:ys.length=2:=hyl
  match ys,hyl2 with
  | [y0,y1],_ =>
    obtain ⟨c0,r,hcr⟩:∃c0 r,cs=c0 :: r:=by
     cases cs with
     | nil=>simp at hl
     | cons a b=>exact ⟨a,b,rfl⟩
    subst hcr
    simp only [List.drop_zero,List.take_succ_cons,List.take_zero,List.drop_succ_cons,List.getElem?_cons_zero,List.getElem?_cons_succ] at f0 f1
    have hrl:r.length=30:=by simpa using hl
    rw [List.take_of_length_le (by omega)] at f1
    obtain ⟨z,rfl⟩:=open_i64 f0
    obtain ⟨k,hk30,rfl⟩:=open_key hrl f1
    exact ⟨⟨z,k⟩,⟨hk30,fun j hj=>hf j hj⟩,hk30⟩) h hw
end
section
variable {H:Type} {enc:TypeId×Value→H} {W:World} {base:Nat} {sp:Nat→Bool} {held:Bool}
set_option maxRecDepth 100000 in
theorem open_mediaL {n:Nat} {l:List Value} {x:DataW H×List MemPlace} (hl:l.length=11) (h:DataW.trod enc Tryz.prog W base sp held n 28 l=some x) (hw:∀n∈x.1.weights Tryz.prog 28,n≤140737488351232) :
 ∃(M:Array Value) (m:MediaS) (vC vE vR vS vY:Value),l=M.toList∧MediaV W W.heap.size M m vC vE vR vS vY∧SizM m:=by
 obtain ⟨ys,n,_,hx,_,hyl,hf⟩:=DataW.trod_struct Tryz.underlying28 h
 have hy11:ys.length=11:=hyl
 have g0:DataW.trod enc Tryz.prog W base sp held n 3 ((l.drop 0).take (Tryz.prog.cellsOf 3))=ys[0]? :=hf 0 _ rfl
 have g1:DataW.trod enc Tryz.prog W base sp held n 3 ((l.drop 1).take (Tryz.prog.cellsOf 3))=ys[1]? :=hf 1 _ rfl
 have g2:DataW.trod enc Tryz.prog W base sp held n 9 ((l.drop 2).take (Tryz.prog.cellsOf 9))=ys[2]? :=hf 2 _ rfl
 have g3:DataW.trod enc Tryz.prog W base sp held n 3 ((l.drop 3).take (Tryz.prog.cellsOf 3))=ys[3]? :=hf 3 _ rfl
 have g4:DataW.trod enc Tryz.prog W base sp held n 22 ((l.drop 4).take (Tryz.prog.cellsOf 22))=ys[4]? :=hf 4 _ rfl
 have g5:DataW.trod enc Tryz.prog W base sp held n 23 ((l.drop 5).take (Tryz.prog.cellsOf 23))=ys[5]? :=hf 5 _ rfl
 have g6:DataW.trod enc Tryz.prog W base sp held n 24 ((l.drop 6).take (Tryz.prog.cellsOf 24))=ys[6]? :=hf 6 _ rfl
 have g7:DataW.trod enc Tryz.prog W base sp held n 4 ((l.drop 7).take (Tryz.prog.cellsOf 4))=ys[7]? :=hf 7 _ rfl
 have g8:DataW.trod enc Tryz.prog W base sp held n 25 ((l.drop 8).take (Tryz.prog.cellsOf 25))=ys[8]? :=hf 8 _ rfl
 have g9:DataW.trod enc Tryz.prog W base sp held n 26 ((l.drop 9).take (Tryz.prog.cellsOf 26))=ys[9]? :=hf 9 _ rfl
 have g10:DataW.trod enc Tryz.prog W base sp held n 3 ((l.drop 10).take (Tryz.prog.cellsOf 3))=ys[10]? :=hf 10 _ rfl
 rw [show Tryz.prog.cellsOf 3=1 by kernel_rfl] at g0 g1 g3 g10
 rw [show Tryz.prog.cellsOf 9=1 by kernel_rfl] at g2
 rw [show Tryz.prog.cellsOf 22=1 by kernel_rfl] at g4
 rw [show Tryz.prog.cellsOf 23=1 by kernel_rfl] at g5
 rw [show Tryz.prog.cellsOf 24=1 by kernel_rfl] at g6
 rw [show Tryz.prog.cellsOf 4=1 by kernel_rfl] at g7
 rw [show Tryz.prog.cellsOf 25=1 by kernel_rfl] at g8
 rw [show Tryz.prog.cellsOf 26=1 by kernel_rfl] at g9
 clear hf hyl h
 match l,hl with
 | [c0,c1,c2,c3,c4,c5,c6,c7,c8,c9,c10],_ =>
   match ys,hy11 with
   | [y0,y1,y2,y3,y4,y5,y6,y7,y8,y9,y10],_ =>
     simp only [List.drop_zero,List.take_succ_cons,List.take_zero,List.drop_succ_cons,List.getElem?_cons_zero,List.getElem?_cons_succ] at g0 g1 g2 g3 g4 g5 g6 g7 g8 g9 g10
     obtain ⟨z0,rfl⟩:=open_i64 g0
     obtain ⟨z1,rfl⟩:=open_i64 g1
     obtain ⟨z3,rfl⟩:=open_i64 g3
     obtain ⟨z10,rfl⟩:=open_i64 g10
     obtain ⟨b7,e7,_⟩:=DataW.trod_bool Tryz.underlying4 g7
     simp at e7
     subst e7
     obtain ⟨s2,rfl,hs2⟩:=open_str g2 (fun k hk=>hw k (by
      rw [hx]
      simp only [DataW.weights,Tryz.underlying28]
      exact DataW.weights_mem_each (j:=2) rfl rfl k hk))
     obtain ⟨L4,v4,l4,q4⟩:=open_codecs g4 (fun k hk=>hw k (by
      rw [hx]
      simp only [DataW.weights,Tryz.underlying28]
      exact DataW.weights_mem_each (j:=4) rfl rfl k hk))
     obtain ⟨L5,v5,l5,q5⟩:=open_exts g5 (fun k hk=>hw k (by
      rw [hx]
      simp only [DataW.weights,Tryz.underlying28]
      exact DataW.weights_mem_each (j:=5) rfl rfl k hk))
     obtain ⟨L6,v6,l6,q6⟩:=open_texts g6 (fun k hk=>hw k (by
      rw [hx]
      simp only [DataW.weights,Tryz.underlying28]
      exact DataW.weights_mem_each (j:=6) rfl rfl k hk))
     obtain ⟨L8,v8,l8,q8⟩:=open_u32s g8 (fun k hk=>hw k (by
      rw [hx]
      simp only [DataW.weights,Tryz.underlying28]
      exact DataW.weights_mem_each (j:=8) rfl rfl k hk))
     obtain ⟨L9,v9,l9,q9⟩:=open_crys g9 (fun k hk=>hw k (by
      rw [hx]
      simp only [DataW.weights,Tryz.underlying28]
      exact DataW.weights_mem_each (j:=9) rfl rfl k hk))
     refine ⟨#[.int .i64 z0,.int .i64 z1,.string s2,.int .i64 z3,c4,c5,c6,.bool b7,c8,c9,.int .i64 z10],⟨z0,z1,s2,z3,L4,L5,L6,b7,L8,L9,z10⟩,c4,c5,c6,c8,c9,rfl,⟨rfl,v4,v5,v6,v8,v9⟩,⟨?_,fun c hc=> ?_,fun c hc=> ?_,fun c hc=> ?_,fun c hc=> ?_,⟨q8,q9⟩,?_⟩⟩
     · show s2.size≤_
       omega
     · obtain ⟨⟨h1,h2,h3⟩,_⟩:=q4 c hc
       exact ⟨by omega,by omega,fun f hf=>by have:=h3 f hf;omega⟩
     · have:=(q4 c hc).2
       omega
     · have:=q5 c hc
       omega
     · have:=q6 c hc
       omega
     · show L4.length≤_∧L5.length≤_∧L6.length≤_∧L8.length≤_∧L9.length≤_
       omega
theorem open_medias {fuel:Nat} {v:Value} {x:DataW H×List MemPlace} (h:DataW.trod enc Tryz.prog W base sp held fuel 43 [v]=some x) (hw:∀n∈x.1.weights Tryz.prog 43,n≤140737488351232) :
 ∃L,MediasV W W.heap.size v L∧L.length * 176≤140737488351232∧∀m∈L,SizM m :=
 open_rows (e:=28) Tryz.underlying43 (by kernel_rfl) (by decide) (by kernel_rfl) (fun n cs y f hl hf ht hk=>by
  obtain ⟨M,m,vC,vE,vR,vS,vY,rfl,hm,hz⟩:=open_mediaL hl ht hk
  exact ⟨m,⟨M,vC,vE,vR,vS,vY,hm,fun j hj=>by rw [hf j hj,Array.getElem?_toList]⟩,hz⟩) h hw
set_option maxRecDepth 100000 in
theorem open_u64 {fuel:Nat} {v:Value} {x:DataW H×List MemPlace} (h:DataW.trod enc Tryz.prog W base sp held fuel 42 [v]=some x):∃n:Nat,v=.int .u64 (n:Int)∧n<18446744073709551616:=by
 obtain ⟨z,e,_,hz⟩:=DataW.trod_int Tryz.underlying42 h
 simp [Lit.wf,IntKind.min,IntKind.max,IntKind.signed,IntKind.bits] at hz
 simp at e
 refine ⟨z.toNat,?_,by omega⟩
 rw [e,show ((z.toNat:Nat):Int)=z by omega]
set_option maxRecDepth 100000 in
theorem open_desc {fuel:Nat} {v:Value} {x:DataW H×List MemPlace} (hv:Value.okWide Tryz.prog W .any base 45 v) (h:DataW.trod enc Tryz.prog W 0 sp true fuel 45 v.cells.toList=some x) (hw:∀n∈x.1.weights Tryz.prog 45,n≤140737488351232) :
 ∃D d vB vM,v=.agg D∧DescV W W.heap.size D d vB vM∧SizD d:=by
 obtain ⟨cs,rfl,hsz⟩:=okWide_struct Tryz.underlying45 hv
 rw [show Tryz.prog.cellsOf 45=6 by kernel_rfl] at hsz
 have h':DataW.trod enc Tryz.prog W 0 sp true fuel 45 cs.toList=some x:=h
 obtain ⟨ys,n,_,hx,_,hyl,hf⟩:=DataW.trod_struct Tryz.underlying45 h'
 obtain ⟨l⟩:=cs
 have hl:l.length=6:=by simpa using hsz
 have hy6:ys.length=6:=hyl
 have g0:DataW.trod enc Tryz.prog W 0 sp true n 42 ((l.drop 0).take (Tryz.prog.cellsOf 42))=ys[0]? :=hf 0 _ rfl
 have g1:DataW.trod enc Tryz.prog W 0 sp true n 42 ((l.drop 1).take (Tryz.prog.cellsOf 42))=ys[1]? :=hf 1 _ rfl
 have g2:DataW.trod enc Tryz.prog W 0 sp true n 24 ((l.drop 2).take (Tryz.prog.cellsOf 24))=ys[2]? :=hf 2 _ rfl
 have g3:DataW.trod enc Tryz.prog W 0 sp true n 9 ((l.drop 3).take (Tryz.prog.cellsOf 9))=ys[3]? :=hf 3 _ rfl
 have g4:DataW.trod enc Tryz.prog W 0 sp true n 9 ((l.drop 4).take (Tryz.prog.cellsOf 9))=ys[4]? :=hf 4 _ rfl
 have g5:DataW.trod enc Tryz.prog W 0 sp true n 43 ((l.drop 5).take (Tryz.prog.cellsOf 43))=ys[5]? :=hf 5 _ rfl
 rw [show Tryz.prog.cellsOf 42=1 by kernel_rfl] at g0 g1
 rw [show Tryz.prog.cellsOf 9=1 by kernel_rfl] at g3 g4
 rw [show Tryz.prog.cellsOf 24=1 by kernel_rfl] at g2
 rw [show Tryz.prog.cellsOf 43=1 by kernel_rfl] at g5
 clear hf hyl hv h h'
 match l,hl with
 | [c0,c1,c2,c3,c4,c5],_ =>
   match ys,hy6 with
   | [y0,y1,y2,y3,y4,y5],_ =>
     simp only [List.drop_zero,List.take_succ_cons,List.take_zero,List.drop_succ_cons,List.getElem?_cons_zero,List.getElem?_cons_succ] at g0 g1 g2 g3 g4 g5
     obtain ⟨z0,rfl,h0⟩:=open_u64 g0
     obtain ⟨z1,rfl,h1⟩:=open_u64 g1
     obtain ⟨L2,v2,l2,q2⟩:=open_texts g2 (fun k hk=>hw k (by
      rw [hx]
      simp only [DataW.weights,Tryz.underlying45]
      exact DataW.weights_mem_each (j:=2) rfl rfl k hk))
     obtain ⟨s3,rfl,hs3⟩:=open_str g3 (fun k hk=>hw k (by
      rw [hx]
      simp only [DataW.weights,Tryz.underlying45]
      exact DataW.weights_mem_each (j:=3) rfl rfl k hk))
     obtain ⟨s4,rfl,hs4⟩:=open_str g4 (fun k hk=>hw k (by
      rw [hx]
      simp only [DataW.weights,Tryz.underlying45]
      exact DataW.weights_mem_each (j:=4) rfl rfl k hk))
     obtain ⟨L5,v5,l5,q5⟩:=open_medias g5 (fun k hk=>hw k (by
      rw [hx]
      simp only [DataW.weights,Tryz.underlying45]
      exact DataW.weights_mem_each (j:=5) rfl rfl k hk))
     refine ⟨_,⟨z0,z1,L2,s3,s4,L5⟩,_,_,rfl,⟨rfl,v2,v5⟩,⟨?_,?_,fun b hb=> ?_,?_,?_,q5,h0,h1⟩⟩
     · show s3.size≤_;omega
     · show s4.size≤_;omega
     · have:=q2 b hb;omega
     · show L2.length≤_;omega
     · show L5.length≤_;omega
end
end Go.Proofs.YtgnpckelbokniaaGreatDoor
namespace Go.Proofs.YtgnpckelbokniaaGreatDoor
open Go.RowKit Go.ChangeShapes Go.WideShapes Go.ChangeAt
set_option linter.unusedVariables false
set_option linter.unusedSimpArgs false
theorem laid_at {P:Program} {W:World}:∀{laid:List (String×DataW Unit)} {ps:List MemPlace},DataW.LaidVars P W laid ps→∀{n:String} {d:DataW Unit},(n,d)∈laid →
 ∃g t cs fuel p,P.globalNamed n=some g∧(P.globals[g]?).map (·.type)=some t∧W.var? P n=some cs∧DataW.trod (fun _=>()) P W 0 (fun _=>true) false fuel t cs.toList=some (d,p)
 | [],_,_,_,_,hm=>by cases hm
 | (n0,d0) :: r,ps,h,n,d,hm=>by
   obtain ⟨g,t,cs,fuel,p,q,h1,h2,h3,h4,h5,_⟩:=h
   rcases List.mem_cons.1 hm with e | hm
   · injection e with e1 e2
     subst e1 e2
     exact ⟨g,t,cs,fuel,p,h1,h2,h3,h4⟩
   · exact laid_at h5 hm
set_option maxRecDepth 100000 in
theorem laid_tab {W:World} {laid:List (String×DataW Unit)} (h:laidMet Tryz.prog laid W) {name:String} {k:IntKind} {zs:List Int} (hm:(name,Lib.tabData k zs)∈laid) {g:Nat} {t e:TypeId} {n:Nat}
 (hg:Tryz.prog.globalNamed name=some g) (hty:(Tryz.prog.globals[g]?).map (·.type)=some t) (ht:Tryz.prog.underlying t=some (.array n e)) (he:Tryz.prog.underlying e=some (.int k)) (hce:Tryz.prog.cellsOf e=1) (hct:Tryz.prog.cellsOf t=n):Lib.TabIs Tryz.prog W name k zs:=by
 obtain ⟨ps,hv,_⟩:=h
 obtain ⟨g',t',cs,fuel,p,hg',ht',hvar,hd⟩:=laid_at hv hm
 obtain rfl:=Option.some.inj (hg.symm.trans hg')
 obtain rfl:=Option.some.inj (hty.symm.trans ht')
 unfold Lib.TabIs
 rw [hvar,←Lib.cells_of_tab ht he hce hct hd]
set_option maxRecDepth 100000 in
theorem laid_strs {W:World} {laid:List (String×DataW Unit)} (h:laidMet Tryz.prog laid W) {name:String} {ss:List Tx} (hm:(name,(.agg (ss.map fun s=>.lit (.string s)):DataW Unit))∈laid) {g:Nat} {t:TypeId} {n:Nat}
 (hg:Tryz.prog.globalNamed name=some g) (hty:(Tryz.prog.globals[g]?).map (·.type)=some t) (ht:Tryz.prog.underlying t=some (.array n 9)) (hn:ss.length=n) (i:Nat) (s:Tx) (hi:ss[i]? = some s):W.cell? ⟨g,i,none⟩=some (.string (bs s)):=by
 obtain ⟨ps,hv,_⟩:=h
 obtain ⟨g',t',cs,fuel,p,hg',ht',hvar,hd⟩:=laid_at hv hm
 obtain rfl:=Option.some.inj (hg.symm.trans hg')
 obtain rfl:=Option.some.inj (hty.symm.trans ht')
 obtain ⟨xs,m,_,hx,hcl,hxl,hat⟩:=DataW.trod_array ht hd
 have hil:i<n:=by rw [←hn];exact (List.getElem?_eq_some_iff.1 hi).1
 have h1:=hat i hil
 rw [show Tryz.prog.cellsOf 9=1 by kernel_rfl,Nat.mul_one] at h1
 have hxe:xs[i]? = some (xs[i]'(by omega)):=List.getElem?_eq_getElem (by omega)
 rw [hxe] at h1
 obtain ⟨u,e1,e2,_⟩:=DataW.trod_string Tryz.underlying9 h1
 have hag:(ss.map fun s=>(.lit (.string s):DataW Unit))=xs.map (·.1):=by
  injection hx with hx1 _
  injection hx1
 have h3:=congrArg (fun l=>l[i]?) hag
 simp only [List.getElem?_map,hi,hxe,Option.map_some] at h3
 have h4:s=u.data.toList:=by
  have h5:=Option.some.inj h3
  rw [e2] at h5
  injection h5 with h6
  injection h6
 rw [World.var?_cell hg hvar i]
 have h7:=congrArg (fun l=>l[0]?) e1
 simp only [List.getElem?_take,List.getElem?_drop,List.getElem?_cons_zero] at h7
 simp at h7
 rw [h7,h4]
 rfl
set_option maxRecDepth 100000 in
theorem env_of {W:World} {laid:List (String×DataW Unit)} (h:laidMet Tryz.prog laid W)
 (h1 : ("internal/strconv.uint64pow10", Lib.tabData .u64 Lib.pow10Tab) ∈ laid)
 (h2 : ("rostrum/attr.kinds", (.agg ([[], wAudio, wVideo, wApplication].map fun s => .lit (.string s)) : DataW Unit)) ∈ laid)
 (h3 : ("rostrum/attr.directions", (.agg ([nInactive, nSendonly, nRecvonly, nSendrecv].map fun s => .lit (.string s)) : DataW Unit)) ∈ laid) : Env W := by
 have hk:=laid_strs h h2 (g:=1) (t:=107) (n:=4) (by kernel_rfl) (by kernel_rfl) Tryz.underlying107 rfl
 have hd:=laid_strs h h3 (g:=0) (t:=107) (n:=4) (by kernel_rfl) (by kernel_rfl) Tryz.underlying107 rfl
 refine ⟨laid_tab h h1 (g:=2) (t:=221) (e:=42) (n:=20) (by kernel_rfl) (by kernel_rfl) Tryz.underlying221 Tryz.underlying42 (by kernel_rfl) (by kernel_rfl),fun j hj=> ?_,fun j h1 hj=> ?_,hk 0 _ rfl⟩
 · have:j=0∨j=1∨j=2∨j=3:=by omega
   rcases this with rfl | rfl | rfl | rfl
   · exact hd 0 _ rfl
   · exact hd 1 _ rfl
   · exact hd 2 _ rfl
   · exact hd 3 _ rfl
 · have:j=1∨j=2∨j=3:=by omega
   rcases this with rfl | rfl | rfl
   · exact hk 1 _ rfl
   · exact hk 2 _ rfl
   · exact hk 3 _ rfl
set_option maxRecDepth 100000 in
theorem seven_of {W : World} {laid : List (String × DataW Unit)} (h : laidMet Tryz.prog laid W) {zs : List Int} (hz : 0 < zs.length) (h1 : ("math/bits.deBruijn32tab", Lib.tabData .u8 zs) ∈ laid) : 7 ≤ W.heap.size := by
 have ht:=laid_tab h h1 (g:=6) (t:=246) (e:=5) (n:=32) (by kernel_rfl) (by kernel_rfl) Tryz.underlying246 Tryz.underlying5 (by kernel_rfl) (by kernel_rfl)
 exact block_lt_of_cell (ht.cell (g:=6) (by kernel_rfl) 0 hz)
theorem laid_err {W:World} {laid:List (String×DataW Unit)} (h:laidMet Tryz.prog laid W) {name nm:String} {d:DataW Unit} (hm:(name,.iface nm d)∈laid) {g:Nat} {t:TypeId} {ms:Array (String×TypeId)}
 (hg:Tryz.prog.globalNamed name=some g) (hty:(Tryz.prog.globals[g]?).map (·.type)=some t) (hi:Tryz.prog.underlying t=some (.interface ms)):∃ev,W.cell? ⟨g,0,none⟩=some ev∧(ev=.nilIface∨∃te pe,ev=.iface te pe):=by
 obtain ⟨ps,hv,_⟩:=h
 obtain ⟨g',t',cs,fuel,p,hg',ht',hvar,hd⟩:=laid_at hv hm
 obtain rfl:=Option.some.inj (hg.symm.trans hg')
 obtain rfl:=Option.some.inj (hty.symm.trans ht')
 obtain ⟨_,u,v,hcs,_,_⟩:=iface_of_trod hi hd
 refine ⟨.iface u v,?_,.inr ⟨u,v,rfl⟩⟩
 rw [World.var?_cell hg hvar 0,←Array.getElem?_toList,hcs]
 rfl
theorem envR_of {W:World} {laid:List (String×DataW Unit)} (h:laidMet Tryz.prog laid W) (hE:Env W) {n1 n2:String} {d1 d2:DataW Unit}
 (h1 : ("strconv.ErrSyntax", .iface n1 d1) ∈ laid) (h2 : ("strconv.ErrRange", .iface n2 d2) ∈ laid) : EnvR W :=
 ⟨hE,laid_err h h1 (t:=174) (by kernel_rfl) (by kernel_rfl) Tryz.underlying174,laid_err h h2 (t:=174) (by kernel_rfl) (by kernel_rfl) Tryz.underlying174⟩
end Go.Proofs.YtgnpckelbokniaaGreatDoor
